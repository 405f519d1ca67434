import Derived.Test.YtbjkkijickbppaaGreatDoorR48
import Derived.Test.YtbjkkijickbppaaGreatDoorR49
import Derived.Test.YtbjkkijickbppaaGreatDoorR44
import Derived.Test.YtbjkkijickbppaaGreatDoorR28
namespace Go.Proofs.YtbjkkijickbppaaGreatDoor
open Go.ChangeShapes Go.WideShapes Go.RowKit
open Go.Deep (open_slice choose_lt oneCellFields hone_of)
section
variable {H:Type} {enc:TypeId × Value→H} {W:World}
theorem czInt12:Tryz.prog.cellsOf 3=1:=by kernel_rfl
theorem czBool12:Tryz.prog.cellsOf 4=1:=by kernel_rfl
theorem czDescs12:Tryz.prog.cellsOf 25=1:=by kernel_rfl
theorem czRows12:Tryz.prog.cellsOf 26=1:=by kernel_rfl
theorem czNodes12:Tryz.prog.cellsOf 22=1:=by kernel_rfl
theorem czProcs12:Tryz.prog.cellsOf 29=1:=by kernel_rfl
theorem czDesc12:Tryz.prog.cellsOf 82=6:=by kernel_rfl
theorem czTab12:Tryz.prog.cellsOf 28=2:=by kernel_rfl
theorem czDisk12:Tryz.prog.cellsOf 24=3:=by kernel_rfl
theorem czProc12:Tryz.prog.cellsOf 83=4:=by kernel_rfl
theorem czKern12:Tryz.prog.cellsOf 31=6:=by kernel_rfl
theorem inI_of {z:Int}(h:(Lit.int .i64 z).wf=true):InI z:=by
 (have hb : -9223372036854775808≤z∧z≤9223372036854775807:=by simpa[Lit.wf,IntKind.min,IntKind.max,IntKind.signed,IntKind.bits]using h);exact hb
set_option maxRecDepth 100000 in
theorem open_desc6p {fuel:Nat}{cs:List Value}{x:DataW H × List MemPlace}(hl:cs.length=6)(hx:DataW.trod enc Tryz.prog W 0 (fun _=>true) true fuel 82 cs=some x) : ∃d:DescL,cs=dcells d∧InI d.pos:=by
 obtain⟨xs,n',_,_,_,hxl,hg⟩:=DataW.trod_struct Tryz.underlying82 hx
 match cs,hl with
 | [c0,c1,c2,c3,c4,c5],_ =>
    (have k0:DataW.trod enc Tryz.prog W 0 (fun _=>true) true n' 3 (([c0,c1,c2,c3,c4,c5].drop 0).take (Tryz.prog.cellsOf 3))=xs[0]?:= by have:=hg 0 _ rfl;exact this);(have k1:DataW.trod enc Tryz.prog W 0 (fun _=>true) true n' 3 (([c0,c1,c2,c3,c4,c5].drop 1).take (Tryz.prog.cellsOf 3))=xs[1]?:= by have:=hg 1 _ rfl;exact this);(have k2:DataW.trod enc Tryz.prog W 0 (fun _=>true) true n' 4 (([c0,c1,c2,c3,c4,c5].drop 2).take (Tryz.prog.cellsOf 4))=xs[2]?:= by have:=hg 2 _ rfl;exact this);(have k3:DataW.trod enc Tryz.prog W 0 (fun _=>true) true n' 4 (([c0,c1,c2,c3,c4,c5].drop 3).take (Tryz.prog.cellsOf 4))=xs[3]?:= by have:=hg 3 _ rfl;exact this);(have k4:DataW.trod enc Tryz.prog W 0 (fun _=>true) true n' 3 (([c0,c1,c2,c3,c4,c5].drop 4).take (Tryz.prog.cellsOf 3))=xs[4]?:= by have:=hg 4 _ rfl;exact this);(have k5:DataW.trod enc Tryz.prog W 0 (fun _=>true) true n' 3 (([c0,c1,c2,c3,c4,c5].drop 5).take (Tryz.prog.cellsOf 3))=xs[5]?:= by have:=hg 5 _ rfl;exact this);rw[czInt12]at k0 k1 k4 k5;rw[czBool12]at k2 k3
    match xs,hxl with
    | [y0,y1,y2,y3,y4,y5],_ =>
       obtain⟨z0,e0,_,i0⟩:=DataW.trod_int Tryz.underlying3 (show DataW.trod enc Tryz.prog W 0 (fun _=>true) true n' 3 [c0]=some y0 by simpa using k0);obtain⟨z1,e1,_,i1⟩:=DataW.trod_int Tryz.underlying3 (show DataW.trod enc Tryz.prog W 0 (fun _=>true) true n' 3 [c1]=some y1 by simpa using k1);obtain⟨z2,e2,_⟩:=DataW.trod_bool Tryz.underlying4 (show DataW.trod enc Tryz.prog W 0 (fun _=>true) true n' 4 [c2]=some y2 by simpa using k2);obtain⟨z3,e3,_⟩:=DataW.trod_bool Tryz.underlying4 (show DataW.trod enc Tryz.prog W 0 (fun _=>true) true n' 4 [c3]=some y3 by simpa using k3);obtain⟨z4,e4,_,i4⟩:=DataW.trod_int Tryz.underlying3 (show DataW.trod enc Tryz.prog W 0 (fun _=>true) true n' 3 [c4]=some y4 by simpa using k4);obtain⟨z5,e5,_,i5⟩:=DataW.trod_int Tryz.underlying3 (show DataW.trod enc Tryz.prog W 0 (fun _=>true) true n' 3 [c5]=some y5 by simpa using k5);simp at e0 e1 e2 e3 e4 e5;subst e0 e1 e2 e3 e4 e5;exact⟨⟨z0,z1,z2,z3,z4,z5⟩,rfl,inI_of i1⟩
set_option maxRecDepth 100000 in
theorem open_proc4 {fuel:Nat}{cs:List Value}{x:DataW H × List MemPlace}(hl:cs.length=4)(hx:DataW.trod enc Tryz.prog W 0 (fun _=>true) true fuel 83 cs=some x) : ∃q:ProcL,cs=prcells q:=by
 obtain⟨xs,n',_,_,_,hxl,hg⟩:=DataW.trod_struct Tryz.underlying83 hx
 match cs,hl with
 | [c0,c1,c2,c3],_ =>
    (have k0:DataW.trod enc Tryz.prog W 0 (fun _=>true) true n' 3 (([c0,c1,c2,c3].drop 0).take (Tryz.prog.cellsOf 3))=xs[0]?:= by have:=hg 0 _ rfl;exact this);(have k1:DataW.trod enc Tryz.prog W 0 (fun _=>true) true n' 3 (([c0,c1,c2,c3].drop 1).take (Tryz.prog.cellsOf 3))=xs[1]?:= by have:=hg 1 _ rfl;exact this);(have k2:DataW.trod enc Tryz.prog W 0 (fun _=>true) true n' 3 (([c0,c1,c2,c3].drop 2).take (Tryz.prog.cellsOf 3))=xs[2]?:= by have:=hg 2 _ rfl;exact this);(have k3:DataW.trod enc Tryz.prog W 0 (fun _=>true) true n' 4 (([c0,c1,c2,c3].drop 3).take (Tryz.prog.cellsOf 4))=xs[3]?:= by have:=hg 3 _ rfl;exact this);rw[czInt12]at k0 k1 k2;rw[czBool12]at k3
    match xs,hxl with
    | [y0,y1,y2,y3],_ =>
       obtain⟨z0,e0,_,i0⟩:=DataW.trod_int Tryz.underlying3 (show DataW.trod enc Tryz.prog W 0 (fun _=>true) true n' 3 [c0]=some y0 by simpa using k0);obtain⟨z1,e1,_,i1⟩:=DataW.trod_int Tryz.underlying3 (show DataW.trod enc Tryz.prog W 0 (fun _=>true) true n' 3 [c1]=some y1 by simpa using k1);obtain⟨z2,e2,_,i2⟩:=DataW.trod_int Tryz.underlying3 (show DataW.trod enc Tryz.prog W 0 (fun _=>true) true n' 3 [c2]=some y2 by simpa using k2);obtain⟨z3,e3,_⟩:=DataW.trod_bool Tryz.underlying4 (show DataW.trod enc Tryz.prog W 0 (fun _=>true) true n' 4 [c3]=some y3 by simpa using k3);simp at e0 e1 e2 e3;subst e0 e1 e2 e3;exact⟨⟨z0,z1,z2,z3⟩,rfl⟩
theorem open_descsp {fuel:Nat}{v:Value}{x:DataW H × List MemPlace}(hf:DataW.trod enc Tryz.prog W 0 (fun _=>true) true fuel 25 [v]=some x) : ∃l:List DescL,Rd W.heap.size 6 v l.length (cellsD l) W∧PosD l:=by
 obtain⟨L,g1,g2⟩:=open_rdc Tryz.underlying25 czDesc12 (by decide) hf
 obtain⟨l,rfl⟩:=of_map (g:=fun d : {d:DescL // InI d.pos}=>dcells d.1) (L:=L) fun cs hc=>by
  obtain⟨hl,n,x,hx⟩:=g2 cs hc;obtain⟨d,h1,h2⟩:=open_desc6p hl hx;exact⟨⟨d,h2⟩,h1⟩
 refine⟨l.map (·.1),?_,fun d hd=> ?_⟩
 · rw[List.length_map]at g1
   rw[List.length_map]
   have e:(l.map fun d : {d:DescL // InI d.pos}=>dcells d.1).flatten=cellsD (l.map (·.1)):=by
    unfold cellsD;rw[List.flatMap_def,List.map_map];rfl
   rwa [e]at g1
 · obtain⟨x,_,rfl⟩:=List.mem_map.1 hd
   exact x.2
theorem open_procs {fuel:Nat}{v:Value}{x:DataW H × List MemPlace}(hf:DataW.trod enc Tryz.prog W 0 (fun _=>true) true fuel 29 [v]=some x) : ∃l:List ProcL,Rd W.heap.size 4 v l.length (cellsP l) W:=by
 obtain⟨L,g1,g2⟩:=open_rdc Tryz.underlying29 czProc12 (by decide) hf
 obtain⟨l,rfl⟩:=of_map (g:=prcells) (L:=L) fun cs hc=>by
  obtain⟨hl,n,x,hx⟩:=g2 cs hc;exact open_proc4 hl hx
 refine⟨l,?_⟩;rw[List.length_map]at g1;have e:(l.map prcells).flatten=cellsP l:=by unfold cellsP;rw[List.flatMap_def]
 rwa [e]at g1
set_option maxRecDepth 100000 in
theorem open_disk3 {fuel:Nat}{cs:List Value}{x:DataW H × List MemPlace}(hl:cs.length=3)(hx:DataW.trod enc Tryz.prog W 0 (fun _=>true) true fuel 24 cs=some x) : ∃(u:Value) (ms:List NodeM) (most room:Int),cs = [u, .int .i64 most, .int .i64 room]∧RdM W.heap.size u ms W∧FitD (pl ms):=by
 obtain⟨xs,n',_,_,_,hxl,hg⟩:=DataW.trod_struct Tryz.underlying24 hx
 match cs,hl with
 | [c0,c1,c2],_ =>
    (have k0:DataW.trod enc Tryz.prog W 0 (fun _=>true) true n' 22 (([c0,c1,c2].drop 0).take (Tryz.prog.cellsOf 22))=xs[0]?:= by have:=hg 0 _ rfl;exact this);(have k1:DataW.trod enc Tryz.prog W 0 (fun _=>true) true n' 3 (([c0,c1,c2].drop 1).take (Tryz.prog.cellsOf 3))=xs[1]?:= by have:=hg 1 _ rfl;exact this);(have k2:DataW.trod enc Tryz.prog W 0 (fun _=>true) true n' 3 (([c0,c1,c2].drop 2).take (Tryz.prog.cellsOf 3))=xs[2]?:= by have:=hg 2 _ rfl;exact this);rw[czInt12]at k1 k2;rw[czNodes12]at k0
    match xs,hxl with
    | [y0,y1,y2],_ =>
       obtain⟨ms,h0,hf0⟩:=open_nodes (show DataW.trod enc Tryz.prog W 0 (fun _=>true) true n' 22 [c0]=some y0 by simpa using k0);obtain⟨z1,e1,_,_⟩:=DataW.trod_int Tryz.underlying3 (show DataW.trod enc Tryz.prog W 0 (fun _=>true) true n' 3 [c1]=some y1 by simpa using k1);obtain⟨z2,e2,_,_⟩:=DataW.trod_int Tryz.underlying3 (show DataW.trod enc Tryz.prog W 0 (fun _=>true) true n' 3 [c2]=some y2 by simpa using k2);simp at e1 e2;subst e1 e2;exact⟨c0,ms,z1,z2,rfl,h0,hf0⟩
set_option maxRecDepth 100000 in
theorem open_tab2 {fuel:Nat}{cs:List Value}{x:DataW H × List MemPlace}(hl:cs.length=2)(hx:DataW.trod enc Tryz.prog W 0 (fun _=>true) true fuel 28 cs=some x) : ∃(t:TabL) (ad af:Option Addr) (cap capf:Nat),cs = [.slice ad t.ds.length cap, .slice af t.fs.length capf]∧TabX t (.slice ad t.ds.length cap) (.slice af t.fs.length capf) (fun _=>False) W∧PosD t.ds:=by
 obtain⟨xs,n',_,_,_,hxl,hg⟩:=DataW.trod_struct Tryz.underlying28 hx
 match cs,hl with
 | [c0,c1],_ =>
    (have k0:DataW.trod enc Tryz.prog W 0 (fun _=>true) true n' 25 (([c0,c1].drop 0).take (Tryz.prog.cellsOf 25))=xs[0]?:= by have:=hg 0 _ rfl;exact this);(have k1:DataW.trod enc Tryz.prog W 0 (fun _=>true) true n' 26 (([c0,c1].drop 1).take (Tryz.prog.cellsOf 26))=xs[1]?:= by have:=hg 1 _ rfl;exact this);rw[czDescs12]at k0;rw[czRows12]at k1
    match xs,hxl with
    | [y0,y1],_ =>
       obtain⟨ds,h0,hp⟩:=open_descsp (show DataW.trod enc Tryz.prog W 0 (fun _=>true) true n' 25 [c0]=some y0 by simpa using k0);obtain⟨rows,h1,h2⟩:=open_rowc (show DataW.trod enc Tryz.prog W 0 (fun _=>true) true n' 26 [c1]=some y1 by simpa using k1);obtain⟨ad,cap,rfl⟩:=RdX.form (RdX.ofNo h0);have hlen:(rows.map (·.1)).length=rows.length:=List.length_map ..;(have h1':Rd W.heap.size 1 c1 (rows.map (·.1)).length (rows.map (·.2)) W:=by rw[hlen];exact h1);obtain⟨af,capf,rfl⟩:=RdX.form (RdX.ofNo h1');exact⟨⟨ds,rows.map (·.1)⟩,ad,af,cap,capf,rfl,⟨rows,rfl,RdX.ofNo h0,RdX.ofNo h1,fun m hm=>RdX.ofNo (h2 m hm)⟩,hp⟩
set_option maxRecDepth 100000 in
theorem open_kern {r:Reach}{b0:Nat}{v:Value}{d:DataW H}{ps:List MemPlace}(hval:Value.okWide Tryz.prog W r b0 31 v)(hd:DataW.Trod enc Tryz.prog W 0 (fun _=>true) true 31 v d ps) :
 ∃(k:KernL) (ao ad af ap:Option Addr) (co cd cf cp:Nat),v = .agg #[.slice ao k.l.length co, .int .i64 k.most, .int .i64 k.room, .slice ad k.t.ds.length cd, .slice af k.t.fs.length cf, .slice ap k.ps.length cp]
  ∧ DiskX k.l (.slice ao k.l.length co) (fun _=>False) W∧TabX k.t (.slice ad k.t.ds.length cd) (.slice af k.t.fs.length cf) (fun _=>False) W∧PsX k.ps (.slice ap k.ps.length cp) (fun _=>False) W∧FitD k.l∧PosD k.t.ds:=by
 obtain⟨cs,rfl,hs⟩:=okWide_struct Tryz.underlying31 hval;obtain⟨fuel,hf⟩:=hd;rw[show(Value.agg cs).cells.toList=cs.toList from rfl]at hf;obtain⟨xs,n',_,_,_,hxl,hg⟩:=DataW.trod_struct Tryz.underlying31 hf;(have hl:cs.toList.length=6:=by rw[Array.length_toList,hs,czKern12]);obtain⟨cl⟩:=cs;have hl:cl.length=6:=hl
 match cl,hl with
 | [c0,c1,c2,c3,c4,c5],_ =>
    (have k0:DataW.trod enc Tryz.prog W 0 (fun _=>true) true n' 24 (([c0,c1,c2,c3,c4,c5].drop 0).take (Tryz.prog.cellsOf 24))=xs[0]?:= by have:=hg 0 _ rfl;exact this);(have k1:DataW.trod enc Tryz.prog W 0 (fun _=>true) true n' 28 (([c0,c1,c2,c3,c4,c5].drop 3).take (Tryz.prog.cellsOf 28))=xs[1]?:= by have:=hg 1 _ rfl;exact this);(have k2:DataW.trod enc Tryz.prog W 0 (fun _=>true) true n' 29 (([c0,c1,c2,c3,c4,c5].drop 5).take (Tryz.prog.cellsOf 29))=xs[2]?:= by have:=hg 2 _ rfl;exact this);rw[czDisk12]at k0;rw[czTab12]at k1;rw[czProcs12]at k2
    match xs,hxl with
    | [y0,y1,y2],_ =>
       obtain⟨u,ms,most,room,e0,hm,hfd⟩:=open_disk3 rfl (show DataW.trod enc Tryz.prog W 0 (fun _=>true) true n' 24 [c0,c1,c2]=some y0 by simpa using k0);obtain⟨t,ad,af,cd,cf,e1,ht,hp⟩:=open_tab2 rfl (show DataW.trod enc Tryz.prog W 0 (fun _=>true) true n' 28 [c3,c4]=some y1 by simpa using k1);obtain⟨q,hq⟩:=open_procs (show DataW.trod enc Tryz.prog W 0 (fun _=>true) true n' 29 [c5]=some y2 by simpa using k2);simp only[List.cons.injEq,and_true]at e0 e1;obtain⟨rfl,rfl,rfl⟩:=e0;obtain⟨rfl,rfl⟩:=e1;have hgv:GivesN (pl ms) c0 W:=⟨ms,rfl,hm⟩;have hgx:=gives_no hgv;obtain⟨ao,co,rfl⟩:=gives_form hgx;obtain⟨ap,cp,rfl⟩:=RdX.form (RdX.ofNo hq);exact⟨⟨pl ms,most,room,t,q⟩,ao,ad,af,ap,co,cd,cf,cp,rfl,hgx,ht,RdX.ofNo hq,hfd,hp⟩
end
end Go.Proofs.YtbjkkijickbppaaGreatDoor
