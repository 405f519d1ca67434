import Derived.ChangeSlices
import Derived.OpenShut
import Derived.Below
import Derived.Test.YtmiekcdkamgknaaGreatDoorR24
import Derived.Test.YtmiekcdkamgknaaGreatDoorR11
import Derived.Deep.Slices
import Derived.Deep.Fields
import Derived.Test.YtmiekcdkamgknaaGreatDoorR14
import Derived.Test.YtmiekcdkamgknaaGreatDoorR39
import Derived.Test.YtmiekcdkamgknaaGreatDoorR32
import Derived.ChangeArms
import Derived.Test.YtmiekcdkamgknaaGreatDoorR46
import Derived.Test.YtmiekcdkamgknaaGreatDoorR35
namespace Go.Proofs.YtmiekcdkamgknaaGreatDoor
open Go.ChangeShapes Go.WideShapes Go.RowKit
section
variable {H:Type} {enc:TypeId × Value→H} {P:Program}
def closedTypes (P:Program)(L:List TypeId):Bool:=L.all fun t=>match P.underlying t with
 | some (.slice e)=>(P.cellsOf e != 0) && L.contains e
 | some (.pointer e)=>L.contains e
 | some (.struct fs)=>fs.toList.all fun f=>L.contains f.type
 | some (.array _ e)=>L.contains e
 | some (.map _ e)=>L.contains e
 | _=>true
theorem mapM_keep {α β:Type}{f g:α→Option β} : ∀ {l:List α} {ys:List β},(∀a∈l,∀y,f a=some y→g a=some y)→l.mapM f=some ys→l.mapM g=some ys:=by
 intro l
 induction l with
 | nil=>intro ys _ h;simpa using h
 | cons a l ih =>
    intro ys hfg h;rw[List.mapM_cons]at h ⊢
    cases hfa:f a with
    | none=>rw[hfa]at h;cases h
    | some b =>
       rw[hfa]at h
       cases hl:l.mapM f with
       | none=>rw[hl]at h;cases h
       | some bs =>
          rw[hl]at h;rw[hfg a (by simp) b hfa,ih (fun x hx=>hfg x (by simp[hx])) hl];exact h
theorem cell_lt {W:World}{p:Addr}{v:Value}(h:W.cell? p=some v):p.block<W.heap.size:=by
 unfold World.cell? at h;rcases Nat.lt_or_ge p.block W.heap.size with h1 | h1
 · exact h1
 · rw[Array.getElem?_eq_none h1]at h;simp at h
theorem cells_keep {W W':World}(hb:Below W.heap.size W W'){a:Addr}{n:Nat}{cs:List Value}(h:W.cells? 0 a n=some cs):W'.cells? 0 a n=some cs:=by
 unfold World.cells? at h ⊢;rw[if_pos (Nat.zero_le _)]at h ⊢;exact mapM_keep (fun i _ y hy=>(hb.cell (cell_lt hy)).trans hy) h
theorem cells_lt {W:World}{a:Addr}{n:Nat}{cs:List Value}(h:W.cells? 0 a n=some cs)(hn:n≠0):a.block<W.heap.size:=by
 obtain⟨_,hl,hi⟩:=World.cells?_some h;have h0:=hi 0 (by omega);rw[List.getElem?_eq_getElem (by omega)]at h0;have:=cell_lt h0;simpa[Addr.add]using this
theorem trod_keep {W W':World}(hb:Below W.heap.size W W')(L:List TypeId)(hL:closedTypes P L=true) :
 ∀(fuel:Nat) (t:TypeId),t∈L→∀(cs:List Value) (x:DataW H × List MemPlace),DataW.trod enc P W 0 (fun _=>true) true fuel t cs=some x →
  DataW.trod enc P W' 0 (fun b=>decide (b<W.heap.size)) true fuel t cs=some x:=by
 intro fuel
 induction fuel with
 | zero=>intro t _ cs x h;simp[DataW.trod]at h
 | succ n ih =>
    intro t ht cs x h;have hc:=List.all_eq_true.1 hL t ht;unfold DataW.trod at h ⊢;generalize P.underlying t=u at *;split at h
    case h_6 _ e a =>
     obtain⟨y,hy,rfl⟩:=Option.map_eq_some_iff.1 h;obtain⟨c,hc1,hc2⟩:=Option.bind_eq_some_iff.1 hy;refine Option.map_eq_some_iff.2 ⟨y,Option.bind_eq_some_iff.2 ⟨c,cells_keep hb hc1,?_⟩,rfl⟩;exact ih e (by simpa using hc) _ _ hc2
    case h_8 _ e a len cap =>
     simp only[Bool.and_eq_true,bne_iff_ne,ne_eq]at hc;obtain⟨hz,he⟩:=hc;have he':e∈L:=by simpa using he
     have each : ∀(i:Nat) y,(W.cells? 0 (a.add (i*P.cellsOf e)) (P.cellsOf e)).bind (DataW.trod enc P W 0 (fun _=>true) true n e)=some y →
      (W'.cells? 0 (a.add (i*P.cellsOf e)) (P.cellsOf e)).bind (DataW.trod enc P W' 0 (fun b=>decide (b<W.heap.size)) true n e)=some y:=by
       intro i y hy;obtain⟨c,hc1,hc2⟩:=Option.bind_eq_some_iff.1 hy;exact Option.bind_eq_some_iff.2 ⟨c,cells_keep hb hc1,ih e he' _ _ hc2⟩
     simp only at h ⊢;split at h
     · rename_i hcond
       rw[if_pos hcond];obtain⟨elems,h1,h2⟩:=Option.bind_eq_some_iff.1 h;simp only[if_true]at h2;obtain⟨rest,h3,h4⟩:=Option.map_eq_some_iff.1 h2;refine Option.bind_eq_some_iff.2 ⟨elems,mapM_keep (fun i _ y hy=>each i y hy) h1,Option.map_eq_some_iff.2 ⟨rest,?_,h4⟩⟩;by_cases hlt:a.block<W.heap.size
       · rw[if_pos (by simpa using hlt)]
         exact mapM_keep (fun i _ y hy=>each (len+i) y hy) h3
       · rw[if_neg (by simpa using hlt)]
         have hno:cap-len=0:=by
          rcases Nat.eq_zero_or_pos (cap-len)with h0 | h0
          · exact h0
          · exfalso
            obtain⟨m,hm⟩ : ∃m,cap-len=m+1:=⟨cap-len-1,by omega⟩;have hr:=mapM_some_get h3 0 0 (by simp[hm]);have hlen:=mapM_some_length h3;rw[List.getElem?_eq_getElem (by simp[hm]at hlen;omega)]at hr;obtain⟨c,hc1,_⟩:=Option.bind_eq_some_iff.1 hr;exact hlt (by have:=cells_lt hc1 hz;rwa [block_add]at this)
         rw[hno]at h3;simpa using h3
     · cases h
    case h_9 _ cs' fs =>
     split at h
     · rename_i hl
       rw[if_pos hl];obtain⟨xs,h1,h2⟩:=Option.map_eq_some_iff.1 h;refine Option.map_eq_some_iff.2 ⟨xs,mapM_keep (fun f hf y hy=>ih f.type ?_ _ _ hy) h1,h2⟩;have:=List.all_eq_true.1 hc f hf;simpa using this
     · cases h
    case h_10 _ cs' m e =>
     split at h
     · rename_i hl
       rw[if_pos hl];obtain⟨xs,h1,h2⟩:=Option.map_eq_some_iff.1 h;exact Option.map_eq_some_iff.2 ⟨xs,mapM_keep (fun i _ y hy=>ih e (by simpa using hc) _ _ hy) h1,h2⟩
     · cases h
    case h_14 _ k e b =>
     split at h
     · rename_i es clock hes
       have hlt:b<W.heap.size:=(Array.getElem?_eq_some_iff.1 hes).1;rw[hb.block b hlt,hes];simp only at h ⊢;split at h
       · rename_i hcond
         rw[if_pos hcond];obtain⟨entries,h1,h2⟩:=Option.bind_eq_some_iff.1 h;refine Option.bind_eq_some_iff.2 ⟨entries,mapM_keep (fun y _ z hz=> ?_) h1,h2⟩;obtain⟨key,h3,h4⟩:=Option.bind_eq_some_iff.1 hz;refine Option.bind_eq_some_iff.2 ⟨key,h3,?_⟩;split at h4
         · rename_i hf
           rw[if_pos hf];obtain⟨q,h5,h6⟩:=Option.map_eq_some_iff.1 h4;exact Option.map_eq_some_iff.2 ⟨q,ih e (by simpa using hc) _ _ h5,h6⟩
         · cases h4
       · cases h
     · cases h
    all_goals exact h
theorem trodAll_keep {W W':World}(hb:Below W.heap.size W W')(L:List TypeId)(hL:closedTypes P L=true) :
 ∀ {ts:List TypeId} {vs:List Value} {ds:List (DataW H)} {ps:List MemPlace},(∀t∈ts,t∈L)→DataW.TrodAll enc P W 0 (fun _=>true) true ts vs ds ps →
  DataW.TrodAll enc P W' 0 (fun b=>decide (b<W.heap.size)) true ts vs ds ps:=by
 intro ts
 induction ts with
 | nil =>
    intro vs ds ps _ h;obtain⟨rfl,rfl,rfl⟩:=trodAll_nil h;exact trodAll_mk0
 | cons t ts ih =>
    intro vs ds ps hts h;obtain⟨v,vs',d,ds',p,q,rfl,rfl,rfl,⟨fuel,h1⟩,h2⟩:=trodAll_cons h;exact trodAll_cons_mk ⟨fuel,trod_keep hb L hL fuel t (hts t (by simp)) _ _ h1⟩ (ih (fun s hs=>hts s (by simp[hs])) h2)
end
end Go.Proofs.YtmiekcdkamgknaaGreatDoor
namespace Go.Proofs.YtmiekcdkamgknaaGreatDoor
open Go.ChangeShapes Go.WideShapes Go.RowKit
open Go.Deep (open_slice choose_lt oneCellFields hone_of)
theorem flatten_at {size:Nat} : ∀ {L:List (List Value)} {j:Nat} {u:Value},(∀cs∈L,cs.length=size)→L.flatten[j]? = some u→∃i r cs,j=i*size+r∧L[i]? = some cs∧cs[r]? = some u:=by
 intro L
 induction L with
 | nil=>intro j u _ h;simp at h
 | cons a L ih =>
    intro j u hl h;rw[List.flatten_cons]at h;have ha:=hl a (by simp);rcases Nat.lt_or_ge j a.length with h1 | h1
    · rw[List.getElem?_append_left h1]at h
      exact⟨0,j,a,by omega,rfl,h⟩
    · rw[List.getElem?_append_right h1]at h
      obtain⟨i,r,cs,e,h2,h3⟩:=ih (fun cs hc=>hl cs (by simp[hc])) h;exact⟨i+1,r,cs,by rw[Nat.add_mul];omega,by simpa using h2,h3⟩
theorem flatten_len {size:Nat} : ∀ {L:List (List Value)},(∀cs∈L,cs.length=size)→L.flatten.length=L.length*size:=by
 intro L
 induction L with
 | nil=>intro _;simp
 | cons a L ih =>
    intro h;rw[List.flatten_cons,List.length_append,ih (fun cs hc=>h cs (by simp[hc])),h a (by simp),List.length_cons,Nat.add_mul];omega
theorem of_map {α β:Type}{g:β→α} : ∀ {L:List α},(∀x∈L,∃y,x=g y)→∃l:List β,L=l.map g:=by
 intro L
 induction L with
 | nil=>intro _;exact⟨[],rfl⟩
 | cons a L ih =>
    intro h;obtain⟨y,rfl⟩:=h a (by simp);(obtain⟨l,rfl⟩:=ih fun x hx=>h x (by simp[hx]));exact⟨y::l,rfl⟩
theorem single_flat {α:Type}(g:α→Value)(l:List α):(l.map fun x=> [g x]).flatten=l.map g:=by
 induction l with
 | nil=>rfl
 | cons a l ih=>rw[List.map_cons,List.flatten_cons,ih];rfl
section
variable {H:Type} {enc:TypeId × Value→H} {P:Program} {W:World}
def bytes (l:List UInt8):List Value:=l.map fun c=> .int .u8 c.toNat
end
end Go.Proofs.YtmiekcdkamgknaaGreatDoor
namespace Go.Proofs.YtmiekcdkamgknaaGreatDoor
open Go.ChangeShapes Go.WideShapes Go.RowKit
open Go.Deep (open_slice choose_lt oneCellFields hone_of)
section
variable {H:Type} {enc:TypeId × Value→H} {P:Program} {W:World}
theorem open_rdc {size fuel:Nat}{t e:TypeId}{v:Value}{x:DataW H × List MemPlace}(ht:P.underlying t=some (.slice e))(hz:P.cellsOf e=size)(hpos:0<size)
 (hf:DataW.trod enc P W 0 (fun _=>true) true fuel t [v]=some x) :
 ∃L:List (List Value),Rd W.heap.size size v L.length L.flatten W∧∀cs∈L,cs.length=size∧∃n x,DataW.trod enc P W 0 (fun _=>true) true n e cs=some x:=by
 rcases open_slice ht hf with⟨hcs,_⟩ | ⟨a,len,cap,m,n,D,Pl,hcs,_,hl,hm,hmm,_,hi⟩
 · simp at hcs
   subst hcs;exact⟨[],Rd.none0 _ _ _,by simp⟩
 · simp at hcs
   subst hcs;simp only[if_true]at hmm;rw[hz]at hi;obtain⟨f,hfi⟩:=choose_lt hi
   have hcell : ∀i,i<len→(f i).length=size∧∀j u,(f i)[j]? = some u→W.cell? ((a.add (i*size)).add j)=some u:=by
    intro i hil;obtain⟨hc,_⟩:=hfi i (by omega);obtain⟨_,hcl,hat⟩:=World.cells?_some hc;refine⟨hcl,fun j u hu=> ?_⟩;(have hj:j<size:=by have:=(List.getElem?_eq_some_iff.1 hu).1;omega);rw[hat j hj,hu]
   have hall : ∀cs∈(List.range len).map f,cs.length=size:=by
    intro cs hc;obtain⟨i,hi,rfl⟩:=List.mem_map.1 hc;exact(hcell i (List.mem_range.1 hi)).1
   refine⟨(List.range len).map f,?_,fun cs hc=> ?_⟩
   · rw[List.length_map,List.length_range]
     refine⟨some a,cap,rfl,hl,hm,fun e=>(by cases e),by rw[flatten_len hall];simp,fun hn=> ?_⟩;have h0:=hcell 0 hn;have h00:=h0.2 0 _ (List.getElem?_eq_getElem (by omega));obtain⟨b,off,spot⟩:=a;(have hspot:spot=none:=by simpa[Addr.add]using World.cell?_spot h00);subst hspot;refine⟨b,off,rfl,?_,fun j u hu=> ?_⟩
     · have:=cell_lt h00
       rwa [block_add,block_add]at this
     · obtain⟨i,r,cs,e,h2,h3⟩:=flatten_at hall hu
       have hil:i<len:=by
        have:=(List.getElem?_eq_some_iff.1 h2).1;simpa using this
       have:cs=f i:=by
        rw[List.getElem?_map,List.getElem?_range hil]at h2;exact(Option.some.inj h2).symm
       subst this;have:=(hcell i hil).2 r u h3;rw[add_plain,add_plain,Nat.add_assoc,←e]at this;exact this
   · obtain⟨i,hi,rfl⟩:=List.mem_map.1 hc
     exact⟨hall _ hc,n,_,(hfi i (by have:=List.mem_range.1 hi;omega)).2⟩
end
section
variable {H:Type} {enc:TypeId × Value→H} {W:World}
theorem czInt:Tryz.prog.cellsOf 3=1:=by kernel_rfl
theorem czStr:Tryz.prog.cellsOf 9=1:=by kernel_rfl
theorem czEnts:Tryz.prog.cellsOf 76=1:=by kernel_rfl
theorem czEnt:Tryz.prog.cellsOf 137=2:=by kernel_rfl
theorem czNode:Tryz.prog.cellsOf 78=8:=by kernel_rfl
set_option maxRecDepth 100000 in
theorem open_entc {fuel:Nat}{v:Value}{x:DataW H × List MemPlace}(hf:DataW.trod enc Tryz.prog W 0 (fun _=>true) true fuel 76 [v]=some x) : ∃l:List EntL,Rd W.heap.size 2 v l.length (ents l) W∧Fit l:=by
 obtain⟨L,g1,g2⟩:=open_rdc Tryz.underlying76 czEnt (by decide) hf
 have main : ∀cs∈L,∃e : {e:EntL // e.1.length≤maxLen},cs = [Value.string (bs e.1.1),Value.int .i64 e.1.2]:=by
  intro cs hc;obtain⟨hl,n,x,hx⟩:=g2 cs hc;obtain⟨xs,n',_,_,_,hxl,hg⟩:=DataW.trod_struct Tryz.underlying137 hx
  match cs,hl with
  | [c0,c1],_ =>
     (have k0:DataW.trod enc Tryz.prog W 0 (fun _=>true) true n' 9 (([c0,c1].drop 0).take (Tryz.prog.cellsOf 9))=xs[0]?:= by have:=hg 0 _ rfl;exact this);(have k1:DataW.trod enc Tryz.prog W 0 (fun _=>true) true n' 3 (([c0,c1].drop 1).take (Tryz.prog.cellsOf 3))=xs[1]?:= by have:=hg 1 _ rfl;exact this);rw[czStr]at k0;rw[czInt]at k1
     match xs,hxl with
     | [y0,y1],_ =>
        obtain⟨s,e0,_,hm⟩:=DataW.trod_string Tryz.underlying9 (show DataW.trod enc Tryz.prog W 0 (fun _=>true) true n' 9 [c0]=some y0 by simpa using k0);obtain⟨z,e1,_,_⟩:=DataW.trod_int Tryz.underlying3 (show DataW.trod enc Tryz.prog W 0 (fun _=>true) true n' 3 [c1]=some y1 by simpa using k1);simp at e0 e1;subst e0 e1;exact⟨⟨(s.data.toList,z),by show s.data.toList.length≤maxLen;rw[data_len];exact hm⟩,by rw[←bs_of]⟩
 obtain⟨l,rfl⟩:=of_map (g:=fun e : {e:EntL // e.1.length≤maxLen}=> [Value.string (bs e.1.1),Value.int .i64 e.1.2]) (L:=L) main;refine⟨l.map (·.1),?_,fun e he=> ?_⟩
 · rw[List.length_map]at g1
   rw[List.length_map]
   have e:(l.map fun e : {e:EntL // e.1.length≤maxLen}=> [Value.string (bs e.1.1),Value.int .i64 e.1.2]).flatten=ents (l.map (·.1)):=by
    unfold ents;rw[List.flatMap_def,List.map_map];rfl
   rwa [e]at g1
 · obtain⟨x,_,rfl⟩:=List.mem_map.1 he
   exact x.2
set_option maxRecDepth 100000 in
theorem open_node8 {fuel:Nat}{cs:List Value}{x:DataW H × List MemPlace}(hl:cs.length=8)(hx:DataW.trod enc Tryz.prog W 0 (fun _=>true) true fuel 78 cs=some x) :
 ∃m:NodeM,cs=ncells m∧RdNm W.heap.size m W∧Fit m.1.names:=by
 obtain⟨xs,n',_,_,_,hxl,hg⟩:=DataW.trod_struct Tryz.underlying78 hx
 match cs,hl with
 | [c0,c1,c2,c3,c4,c5,c6,c7],_ =>
    (have k0:DataW.trod enc Tryz.prog W 0 (fun _=>true) true n' 3 (([c0,c1,c2,c3,c4,c5,c6,c7].drop 0).take (Tryz.prog.cellsOf 3))=xs[0]?:= by have:=hg 0 _ rfl;exact this);(have k1:DataW.trod enc Tryz.prog W 0 (fun _=>true) true n' 3 (([c0,c1,c2,c3,c4,c5,c6,c7].drop 1).take (Tryz.prog.cellsOf 3))=xs[1]?:= by have:=hg 1 _ rfl;exact this);(have k2:DataW.trod enc Tryz.prog W 0 (fun _=>true) true n' 3 (([c0,c1,c2,c3,c4,c5,c6,c7].drop 2).take (Tryz.prog.cellsOf 3))=xs[2]?:= by have:=hg 2 _ rfl;exact this);(have k3:DataW.trod enc Tryz.prog W 0 (fun _=>true) true n' 3 (([c0,c1,c2,c3,c4,c5,c6,c7].drop 3).take (Tryz.prog.cellsOf 3))=xs[3]?:= by have:=hg 3 _ rfl;exact this);(have k4:DataW.trod enc Tryz.prog W 0 (fun _=>true) true n' 3 (([c0,c1,c2,c3,c4,c5,c6,c7].drop 4).take (Tryz.prog.cellsOf 3))=xs[4]?:= by have:=hg 4 _ rfl;exact this);(have k5:DataW.trod enc Tryz.prog W 0 (fun _=>true) true n' 3 (([c0,c1,c2,c3,c4,c5,c6,c7].drop 5).take (Tryz.prog.cellsOf 3))=xs[5]?:= by have:=hg 5 _ rfl;exact this);(have k6:DataW.trod enc Tryz.prog W 0 (fun _=>true) true n' 9 (([c0,c1,c2,c3,c4,c5,c6,c7].drop 6).take (Tryz.prog.cellsOf 9))=xs[6]?:= by have:=hg 6 _ rfl;exact this);have k7:DataW.trod enc Tryz.prog W 0 (fun _=>true) true n' 76 (([c0,c1,c2,c3,c4,c5,c6,c7].drop 7).take (Tryz.prog.cellsOf 76))=xs[7]?:= by have:=hg 7 _ rfl;exact this
    rw[czInt]at k0 k1 k2 k3 k4 k5;rw[czStr]at k6;rw[czEnts]at k7
    match xs,hxl with
    | [y0,y1,y2,y3,y4,y5,y6,y7],_ =>
       obtain⟨z0,e0,_,_⟩:=DataW.trod_int Tryz.underlying3 (show DataW.trod enc Tryz.prog W 0 (fun _=>true) true n' 3 [c0]=some y0 by simpa using k0);obtain⟨z1,e1,_,_⟩:=DataW.trod_int Tryz.underlying3 (show DataW.trod enc Tryz.prog W 0 (fun _=>true) true n' 3 [c1]=some y1 by simpa using k1);obtain⟨z2,e2,_,_⟩:=DataW.trod_int Tryz.underlying3 (show DataW.trod enc Tryz.prog W 0 (fun _=>true) true n' 3 [c2]=some y2 by simpa using k2);obtain⟨z3,e3,_,_⟩:=DataW.trod_int Tryz.underlying3 (show DataW.trod enc Tryz.prog W 0 (fun _=>true) true n' 3 [c3]=some y3 by simpa using k3);obtain⟨z4,e4,_,_⟩:=DataW.trod_int Tryz.underlying3 (show DataW.trod enc Tryz.prog W 0 (fun _=>true) true n' 3 [c4]=some y4 by simpa using k4);obtain⟨z5,e5,_,_⟩:=DataW.trod_int Tryz.underlying3 (show DataW.trod enc Tryz.prog W 0 (fun _=>true) true n' 3 [c5]=some y5 by simpa using k5);obtain⟨s,e6,_,hm⟩:=DataW.trod_string Tryz.underlying9 (show DataW.trod enc Tryz.prog W 0 (fun _=>true) true n' 9 [c6]=some y6 by simpa using k6);obtain⟨l,h7,hf7⟩:=open_entc (show DataW.trod enc Tryz.prog W 0 (fun _=>true) true n' 76 [c7]=some y7 by simpa using k7);simp at e0 e1 e2 e3 e4 e5 e6;subst e0 e1 e2 e3 e4 e5 e6;refine⟨(⟨z0,z1,z2,z3,z4,z5,s.data.toList,l⟩,c7),?_,h7,hf7⟩;unfold ncells;simp only
theorem open_nodes {fuel:Nat}{v:Value}{x:DataW H × List MemPlace}(hf:DataW.trod enc Tryz.prog W 0 (fun _=>true) true fuel 22 [v]=some x) : ∃ms:List NodeM,RdM W.heap.size v ms W∧FitD (pl ms):=by
 obtain⟨L,g1,g2⟩:=open_rdc Tryz.underlying22 czNode (by decide) hf
 have main : ∀cs∈L,∃m : {m:NodeM // RdNm W.heap.size m W∧Fit m.1.names},cs=ncells m.1:=by
  intro cs hc;obtain⟨hl,n,x,hx⟩:=g2 cs hc;obtain⟨m,h1,h2,h3⟩:=open_node8 hl hx;exact⟨⟨m,h2,h3⟩,h1⟩
 obtain⟨l,rfl⟩:=of_map (g:=fun m : {m:NodeM // RdNm W.heap.size m W∧Fit m.1.names}=>ncells m.1) (L:=L) main;refine⟨l.map (·.1),⟨?_,fun m hm=> ?_⟩,fun n hn=> ?_⟩
 · rw[List.length_map]at g1
   rw[List.length_map]
   have e:(l.map fun m : {m:NodeM // RdNm W.heap.size m W∧Fit m.1.names}=>ncells m.1).flatten=cellsN (l.map (·.1)):=by
    unfold cellsN;rw[List.flatMap_def,List.map_map];rfl
   rwa [e]at g1
 · obtain⟨x,_,rfl⟩:=List.mem_map.1 hm
   exact x.2.1
 · unfold pl at hn
   rw[List.map_map]at hn;obtain⟨x,_,rfl⟩:=List.mem_map.1 hn;exact x.2.2
end
end Go.Proofs.YtmiekcdkamgknaaGreatDoor
namespace Go.Proofs.YtmiekcdkamgknaaGreatDoor
open Go.ChangeShapes Go.WideShapes Go.RowKit
open Go.Deep (open_slice choose_lt oneCellFields hone_of)
section
variable {H:Type} {enc:TypeId × Value→H} {W:World}
theorem czI:Tryz.prog.cellsOf 3=1:=by kernel_rfl
theorem czIs:Tryz.prog.cellsOf 79=1:=by kernel_rfl
theorem open_intc {fuel:Nat}{v:Value}{x:DataW H × List MemPlace}(hf:DataW.trod enc Tryz.prog W 0 (fun _=>true) true fuel 79 [v]=some x) : ∃r:List Int,Rd W.heap.size 1 v r.length (intC r) W:=by
 obtain⟨L,g1,g2⟩:=open_rdc Tryz.underlying79 czI (by decide) hf
 obtain⟨l,rfl⟩:=of_map (g:=fun z:Int=> [Value.int .i64 z]) (L:=L) fun cs hc=>by
  obtain⟨hl,n,x,hx⟩:=g2 cs hc;obtain⟨z,e,_,_⟩:=DataW.trod_int Tryz.underlying3 hx;exact⟨z,e⟩
 refine⟨l,?_⟩;rw[List.length_map]at g1
 rwa [single_flat]at g1
theorem open_rowc {fuel:Nat}{v:Value}{x:DataW H × List MemPlace}(hf:DataW.trod enc Tryz.prog W 0 (fun _=>true) true fuel 26 [v]=some x) : ∃rows:List RowV,Rd W.heap.size 1 v rows.length (rows.map (·.2)) W∧∀m,m∈rows→Rd W.heap.size 1 m.2 m.1.length (intC m.1) W:=by
 obtain⟨L,g1,g2⟩:=open_rdc Tryz.underlying26 czIs (by decide) hf
 obtain⟨l,rfl⟩:=of_map (g:=fun m : {m:RowV // Rd W.heap.size 1 m.2 m.1.length (intC m.1) W}=> [m.1.2]) (L:=L) fun cs hc=>by
  obtain⟨hl,n,x,hx⟩:=g2 cs hc
  match cs,hl with
  | [c0],_ =>
     obtain⟨r,hr⟩:=open_intc hx;exact⟨⟨(r,c0),hr⟩,rfl⟩
 refine⟨l.map (·.1),?_,fun m hm=> ?_⟩
 · rw[List.length_map]at g1
   rw[List.length_map,List.map_map]
   rwa [single_flat]at g1
 · obtain⟨x,_,rfl⟩:=List.mem_map.1 hm
   exact x.2
end
end Go.Proofs.YtmiekcdkamgknaaGreatDoor
namespace Go.Proofs.YtmiekcdkamgknaaGreatDoor
open Go.ChangeShapes Go.WideShapes Go.RowKit
open Go.Deep (open_slice choose_lt oneCellFields hone_of)
section
variable {H:Type} {enc:TypeId × Value→H} {W:World}
theorem czInt12:Tryz.prog.cellsOf 3=1:=by kernel_rfl
theorem czBool12:Tryz.prog.cellsOf 4=1:=by kernel_rfl
theorem czDescs12:Tryz.prog.cellsOf 25=1:=by kernel_rfl
theorem czRows12:Tryz.prog.cellsOf 26=1:=by kernel_rfl
theorem czNodes12:Tryz.prog.cellsOf 22=1:=by kernel_rfl
theorem czProcs12:Tryz.prog.cellsOf 29=1:=by kernel_rfl
theorem czDesc12:Tryz.prog.cellsOf 73=6:=by kernel_rfl
theorem czTab12:Tryz.prog.cellsOf 28=2:=by kernel_rfl
theorem czDisk12:Tryz.prog.cellsOf 24=3:=by kernel_rfl
theorem czProc12:Tryz.prog.cellsOf 74=4:=by kernel_rfl
theorem czKern12:Tryz.prog.cellsOf 31=6:=by kernel_rfl
theorem inI_of {z:Int}(h:(Lit.int .i64 z).wf=true):InI z:=by
 (have hb : -9223372036854775808≤z∧z≤9223372036854775807:=by simpa[Lit.wf,IntKind.min,IntKind.max,IntKind.signed,IntKind.bits]using h);exact hb
set_option maxRecDepth 100000 in
theorem open_desc6p {fuel:Nat}{cs:List Value}{x:DataW H × List MemPlace}(hl:cs.length=6)(hx:DataW.trod enc Tryz.prog W 0 (fun _=>true) true fuel 73 cs=some x) : ∃d:DescL,cs=dcells d∧InI d.pos:=by
 obtain⟨xs,n',_,_,_,hxl,hg⟩:=DataW.trod_struct Tryz.underlying73 hx
 match cs,hl with
 | [c0,c1,c2,c3,c4,c5],_ =>
    (have k0:DataW.trod enc Tryz.prog W 0 (fun _=>true) true n' 3 (([c0,c1,c2,c3,c4,c5].drop 0).take (Tryz.prog.cellsOf 3))=xs[0]?:= by have:=hg 0 _ rfl;exact this);(have k1:DataW.trod enc Tryz.prog W 0 (fun _=>true) true n' 3 (([c0,c1,c2,c3,c4,c5].drop 1).take (Tryz.prog.cellsOf 3))=xs[1]?:= by have:=hg 1 _ rfl;exact this);(have k2:DataW.trod enc Tryz.prog W 0 (fun _=>true) true n' 4 (([c0,c1,c2,c3,c4,c5].drop 2).take (Tryz.prog.cellsOf 4))=xs[2]?:= by have:=hg 2 _ rfl;exact this);(have k3:DataW.trod enc Tryz.prog W 0 (fun _=>true) true n' 4 (([c0,c1,c2,c3,c4,c5].drop 3).take (Tryz.prog.cellsOf 4))=xs[3]?:= by have:=hg 3 _ rfl;exact this);(have k4:DataW.trod enc Tryz.prog W 0 (fun _=>true) true n' 3 (([c0,c1,c2,c3,c4,c5].drop 4).take (Tryz.prog.cellsOf 3))=xs[4]?:= by have:=hg 4 _ rfl;exact this);(have k5:DataW.trod enc Tryz.prog W 0 (fun _=>true) true n' 3 (([c0,c1,c2,c3,c4,c5].drop 5).take (Tryz.prog.cellsOf 3))=xs[5]?:= by have:=hg 5 _ rfl;exact this);rw[czInt12]at k0 k1 k4 k5;rw[czBool12]at k2 k3
    match xs,hxl with
    | [y0,y1,y2,y3,y4,y5],_ =>
       obtain⟨z0,e0,_,i0⟩:=DataW.trod_int Tryz.underlying3 (show DataW.trod enc Tryz.prog W 0 (fun _=>true) true n' 3 [c0]=some y0 by simpa using k0);obtain⟨z1,e1,_,i1⟩:=DataW.trod_int Tryz.underlying3 (show DataW.trod enc Tryz.prog W 0 (fun _=>true) true n' 3 [c1]=some y1 by simpa using k1);obtain⟨z2,e2,_⟩:=DataW.trod_bool Tryz.underlying4 (show DataW.trod enc Tryz.prog W 0 (fun _=>true) true n' 4 [c2]=some y2 by simpa using k2);obtain⟨z3,e3,_⟩:=DataW.trod_bool Tryz.underlying4 (show DataW.trod enc Tryz.prog W 0 (fun _=>true) true n' 4 [c3]=some y3 by simpa using k3);obtain⟨z4,e4,_,i4⟩:=DataW.trod_int Tryz.underlying3 (show DataW.trod enc Tryz.prog W 0 (fun _=>true) true n' 3 [c4]=some y4 by simpa using k4);obtain⟨z5,e5,_,i5⟩:=DataW.trod_int Tryz.underlying3 (show DataW.trod enc Tryz.prog W 0 (fun _=>true) true n' 3 [c5]=some y5 by simpa using k5);simp at e0 e1 e2 e3 e4 e5;subst e0 e1 e2 e3 e4 e5;exact⟨⟨z0,z1,z2,z3,z4,z5⟩,rfl,inI_of i1⟩
set_option maxRecDepth 100000 in
theorem open_proc4 {fuel:Nat}{cs:List Value}{x:DataW H × List MemPlace}(hl:cs.length=4)(hx:DataW.trod enc Tryz.prog W 0 (fun _=>true) true fuel 74 cs=some x) : ∃q:ProcL,cs=prcells q:=by
 obtain⟨xs,n',_,_,_,hxl,hg⟩:=DataW.trod_struct Tryz.underlying74 hx
 match cs,hl with
 | [c0,c1,c2,c3],_ =>
    (have k0:DataW.trod enc Tryz.prog W 0 (fun _=>true) true n' 3 (([c0,c1,c2,c3].drop 0).take (Tryz.prog.cellsOf 3))=xs[0]?:= by have:=hg 0 _ rfl;exact this);(have k1:DataW.trod enc Tryz.prog W 0 (fun _=>true) true n' 3 (([c0,c1,c2,c3].drop 1).take (Tryz.prog.cellsOf 3))=xs[1]?:= by have:=hg 1 _ rfl;exact this);(have k2:DataW.trod enc Tryz.prog W 0 (fun _=>true) true n' 3 (([c0,c1,c2,c3].drop 2).take (Tryz.prog.cellsOf 3))=xs[2]?:= by have:=hg 2 _ rfl;exact this);(have k3:DataW.trod enc Tryz.prog W 0 (fun _=>true) true n' 4 (([c0,c1,c2,c3].drop 3).take (Tryz.prog.cellsOf 4))=xs[3]?:= by have:=hg 3 _ rfl;exact this);rw[czInt12]at k0 k1 k2;rw[czBool12]at k3
    match xs,hxl with
    | [y0,y1,y2,y3],_ =>
       obtain⟨z0,e0,_,i0⟩:=DataW.trod_int Tryz.underlying3 (show DataW.trod enc Tryz.prog W 0 (fun _=>true) true n' 3 [c0]=some y0 by simpa using k0);obtain⟨z1,e1,_,i1⟩:=DataW.trod_int Tryz.underlying3 (show DataW.trod enc Tryz.prog W 0 (fun _=>true) true n' 3 [c1]=some y1 by simpa using k1);obtain⟨z2,e2,_,i2⟩:=DataW.trod_int Tryz.underlying3 (show DataW.trod enc Tryz.prog W 0 (fun _=>true) true n' 3 [c2]=some y2 by simpa using k2);obtain⟨z3,e3,_⟩:=DataW.trod_bool Tryz.underlying4 (show DataW.trod enc Tryz.prog W 0 (fun _=>true) true n' 4 [c3]=some y3 by simpa using k3);simp at e0 e1 e2 e3;subst e0 e1 e2 e3;exact⟨⟨z0,z1,z2,z3⟩,rfl⟩
theorem open_descsp {fuel:Nat}{v:Value}{x:DataW H × List MemPlace}(hf:DataW.trod enc Tryz.prog W 0 (fun _=>true) true fuel 25 [v]=some x) : ∃l:List DescL,Rd W.heap.size 6 v l.length (cellsD l) W∧PosD l:=by
 obtain⟨L,g1,g2⟩:=open_rdc Tryz.underlying25 czDesc12 (by decide) hf
 obtain⟨l,rfl⟩:=of_map (g:=fun d : {d:DescL // InI d.pos}=>dcells d.1) (L:=L) fun cs hc=>by
  obtain⟨hl,n,x,hx⟩:=g2 cs hc;obtain⟨d,h1,h2⟩:=open_desc6p hl hx;exact⟨⟨d,h2⟩,h1⟩
 refine⟨l.map (·.1),?_,fun d hd=> ?_⟩
 · rw[List.length_map]at g1
   rw[List.length_map]
   have e:(l.map fun d : {d:DescL // InI d.pos}=>dcells d.1).flatten=cellsD (l.map (·.1)):=by
    unfold cellsD;rw[List.flatMap_def,List.map_map];rfl
   rwa [e]at g1
 · obtain⟨x,_,rfl⟩:=List.mem_map.1 hd
   exact x.2
theorem open_procs {fuel:Nat}{v:Value}{x:DataW H × List MemPlace}(hf:DataW.trod enc Tryz.prog W 0 (fun _=>true) true fuel 29 [v]=some x) : ∃l:List ProcL,Rd W.heap.size 4 v l.length (cellsP l) W:=by
 obtain⟨L,g1,g2⟩:=open_rdc Tryz.underlying29 czProc12 (by decide) hf
 obtain⟨l,rfl⟩:=of_map (g:=prcells) (L:=L) fun cs hc=>by
  obtain⟨hl,n,x,hx⟩:=g2 cs hc;exact open_proc4 hl hx
 refine⟨l,?_⟩;rw[List.length_map]at g1;have e:(l.map prcells).flatten=cellsP l:=by unfold cellsP;rw[List.flatMap_def]
 rwa [e]at g1
set_option maxRecDepth 100000 in
theorem open_disk3 {fuel:Nat}{cs:List Value}{x:DataW H × List MemPlace}(hl:cs.length=3)(hx:DataW.trod enc Tryz.prog W 0 (fun _=>true) true fuel 24 cs=some x) : ∃(u:Value) (ms:List NodeM) (most room:Int),cs = [u, .int .i64 most, .int .i64 room]∧RdM W.heap.size u ms W∧FitD (pl ms):=by
 obtain⟨xs,n',_,_,_,hxl,hg⟩:=DataW.trod_struct Tryz.underlying24 hx
 match cs,hl with
 | [c0,c1,c2],_ =>
    (have k0:DataW.trod enc Tryz.prog W 0 (fun _=>true) true n' 22 (([c0,c1,c2].drop 0).take (Tryz.prog.cellsOf 22))=xs[0]?:= by have:=hg 0 _ rfl;exact this);(have k1:DataW.trod enc Tryz.prog W 0 (fun _=>true) true n' 3 (([c0,c1,c2].drop 1).take (Tryz.prog.cellsOf 3))=xs[1]?:= by have:=hg 1 _ rfl;exact this);(have k2:DataW.trod enc Tryz.prog W 0 (fun _=>true) true n' 3 (([c0,c1,c2].drop 2).take (Tryz.prog.cellsOf 3))=xs[2]?:= by have:=hg 2 _ rfl;exact this);rw[czInt12]at k1 k2;rw[czNodes12]at k0
    match xs,hxl with
    | [y0,y1,y2],_ =>
       obtain⟨ms,h0,hf0⟩:=open_nodes (show DataW.trod enc Tryz.prog W 0 (fun _=>true) true n' 22 [c0]=some y0 by simpa using k0);obtain⟨z1,e1,_,_⟩:=DataW.trod_int Tryz.underlying3 (show DataW.trod enc Tryz.prog W 0 (fun _=>true) true n' 3 [c1]=some y1 by simpa using k1);obtain⟨z2,e2,_,_⟩:=DataW.trod_int Tryz.underlying3 (show DataW.trod enc Tryz.prog W 0 (fun _=>true) true n' 3 [c2]=some y2 by simpa using k2);simp at e1 e2;subst e1 e2;exact⟨c0,ms,z1,z2,rfl,h0,hf0⟩
set_option maxRecDepth 100000 in
theorem open_tab2 {fuel:Nat}{cs:List Value}{x:DataW H × List MemPlace}(hl:cs.length=2)(hx:DataW.trod enc Tryz.prog W 0 (fun _=>true) true fuel 28 cs=some x) : ∃(t:TabL) (ad af:Option Addr) (cap capf:Nat),cs = [.slice ad t.ds.length cap, .slice af t.fs.length capf]∧TabX t (.slice ad t.ds.length cap) (.slice af t.fs.length capf) (fun _=>False) W∧PosD t.ds:=by
 obtain⟨xs,n',_,_,_,hxl,hg⟩:=DataW.trod_struct Tryz.underlying28 hx
 match cs,hl with
 | [c0,c1],_ =>
    (have k0:DataW.trod enc Tryz.prog W 0 (fun _=>true) true n' 25 (([c0,c1].drop 0).take (Tryz.prog.cellsOf 25))=xs[0]?:= by have:=hg 0 _ rfl;exact this);(have k1:DataW.trod enc Tryz.prog W 0 (fun _=>true) true n' 26 (([c0,c1].drop 1).take (Tryz.prog.cellsOf 26))=xs[1]?:= by have:=hg 1 _ rfl;exact this);rw[czDescs12]at k0;rw[czRows12]at k1
    match xs,hxl with
    | [y0,y1],_ =>
       obtain⟨ds,h0,hp⟩:=open_descsp (show DataW.trod enc Tryz.prog W 0 (fun _=>true) true n' 25 [c0]=some y0 by simpa using k0);obtain⟨rows,h1,h2⟩:=open_rowc (show DataW.trod enc Tryz.prog W 0 (fun _=>true) true n' 26 [c1]=some y1 by simpa using k1);obtain⟨ad,cap,rfl⟩:=RdX.form (RdX.ofNo h0);have hlen:(rows.map (·.1)).length=rows.length:=List.length_map ..;(have h1':Rd W.heap.size 1 c1 (rows.map (·.1)).length (rows.map (·.2)) W:=by rw[hlen];exact h1);obtain⟨af,capf,rfl⟩:=RdX.form (RdX.ofNo h1');exact⟨⟨ds,rows.map (·.1)⟩,ad,af,cap,capf,rfl,⟨rows,rfl,RdX.ofNo h0,RdX.ofNo h1,fun m hm=>RdX.ofNo (h2 m hm)⟩,hp⟩
set_option maxRecDepth 100000 in
theorem open_kern {r:Reach}{b0:Nat}{v:Value}{d:DataW H}{ps:List MemPlace}(hval:Value.okWide Tryz.prog W r b0 31 v)(hd:DataW.Trod enc Tryz.prog W 0 (fun _=>true) true 31 v d ps) :
 ∃(k:KernL) (ao ad af ap:Option Addr) (co cd cf cp:Nat),v = .agg #[.slice ao k.l.length co, .int .i64 k.most, .int .i64 k.room, .slice ad k.t.ds.length cd, .slice af k.t.fs.length cf, .slice ap k.ps.length cp]
  ∧ DiskX k.l (.slice ao k.l.length co) (fun _=>False) W∧TabX k.t (.slice ad k.t.ds.length cd) (.slice af k.t.fs.length cf) (fun _=>False) W∧PsX k.ps (.slice ap k.ps.length cp) (fun _=>False) W∧FitD k.l∧PosD k.t.ds:=by
 obtain⟨cs,rfl,hs⟩:=okWide_struct Tryz.underlying31 hval;obtain⟨fuel,hf⟩:=hd;rw[show(Value.agg cs).cells.toList=cs.toList from rfl]at hf;obtain⟨xs,n',_,_,_,hxl,hg⟩:=DataW.trod_struct Tryz.underlying31 hf;(have hl:cs.toList.length=6:=by rw[Array.length_toList,hs,czKern12]);obtain⟨cl⟩:=cs;have hl:cl.length=6:=hl
 match cl,hl with
 | [c0,c1,c2,c3,c4,c5],_ =>
    (have k0:DataW.trod enc Tryz.prog W 0 (fun _=>true) true n' 24 (([c0,c1,c2,c3,c4,c5].drop 0).take (Tryz.prog.cellsOf 24))=xs[0]?:= by have:=hg 0 _ rfl;exact this);(have k1:DataW.trod enc Tryz.prog W 0 (fun _=>true) true n' 28 (([c0,c1,c2,c3,c4,c5].drop 3).take (Tryz.prog.cellsOf 28))=xs[1]?:= by have:=hg 1 _ rfl;exact this);(have k2:DataW.trod enc Tryz.prog W 0 (fun _=>true) true n' 29 (([c0,c1,c2,c3,c4,c5].drop 5).take (Tryz.prog.cellsOf 29))=xs[2]?:= by have:=hg 2 _ rfl;exact this);rw[czDisk12]at k0;rw[czTab12]at k1;rw[czProcs12]at k2
    match xs,hxl with
    | [y0,y1,y2],_ =>
       obtain⟨u,ms,most,room,e0,hm,hfd⟩:=open_disk3 rfl (show DataW.trod enc Tryz.prog W 0 (fun _=>true) true n' 24 [c0,c1,c2]=some y0 by simpa using k0);obtain⟨t,ad,af,cd,cf,e1,ht,hp⟩:=open_tab2 rfl (show DataW.trod enc Tryz.prog W 0 (fun _=>true) true n' 28 [c3,c4]=some y1 by simpa using k1);obtain⟨q,hq⟩:=open_procs (show DataW.trod enc Tryz.prog W 0 (fun _=>true) true n' 29 [c5]=some y2 by simpa using k2);simp only[List.cons.injEq,and_true]at e0 e1;obtain⟨rfl,rfl,rfl⟩:=e0;obtain⟨rfl,rfl⟩:=e1;have hgv:GivesN (pl ms) c0 W:=⟨ms,rfl,hm⟩;have hgx:=gives_no hgv;obtain⟨ao,co,rfl⟩:=gives_form hgx;obtain⟨ap,cp,rfl⟩:=RdX.form (RdX.ofNo hq);exact⟨⟨pl ms,most,room,t,q⟩,ao,ad,af,ap,co,cd,cf,cp,rfl,hgx,ht,RdX.ofNo hq,hfd,hp⟩
end
end Go.Proofs.YtmiekcdkamgknaaGreatDoor
