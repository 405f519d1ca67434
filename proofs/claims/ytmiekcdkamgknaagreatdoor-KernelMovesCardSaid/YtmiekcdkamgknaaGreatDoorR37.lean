import Derived.Test.YtmiekcdkamgknaaGreatDoorR35
import Derived.Test.YtmiekcdkamgknaaGreatDoorR36
import Derived.Test.YtmiekcdkamgknaaGreatDoorR23
import Derived.Test.YtmiekcdkamgknaaGreatDoorR32
import Derived.Deep.RegionHeld3
import Derived.Test.YtmiekcdkamgknaaGreatDoorR24
import Derived.Deep.DeepCutAuto
import Derived.Test.YtmiekcdkamgknaaGreatDoorR26
import Derived.Test.YtmiekcdkamgknaaGreatDoorR25
namespace Go.Proofs.YtmiekcdkamgknaaGreatDoor
open Go.RowKit Go.Shelf
attribute [local go_sem ↓] Go.wp_at_zero Go.wp_at_succ
theorem th3 {X:Nat→Prop}{w:World}{P Q R:Thing}(f:Firm P)(h:P X w)(g:Firm Q)(k:Q X w)(e:Firm R)(m:R X w) : ∀S∈ [P,Q,R],Firm S∧S X w:=fun S hS=>by
 simp only[List.mem_cons,List.not_mem_nil,or_false]at hS;rcases hS with rfl | rfl | rfl
 · exact⟨f,h⟩
 · exact⟨g,k⟩
 · exact⟨e,m⟩
theorem results_cc {P:Program}{fn:Func}{p q:Tmp}{ty ty2:TypeId}(h:fn.results = #[.cell p ty, .cell q ty2])(tmps:Array Value)(w:World)(g g2:Nat)(t t2:TypeId)(cs cs2:Array Value)(fr fr2:Nat × Nat)(d d2:TypeDesc)
 (hp:tmps.getD p undef = .pointer (some ⟨g,0,none⟩)) (hg:w.heap[g]? = some (.cells cs t fr)) (hq:tmps.getD q undef = .pointer (some ⟨g2,0,none⟩)) (hg2:w.heap[g2]? = some (.cells cs2 t2 fr2))
 (hu:P.underlying ty=some d) (hd:(match d with | .struct _ | .array _ _=>true | _=>false)=true) (hi:(P.info? ty).map (·.size)=some cs.size)
 (hu2:P.underlying ty2=some d2) (hd2:(match d2 with | .struct _ | .array _ _=>true | _=>false)=true) (hi2:(P.info? ty2).map (·.size)=some cs2.size) :
 (results fn tmps).run P w = .ok (.tuple #[.agg cs, .agg cs2]) w:=by
  (have hp':tmps[p]?.getD undef = .pointer (some ⟨g,0,none⟩):=by simpa using hp);(have hq':tmps[q]?.getD undef = .pointer (some ⟨g2,0,none⟩):=by simpa using hq);simp[results,h,hp',hq',asAddr,run_loadVar_row w g t ty cs fr d hg hu hd hi,run_loadVar_row w g2 t2 ty2 cs2 fr2 d2 hg2 hu2 hd2 hi2,Result.andThen]
theorem k_disk {W:World}{b:Nat}{v0 v1 v2 v3 v4 v5:Value}{t:TypeId}{f:Nat × Nat}(h:W.heap[b]? = some (.cells #[v0,v1,v2,v3,v4,v5] t f)):W.rangeAt b 0 [v0,v1,v2]:=fun j v hv=>by
 rw[Lib.cell_of_heap h]
 match j with
 | 0=>simpa using hv
 | 1=>simpa using hv
 | 2=>simpa using hv
 | j+3=>simp at hv
theorem k_tab {W:World}{b:Nat}{v0 v1 v2 v3 v4 v5:Value}{t:TypeId}{f:Nat × Nat}(h:W.heap[b]? = some (.cells #[v0,v1,v2,v3,v4,v5] t f)):W.rangeAt b 3 [v3,v4]:=fun j v hv=>by
 rw[Lib.cell_of_heap h]
 match j with
 | 0=>simpa using hv
 | 1=>simpa using hv
 | j+2=>simp at hv
def NodeTh (n:NodeL)(v:Value):Thing:=fun X W=>NodeX X n v W
theorem NodeTh.firm (n:NodeL)(v:Value):Firm (NodeTh n v):=⟨fun h hb hY=>NodeX.add h hb hY,fun h hX hs hg=>NodeX.other h hX hs hg⟩
theorem base_here {k:KernL}{p fd:Int}(h:fd = -1):baseK k p fd=((procL k.ps p).cwd,0):=if_pos h
theorem base_bad {k:KernL}{p fd:Int}(h:fd≠ -1)(h2:hasT k.t p fd=false):baseK k p fd=(0,12):=by unfold baseK;rw[if_neg h,if_pos h2]
theorem base_not {k:KernL}{p fd:Int}(h:fd≠ -1)(h2:hasT k.t p fd=true)(h3:(nodeL k.l (foundT k.t p fd).ino).kind≠2):baseK k p fd=(0,4):=by unfold baseK;rw[if_neg h,if_neg (by rw[h2];decide),if_pos h3]
theorem base_is {k:KernL}{p fd:Int}(h:fd≠ -1)(h2:hasT k.t p fd=true)(h3:(nodeL k.l (foundT k.t p fd).ino).kind=2):baseK k p fd=((foundT k.t p fd).ino,0):=by unfold baseK;rw[if_neg h,if_neg (by rw[h2];decide),if_neg (fun h=>h h3)]
end Go.Proofs.YtmiekcdkamgknaaGreatDoor
namespace Go.Proofs.YtmiekcdkamgknaaGreatDoor
def SeenN (m n:NodeL):Prop:=m.kind=n.kind∧m.mode=n.mode∧m.owner=n.owner∧m.up=n.up∧m.names=n.names∧(n.kind=3→m.data=n.data)
theorem SeenN.rfl' (n:NodeL):SeenN n n:=⟨rfl,rfl,rfl,rfl,rfl,fun _=>rfl⟩
def SameW (l l':List NodeL):Prop:=∀j:Nat,SeenN (nd l' j) (nd l j)
theorem SameW.rfl' (l:List NodeL):SameW l l:=fun _=>SeenN.rfl' _
theorem SameW.trans {a b c:List NodeL}(h1:SameW a b)(h2:SameW b c):SameW a c:=fun j=>by
 obtain⟨a1,a2,a3,a4,a5,a6⟩:=h1 j;obtain⟨b1,b2,b3,b4,b5,b6⟩:=h2 j;exact⟨b1.trans a1,b2.trans a2,b3.trans a3,b4.trans a4,b5.trans a5,fun h=>(b6 (a1.trans h)).trans (a6 h)⟩
theorem nodeL_cases (l:List NodeL)(i:Int):(∃j:Nat,i=j∧(nd l j).kind≠0∧nodeL l i=nd l j)∨(gotB l i=false∧nodeL l i=zeroN):=by
 cases h:gotB l i with
 | true =>
    obtain⟨j,rfl,_,hk⟩:=got_nat h;exact .inl ⟨j,rfl,hk,nodeL_nd hk⟩
 | false=>exact .inr ⟨rfl,by unfold nodeL;rw[h];rfl⟩
theorem SameW.got {l l':List NodeL}(h:SameW l l')(i:Int):gotB l' i=gotB l i:=by
 rw[Bool.eq_iff_iff];constructor
 · intro hg
   obtain⟨j,rfl,_,hk⟩:=got_nat hg;rw[got_nd,←(h j).1];exact hk
 · intro hg
   obtain⟨j,rfl,_,hk⟩:=got_nat hg;rw[got_nd,(h j).1];exact hk
theorem SameW.node {l l':List NodeL}(h:SameW l l')(i:Int):SeenN (nodeL l' i) (nodeL l i):=by
 rcases nodeL_cases l i with⟨j,rfl,hk,e⟩ | ⟨hg,e⟩
 · rw[e,nodeL_nd (by rw[(h j).1];exact hk)]
   exact h j
 · rw[e]
   unfold nodeL;rw[h.got,hg];exact SeenN.rfl' _
theorem SameW.dir {l l':List NodeL}(h:SameW l l')(i:Int):dirE l' i=dirE l i:=by
 unfold dirE;rw[h.got,(h.node i).1]
theorem SameW.look {l l':List NodeL}(h:SameW l l')(i:Int)(p:Str):lookL l' i p=lookL l i p:=by
 unfold lookL;rw[(h.node i).2.2.2.1,(h.node i).2.2.2.2.1]
theorem SameW.may {l l':List NodeL}(h:SameW l l')(who i:Int):mayAt l' who i=mayAt l who i:=by
 unfold mayAt;rw[(h.node i).2.1,(h.node i).2.2.1]
theorem opened_seen {l:List NodeL}{i:Nat}(hik:(nd l i).kind≠0){b:Int}(hb:i=0∨0<(nd l i).links∨0<(nd l i).opn+b):SameW l (openedL l (i:Int) b):=fun j=>by
 rw[opened_nd hik];split
 · rename_i e
   subst e;unfold atN;rw[if_neg (by omega)];exact⟨rfl,rfl,rfl,rfl,rfl,fun _=>rfl⟩
 · exact SeenN.rfl' _
end Go.Proofs.YtmiekcdkamgknaaGreatDoor
namespace Go.Proofs.YtmiekcdkamgknaaGreatDoor
open Go.RowKit Go.Shelf
attribute [local go_sem ↓] Go.wp_at_zero Go.wp_at_succ
structure KrnOk (k:KernL):Prop where
 rig:RigK k
 siz:KrnS 120 k
 dsk:Dsk k.l
theorem KrnOk.len {k:KernL}(h:KrnOk k):k.l.length≤10000:=Nat.le_trans h.dsk.sm.1 (by decide)
theorem KrnOk.size {k:KernL}(h:KrnOk k):SizeT k.t:=by
 have h8:=h.rig.eight;have hd:=h.siz.2.2.2;exact⟨by omega,by omega,fun r hr=>by have:=(h.rig.tab.1 r hr).1;omega⟩
theorem KrnOk.opn {k:KernL}(h:KrnOk k)(i b:Int)(hb : -1≤b∧b≤1):IntKind.i64.wrap ((nodeL k.l i).opn+b)=(nodeL k.l i).opn+b:=by
 have hle:0≤(nodeL k.l i).opn∧(nodeL k.l i).opn≤1000:=by
  rcases nodeL_cases k.l i with⟨j,rfl,hk,e⟩ | ⟨_,e⟩
  · rw[e,h.rig.opn j hk]
    have h1:opensD k.t.ds (j:Int)≤k.t.ds.length:=List.countP_le_length;have h2:opensP k.ps (j:Int)≤k.ps.length:=List.countP_le_length;have h3:=h.siz.2.2.2;have h4:=h.rig.procs;unfold opensN;omega
  · rw[e];exact⟨Int.le_refl 0,by decide⟩
 exact Go.IntWalk.i64_in _ (by omega)
end Go.Proofs.YtmiekcdkamgknaaGreatDoor
namespace Go.Proofs.YtmiekcdkamgknaaGreatDoor
open Go.RowKit Go.Shelf
attribute [local go_sem ↓] Go.wp_at_zero Go.wp_at_succ
section
variable {ps:List ProcL} {X:Nat→Prop} {W:World} {b off cp:Nat}
theorem PsX.c0 (h:PsX ps (.slice (some ⟨b,off,none⟩) ps.length cp) X W)(a:Nat)(ha:a<ps.length):W.cell? ⟨b,off+a*4,none⟩=some (.int .i64 (ps[a]).who):=by
 obtain⟨b',o',e,c0,_⟩:=h.proc a ha;injection e with e;injection e with e1 e2 _;subst e1;subst e2;exact c0
theorem PsX.c1 (h:PsX ps (.slice (some ⟨b,off,none⟩) ps.length cp) X W)(a:Nat)(ha:a<ps.length):W.cell? ⟨b,off+a*4+1,none⟩=some (.int .i64 (ps[a]).umask):=by
 obtain⟨b',o',e,_,c1,_⟩:=h.proc a ha;injection e with e;injection e with e1 e2 _;subst e1;subst e2;exact c1
theorem PsX.c2 (h:PsX ps (.slice (some ⟨b,off,none⟩) ps.length cp) X W)(a:Nat)(ha:a<ps.length):W.cell? ⟨b,off+a*4+2,none⟩=some (.int .i64 (ps[a]).cwd):=by
 obtain⟨b',o',e,_,_,c2,_⟩:=h.proc a ha;injection e with e;injection e with e1 e2 _;subst e1;subst e2;exact c2
end
end Go.Proofs.YtmiekcdkamgknaaGreatDoor
namespace Go.Proofs.YtmiekcdkamgknaaGreatDoor
open Go.RowKit Go.Shelf
attribute [local go_sem ↓] Go.wp_at_zero Go.wp_at_succ
section
variable {k:KernL} {p i:Int} {c:CallL}
theorem at_nodir (h1:c.kind≠12)(h:c.kind≠11)(h2:(nodeL k.l i).kind≠2):lookAt k p i c=(k,errR 4):=by unfold lookAt;rw[if_neg h1,if_neg (fun e=>h e.1),if_neg h,if_pos h2]
theorem at_noexec (h1:c.kind≠12)(h:c.kind≠11)(h2:(nodeL k.l i).kind=2)(h3:mayB (nodeL k.l i).mode (nodeL k.l i).owner (procL k.ps p).who 1=false):lookAt k p i c=(k,errR 7):=by
 unfold lookAt;rw[if_neg h1,if_neg (fun e=>h e.1),if_neg h,if_neg (fun e=>e h2),if_pos h3]
theorem at_chdir (h1:c.kind≠12)(h:c.kind≠11)(h2:(nodeL k.l i).kind=2)(h3:mayB (nodeL k.l i).mode (nodeL k.l i).owner (procL k.ps p).who 1=true):lookAt k p i c=chdirK k p i:=by
 unfold lookAt;rw[if_neg h1,if_neg (fun e=>h e.1),if_neg h,if_neg (fun e=>e h2),if_neg (by rw[h3];decide)]
end
theorem KrnOk.opn2 {k:KernL}(h:KrnOk k){m:Nat}(hk:(nd k.l m).kind≠0)(j:Int):IntKind.i64.wrap ((nodeL (openedL k.l (m:Int) 1) j).opn + -1)=(nodeL (openedL k.l (m:Int) 1) j).opn + -1:=by
 have hb : ∀q:Nat,(nd k.l q).kind≠0→0≤(nd k.l q).opn∧(nd k.l q).opn≤1000:=fun q hq=>by
  rw[h.rig.opn q hq];have h1:opensD k.t.ds (q:Int)≤k.t.ds.length:=List.countP_le_length;have h2:opensP k.ps (q:Int)≤k.ps.length:=List.countP_le_length;have h3:=h.siz.2.2.2;have h4:=h.rig.procs;unfold opensN;omega
 have hb2:0≤(nodeL (openedL k.l (m:Int) 1) j).opn∧(nodeL (openedL k.l (m:Int) 1) j).opn≤1001:=by
  have h1:=hb m hk;rcases nodeL_cases (openedL k.l (m:Int) 1) j with⟨q,rfl,hq,e2⟩ | ⟨_,e2⟩
  · rw[e2]
    rw[opened_nd hk]at hq ⊢;by_cases e:q=m
    · rw[if_pos e,(atN_kind (by omega)).2];omega
    · rw[if_neg e]at hq ⊢
      have h2:=hb q hq;omega
  · rw[e2];exact⟨Int.le_refl 0,by decide⟩
 exact Go.IntWalk.i64_in _ (by omega)
theorem Sf.remake {X:Nat→Prop}{w W W':World}{B:List Bl}{G:List Thing}(h:Sf X w B G W)(h0 : ∀P∈G,P X w)(hb:Below w.heap.size w W')(hB : ∀x∈B,W'.heap[x.1]? = W.heap[x.1]?):Sf X w B G W' :=
 ⟨hb,h.old,fun x hx=>⟨(hB x hx).trans (h.blk x hx).1,(h.blk x hx).2⟩,h.nd,fun P hP=>⟨(h.gv P hP).1,(h.gv P hP).1.add (h0 P hP) hb fun g hg=>by
  rcases hg with hg | hg
  · exact .inl hg
  · obtain⟨x,hx,rfl⟩:=List.mem_map.1 hg
    exact .inr (h.blk x hx).2⟩⟩
theorem infoProcR:(Tryz.prog.info? 70).map (fun i=>(i.zero,i.size,i.bytes))=some (some (.agg #[.int .i64 0, .int .i64 0, .int .i64 0, .bool false]),4,32):=by kernel_rfl
theorem cellsP_set (ps:List ProcL)(a:Nat)(ha:a<ps.length)(i:Int):cellsP (ps.set a (cwdP ps[a] i))=(cellsP ps).take (a*4+2)++([.int .i64 i]++(cellsP ps).drop (a*4+2+1)):=by
 induction ps generalizing a with
 | nil=>exact absurd ha (Nat.not_lt_zero _)
 | cons x ps ih =>
    cases a with
    | zero =>
       simp only[List.set_cons_zero,List.getElem_cons_zero,cellsP_cons];rfl
    | succ a =>
       have:=ih a (by simpa using ha);simp only[List.set_cons_succ,List.getElem_cons_succ,cellsP_cons];rw[this];have l4:(prcells x).length=4:=rfl
       have t1:(prcells x++cellsP ps).take ((a+1)*4+2)=prcells x++(cellsP ps).take (a*4+2):=by
        rw[show(a+1)*4+2=(prcells x).length+(a*4+2)by rw[l4];omega,List.take_length_add_append]
       have t2:(prcells x++cellsP ps).drop ((a+1)*4+2+1)=(cellsP ps).drop (a*4+2+1):=by
        rw[show(a+1)*4+2+1=(prcells x).length+(a*4+2+1)by rw[l4];omega,List.drop_length_add_append]
       rw[t1,t2,List.append_assoc]
theorem Sf.rdx {X:Nat→Prop}{w W:World}{B:List Bl}{G:List Thing}(h:Sf X w B G W){e:TypeId}{s n:Nat}{v:Value}{xs:List Value}(ho:W.ownsRow w.heap.size e s v n xs)(hne:(B.map (·.2.2)).contains e=false):RdX s v n xs (Xo X (B.map (·.1))) W :=
 ⟨Rd.own ho (Nat.le_refl _),fun g hg=>by
  rcases hg with hg | hg
  · exact own_far ho (h.old g hg)
  · obtain⟨x,hx,rfl⟩:=List.mem_map.1 hg
    intro a n' c ev _ hb
    exact h.apart ho hne a.block (by rw[ev];rfl) x hx hb.symm⟩
theorem own_ge {base g n s cap:Nat}{W:World}{e:TypeId}{xs:List Value}(h:W.ownsRow base e s (.slice (some ⟨g,0,none⟩) n cap) n xs):base≤g:=by
 rcases h.2 with⟨h1,_⟩ | ⟨g',c',cur,h1,h2,_⟩
 · cases h1
 · injection h1 with h1 _ _
   injection h1 with h1;injection h1 with h1 _ _;omega
end Go.Proofs.YtmiekcdkamgknaaGreatDoor
namespace Go.Proofs.YtmiekcdkamgknaaGreatDoor
open Go.RowKit Go.Shelf
attribute [local go_sem ↓] Go.wp_at_zero Go.wp_at_succ
theorem TabX.newD {t:TabL}{vd vd' vf:Value}{X:Nat→Prop}{W:World}(h:TabX t vd vf X W)(hd:RdX 6 vd' t.ds.length (cellsD t.ds) X W):TabX t vd' vf X W:=by
 obtain⟨rows,e,_,h2,h3⟩:=h;exact⟨rows,e,hd,h2,h3⟩
theorem cellsP_app (a b:List ProcL):cellsP (a++b)=cellsP a++cellsP b:=by simp[cellsP]
theorem prcells_one (x:ProcL) : ∀v∈prcells x,v.oneCell'=true:=fun v hv=>cellsP_one [x] v (by rw[cellsP_cons];exact List.mem_append_left _ hv)
set_option maxRecDepth 100000 in
set_option maxHeartbeats 4000000 in
theorem kern_c (X:Nat→Prop)(k:KernL)(ao ad af ap:Option Addr)(co cd cf cp:Nat)(w:World)(hX:Old X w)(hD:DiskX k.l (.slice ao k.l.length co) X w)(hT:TabX k.t (.slice ad k.t.ds.length cd) (.slice af k.t.fs.length cf) X w)(hP:PsX k.ps (.slice ap k.ps.length cp) X w)(hl:k.l.length≤10000)(hnl : ∀n∈k.l,n.names.length≤10000)(hz:SizeT k.t)(hp:k.ps.length≤1000) :
 Calls Tryz.prog 9 #[.agg #[.slice ao k.l.length co, .int .i64 k.most, .int .i64 k.room, .slice ad k.t.ds.length cd, .slice af k.t.fs.length cf, .slice ap k.ps.length cp]] w fun e w'=>∃ao' co' ad' cd' ap' cp',e = .returned (kernV (.slice ao' k.l.length co') k.most k.room (.slice ad' k.t.ds.length cd') (.slice af k.t.fs.length cf) (.slice ap' k.ps.length cp'))∧DiskX k.l (.slice ao' k.l.length co') X w'∧TabX k.t (.slice ad' k.t.ds.length cd') (.slice af k.t.fs.length cf) X w'∧PsX k.ps (.slice ap' k.ps.length cp') X w'∧Below w.heap.size w w':=by
 have S0:=zd (Sf.start (G:= [DiskX k.l (.slice ao k.l.length co),TabX k.t (.slice ad k.t.ds.length cd) (.slice af k.t.fs.length cf),PsX k.ps (.slice ap k.ps.length cp)]) hX (th3 (DiskX.firm _ _) hD (TabX.firm _ _ _) hT (PsX.firm _ _) hP));have HD0:=zd hD;have HT0:=zd hT;have HP0:=zd hP
 have HRET:Hid (∀(W:World) (cs:Array Value) (fr),W.heap[w.heap.size+1]? = some (.cells cs 54 fr)→cs.size=6→∀tmps:Array Value,tmps.getD 2 undef = .pointer (some ⟨w.heap.size+1,0,none⟩)→(results Tryz.f9 tmps).run Tryz.prog W = .ok (.agg cs) W):=zd fun W cs fr h hs tmps ht =>
 results_cell_row (p:=2)  (ty:=54) rfl tmps W (w.heap.size+1) _ cs fr _ ht h Tryz.underlying54 rfl (by rw[hs];kernel_rfl)
 obtain⟨iD,hD1,hD2,hD3,hD4⟩:=info_parts infoDescR;obtain⟨iP,hP1,hP2,hP3,hP4⟩:=info_parts infoProcR;have HL:=zd hl;have HNL:=zd hnl;have HZ:=zd hz;have HPL:=zd hp;clear hX hD hT hP hl hnl hz hp;go_enter Tryz.func9,Tryz.ntmps9;go_upto_region 1 with(fail);refine code_fresh2 ?_;intro W1 hb hA0 hA1 hs;have S1:=zd (S0.out.new2 hb hA0 hA1);clear hb hA0 hA1 hs;go_upto_region 2 with(first | (refine wpList_fresh1 ?_;intro W2 hb2 hA2 hs2;have S2:=zd (S1.out.call hb2);have HW:=zd (show W2.ownsRow w.heap.size 72 6 (.slice (some ⟨W1.heap.size,0,none⟩) 0 0) 0 (cellsD [])from own_mono (own_emptyT (s:=6) hA2) S1.out.bel.size);clear hb2 hA2 hs2));obtain⟨-, -, -,k3, -, -⟩:=cells6 (S2.out.at 0 rfl);go_wp2_with fail;go_loopw [3,4] (fun v i wr=>∃m:Nat,i = .int .i64 m∧m≤k.t.ds.length∧Hid (Sf X w [(w.heap.size,#[.slice ao k.l.length co, .int .i64 k.most, .int .i64 k.room, .slice ad k.t.ds.length cd, .slice af k.t.fs.length cf, .slice ap k.ps.length cp],31),(w.heap.size+1,#[.slice none 0 0, .int .i64 0, .int .i64 0, .slice none 0 0, .slice none 0 0, .slice none 0 0],54)] [DiskX k.l (.slice ao k.l.length co),TabX k.t (.slice ad k.t.ds.length cd) (.slice af k.t.fs.length cf),PsX k.ps (.slice ap k.ps.length cp)] wr)∧Hid (wr.ownsRow w.heap.size 72 6 v m (cellsD (k.t.ds.take m)))) (fun _ i _=>k.t.ds.length-(RowKit.intOf i).toNat)
 case atStart=>exact⟨0,rfl,Nat.zero_le _,S2,HW⟩
 case round =>
  clear S2 HW k3;obtain⟨m,rfl,hm,S5,HW⟩:=hrel;have hl1:k.t.ds.length≤1000:=HZ.out.1;obtain⟨ao3,cp3,rfl⟩:=own_form HW.out;obtain⟨-, -, -,k3, -, -⟩:=cells6 (S5.out.at 0 rfl);by_cases hlt:m<k.t.ds.length
  · have iL1:decide (m<k.t.ds.length)=true:=decide_eq_true (by omega)
    have iM1:decide ((m:Int)<(k.t.ds.length:Int))=true:=decide_eq_true (by omega);have wm:IntKind.i64.wrap ((m:Int)+1)=(m:Int)+1:=Go.IntWalk.i64_in _ (by omega);(have m0:(0:Int)≤(m:Int):=by omega);(have m1:(m:Int)<(k.t.ds.length:Int):=by omega);go_upto_region 5 with(fail);obtain⟨b,off,ead,cD⟩:=TabX.range (S5.out.g 1 rfl) m hlt;subst ead;obtain⟨y,hy⟩ : ∃y,y=k.t.ds[m]:=⟨_,rfl⟩;rw[←hy]at cD;replace cD:wr.rangeAt b (off+m*6) [.int .i64 y.ino, .int .i64 y.pos, .bool y.rd, .bool y.wr, .int .i64 y.refs, .int .i64 y.lock]:=cD;have HT:=zd (show cellsD (k.t.ds.take (m+1))=cellsD (k.t.ds.take m)++dcells y by rw[hy,List.take_succ_eq_append_getElem hlt,cellsD_app];congr 1);clear hy
    go_wp2_with (first
     | (refine wpList_load_mid rfl 73 _ rfl b (off+m*6) rfl _ _ cD Tryz.underlying73 rfl (by kernel_rfl) ?_)
     | (refine wpList_fresh1 ?_;intro W6 hb6 hA6 hs6;have S6:=zd (S5.out.call hb6);have HW6:=zd (ownsRow_below HW.out hb6 (Nat.le_refl _));clear hs6 k3;obtain⟨-, -, -,k3, -, -⟩:=cells6 (S6.out.at 0 rfl))
     | (at_builtin;go_loud (refine wpList_append_lies W6 rfl (.tmp 16) (.tmp 23) 49 rfl w.heap.size 72 iD _ 6 40 Tryz.underlying49 hD1 hD2 hD3 hD4 rfl (by decide) (.slice ao3 m cp3) m (cellsD (k.t.ds.take m)) rfl HW6.out ⟨wr.heap.size,0,none⟩ 1 1 (dcells y) rfl rfl (World.news_of_block (cs:= #[.int .i64 y.ino, .int .i64 y.pos, .bool y.rd, .bool y.wr, .int .i64 y.refs, .int .i64 y.lock]) (t:=72) (fr:=(0,0)) hA6) (dcells_one y) (by decide) (by unfold maxLen;omega) (by omega) S6.out.bel.size _ rfl ?_);intro gg cp2 W7 ho7 hgr7 hat7 hlt7;have S7:=zd (S6.out.grown (fun P hP=>by simp only[List.mem_cons,List.not_mem_nil,or_false]at hP;rcases hP with rfl | rfl | rfl;exact HD0.out;exact HT0.out;exact HP0.out) hgr7 (fun g e=>⟨(HW6.out.lt g e).1,S6.out.apart HW6.out rfl g e⟩));have HW7:=zd (show W7.ownsRow w.heap.size 72 6 (.slice (some ⟨gg,0,none⟩) (m+1) cp2) (m+1) (cellsD (k.t.ds.take (m+1)))from(by rw[HT.out];exact ho7));clear ho7 hgr7 hat7 hlt7 k3))
    go_roundw
    case rel=>exact⟨m+1,by go_num,hlt,S7,HW7⟩
    case measure=>simp[RowKit.intOf];omega
  · have iL1:decide (m<k.t.ds.length)=false:=decide_eq_false (by omega)
    have iM1:decide ((m:Int)<(k.t.ds.length:Int))=false:=decide_eq_false (by omega);(have hke:m=k.t.ds.length:=by omega);subst hke;have HV:Hid (wr.ownsRow w.heap.size 72 6 (.slice ao3 k.t.ds.length cp3) k.t.ds.length (cellsD k.t.ds)):=zd (by have:=HW.out;rw[List.take_length]at this;exact this);clear HW hlt hm;go_upto_region 6 with(fail);clear iL1 iM1 k3;have HTN:=zd ((S5.out.g 1 rfl:TabX k.t _ _ _ _).newD (S5.out.rdx HV.out rfl));clear HV;generalize wr=W5 at *;have HT5:Hid (Sf (Xo X [w.heap.size,w.heap.size+1]) W5 [] [DiskX k.l (.slice ao k.l.length co),TabX k.t (.slice ao3 k.t.ds.length cp3) (.slice af k.t.fs.length cf),PsX k.ps (.slice ap k.ps.length cp)] W5):=zd (Sf.start S5.out.oldX (th3 (DiskX.firm _ _) (S5.out.g 0 rfl) (TabX.firm _ _ _) HTN.out (PsX.firm _ _) (S5.out.g 2 rfl)));have HD5:=zd (S5.out.g 0 rfl);have HP5:=zd (S5.out.g 2 rfl);go_upto_region 7 with(first | (refine wpList_fresh1 ?_;intro W6 hb2 hA2 hs2;have T2:=zd (HT5.out.call hb2);have HW:=zd (show W6.ownsRow W5.heap.size 70 4 (.slice (some ⟨W5.heap.size,0,none⟩) 0 0) 0 (cellsP [])from own_emptyT (s:=4) hA2);clear hb2 hA2 hs2));obtain⟨-, -, -, -, -,k5⟩:=cells6 ((S5.out.call T2.out.bel).at 0 rfl);go_wp2_with fail;go_loopw [5,6] (fun v i wr=>∃m:Nat,i = .int .i64 m∧m≤k.ps.length∧Hid (Sf (Xo X [w.heap.size,w.heap.size+1]) W5 [] [DiskX k.l (.slice ao k.l.length co),TabX k.t (.slice ao3 k.t.ds.length cp3) (.slice af k.t.fs.length cf),PsX k.ps (.slice ap k.ps.length cp)] wr)∧Hid (wr.ownsRow W5.heap.size 70 4 v m (cellsP (k.ps.take m)))) (fun _ i _=>k.ps.length-(RowKit.intOf i).toNat)
    case atStart=>exact⟨0,rfl,Nat.zero_le _,T2,HW⟩
    case round =>
     clear T2 HW k5;obtain⟨m,rfl,hm,T5,HW⟩:=hrel;have hl1:k.ps.length≤1000:=HPL.out;obtain⟨ao4,cp4,rfl⟩:=own_form HW.out;obtain⟨-, -, -, -, -,k5⟩:=cells6 ((S5.out.call T5.out.bel).at 0 rfl);by_cases hlt:m<k.ps.length
     · have iL1:decide (m<k.ps.length)=true:=decide_eq_true (by omega)
       have iM1:decide ((m:Int)<(k.ps.length:Int))=true:=decide_eq_true (by omega);have wm:IntKind.i64.wrap ((m:Int)+1)=(m:Int)+1:=Go.IntWalk.i64_in _ (by omega);(have m0:(0:Int)≤(m:Int):=by omega);(have m1:(m:Int)<(k.ps.length:Int):=by omega);go_upto_region 10 with(fail);obtain⟨b,off,eap,cD⟩:=PsX.range (T5.out.g 2 rfl) m hlt;subst eap;obtain⟨y,hy⟩ : ∃y,y=k.ps[m]:=⟨_,rfl⟩;rw[←hy]at cD;replace cD:wr.rangeAt b (off+m*4) [.int .i64 y.who, .int .i64 y.umask, .int .i64 y.cwd, .bool y.live]:=cD;have HTK:=zd (show cellsP (k.ps.take (m+1))=cellsP (k.ps.take m)++prcells y by rw[hy,List.take_succ_eq_append_getElem hlt,cellsP_app];simp[cellsP]);clear hy
       go_wp2_with (first
        | (refine wpList_load_mid rfl 74 _ rfl b (off+m*4) rfl _ _ cD Tryz.underlying74 rfl (by kernel_rfl) ?_)
        | (refine wpList_fresh1 ?_;intro W6 hb6 hA6 hs6;have T6:=zd (T5.out.call hb6);have HW6:=zd (ownsRow_below HW.out hb6 (Nat.le_refl _));clear hs6 k5;obtain⟨-, -, -, -, -,k5⟩:=cells6 ((S5.out.call T6.out.bel).at 0 rfl))
        | (at_builtin;go_loud (refine wpList_append_lies W6 rfl (.tmp 33) (.tmp 39) 52 rfl W5.heap.size 70 iP _ 4 32 Tryz.underlying52 hP1 hP2 hP3 hP4 rfl (by decide) (.slice ao4 m cp4) m (cellsP (k.ps.take m)) rfl HW6.out ⟨wr.heap.size,0,none⟩ 1 1 (prcells y) rfl rfl (World.news_of_block (cs:= #[.int .i64 y.who, .int .i64 y.umask, .int .i64 y.cwd, .bool y.live]) (t:=70) (fr:=(0,0)) hA6) (prcells_one y) (by decide) (by unfold maxLen;omega) (by omega) T6.out.bel.size _ rfl ?_);intro gg cp2 W7 ho7 hgr7 hat7 hlt7;have T7:=zd (T6.out.grown (fun P hP=>by simp only[List.mem_cons,List.not_mem_nil,or_false]at hP;rcases hP with rfl | rfl | rfl;exact HD5.out;exact HTN.out;exact HP5.out) hgr7 (fun g e=>⟨(HW6.out.lt g e).1,T6.out.apart HW6.out rfl g e⟩));have HW7:=zd (show W7.ownsRow W5.heap.size 70 4 (.slice (some ⟨gg,0,none⟩) (m+1) cp2) (m+1) (cellsP (k.ps.take (m+1)))from(by rw[HTK.out];exact ho7));clear ho7 hgr7 hat7 hlt7 k5))
       go_roundw
       case rel=>exact⟨m+1,by go_num,hlt,T7,HW7⟩
       case measure=>simp[RowKit.intOf];omega
     · have iL1:decide (m<k.ps.length)=false:=decide_eq_false (by omega)
       have iM1:decide ((m:Int)<(k.ps.length:Int))=false:=decide_eq_false (by omega);(have hke:m=k.ps.length:=by omega);subst hke;have HV:Hid (wr.ownsRow W5.heap.size 70 4 (.slice ao4 k.ps.length cp4) k.ps.length (cellsP k.ps)):=zd (by have:=HW.out;rw[List.take_length]at this;exact this);clear HW hlt hm;go_upto_region 11 with(fail);clear iL1 iM1 k5;have S9:=zd (((S5.out.call T5.out.bel).more (TabX.firm _ _ _) (T5.out.gX 1 rfl)).more (PsX.firm k.ps (.slice ao4 k.ps.length cp4)) (show RdX 4 _ _ _ (Xo X [w.heap.size,w.heap.size+1]) _ from RdX.own HV.out S5.out.oldX));clear HV HT5 HTN T5 HD5 HP5;generalize wr=W9 at *;have h_k:=(S9.out.at 0 rfl);refine wp_region_held_drew (S:=fun W=>W.heap[w.heap.size]? = some (.cells #[.slice ao k.l.length co, .int .i64 k.most, .int .i64 k.room, .slice ad k.t.ds.length cd, .slice af k.t.fs.length cf, .slice ap k.ps.length cp] 31 (0,0))∧W.rangeAt w.heap.size 0 [.slice ao k.l.length co, .int .i64 k.most, .int .i64 k.room]∧True) (by kernel_rfl) ⟨(S9.out.at 0 rfl),k_disk (S9.out.at 0 rfl),trivial⟩ (fun hHeld=> ?_);clear h_k;have S10:=zd (S9.out.call (Below.refl W9.heap.size W9).drew);generalize W9.drew=W10 at *;refine zY 0 ?_;refine zM 1 Tryz.underlying24 (fun _ h=>h.2.1) ?_;refine zY 3 ?_;refine zY 4 ?_;refine zY 5 ?_;refine zZ 6 (fun _ hSw=>(cells6 hSw.1).2.2.2.2.1) ?_;refine zY 7 ?_;refine zY 8 ?_;(refine zO 2 fun K hK=> ?_);go_simp;refine(its_y _ k.l k.most k.room HL.out HNL.out _ W10 S10.out.oldX (S10.out.g 0 rfl:DiskX k.l _ _ _).gives).mono ?_
       rintro e W11 ⟨ao2,co2,rfl,hg,hb⟩;have S11:=zd ((S10.out.call hb).more (DiskX.firm _ _) hg);clear hb hHeld hg;go_wp2_with fail;refine hK.out _ _ ⟨(S11.out.at 0 rfl),k_disk (S11.out.at 0 rfl),trivial⟩ (fun hHeld=> ?_);clear hK K;(try simp only[pt,Act.put]);refine zY 9 ?_;(refine zO 10 fun K hK=> ?_);rw[if_pos (by rfl)];refine zh (S11.out.at 1 rfl) ?_;intro W12 hb hg hs hn;have S12:=zd (S11.out.set 1 rfl hb hg hs hn);clear hb hg hs hn hHeld;refine hK.out _ _ ⟨(S12.out.at 0 rfl),k_disk (S12.out.at 0 rfl),trivial⟩ (fun hHeld=> ?_);clear hK K;(try simp only[pt,Act.put]);refine wpAnyH_done (by kernel_rfl) ?_ _;go_wp2_with fail;refine bodyPost_ret (HRET.out _ _ _ (S12.out.at 1 rfl) rfl _ rfl) rfl ?_;exact⟨ao2,co2,ao3,cp3,ao4,cp4,rfl,S12.out.gX 5 rfl,S12.out.gX 3 rfl,S12.out.gX 4 rfl,S12.out.bel⟩
theorem cells10 {W:World}{b:Nat}{u0 u1 u2 u3 u4 u5 u6 u7 u8 u9:Value}{t:TypeId}{f:Nat × Nat}(h:W.heap[b]? = some (.cells #[u0,u1,u2,u3,u4,u5,u6,u7,u8,u9] t f)) :
 W.cell? ⟨b,0,none⟩=some u0∧W.cell? ⟨b,1,none⟩=some u1∧W.cell? ⟨b,2,none⟩=some u2∧W.cell? ⟨b,3,none⟩=some u3∧W.cell? ⟨b,4,none⟩=some u4∧W.cell? ⟨b,5,none⟩=some u5∧W.cell? ⟨b,6,none⟩=some u6∧W.cell? ⟨b,7,none⟩=some u7∧W.cell? ⟨b,8,none⟩=some u8∧W.cell? ⟨b,9,none⟩=some u9:=by
 refine⟨?_,?_,?_,?_,?_,?_,?_,?_,?_,?_⟩<;>(rw[Lib.cell_of_heap h];rfl)
end Go.Proofs.YtmiekcdkamgknaaGreatDoor
namespace Go.Proofs.YtmiekcdkamgknaaGreatDoor
open Go.RowKit Go.Shelf
attribute [local go_sem ↓] Go.wp_at_zero Go.wp_at_succ
theorem opd_next (ds:List DescL)(ino:Int){k:Nat}(hk:k<ds.length):opensD (ds.take (k+1)) ino=opensD (ds.take k) ino+if(decide (0<(ds[k]).refs) && decide ((ds[k]).ino=ino))then 1 else 0:=by
 unfold opensD;rw[List.take_succ_eq_append_getElem hk,List.countP_append,List.countP_singleton]
theorem opp_next (ps:List ProcL)(ino:Int){k:Nat}(hk:k<ps.length):opensP (ps.take (k+1)) ino=opensP (ps.take k) ino+if((ps[k]).live && decide ((ps[k]).cwd=ino))then 1 else 0:=by
 unfold opensP;rw[List.take_succ_eq_append_getElem hk,List.countP_append,List.countP_singleton]
theorem opd_le (ds:List DescL)(ino:Int):opensD ds ino≤ds.length:=List.countP_le_length
theorem opp_le (ps:List ProcL)(ino:Int):opensP ps ino≤ps.length:=List.countP_le_length
set_option maxRecDepth 100000 in
set_option maxHeartbeats 4000000 in
theorem ropens_c (X:Nat→Prop)(k:KernL)(ao ad af ap:Option Addr)(co cd cf cp:Nat)(w:World)(ino:Int)(hX:Old X w)(hD:DiskX k.l (.slice ao k.l.length co) X w)(hT:TabX k.t (.slice ad k.t.ds.length cd) (.slice af k.t.fs.length cf) X w)(hP:PsX k.ps (.slice ap k.ps.length cp) X w)(h1:k.t.ds.length≤1000)(h2:k.ps.length≤1000) :
 Calls Tryz.prog 23 #[.agg #[.slice ao k.l.length co, .int .i64 k.most, .int .i64 k.room, .slice ad k.t.ds.length cd, .slice af k.t.fs.length cf, .slice ap k.ps.length cp], .int .i64 ino] w fun e w'=>e = .returned (.int .i64 (opensN k ino))∧Below w.heap.size w w':=by
 have S0:=zd (Sf.start (G:= [DiskX k.l (.slice ao k.l.length co),TabX k.t (.slice ad k.t.ds.length cd) (.slice af k.t.fs.length cf),PsX k.ps (.slice ap k.ps.length cp)]) hX (th3 (DiskX.firm _ _) hD (TabX.firm _ _ _) hT (PsX.firm _ _) hP));have HA:=zd h1;have HB:=zd h2;clear hX hD hT hP h1 h2;go_enter Tryz.func23,Tryz.ntmps23;go_upto_region 1 with(fail);refine code_fresh1 ?_;intro W1 hb hA0 hs;have S1:=zd (S0.out.new1 hb hA0);clear hb hA0 hs;go_wp2_with fail;go_loop [5,6] (fun n i=>∃j:Nat,n = .int .i64 (opensD (k.t.ds.take j) ino:Nat)∧i = .int .i64 j∧j≤k.t.ds.length) (fun _ i=>k.t.ds.length-(RowKit.intOf i).toNat)
 case atStart=>exact⟨0,rfl,rfl,Nat.zero_le _⟩
 case round =>
  obtain⟨j,rfl,rfl,hj⟩:=hrel;have hl1:=HA.out;obtain⟨-, -, -,c3, -, -⟩:=cells6 (S1.out.at 0 rfl);by_cases hlt:j<k.t.ds.length
  · have iL1:decide (j<k.t.ds.length)=true:=decide_eq_true (by omega)
    have iM1:decide ((j:Int)<(k.t.ds.length:Int))=true:=decide_eq_true (by omega);(have j0:(0:Int)≤(j:Int):=by omega);(have j1:(j:Int)<(k.t.ds.length:Int):=by omega);have wj:IntKind.i64.wrap ((j:Int)+1)=(j:Int)+1:=Go.IntWalk.i64_in _ (by omega);obtain⟨b,off,ead,d0, -, -, -,d4, -⟩:=TabX.desc (S1.out.g 1 rfl) j hlt;subst ead;have H1:=zd (opd_next k.t.ds ino hlt);have hn1:=opd_le (k.t.ds.take j) ino;rw[List.length_take]at hn1;obtain⟨n,hn⟩ : ∃n,n=opensD (k.t.ds.take j) ino:=⟨_,rfl⟩;rw[←hn]at H1 hn1 ⊢;clear hn;obtain⟨y,hy⟩ : ∃y,y=k.t.ds[j]:=⟨_,rfl⟩;rw[←hy]at d0 d4 H1;clear hy;have wn:IntKind.i64.wrap ((n:Int)+1)=(n:Int)+1:=Go.IntWalk.i64_in _ (by omega);by_cases h1:0<y.refs
    · have i1:decide (0<y.refs)=true:=decide_eq_true h1
      by_cases h2:y.ino=ino
      · have i21:(y.ino == ino)=true:=by simpa using h2
        have i22:decide (y.ino=ino)=true:=decide_eq_true h2;(have i23:(y.ino != ino)=false:=by simpa using h2);have HN:Hid (opensD (k.t.ds.take (j+1)) ino=n+1):=zd (by rw[H1.out];simp[*]);go_wp2_with fail;go_round
        case rel=>exact⟨j+1,by rw[HN.out];go_num,by go_num,hlt⟩
        case measure=>simp[RowKit.intOf];omega
      · have i21:(y.ino == ino)=false:=by simpa using h2
        have i22:decide (y.ino=ino)=false:=decide_eq_false h2;(have i23:(y.ino != ino)=true:=by simpa using h2);have HN:Hid (opensD (k.t.ds.take (j+1)) ino=n):=zd (by rw[H1.out];simp[*]);go_wp2_with fail;go_round
        case rel=>exact⟨j+1,by rw[HN.out],by go_num,hlt⟩
        case measure=>simp[RowKit.intOf];omega
    · have i1:decide (0<y.refs)=false:=decide_eq_false h1
      have HN:Hid (opensD (k.t.ds.take (j+1)) ino=n):=zd (by rw[H1.out];simp[*]);go_wp2_with fail;go_round
      case rel=>exact⟨j+1,by rw[HN.out],by go_num,hlt⟩
      case measure=>simp[RowKit.intOf];omega
  · have iL1:decide (j<k.t.ds.length)=false:=decide_eq_false (by omega)
    have iM1:decide ((j:Int)<(k.t.ds.length:Int))=false:=decide_eq_false (by omega);have ht:k.t.ds.take j=k.t.ds:=List.take_of_length_le (by omega);rw[ht];clear ht hlt;go_wp2_with fail;clear iL1 iM1 c3 hj;go_loop [5,7] (fun n i=>∃j:Nat,n = .int .i64 (opensD k.t.ds ino+opensP (k.ps.take j) ino:Nat)∧i = .int .i64 j∧j≤k.ps.length) (fun _ i=>k.ps.length-(RowKit.intOf i).toNat)
    case atStart=>exact⟨0,rfl,rfl,Nat.zero_le _⟩
    case round =>
     obtain⟨j,rfl,rfl,hj⟩:=hrel;have hl2:=HB.out;have hn0:=opd_le k.t.ds ino;obtain⟨-, -, -, -, -,c5⟩:=cells6 (S1.out.at 0 rfl);by_cases hlt:j<k.ps.length
     · have iL1:decide (j<k.ps.length)=true:=decide_eq_true (by omega)
       have iM1:decide ((j:Int)<(k.ps.length:Int))=true:=decide_eq_true (by omega);(have j0:(0:Int)≤(j:Int):=by omega);(have j1:(j:Int)<(k.ps.length:Int):=by omega);have wj:IntKind.i64.wrap ((j:Int)+1)=(j:Int)+1:=Go.IntWalk.i64_in _ (by omega);obtain⟨b,off,eap, -, -,d2,d3⟩:=PsX.proc (S1.out.g 2 rfl) j hlt;subst eap;have H1:=zd (opp_next k.ps ino hlt);have hn1:=opp_le (k.ps.take j) ino;rw[List.length_take]at hn1;obtain⟨n,hn⟩ : ∃n,n=opensP (k.ps.take j) ino:=⟨_,rfl⟩;rw[←hn]at H1 hn1 ⊢;clear hn;obtain⟨m,hm⟩ : ∃m,m=opensD k.t.ds ino:=⟨_,rfl⟩;rw[←hm]at hn0 ⊢;clear hm;obtain⟨y,hy⟩ : ∃y,y=k.ps[j]:=⟨_,rfl⟩;rw[←hy]at d2 d3 H1;clear hy;have wn:IntKind.i64.wrap (((m+n:Nat):Int)+1)=((m+n:Nat):Int)+1:=Go.IntWalk.i64_in _ (by omega);have wn2:IntKind.i64.wrap ((m:Int)+(n:Int)+1)=(m:Int)+(n:Int)+1:=Go.IntWalk.i64_in _ (by omega);obtain⟨lv,hlv⟩ : ∃f,f=y.live:=⟨_,rfl⟩;rw[←hlv]at d3 H1;clear hlv
       cases lv with
       | true =>
          by_cases h2:y.cwd=ino
          · have i21:(y.cwd == ino)=true:=by simpa using h2
            have i22:decide (y.cwd=ino)=true:=decide_eq_true h2;(have i23:(y.cwd != ino)=false:=by simpa using h2);have HN:Hid (opensP (k.ps.take (j+1)) ino=n+1):=zd (by rw[H1.out];simp[*]);go_wp2_with fail;go_round
            case rel=>exact⟨j+1,by rw[HN.out];go_num,by go_num,hlt⟩
            case measure=>simp[RowKit.intOf];omega
          · have i21:(y.cwd == ino)=false:=by simpa using h2
            have i22:decide (y.cwd=ino)=false:=decide_eq_false h2;(have i23:(y.cwd != ino)=true:=by simpa using h2);have HN:Hid (opensP (k.ps.take (j+1)) ino=n):=zd (by rw[H1.out];simp[*]);go_wp2_with fail;go_round
            case rel=>exact⟨j+1,by rw[HN.out],by go_num,hlt⟩
            case measure=>simp[RowKit.intOf];omega
       | false =>
          have HN:Hid (opensP (k.ps.take (j+1)) ino=n):=zd (by rw[H1.out];simp[*]);go_wp2_with fail;go_round
          case rel=>exact⟨j+1,by rw[HN.out],by go_num,hlt⟩
          case measure=>simp[RowKit.intOf];omega
     · have iL1:decide (j<k.ps.length)=false:=decide_eq_false (by omega)
       have iM1:decide ((j:Int)<(k.ps.length:Int))=false:=decide_eq_false (by omega);have ht:k.ps.take j=k.ps:=List.take_of_length_le (by omega);rw[ht];clear ht hlt;go_wp2_with fail;go_ret;exact⟨rfl,S1.out.bel⟩
end Go.Proofs.YtmiekcdkamgknaaGreatDoor
