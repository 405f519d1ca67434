import Derived.Test.YtpbmbpefophlfaaGreatDoorR25
import Derived.Test.YtpbmbpefophlfaaGreatDoorR29
import Derived.Test.YtpbmbpefophlfaaGreatDoorR16
import Derived.Test.YtpbmbpefophlfaaGreatDoorR39
import Derived.Test.YtpbmbpefophlfaaGreatDoorR24
import Derived.Test.YtpbmbpefophlfaaGreatDoorR26
import Derived.Shelf.Spec.SlicesGrow
import Derived.StillTailTactics
import Derived.Test.YtpbmbpefophlfaaGreatDoorR12
import Derived.Deep.RegionHeld3
import Derived.Deep.DeepCutAuto
import Derived.Test.YtpbmbpefophlfaaGreatDoorR37
import Derived.Test.YtpbmbpefophlfaaGreatDoorR18
import Derived.Test.YtpbmbpefophlfaaGreatDoorR17
import Derived.Test.YtpbmbpefophlfaaGreatDoorR13
import Derived.Test.YtpbmbpefophlfaaGreatDoorR38
import Derived.Test.YtpbmbpefophlfaaGreatDoorR27
import Derived.Lib.SliceRun
import Derived.Test.YtpbmbpefophlfaaGreatDoorR11
import Derived.MapKept
import Derived.RowKit3
import Derived.Below
namespace Go.Proofs.YtpbmbpefophlfaaGreatDoor
theorem live_off {ps:List ProcL}{q:Nat}(hq:ps.length≤q):liveB ps (q:Int)=false:=by
 unfold liveB;rw[decide_eq_false (show ¬(q:Int)<(ps.length:Int)by omega)];simp
end Go.Proofs.YtpbmbpefophlfaaGreatDoor
namespace Go.Proofs.YtpbmbpefophlfaaGreatDoor
open Go.RowKit Go.Shelf
theorem do_shut {k:KernL}{p:Int}{c:CallL}(hl:liveB k.ps p=true)(h:c.kind=2):doK k p c=shutK k p c.fd:=by unfold doK;rw[if_neg (by rw[hl];simp;omega),if_neg (by omega),if_pos h]
theorem close_row {t:TabL}{a n:Nat}(ha:a<t.fs.length)(hn:n<(t.fs[a]).length) :
 ∃r,(closeT t (a:Int) (n:Int)).1.fs=t.fs.set a r∧r.length=(t.fs[a]).length∧(∀j:Nat,j≠n→r.getD j 0=(t.fs[a]).getD j 0)∧r.getD n 0<0:=by
 (have hrow:rowT t (a:Int)=t.fs[a]:=by unfold rowT;rw[Int.toNat_natCast,getD_at ha]);unfold closeT
 cases hh:hasT t (a:Int) (n:Int)with
 | false =>
    rw[if_pos rfl];refine⟨t.fs[a],by rw[List.set_getElem_self],rfl,fun _ _=>rfl,?_⟩;unfold hasT inT atR at hh;rw[hrow,decide_eq_true (show(0:Int)≤(a:Int)by omega),decide_eq_true (show(a:Int)<(t.fs.length:Int)by omega),decide_eq_true (show(0:Int)≤(n:Int)by omega),decide_eq_true (show(n:Int)<((t.fs[a]).length:Int)by omega),Int.toNat_natCast]at hh;have:=of_decide_eq_false (show decide (0≤(t.fs[a]).getD n 0)=false by simpa using hh);omega
 | true =>
    rw[if_neg (by decide)];refine⟨(t.fs[a]).set n (-1),?_,List.length_set,fun j hj=> ?_,?_⟩
    · show putF t.fs (a:Int).toNat (n:Int).toNat (-1)=_
      unfold putF;rw[Int.toNat_natCast,Int.toNat_natCast,getD_at ha]
    · rw[List.getD_eq_getElem?_getD,List.getD_eq_getElem?_getD,List.getElem?_set_ne (Ne.symm hj)]
    · rw[List.getD_eq_getElem?_getD,List.getElem?_set_self hn]
      decide
theorem shut_tp (k:KernL)(p fd:Int):(shutK k p fd).1.t=(closeT k.t p fd).1∧(shutK k p fd).1.ps=k.ps:=by
 unfold shutK;by_cases h:(closeT k.t p fd).2.2=0
 · rw[if_neg (by rw[h];decide)]
   exact⟨rfl,rfl⟩
 · rw[if_pos h]
   refine⟨?_,rfl⟩;unfold closeT at h ⊢;by_cases hh:hasT k.t p fd=false
   · rw[if_pos hh]
   · rw[if_neg hh]at h
     exact absurd rfl h
theorem shut_kst {c:Nat}{k:KernL}(h:KSt c k){p:Int}(hl:liveB k.ps p=true)(fd:Int):KSt c (shutK k p fd).1:=by
 refine⟨right_shut h.rig hl fd,?_,?_⟩
 · unfold shutK
   split
   · exact h.siz
   · refine⟨h.siz.1,h.siz.2.1,?_,?_⟩
     · show NamC c (if _ then _ else _)
       split
       · exact h.siz.2.2.1.opened _ _
       · exact h.siz.2.2.1
     · show(closeT k.t p fd).1.ds.length≤c
       have e:(closeT k.t p fd).1.ds.length=k.t.ds.length:=by
        unfold closeT;split
        · rfl
        · exact List.length_set
       rw[e];exact h.siz.2.2.2
 · unfold shutK
   split
   · exact h.pos
   · exact posT_close h.pos _ _
def closeC (n:Int):CallL:=⟨2,n,0,0,0,0,[],[],[]⟩
def closeN (k:KernL)(p:Int):Nat→KernL
 | 0=>k
 | n+1=>(doK (closeN k p n) p (closeC n)).1
structure Shut (c:Nat) (k:KernL) (a n:Nat) (m:KernL):Prop where
 st:KSt c m
 ps:m.ps=k.ps
 row : ∀h:a<m.t.fs.length,∀j:Nat,j<n→(m.t.fs[a]).getD j 0<0
theorem RigK.row {k:KernL}(h:RigK k){a:Nat}(ha:a<k.t.fs.length):(k.t.fs[a]).length=8:=(h.tab.1 _ (List.getElem_mem ha)).1
theorem shut_next {c:Nat}{k:KernL}{a n:Nat}{m:KernL}(h:Shut c k a n m)(hl:liveB k.ps (a:Int)=true)(hn:n<8):Shut c k a (n+1) (doK m (a:Int) (closeC n)).1:=by
 (have hlm:liveB m.ps (a:Int)=true:=by rw[h.ps];exact hl);have e:doK m (a:Int) (closeC n)=shutK m (a:Int) (n:Int):=do_shut hlm rfl;have hd:=shut_kst h.st hlm (n:Int);rw[e];obtain⟨e1,e2⟩:=shut_tp m (a:Int) (n:Int);refine⟨hd,e2.trans h.ps,?_⟩;rw[e1]
 have ha:a<m.t.fs.length:=by
  obtain⟨b,hb,hbe,_,_⟩:=live_in hlm;have:=h.st.rig.procs;have:=h.st.rig.eight;omega
 obtain⟨r,hr,hlen,hne,hat⟩:=close_row (n:=n) ha (by rw[h.st.rig.row ha];exact hn);rw[hr];intro h2 j hj;rw[List.getElem_set_self];by_cases ej:j=n
 · rw[ej];exact hat
 · rw[hne j ej]
   exact h.row ha j (by omega)
theorem shut_count {c:Nat}{k:KernL}{a:Nat}{m:KernL}(h:Shut c k a 8 m):countT m.t (a:Int)=0:=by
 unfold countT;split
 · rename_i hi
   have ha:a<m.t.fs.length:=by
    unfold inT at hi;simp only[Bool.and_eq_true,decide_eq_true_iff]at hi;omega
   (have hrow:rowT m.t (a:Int)=m.t.fs[a]:=by unfold rowT;rw[Int.toNat_natCast,getD_at ha]);rw[hrow];unfold countR;rw[List.countP_eq_zero];intro x hx;obtain⟨j,hj,rfl⟩:=List.mem_iff_getElem.1 hx;have h8:=h.st.rig.row ha;have:=h.row ha j (by omega);rw[getD_at hj]at this;simp;omega
 · rfl
def deadP (x:ProcL):ProcL:= { x with live:=false}
def leaveK (k:KernL)(i:Int):KernL:=⟨openedL k.l i (-1),k.most,k.room,k.t,k.ps⟩
def killK (m:KernL)(p:Int):KernL:=⟨openedL m.l (procL m.ps p).cwd (-1),m.most,m.room,m.t,m.ps.set p.toNat (deadP (procL m.ps p))⟩
theorem set_live {ps:List ProcL}{a:Nat}(ha:a<ps.length)(x:ProcL)(q:Nat):liveB (ps.set a x) (q:Int)=(if q=a then x.live else liveB ps (q:Int))∧procL (ps.set a x) (q:Int)=if q=a then x else procL ps (q:Int):=by
 rcases Nat.lt_or_ge q ps.length with hq | hq
 · obtain⟨a1,a2⟩:=live_at hq
   obtain⟨b1,b2⟩:=live_at (ps:=ps.set a x) (a:=q) (by rw[List.length_set];exact hq);rw[a1,a2,b1,b2,List.getElem_set];by_cases e:a=q
   · subst e;simp
   · rw[if_neg e,if_neg (Ne.symm e),if_neg (Ne.symm e)]
     exact⟨rfl,rfl⟩
 · have hne:q≠a:=by omega
   rw[live_off (ps:=ps.set a x) (by rw[List.length_set];exact hq),live_off hq,if_neg hne,if_neg hne];refine⟨rfl,?_⟩;unfold procL;rw[Int.toNat_natCast,List.getD_eq_getElem?_getD,List.getD_eq_getElem?_getD,List.getElem?_eq_none (by rw[List.length_set];exact hq),List.getElem?_eq_none hq]
theorem opensP_dead {ps:List ProcL}{a:Nat}(ha:a<ps.length)(hl:(ps[a]).live=true)(j:Int):opensP (ps.set a (deadP ps[a])) j+(if(ps[a]).cwd=j then 1 else 0)=opensP ps j:=by
 have:=countP_set1 ps (fun x=>x.live && decide (x.cwd=j)) a ha (deadP ps[a]);have h2:((deadP ps[a]).live && decide ((deadP ps[a]).cwd=j))=false:=rfl;simp only[hl,Bool.true_and,decide_eq_true_iff]at this;rw[h2]at this;have h3:(if(false:Bool)=true then 1 else 0)=(0:Nat):=rfl;rw[h3]at this;exact this
theorem right_killed {k:KernL}(h:RigK k){p:Int}(hl:liveB k.ps p=true)(hc:countT k.t p=0):RigK (killK k p):=by
 obtain⟨a,ha,rfl,e,hla⟩:=live_in hl;obtain⟨o,ho,ho2,hopen⟩:=h.cwd_open hl;unfold killK;rw[ho,e,Int.toNat_natCast];rw[e]at ho
 obtain⟨w,hk⟩:=h.w.move (g:=opensN ⟨openedL k.l (o:Int) (-1),k.most,k.room,k.t,k.ps.set a (deadP k.ps[a])⟩) (i:=o) (by rw[ho2];decide) (b:= -1) (fun j=>by
  have:=opensP_dead ha hla j;rw[ho]at this;unfold opensN;show((opensD k.t.ds j+opensP (k.ps.set a (deadP k.ps[a])) j:Nat):Int)=((opensD k.t.ds j+opensP k.ps j:Nat):Int)+_;by_cases e2:j=(o:Int)
  · rw[if_pos e2.symm]at this;rw[if_pos e2];omega
  · rw[if_neg (Ne.symm e2)]at this;rw[if_neg e2];omega)
 refine rig_w w h.tab h.eight (by show(k.ps.set a (deadP k.ps[a])).length≤8;rw[List.length_set];exact h.procs) (fun q hq hlq=> ?_) (fun q hlq=> ?_)
 · by_cases eq:q=a
   · rw[eq];exact hc
   · exact h.idle q hq (by have h1:=(set_live ha (deadP k.ps[a]) q).1;rw[if_neg eq]at h1;exact h1.symm.trans hlq)
 · have hlq':liveB (k.ps.set a (deadP k.ps[a])) (q:Int)=true:=hlq
   obtain⟨s1,s2⟩:=set_live ha (deadP k.ps[a]) q;by_cases eq:q=a
   · rw[if_pos eq]at s1
     rw[s1]at hlq'
     cases hlq'
   · rw[if_neg eq]at s1 s2
     have hlk:liveB k.ps (q:Int)=true:=s1.symm.trans hlq';obtain⟨c1,c2,c3⟩:=h.cwd q hlk;obtain⟨oq,hoq,hoq2,_⟩:=h.cwd_open hlk;show(nodeL (openedL k.l (o:Int) (-1)) (procL (k.ps.set a (deadP k.ps[a])) q).cwd).kind=2∧0≤(procL (k.ps.set a (deadP k.ps[a])) q).umask∧(procL (k.ps.set a (deadP k.ps[a])) q).umask≤63;rw[s2,hoq]
     have hok:=hk oq (by rw[hoq2];decide) (by
      have:=live_pos (k:=⟨openedL k.l (o:Int) (-1),k.most,k.room,k.t,k.ps.set a (deadP k.ps[a])⟩) (p:=(q:Int)) hlq' (j:=(oq:Int)) (by show(procL (k.ps.set a (deadP k.ps[a])) q).cwd=_;rw[s2];exact hoq);unfold opensN
      omega)
     refine⟨?_,c2,c3⟩;rw[nodeL_nd (by rw[hok,hoq2];decide),hok];exact hoq2
theorem cellsP_dead (ps:List ProcL)(a:Nat)(ha:a<ps.length):(cellsP ps).set (a*4+3) (.bool false)=cellsP (ps.set a (deadP ps[a])):=by
 induction ps generalizing a with
 | nil=>exact absurd ha (Nat.not_lt_zero _)
 | cons x ps ih =>
    cases a with
    | zero =>
       simp only[List.set_cons_zero,List.getElem_cons_zero,cellsP_cons];rfl
    | succ a =>
       have:=ih a (by simpa using ha);simp only[List.set_cons_succ,List.getElem_cons_succ,cellsP_cons];rw[←this];have l4:(prcells x).length=4:=rfl;rw[List.set_append_right _ _ (by rw[l4];omega),l4,show(a+1)*4+3-4=a*4+3 by omega]
theorem own_dead {W:World}{base g cap:Nat}{cur:Array Value}{ps:List ProcL}{a:Nat}(ha:a<ps.length)(hg:base≤g)(h1:ps.length≤cap)(h2:cap≤maxLen)(h3:cur.size=cap*4)(h4:cur.toList.take (ps.length*4)=cellsP ps)(hW:W.heap[g]? = some (.cells (cur.setIfInBounds (a*4+3) (.bool false)) 74 (0,0))) :
 W.ownsRow base 74 4 (.slice (some ⟨g,0,none⟩) (ps.set a (deadP ps[a])).length cap) (ps.set a (deadP ps[a])).length (cellsP (ps.set a (deadP ps[a]))):=by
 refine⟨cellsP_len _, .inr ⟨g,cap,_,rfl,hg,hW,by rw[List.length_set];exact h1,h2,by rw[Array.size_setIfInBounds];exact h3,?_⟩⟩;rw[Array.toList_setIfInBounds,List.length_set,List.take_set,h4];exact cellsP_dead ps a ha
theorem PsX.c3 {ps:List ProcL}{b off cp:Nat}{X:Nat→Prop}{W:World}(h:PsX ps (.slice (some ⟨b,off,none⟩) ps.length cp) X W)(a:Nat)(ha:a<ps.length):W.cell? ⟨b,off+a*4+3,none⟩=some (.bool (ps[a]).live):=by
 obtain⟨b1,off1,e,_,_,_,c3⟩:=PsX.proc h a ha;injection e with e;injection e with e1 e2;subst e1;subst e2;exact c3
theorem Sf.only {X:Nat→Prop}{w W:World}{B:List Bl}{G:List Thing}(h:Sf X w B G W){G':List Thing}(hG : ∀P∈G',Firm P∧P (Xo X (B.map (·.1))) W):Sf X w B G' W:=⟨h.bel,h.old,h.blk,h.nd,hG⟩
theorem Sf.thing {X:Nat→Prop}{w W:World}{B:List Bl}{G:List Thing}(h:Sf X w B G W)(j:Nat){P:Thing}(hj:G[j]? = some P):Firm P∧P (Xo X (B.map (·.1))) W:=h.gv P (List.mem_of_getElem? hj)
theorem th4' {P Q R V:Thing}{X:Nat→Prop}{W:World}(hp:Firm P∧P X W)(hq:Firm Q∧Q X W)(hr:Firm R∧R X W)(hv:Firm V∧V X W) : ∀T∈ [P,Q,R,V],Firm T∧T X W:=fun T hT=>by
 simp only[List.mem_cons,List.not_mem_nil,or_false]at hT;rcases hT with rfl | rfl | rfl | rfl<;>assumption
theorem size_killed {c:Nat}{k:KernL}(h:KrnS c k)(p:Int):KrnS c (killK k p):=⟨h.1,h.2.1,h.2.2.1.opened _ _,h.2.2.2⟩
end Go.Proofs.YtpbmbpefophlfaaGreatDoor
namespace Go.Proofs.YtpbmbpefophlfaaGreatDoor
open Go.RowKit Go.Shelf
attribute [local go_sem ↓] Go.wp_at_zero Go.wp_at_succ
theorem heap_k3 {W:World}{b:Nat}{v0 v1 v2 v3 v4 v5 x0 x1 x2:Value}{t:TypeId}(h:W.heap[b]? = some (.cells #[v0,v1,v2,v3,v4,v5] t (0,0))):(W.setCells b 0 [x0,x1,x2]).heap[b]? = some (.cells #[x0,x1,x2,v3,v4,v5] t (0,0)):=by
 have h0:=heap_set (i:=0) (u:=x0) h;have h1:=heap_set (i:=1) (u:=x1) h0;have h2:=heap_set (i:=2) (u:=x2) h1;exact h2
theorem wpList_store_k3 {P:Program}{ops:Array Oper}{rest:List Oper}{op:Oper}{a:Act}{w:World}{Q:Exit→Act→World→Prop}(hgd:op.guard=none)(ty:TypeId)(x y:Operand)(ho:op.op = .store ty x y)
 (b:Nat) {v0 v1 v2 v3 v4 v5 x0 x1 x2:Value} {t:TypeId} (hx:a.eval x = .pointer (some ⟨b,0,none⟩)) (hy:a.eval y = .agg #[x0,x1,x2]) (hb:w.heap[b]? = some (.cells #[v0,v1,v2,v3,v4,v5] t (0,0)))
 (hi:(P.info? ty).map (·.size)=some 3) (o0:x0.oneCell'=true) (o1:x1.oneCell'=true) (o2:x2.oneCell'=true)
 (h : ∀W',Below b w W'→(∀g,g≠b→W'.heap[g]? = w.heap[g]?)→W'.heap.size=w.heap.size→W'.heap[b]? = some (.cells #[x0,x1,x2,v3,v4,v5] t (0,0))→wpList P ops Q rest (a.put op.dst undef) W'):wpList P ops Q (op::rest) a w:=by
  refine wpList_store_mid hgd ty x y ho b 0 #[x0,x1,x2] hx hy ?_ (by simpa using hi) ?_ ?_
  · intro j hj
    have hj':j<3:=hj;(have e : ∀i,w.frozen? ⟨b,i,none⟩=false:=fun i=>Lib.frozen_of_heap hb i);refine⟨?_,e _⟩;have hc:=cells6 hb
    match j,hj' with
    | 0,_=>rw[hc.1];rfl
    | 1,_=>rw[hc.2.1];rfl
    | 2,_=>rw[hc.2.2.1];rfl
  · exact all_oneCell_toArray (cs:= [x0,x1,x2]) fun v hv=>by
     simp only[List.mem_cons,List.not_mem_nil,or_false]at hv;rcases hv with rfl | rfl | rfl<;>assumption
  · exact h _ (below_setCells _ _ (Nat.le_refl _) _ _ _) (fun g hg=>heap_setCells _ _ hg _ _ _) (size_setCells _ _ _ _) (heap_k3 hb)
end Go.Proofs.YtpbmbpefophlfaaGreatDoor
namespace Go.Proofs.YtpbmbpefophlfaaGreatDoor
open Go.RowKit Go.Shelf
attribute [local go_sem ↓] Go.wp_at_zero Go.wp_at_succ
def TwoIs (X:Nat→Prop)(S:Nat→Addr)(P Q:PlaceL)(n:Int)(e:Ending)(w w':World):Prop :=
 ∃p q v aod capd aon capn aod2 capd2 aon2 capn2,e = .returned (.tuple #[.agg (pcells p (.slice aod p.dn.names.length capd) (.slice aon p.nn.names.length capn)), .agg (pcells q (.slice aod2 q.dn.names.length capd2) (.slice aon2 q.nn.names.length capn2)),v])∧ErrIs S n v∧(n=0→p=P∧q=Q) ∧
  (NodeX X p.dn (.slice aod p.dn.names.length capd) w'∧NodeX X p.nn (.slice aon p.nn.names.length capn) w'∧NodeX X q.dn (.slice aod2 q.dn.names.length capd2) w'∧NodeX X q.nn (.slice aon2 q.nn.names.length capn2) w')∧Below w.heap.size w w'
theorem TwoIs.of {X:Nat→Prop}{S:Nat→Addr}{P Q:PlaceL}(p q:PlaceL){n m:Int}{v:Value}{aod aon aod2 aon2:Option Addr}{capd capn capd2 capn2:Nat}{w w':World}(hn:m=n)(hv:ErrIs S n v)(hpq:n=0→p=P∧q=Q)
 (h1:NodeX X p.dn (.slice aod p.dn.names.length capd) w') (h2:NodeX X p.nn (.slice aon p.nn.names.length capn) w') (h3:NodeX X q.dn (.slice aod2 q.dn.names.length capd2) w') (h4:NodeX X q.nn (.slice aon2 q.nn.names.length capn2) w') (hb:Below w.heap.size w w') :
 TwoIs X S P Q m (.returned (.tuple #[.agg (pcells p (.slice aod p.dn.names.length capd) (.slice aon p.nn.names.length capn)), .agg (pcells q (.slice aod2 q.dn.names.length capd2) (.slice aon2 q.nn.names.length capn2)),v])) w w':=by
 subst hn;exact⟨p,q,v,aod,capd,aon,capn,aod2,capd2,aon2,capn2,rfl,hv,hpq,⟨h1,h2,h3,h4⟩,hb⟩
end Go.Proofs.YtpbmbpefophlfaaGreatDoor
namespace Go.Proofs.YtpbmbpefophlfaaGreatDoor
open Go.RowKit Go.Shelf
attribute [local go_sem ↓] Go.wp_at_zero Go.wp_at_succ
theorem infoProcP:(Tryz.prog.info? 74).map (fun i=>(i.zero,i.size,i.bytes))=some (some (.agg #[.int .i64 0, .int .i64 0, .int .i64 0, .bool false]),4,32):=by kernel_rfl
set_option maxRecDepth 100000 in
set_option maxHeartbeats 1000000 in
theorem clone_procs (a:Addr)(cp:Nat)(ps:List ProcL)(w:World)(hv:Rd w.heap.size 4 (.slice (some a) ps.length cp) ps.length (cellsP ps) w)(hl:ps.length≤10000) :
 Calls Tryz.prog 20 #[.slice (some a) ps.length cp] w fun e w'=>∃v',e = .returned v'∧w'.ownsRow w.heap.size 74 4 v' ps.length (cellsP ps)∧Below w.heap.size w w':=by
 obtain⟨i0,hi,hz0,hz1,hz2⟩:=info_parts infoProcP;(have qq : ∀(w:World) (a:Option Addr) (n c n' c':Nat),(binOp .eql 29 (.slice a n c) (.slice none n' c')).run Tryz.prog w = .ok (.bool a.isNone) w:=fun w a n c n' c'=>Lib.run_eql_slice_nil w _ _ a n c n' c' Tryz.underlying29);have hba:Below w.heap.size w (w.alloc (.cells #[] 74)):=(Below.refl _ w).alloc (Nat.le_refl _) _;have HV:=Lib.hid (hv.below hba);clear hv;go_enter Tryz.func20,Tryz.ntmps20;go_wp2_with (at_builtin;go_loud (refine wpList_append_rd rfl (.tmp 5) (.tmp 6) 29 rfl w.heap.size 74 i0 _ 4 32 Tryz.underlying29 hi hz0 hz1 hz2 rfl (by decide) _ 0 [] rfl (World.ownsRow_lit (size:=4) w #[] 0 (Nat.le_refl _) (Nat.zero_le _) rfl) w.heap.size _ ps.length (cellsP ps) rfl HV.out (cellsP_one _) (by unfold maxLen;omega) (by omega) (by simp) ?_));intro v3 w3 ho3 hgr3;have hB3:Below w.heap.size w w3:=hba.grown hgr3 (by simp) (fun j ej=>by simp[Value.ownBlock]at ej;omega);go_wp2_with fail;go_ret;exact⟨_,rfl,ho3,hB3⟩
theorem Sw.rdx {X:Nat→Prop}{w W:World}{q:Nat}{B:List Bl}{G:List Thing}(h:Sw X w q B G W)(hq:X q){e:TypeId}{s n:Nat}{v:Value}{xs:List Value}(ho:W.ownsRow w.heap.size e s v n xs)(hB : ∀x∈B,x.1=q):RdX s v n xs (Xo X (B.map (·.1))) W :=
 ⟨Rd.own ho (Nat.le_refl _),fun g hg=>by
  rcases hg with hg | hg
  · exact own_far ho (h.old g hg)
  · obtain⟨x,hx,rfl⟩:=List.mem_map.1 hg
    rw[hB x hx]
    exact own_far ho (h.old q hq)⟩
end Go.Proofs.YtpbmbpefophlfaaGreatDoor
namespace Go.Proofs.YtpbmbpefophlfaaGreatDoor
open Go.RowKit
theorem run_insert_i {P:Program}(mty kt et:TypeId)(r clock:Nat)(es:Array MapEntry)(n:Int)(val:Value)(w:World)(hm:P.underlying mty=some (.map kt et))(hk:P.underlying kt=some (.int .i64))(hb:w.heap[r]? = some (.map es clock))
 (hf:Instr.findNow (.int .i64) (.int .i64 n) es.toList 0=some none) :
 (Instr.mapUpdate mty (.map (some r)) (.int .i64 n) val).run P w = .ok () { w with heap:=w.heap.setIfInBounds r (.map (es.push { key:= .int .i64 n,val:=val,born:=clock}) (clock+1))}:=by
  have hc:(Instr.checkKey false 10000 kt (.int .i64 n)).run P w = .ok () w:=MapKept.run_checkKey (k:= .int .i64 n) hk (by simp[MapKept.IsKey]) false 9999;simp[Instr.mapUpdate,run_underlying hm,MapKept.run_getObj_map hb,hc,MapKept.run_findKey hk hf,MapKept.run_setObj_map _ hb,Result.andThen]
theorem wpList_insert_i {P:Program}{ops:Array Oper}{rest:List Oper}{op:Oper}{a:Act}{w:World}{Q:Exit→Act→World→Prop}(hgd:op.guard=none)(mty kt et:TypeId)(m k x:Operand)(ho:op.op = .insert mty m k x)
 (r clock:Nat) (es:Array MapEntry) (n:Int) (hm0:a.eval m = .map (some r)) (hk0:a.eval k = .int .i64 n) (hm:P.underlying mty=some (.map kt et)) (hk:P.underlying kt=some (.int .i64)) (hb:w.heap[r]? = some (.map es clock))
 (hf:Instr.findNow (.int .i64) (.int .i64 n) es.toList 0=some none)
 (h : ∀W',Below r w W'→W'.heap.size=w.heap.size→W'.heap[r]? = some (.map (es.push { key:= .int .i64 n,val:=a.eval x,born:=clock}) (clock+1))→wpList P ops Q rest (a.put op.dst undef) W'):wpList P ops Q (op::rest) a w:=by
  have hs:=MapKept.heap_set (w:=w) (o':= .map (es.push { key:= .int .i64 n,val:=a.eval x,born:=clock}) (clock+1)) hb;(refine wpList_plain hgd fun K hK=> ?_);unfold Oper.wp execOp;simp only[ho,hm0,hk0,run_insert_i mty kt et r clock es n (a.eval x) w hm hk hb hf,Sem.run_bind,Result.andThen_ok,Sem.run_pure];exact hK _ _ (h _ ⟨rfl,rfl,rfl,by simp,fun g hg=>hs.2 g (by omega)⟩ (by simp) hs.1)
theorem run_lookup_is {P:Program}(mty kt et:TypeId)(r clock:Nat)(es:Array MapEntry)(n:Int)(i:Nat)(v:Value)(w:World)(hm:P.underlying mty=some (.map kt et))(hk:P.underlying kt=some (.int .i64))(hb:w.heap[r]? = some (.map es clock))
 (hf:Instr.findNow (.int .i64) (.int .i64 n) es.toList 0=some (some (i,v))):(Instr.lookup mty (.map (some r)) (.int .i64 n) true).run P w = .ok (.tuple #[v, .bool true]) w:=by
  (have hc : ∀b,(Instr.checkKey b 10000 kt (.int .i64 n)).run P w = .ok () w:=fun b=>MapKept.run_checkKey (k:= .int .i64 n) hk (by simp[MapKept.IsKey]) b 9999);simp[Instr.lookup,run_underlying hm,MapKept.run_getObj_map hb,hc,MapKept.run_findKey hk hf,Result.andThen]
theorem run_lookup_no {P:Program}(mty kt et:TypeId)(r clock:Nat)(es:Array MapEntry)(n:Int)(z:Value)(w:World)(hm:P.underlying mty=some (.map kt et))(hk:P.underlying kt=some (.int .i64))(hb:w.heap[r]? = some (.map es clock))
 (hz:(zeroValue et).run P w = .ok z w) (hf:Instr.findNow (.int .i64) (.int .i64 n) es.toList 0=some none):(Instr.lookup mty (.map (some r)) (.int .i64 n) true).run P w = .ok (.tuple #[z, .bool false]) w:=by
  (have hc : ∀b,(Instr.checkKey b 10000 kt (.int .i64 n)).run P w = .ok () w:=fun b=>MapKept.run_checkKey (k:= .int .i64 n) hk (by simp[MapKept.IsKey]) b 9999);simp[Instr.lookup,run_underlying hm,MapKept.run_getObj_map hb,hc,MapKept.run_findKey hk hf,hz,Result.andThen]
end Go.Proofs.YtpbmbpefophlfaaGreatDoor
