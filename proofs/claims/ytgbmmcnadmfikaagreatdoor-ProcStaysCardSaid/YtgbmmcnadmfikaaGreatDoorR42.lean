import Derived.Test.YtgbmmcnadmfikaaGreatDoorR40
import Derived.Test.YtgbmmcnadmfikaaGreatDoorR37
namespace Go.Proofs.YtgbmmcnadmfikaaGreatDoor
open Go.RowKit Go.Shelf
theorem do_shut {k:KernL}{p:Int}{c:CallL}(hl:liveB k.ps p=true)(h:c.kind=2):doK k p c=shutK k p c.fd:=by unfold doK;rw[if_neg (by rw[hl];simp;omega),if_neg (by omega),if_pos h]
theorem close_row {t:TabL}{a n:Nat}(ha:a<t.fs.length)(hn:n<(t.fs[a]).length) :
 ∃r,(closeT t (a:Int) (n:Int)).1.fs=t.fs.set a r∧r.length=(t.fs[a]).length∧(∀j:Nat,j≠n→r.getD j 0=(t.fs[a]).getD j 0)∧r.getD n 0<0:=by
 (have hrow:rowT t (a:Int)=t.fs[a]:=by unfold rowT;rw[Int.toNat_natCast,getD_at ha]);unfold closeT
 cases hh:hasT t (a:Int) (n:Int)with
 | false =>
    rw[if_pos rfl];refine⟨t.fs[a],by rw[List.set_getElem_self],rfl,fun _ _=>rfl,?_⟩;unfold hasT inT atR at hh;rw[hrow,decide_eq_true (show(0:Int)≤(a:Int)by omega),decide_eq_true (show(a:Int)<(t.fs.length:Int)by omega),decide_eq_true (show(0:Int)≤(n:Int)by omega),decide_eq_true (show(n:Int)<((t.fs[a]).length:Int)by omega),Int.toNat_natCast]at hh;have:=of_decide_eq_false (show decide (0≤(t.fs[a]).getD n 0)=false by simpa using hh);omega
 | true =>
    rw[if_neg (by decide)];refine⟨(t.fs[a]).set n (-1),?_,List.length_set,fun j hj=> ?_,?_⟩
    · show putF t.fs (a:Int).toNat (n:Int).toNat (-1)=_
      unfold putF;rw[Int.toNat_natCast,Int.toNat_natCast,getD_at ha]
    · rw[List.getD_eq_getElem?_getD,List.getD_eq_getElem?_getD,List.getElem?_set_ne (Ne.symm hj)]
    · rw[List.getD_eq_getElem?_getD,List.getElem?_set_self hn]
      decide
theorem shut_tp (k:KernL)(p fd:Int):(shutK k p fd).1.t=(closeT k.t p fd).1∧(shutK k p fd).1.ps=k.ps:=by
 unfold shutK;by_cases h:(closeT k.t p fd).2.2=0
 · rw[if_neg (by rw[h];decide)]
   exact⟨rfl,rfl⟩
 · rw[if_pos h]
   refine⟨?_,rfl⟩;unfold closeT at h ⊢;by_cases hh:hasT k.t p fd=false
   · rw[if_pos hh]
   · rw[if_neg hh]at h
     exact absurd rfl h
theorem shut_kst {c:Nat}{k:KernL}(h:KSt c k){p:Int}(hl:liveB k.ps p=true)(fd:Int):KSt c (shutK k p fd).1:=by
 refine⟨right_shut h.rig hl fd,?_,?_⟩
 · unfold shutK
   split
   · exact h.siz
   · refine⟨h.siz.1,h.siz.2.1,?_,?_⟩
     · show NamC c (if _ then _ else _)
       split
       · exact h.siz.2.2.1.opened _ _
       · exact h.siz.2.2.1
     · show(closeT k.t p fd).1.ds.length≤c
       have e:(closeT k.t p fd).1.ds.length=k.t.ds.length:=by
        unfold closeT;split
        · rfl
        · exact List.length_set
       rw[e];exact h.siz.2.2.2
 · unfold shutK
   split
   · exact h.pos
   · exact posT_close h.pos _ _
def closeC (n:Int):CallL:=⟨2,n,0,0,0,0,[],[],[]⟩
def closeN (k:KernL)(p:Int):Nat→KernL
 | 0=>k
 | n+1=>(doK (closeN k p n) p (closeC n)).1
structure Shut (c:Nat) (k:KernL) (a n:Nat) (m:KernL):Prop where
 st:KSt c m
 ps:m.ps=k.ps
 row : ∀h:a<m.t.fs.length,∀j:Nat,j<n→(m.t.fs[a]).getD j 0<0
theorem RigK.row {k:KernL}(h:RigK k){a:Nat}(ha:a<k.t.fs.length):(k.t.fs[a]).length=8:=(h.tab.1 _ (List.getElem_mem ha)).1
theorem shut_next {c:Nat}{k:KernL}{a n:Nat}{m:KernL}(h:Shut c k a n m)(hl:liveB k.ps (a:Int)=true)(hn:n<8):Shut c k a (n+1) (doK m (a:Int) (closeC n)).1:=by
 (have hlm:liveB m.ps (a:Int)=true:=by rw[h.ps];exact hl);have e:doK m (a:Int) (closeC n)=shutK m (a:Int) (n:Int):=do_shut hlm rfl;have hd:=shut_kst h.st hlm (n:Int);rw[e];obtain⟨e1,e2⟩:=shut_tp m (a:Int) (n:Int);refine⟨hd,e2.trans h.ps,?_⟩;rw[e1]
 have ha:a<m.t.fs.length:=by
  obtain⟨b,hb,hbe,_,_⟩:=live_in hlm;have:=h.st.rig.procs;have:=h.st.rig.eight;omega
 obtain⟨r,hr,hlen,hne,hat⟩:=close_row (n:=n) ha (by rw[h.st.rig.row ha];exact hn);rw[hr];intro h2 j hj;rw[List.getElem_set_self];by_cases ej:j=n
 · rw[ej];exact hat
 · rw[hne j ej]
   exact h.row ha j (by omega)
theorem shut_count {c:Nat}{k:KernL}{a:Nat}{m:KernL}(h:Shut c k a 8 m):countT m.t (a:Int)=0:=by
 unfold countT;split
 · rename_i hi
   have ha:a<m.t.fs.length:=by
    unfold inT at hi;simp only[Bool.and_eq_true,decide_eq_true_iff]at hi;omega
   (have hrow:rowT m.t (a:Int)=m.t.fs[a]:=by unfold rowT;rw[Int.toNat_natCast,getD_at ha]);rw[hrow];unfold countR;rw[List.countP_eq_zero];intro x hx;obtain⟨j,hj,rfl⟩:=List.mem_iff_getElem.1 hx;have h8:=h.st.rig.row ha;have:=h.row ha j (by omega);rw[getD_at hj]at this;simp;omega
 · rfl
def deadP (x:ProcL):ProcL:= { x with live:=false}
def leaveK (k:KernL)(i:Int):KernL:=⟨openedL k.l i (-1),k.most,k.room,k.t,k.ps⟩
def killK (m:KernL)(p:Int):KernL:=⟨openedL m.l (procL m.ps p).cwd (-1),m.most,m.room,m.t,m.ps.set p.toNat (deadP (procL m.ps p))⟩
theorem set_live {ps:List ProcL}{a:Nat}(ha:a<ps.length)(x:ProcL)(q:Nat):liveB (ps.set a x) (q:Int)=(if q=a then x.live else liveB ps (q:Int))∧procL (ps.set a x) (q:Int)=if q=a then x else procL ps (q:Int):=by
 rcases Nat.lt_or_ge q ps.length with hq | hq
 · obtain⟨a1,a2⟩:=live_at hq
   obtain⟨b1,b2⟩:=live_at (ps:=ps.set a x) (a:=q) (by rw[List.length_set];exact hq);rw[a1,a2,b1,b2,List.getElem_set];by_cases e:a=q
   · subst e;simp
   · rw[if_neg e,if_neg (Ne.symm e),if_neg (Ne.symm e)]
     exact⟨rfl,rfl⟩
 · have hne:q≠a:=by omega
   rw[live_off (ps:=ps.set a x) (by rw[List.length_set];exact hq),live_off hq,if_neg hne,if_neg hne];refine⟨rfl,?_⟩;unfold procL;rw[Int.toNat_natCast,List.getD_eq_getElem?_getD,List.getD_eq_getElem?_getD,List.getElem?_eq_none (by rw[List.length_set];exact hq),List.getElem?_eq_none hq]
theorem opensP_dead {ps:List ProcL}{a:Nat}(ha:a<ps.length)(hl:(ps[a]).live=true)(j:Int):opensP (ps.set a (deadP ps[a])) j+(if(ps[a]).cwd=j then 1 else 0)=opensP ps j:=by
 have:=countP_set1 ps (fun x=>x.live && decide (x.cwd=j)) a ha (deadP ps[a]);have h2:((deadP ps[a]).live && decide ((deadP ps[a]).cwd=j))=false:=rfl;simp only[hl,Bool.true_and,decide_eq_true_iff]at this;rw[h2]at this;have h3:(if(false:Bool)=true then 1 else 0)=(0:Nat):=rfl;rw[h3]at this;exact this
theorem right_killed {k:KernL}(h:RigK k){p:Int}(hl:liveB k.ps p=true)(hc:countT k.t p=0):RigK (killK k p):=by
 obtain⟨a,ha,rfl,e,hla⟩:=live_in hl;obtain⟨o,ho,ho2,hopen⟩:=h.cwd_open hl;unfold killK;rw[ho,e,Int.toNat_natCast];rw[e]at ho
 obtain⟨w,hk⟩:=h.w.move (g:=opensN ⟨openedL k.l (o:Int) (-1),k.most,k.room,k.t,k.ps.set a (deadP k.ps[a])⟩) (i:=o) (by rw[ho2];decide) (b:= -1) (fun j=>by
  have:=opensP_dead ha hla j;rw[ho]at this;unfold opensN;show((opensD k.t.ds j+opensP (k.ps.set a (deadP k.ps[a])) j:Nat):Int)=((opensD k.t.ds j+opensP k.ps j:Nat):Int)+_;by_cases e2:j=(o:Int)
  · rw[if_pos e2.symm]at this;rw[if_pos e2];omega
  · rw[if_neg (Ne.symm e2)]at this;rw[if_neg e2];omega)
 refine rig_w w h.tab h.eight (by show(k.ps.set a (deadP k.ps[a])).length≤8;rw[List.length_set];exact h.procs) (fun q hq hlq=> ?_) (fun q hlq=> ?_)
 · by_cases eq:q=a
   · rw[eq];exact hc
   · exact h.idle q hq (by have h1:=(set_live ha (deadP k.ps[a]) q).1;rw[if_neg eq]at h1;exact h1.symm.trans hlq)
 · have hlq':liveB (k.ps.set a (deadP k.ps[a])) (q:Int)=true:=hlq
   obtain⟨s1,s2⟩:=set_live ha (deadP k.ps[a]) q;by_cases eq:q=a
   · rw[if_pos eq]at s1
     rw[s1]at hlq'
     cases hlq'
   · rw[if_neg eq]at s1 s2
     have hlk:liveB k.ps (q:Int)=true:=s1.symm.trans hlq';obtain⟨c1,c2,c3⟩:=h.cwd q hlk;obtain⟨oq,hoq,hoq2,_⟩:=h.cwd_open hlk;show(nodeL (openedL k.l (o:Int) (-1)) (procL (k.ps.set a (deadP k.ps[a])) q).cwd).kind=2∧0≤(procL (k.ps.set a (deadP k.ps[a])) q).umask∧(procL (k.ps.set a (deadP k.ps[a])) q).umask≤63;rw[s2,hoq]
     have hok:=hk oq (by rw[hoq2];decide) (by
      have:=live_pos (k:=⟨openedL k.l (o:Int) (-1),k.most,k.room,k.t,k.ps.set a (deadP k.ps[a])⟩) (p:=(q:Int)) hlq' (j:=(oq:Int)) (by show(procL (k.ps.set a (deadP k.ps[a])) q).cwd=_;rw[s2];exact hoq);unfold opensN
      omega)
     refine⟨?_,c2,c3⟩;rw[nodeL_nd (by rw[hok,hoq2];decide),hok];exact hoq2
theorem cellsP_dead (ps:List ProcL)(a:Nat)(ha:a<ps.length):(cellsP ps).set (a*4+3) (.bool false)=cellsP (ps.set a (deadP ps[a])):=by
 induction ps generalizing a with
 | nil=>exact absurd ha (Nat.not_lt_zero _)
 | cons x ps ih =>
    cases a with
    | zero =>
       simp only[List.set_cons_zero,List.getElem_cons_zero,cellsP_cons];rfl
    | succ a =>
       have:=ih a (by simpa using ha);simp only[List.set_cons_succ,List.getElem_cons_succ,cellsP_cons];rw[←this];have l4:(prcells x).length=4:=rfl;rw[List.set_append_right _ _ (by rw[l4];omega),l4,show(a+1)*4+3-4=a*4+3 by omega]
theorem own_dead {W:World}{base g cap:Nat}{cur:Array Value}{ps:List ProcL}{a:Nat}(ha:a<ps.length)(hg:base≤g)(h1:ps.length≤cap)(h2:cap≤maxLen)(h3:cur.size=cap*4)(h4:cur.toList.take (ps.length*4)=cellsP ps)(hW:W.heap[g]? = some (.cells (cur.setIfInBounds (a*4+3) (.bool false)) 75 (0,0))) :
 W.ownsRow base 75 4 (.slice (some ⟨g,0,none⟩) (ps.set a (deadP ps[a])).length cap) (ps.set a (deadP ps[a])).length (cellsP (ps.set a (deadP ps[a]))):=by
 refine⟨cellsP_len _, .inr ⟨g,cap,_,rfl,hg,hW,by rw[List.length_set];exact h1,h2,by rw[Array.size_setIfInBounds];exact h3,?_⟩⟩;rw[Array.toList_setIfInBounds,List.length_set,List.take_set,h4];exact cellsP_dead ps a ha
theorem PsX.c3 {ps:List ProcL}{b off cp:Nat}{X:Nat→Prop}{W:World}(h:PsX ps (.slice (some ⟨b,off,none⟩) ps.length cp) X W)(a:Nat)(ha:a<ps.length):W.cell? ⟨b,off+a*4+3,none⟩=some (.bool (ps[a]).live):=by
 obtain⟨b1,off1,e,_,_,_,c3⟩:=PsX.proc h a ha;injection e with e;injection e with e1 e2;subst e1;subst e2;exact c3
theorem Sf.only {X:Nat→Prop}{w W:World}{B:List Bl}{G:List Thing}(h:Sf X w B G W){G':List Thing}(hG : ∀P∈G',Firm P∧P (Xo X (B.map (·.1))) W):Sf X w B G' W:=⟨h.bel,h.old,h.blk,h.nd,hG⟩
theorem Sf.thing {X:Nat→Prop}{w W:World}{B:List Bl}{G:List Thing}(h:Sf X w B G W)(j:Nat){P:Thing}(hj:G[j]? = some P):Firm P∧P (Xo X (B.map (·.1))) W:=h.gv P (List.mem_of_getElem? hj)
theorem th4' {P Q R V:Thing}{X:Nat→Prop}{W:World}(hp:Firm P∧P X W)(hq:Firm Q∧Q X W)(hr:Firm R∧R X W)(hv:Firm V∧V X W) : ∀T∈ [P,Q,R,V],Firm T∧T X W:=fun T hT=>by
 simp only[List.mem_cons,List.not_mem_nil,or_false]at hT;rcases hT with rfl | rfl | rfl | rfl<;>assumption
theorem size_killed {c:Nat}{k:KernL}(h:KrnS c k)(p:Int):KrnS c (killK k p):=⟨h.1,h.2.1,h.2.2.1.opened _ _,h.2.2.2⟩
end Go.Proofs.YtgbmmcnadmfikaaGreatDoor
