import Derived.Test.YtmiekcdkamgknaaGreatDoorR35
import Derived.Test.YtmiekcdkamgknaaGreatDoorR24
import Derived.Test.YtmiekcdkamgknaaGreatDoorR25
namespace Go.Proofs.YtmiekcdkamgknaaGreatDoor
theorem countP_set1 {α:Type}(l:List α)(q:α→Bool)(k:Nat)(h:k<l.length)(v:α):(l.set k v).countP q+(if q l[k]=true then 1 else 0)=l.countP q+(if q v=true then 1 else 0):=by
 induction l generalizing k with
 | nil=>exact absurd h (Nat.not_lt_zero _)
 | cons a l ih =>
    cases k with
    | zero=>simp only[List.set_cons_zero,List.countP_cons,List.getElem_cons_zero];omega
    | succ k =>
       have:=ih k (by simpa using h);simp only[List.set_cons_succ,List.countP_cons,List.getElem_cons_succ];omega
def opB (j:Int)(d:DescL):Bool:=decide (0<d.refs) && decide (d.ino=j)
theorem opB_iff {j:Int}{d:DescL}:opB j d=true↔0<d.refs∧d.ino=j:=by unfold opB;simp only[Bool.and_eq_true,decide_eq_true_iff]
theorem opensD_set {ds:List DescL}{i:Nat}(hi:i<ds.length)(d:DescL)(j:Int):opensD (ds.set i d) j+(if 0<(ds[i]).refs∧(ds[i]).ino=j then 1 else 0)=opensD ds j+(if 0<d.refs∧d.ino=j then 1 else 0):=by
 have:=countP_set1 ds (opB j) i hi d;simp only[opB_iff]at this;exact this
theorem opens_open {t:TabL}{p:Int}{x:DescL}(h:(openT t p x).2.2=0)(j:Int):opensD (openT t p x).1.ds j=opensD t.ds j+if x.ino=j then 1 else 0:=by
 obtain⟨a,rfl,ha,hf,e⟩:=open_ok h;rw[e];show opensD (putD1 t.ds (freeD t.ds) { x with refs:=1}) j=_;unfold putD1;split
 · unfold opensD
   rw[List.countP_append,List.countP_singleton];by_cases hj:x.ino=j
   · rw[if_pos hj,if_pos (by rw[decide_eq_true (show({ x with refs:=1}:DescL).ino=j from hj)];rfl)]
   · rw[if_neg hj,if_neg (by rw[decide_eq_false (show ¬({ x with refs:=1}:DescL).ino=j from hj)];simp)]
 · rename_i hne
   (have hlt:freeD t.ds<t.ds.length:=by have:=free_le t.ds;omega);have h1:=opensD_set hlt { x with refs:=1} j;have h2:=free_lt hlt;have h3:((0:Int)<({ x with refs:=1}:DescL).refs∧({ x with refs:=1}:DescL).ino=j)↔x.ino=j:=⟨fun h=>h.2,fun h=>⟨(by decide:(0:Int)<1),h⟩⟩;rw[if_neg (by omega)]at h1;simp only[h3]at h1;omega
theorem count_row {t t':TabL}{q:Int}(h1:inT t' q=inT t q)(h2:rowT t' q=rowT t q):countT t' q=countT t q:=by unfold countT;rw[h1,h2]
theorem row_far {t:TabL}{ds':List DescL}{a k:Nat}{v q:Int}(hne:(a:Int)≠q)(hq:0≤q):rowT ⟨ds',putF t.fs a k v⟩ q=rowT t q:=by
 obtain⟨b,rfl⟩:=Int.eq_ofNat_of_zero_le hq;exact row_other (by omega)
theorem other_openT {t:TabL}{p q:Int}{x:DescL}(h:(openT t p x).2.2=0)(hne:p≠q)(hq:0≤q):countT (openT t p x).1 q=countT t q∧(openT t p x).1.fs.length=t.fs.length:=by
 obtain⟨a,rfl,ha,hf,e⟩:=open_ok h;rw[e];exact⟨count_row in_put (row_far hne hq),putF_len _ _ _ _⟩
theorem open_goes {t:TabL}(hr:RightT t){p:Int}(hp:inT t p=true)(hc:countT t p≠8)(x:DescL):(openT t p x).2.2=0:=by
 unfold openT;obtain⟨a,rfl,ha⟩:=in_T hp;have h8:=(row_right hr ha).1;rw[if_neg (by rw[hp];decide),if_neg];intro hle;refine hc ?_;unfold countT countR;rw[if_pos hp,←h8,List.countP_eq_length];intro v hv;obtain⟨m,hm,rfl⟩:=List.mem_iff_getElem.1 hv;obtain⟨_,h0⟩:=first_min (r:=rowT t (a:Int)) (k:=m) (by omega);exact decide_eq_true h0
end Go.Proofs.YtmiekcdkamgknaaGreatDoor
namespace Go.Proofs.YtmiekcdkamgknaaGreatDoor
structure OpnW (l:List NodeL) (most room:Int) (f:Int→Nat):Prop where
 disk:rightR l most room=true
 got : ∀j:Int,0<f j→gotB l j=true
 opn : ∀j:Nat,(nd l j).kind≠0→(nd l j).opn=f j
theorem atN_kind {i:Nat}{n:NodeL}{b:Int}(h:0<n.opn+b):(atN i n b).kind=n.kind∧(atN i n b).opn=n.opn+b:=by
 unfold atN;rw[if_neg (by omega)];exact⟨rfl,rfl⟩
theorem OpnW.move {l:List NodeL}{most room:Int}{f g:Int→Nat}(h:OpnW l most room f){i:Nat}(hik:(nd l i).kind≠0){b:Int}(hg : ∀j:Int,(g j:Int)=f j+if j=i then b else 0) :
 OpnW (openedL l (i:Int) b) most room g∧∀j:Nat,(nd l j).kind≠0→0<g j→(nd (openedL l (i:Int) b) j).kind=(nd l j).kind:=by
 have hi:=h.opn i hik;have hgi:=hg i;rw[if_pos rfl]at hgi
 have hkind : ∀j:Nat,(nd l j).kind≠0→0<g j→(nd (openedL l (i:Int) b) j).kind=(nd l j).kind:=fun j hj hpos=>by
  rw[opened_nd hik];split
  · rename_i e
    subst e;exact(atN_kind (by omega)).1
  · rfl
 refine⟨⟨opened_right h.disk hik (by omega),fun j hj=> ?_,fun j hj=> ?_⟩,hkind⟩
 · have hold:gotB l j=true:=by
    by_cases e:j=i
    · rw[e];exact(got_nd l i).2 hik
    · refine h.got j ?_
      have:=hg j;rw[if_neg e]at this;omega
   obtain⟨n,rfl,_,hn⟩:=got_nat hold;rw[got_nd,hkind n hn hj];exact hn
 · rw[opened_nd hik]at hj ⊢
   split
   · rename_i e
     subst e;rw[if_pos rfl]at hj;unfold atN at hj ⊢;split
     · rename_i hc;rw[if_pos hc]at hj;exact absurd rfl hj
     · show(nd l j).opn+b=_
       omega
   · rename_i e
     rw[if_neg e]at hj;have:=hg j;rw[if_neg (by omega)]at this;rw[h.opn j hj];omega
theorem RigK.w {k:KernL}(h:RigK k):OpnW k.l k.most k.room (opensN k):=by
 refine⟨h.disk,fun j hj=> ?_,h.opn⟩;unfold opensN at hj;by_cases hd:0<opensD k.t.ds j
 · obtain⟨d,hdm,hr,rfl⟩:=opensD_pos.1 hd
   exact h.ino d hdm hr
 · obtain⟨x,hx,hl,rfl⟩:=opensP_pos.1 (show 0<opensP k.ps j by omega)
   obtain⟨p,hp,rfl⟩:=List.mem_iff_getElem.1 hx;obtain⟨e1,e2⟩:=live_at hp;obtain⟨n,hn,h2,_⟩:=h.cwd_open (p:=(p:Int)) (by rw[e1];exact hl);rw[←e2,hn,got_nd,h2];decide
theorem rig_w {k:KernL}(w:OpnW k.l k.most k.room (opensN k))(tab:RightT k.t)(eight:k.t.fs.length=8)(procs:k.ps.length≤8)(idle : ∀p:Nat,p<8→liveB k.ps p=false→countT k.t p=0)
 (cwd : ∀p:Nat,liveB k.ps p=true→(nodeL k.l (procL k.ps p).cwd).kind=2∧0≤(procL k.ps p).umask∧(procL k.ps p).umask≤63):RigK k :=
  ⟨w.disk,tab,eight,procs,idle,cwd,fun d hd hr=>w.got _ (by have:=opensD_pos.2 ⟨d,hd,hr,rfl⟩;unfold opensN;omega),w.opn⟩
theorem live_pos {k:KernL}{p:Int}(hl:liveB k.ps p=true){j:Int}(hj:(procL k.ps p).cwd=j):0<opensP k.ps j:=by
 obtain⟨a,ha,rfl,e,h1⟩:=live_in hl;exact opensP_pos.2 ⟨k.ps[a],List.getElem_mem ha,h1,by rw[←e];exact hj⟩
theorem RigK.in_live {k:KernL}(h:RigK k){p:Int}(hl:liveB k.ps p=true):inT k.t p=true:=by
 obtain⟨a,ha,rfl,_,_⟩:=live_in hl;exact in_natT (by have:=h.procs;have:=h.eight;omega)
theorem live_ne {ps:List ProcL}{p:Int}{q:Nat}(h:liveB ps p=true)(h2:liveB ps (q:Int)=false):p≠(q:Int):=by
 rintro rfl;rw[h]at h2
 cases h2
theorem right_openAt {k:KernL}(h:RigK k){p:Int}(hl:liveB k.ps p=true)(hc:countT k.t p≠8){i:Nat}(hik:(nd k.l i).kind≠0){x:DescL}(hx:x.ino=i):RigK ⟨openedL k.l (i:Int) 1,k.most,k.room,(openT k.t p x).1,k.ps⟩:=by
 have h0:=open_goes h.tab (h.in_live hl) hc x
 obtain⟨w,hk⟩:=h.w.move (g:=opensN ⟨openedL k.l (i:Int) 1,k.most,k.room,(openT k.t p x).1,k.ps⟩) hik (b:=1) (fun j=>by
  unfold opensN;show((opensD (openT k.t p x).1.ds j+opensP k.ps j:Nat):Int)=_;rw[opens_open h0,hx];by_cases e:j=(i:Int)
  · rw[if_pos e.symm,if_pos e];omega
  · rw[if_neg (Ne.symm e),if_neg e];omega)
 refine rig_w w (right_open h.tab p x) ?_ h.procs (fun q hq hlq=> ?_) (fun q hlq=> ?_)
 · exact((other_openT h0 (q:=p+1) (by omega) (by obtain⟨a,_,rfl,_⟩:=live_in hl;omega)).2).trans h.eight
 · exact((other_openT h0 (live_ne hl hlq) (by omega)).1).trans (h.idle q hq hlq)
 · obtain⟨j,hj,h2,_⟩:=h.cwd_open hlq
   refine⟨?_,(h.cwd q hlq).2⟩;have:=hk j (by rw[h2];decide) (by have h9:=live_pos (k:=k) hlq hj;unfold opensN;show 0<_+opensP k.ps (j:Int);omega);show(nodeL (openedL k.l (i:Int) 1) (procL k.ps q).cwd).kind=2;rw[hj,nodeL_nd (by rw[this,h2];decide),this,h2]
theorem data_keep {l l':List NodeL}(h:DataO l l') : ∀j:Nat,((nd l j).kind=0→(nd l' j).kind=0)∧(nd l' j).kind=(nd l j).kind∧(nd l' j).opn=(nd l j).opn:=fun j=>by
 have:=h.nd j;exact⟨fun h=>this.1.trans h,this.1,this.2.1⟩
theorem right_data {k:KernL}(h:RigK k){l':List NodeL}(hr:rightR l' k.most k.room=true)(hd:DataO k.l l'):RigK (withD k l'):=by
 have hk:=data_keep hd
 have hn : ∀i:Int,gotB k.l i=true→gotB l' i=true∧(nodeL l' i).kind=(nodeL k.l i).kind:=fun i hi=>by
  obtain⟨j,rfl,_,hj⟩:=got_nat hi;have h1:=(hk j).2.1;(have h2:(nd l' j).kind≠0:=by rw[h1];exact hj);exact⟨(got_nd l' j).2 h2,by rw[nodeL_nd h2,nodeL_nd hj,h1]⟩
 refine⟨hr,h.tab,h.eight,h.procs,h.idle,fun p hl=> ?_,fun d hd hd0=>(hn _ (h.ino d hd hd0)).1,fun j hj=> ?_⟩
 · obtain⟨j,hj,h2,_⟩:=h.cwd_open hl
   refine⟨?_,(h.cwd p hl).2⟩;show(nodeL l' (procL k.ps p).cwd).kind=2;rw[(hn _ (by rw[hj,got_nd,h2];decide)).2];exact(h.cwd p hl).1
 · have hj:(nd l' j).kind≠0:=hj
   rw[(hk j).2.1]at hj;show(nd l' j).opn=_;rw[(hk j).2.2];exact h.opn j hj
theorem mkfile_ent {l:List NodeL}{most room who fr:Int}(h:rightR l most room=true){path:Str}{mode:Int}(hE:(mkfileL l most room who fr path mode).2.2=0) :
 ∃(s:SpotL) (d p:Nat),walkL l who fr path false=(s,0)∧Entered l (mkfileL l most room who fr path mode).1 who fr path s d p (ownN (fileN mode) who)∧(mkfileL l most room who fr path mode).2.1=p:=by
 unfold mkfileL at hE ⊢;split at hE
 · rename_i hw;exact absurd hE hw
 · rename_i hw
   have hw:=Decidable.of_not_not hw;split at hE
   · cases hE
   · rename_i hs
     rw[if_neg (by rw[hw];decide),if_neg hs]
     have hn: ¬0≤(walkL l who fr path false).1.ino:=fun h0=>by
      unfold enterL at hE;rw[if_pos (by unfold freeE;rw[if_pos h0];decide)]at hE;unfold freeE at hE;rw[if_pos h0]at hE
      cases hE
     (have hsl:(walkL l who fr path false).1.slash=true→(fileN mode).kind=2:=fun h1=>absurd ⟨h1,by omega⟩ hs);obtain⟨d,p,hent,hp⟩:=entered_of h (s:=(walkL l who fr path false).1) (by rw[←hw]) (n:=fileN mode) (.inl rfl) (file_loc mode who) rfl (fun h=>by cases h) hsl hE;exact⟨_,d,p,by rw[←hw],hent,hp⟩
theorem mkfile_got {l:List NodeL}{most room who fr:Int}(h:rightR l most room=true){path:Str}{mode:Int}(hE:(mkfileL l most room who fr path mode).2.2=0) :
 ∃i:Nat,(mkfileL l most room who fr path mode).2.1=i∧(nd (mkfileL l most room who fr path mode).1 i).kind≠0:=by
 obtain⟨s,d,p,_,e,hp⟩:=mkfile_ent h hE;refine⟨p,hp,?_⟩;rw[e.nds,if_neg e.pd,if_pos rfl];exact(by decide:(1:Int)≠0)
theorem right_open1 {k:KernL}(h:RigK k){p:Int}(hl:liveB k.ps p=true)(hc:countT k.t p≠8)(fr:Int)(c:CallL):RigK (openFrom k p fr c).1:=by
 unfold openFrom;split
 · exact h
 · rename_i hw
   have hw:=Decidable.of_not_not hw;split
   · unfold openNew
     split
     · exact h
     · split
       · exact h
       · unfold openAt
         split
         · exact h
         · rename_i hE
           have hE:=Decidable.of_not_not hE;have hR:=right_keep h (right_mkfile h.disk (procL k.ps p).who fr c.path (maskI c.mode (procL k.ps p).umask)) (keep_mkfile h.rightP c.path _);obtain⟨i,hi,hik⟩:=mkfile_got h.disk hE;rw[hi];exact right_openAt hR hl hc hik rfl
   · rename_i hi
     unfold openOld openAt;split
     · exact h
     · have hg:gotB k.l (walkL k.l (procL k.ps p).who fr c.path (followB c.flags)).1.ino=true:=(walk_ino h.rightP _ _ _ _ hw).resolve_left (by omega)
       obtain⟨i,e,_,hik⟩:=got_nat hg;rw[e]
       have hO:DataO k.l (fitL k.l k.room (procL k.ps p).who i c.flags (onlyB c.flags)).1:=by
        unfold fitL;split
        · exact .inl rfl
        · split
          · exact cut_O _ _ _ _
          · exact .inl rfl
       have hF:rightR (fitL k.l k.room (procL k.ps p).who i c.flags (onlyB c.flags)).1 k.most k.room=true:=by
        unfold fitL;split
        · exact h.disk
        · split
          · exact cut_right h.disk _ _
          · exact h.disk
       exact right_openAt (right_data h hF hO) hl hc (by have e:=(hO.nd i).1;show(nd (fitL k.l k.room (procL k.ps p).who i c.flags (onlyB c.flags)).1 i).kind≠0;rw[e];exact hik) rfl
theorem opensP_set {ps:List ProcL}{a:Nat}(ha:a<ps.length)(hl:(ps[a]).live=true)(i:Int)(j:Int):opensP (ps.set a (cwdP ps[a] i)) j+(if(ps[a]).cwd=j then 1 else 0)=opensP ps j+(if i=j then 1 else 0):=by
 have:=countP_set1 ps (fun x=>x.live && decide (x.cwd=j)) a ha (cwdP ps[a] i);simp only[hl,Bool.true_and,decide_eq_true_iff]at this
 have h2:((cwdP ps[a] i).live && decide ((cwdP ps[a] i).cwd=j))=decide (i=j):=by
  show((ps[a]).live && _)=_;rw[hl];rfl
 rw[h2]at this;simp only[decide_eq_true_iff]at this;exact this
theorem right_chdir {k:KernL}(h:RigK k){p:Int}(hl:liveB k.ps p=true){i:Nat}(hi:(nd k.l i).kind=2):RigK (chdirK k p i).1:=by
 obtain⟨a,ha,rfl,e,hla⟩:=live_in hl;obtain⟨o,ho,ho2,_⟩:=h.cwd_open hl;unfold chdirK;rw[ho,e,Int.toNat_natCast];rw[e]at ho;obtain⟨w1,k1⟩:=h.w.move (g:=fun j=>opensN k j+if j=(i:Int)then 1 else 0) (i:=i) (by rw[hi];decide) (b:=1) (fun j=>by by_cases e:j=(i:Int)<;>simp[e])
 have hok:(nd (openedL k.l (i:Int) 1) o).kind=2:=by
  rw[k1 o (by rw[ho2];decide) (by have:=live_pos (k:=k) hl (j:=(o:Int)) (by rw[e];exact ho);unfold opensN;omega)];exact ho2
 obtain⟨w2,k2⟩:=w1.move (g:=opensN ⟨openedL (openedL k.l (i:Int) 1) (o:Int) (-1),k.most,k.room,k.t,k.ps.set a (cwdP k.ps[a] i)⟩) (i:=o) (by rw[hok];decide) (b:= -1) (fun j=>by
  have:=opensP_set ha hla (i:Int) j;rw[ho]at this;unfold opensN;show((opensD k.t.ds j+opensP (k.ps.set a (cwdP k.ps[a] i)) j:Nat):Int)=_;by_cases e1:j=(i:Int)
  · by_cases e2:j=(o:Int)
    · rw[if_pos e1.symm,if_pos e2.symm]at this;rw[if_pos e1,if_pos e2];omega
    · rw[if_pos e1.symm,if_neg (Ne.symm e2)]at this;rw[if_pos e1,if_neg e2];omega
  · by_cases e2:j=(o:Int)
    · rw[if_neg (Ne.symm e1),if_pos e2.symm]at this;rw[if_neg e1,if_pos e2];omega
    · rw[if_neg (Ne.symm e1),if_neg (Ne.symm e2)]at this;rw[if_neg e1,if_neg e2];omega)
 have hlive : ∀q:Nat,liveB (k.ps.set a (cwdP k.ps[a] i)) q=liveB k.ps q∧(procL (k.ps.set a (cwdP k.ps[a] i)) q).umask=(procL k.ps q).umask∧(procL (k.ps.set a (cwdP k.ps[a] i)) q).cwd=if q=a then(i:Int)else(procL k.ps q).cwd:=fun q=>by
  rcases Nat.lt_or_ge q k.ps.length with hq | hq
  · obtain⟨a1,a2⟩:=live_at hq
    obtain⟨b1,b2⟩:=live_at (ps:=k.ps.set a (cwdP k.ps[a] i)) (a:=q) (by rw[List.length_set];exact hq);rw[a1,a2,b1,b2,List.getElem_set];by_cases e:a=q
    · subst e
      rw[if_pos rfl,if_pos rfl];exact⟨rfl,rfl,rfl⟩
    · rw[if_neg e,if_neg (Ne.symm e)]
      exact⟨rfl,rfl,rfl⟩
  · have z : ∀l:List ProcL,l.length≤q→liveB l (q:Int)=false∧procL l (q:Int)=zeroP:=fun l hl=>by
     refine⟨?_,?_⟩
     · unfold liveB;rw[decide_eq_false (show ¬(q:Int)<(l.length:Int)by omega)];simp
     · unfold procL;rw[Int.toNat_natCast,List.getD_eq_getElem?_getD,List.getElem?_eq_none hl];rfl
    obtain⟨a1,a2⟩:=z _ hq;obtain⟨b1,b2⟩:=z (k.ps.set a (cwdP k.ps[a] i)) (by rw[List.length_set];exact hq);rw[a1,a2,b1,b2,if_neg (by omega)];exact⟨rfl,rfl,rfl⟩
 refine rig_w w2 h.tab h.eight (by show(k.ps.set _ _).length≤8;rw[List.length_set];exact h.procs) (fun q hq hlq=>h.idle q hq (by rw[←(hlive q).1];exact hlq)) (fun q hlq=> ?_);(have hlq':liveB k.ps q=true:=by rw[←(hlive q).1];exact hlq);refine⟨?_,?_⟩
 · obtain⟨j,hj,hk⟩ : ∃j:Nat,(procL (k.ps.set a (cwdP k.ps[a] i)) q).cwd=j∧(nd k.l j).kind=2:=by
    rw[(hlive q).2.2];by_cases e:q=a
    · rw[if_pos e];exact⟨i,rfl,hi⟩
    · rw[if_neg e]
      obtain⟨j,hj,h2,_⟩:=h.cwd_open hlq';exact⟨j,hj,h2⟩
   have hpos:=live_pos (k:=⟨openedL (openedL k.l (i:Int) 1) (o:Int) (-1),k.most,k.room,k.t,k.ps.set a (cwdP k.ps[a] i)⟩) hlq hj
   have hg1:0<opensN k j+if(j:Int)=(i:Int)then 1 else 0:=by
    by_cases e:(j:Int)=(i:Int)
    · rw[if_pos e];omega
    · rw[if_neg e]
      have:=opensP_set ha hla (i:Int) (j:Int);rw[if_neg (Ne.symm e)]at this;have hpos':0<opensP (k.ps.set a (cwdP k.ps[a] i)) (j:Int):=hpos;unfold opensN;omega
   have e1:=k1 j (by rw[hk];decide) hg1;have e2:=k2 j (by rw[e1,hk];decide) (by unfold opensN;show 0<_+opensP (k.ps.set a (cwdP k.ps[a] i)) _;have hpos':0<opensP (k.ps.set a (cwdP k.ps[a] i)) (j:Int):=hpos;omega);show(nodeL (openedL (openedL k.l (i:Int) 1) (o:Int) (-1)) (procL (k.ps.set a (cwdP k.ps[a] i)) q).cwd).kind=2;rw[hj,nodeL_nd (by rw[e2,e1,hk];decide),e2,e1,hk]
 · show 0≤(procL (k.ps.set a (cwdP k.ps[a] i)) q).umask∧(procL (k.ps.set a (cwdP k.ps[a] i)) q).umask≤63
   rw[(hlive q).2.1];exact(h.cwd q hlq').2
theorem right_looked {k:KernL}(h:RigK k){p:Int}(hl:liveB k.ps p=true)(c:CallL):RigK (lookedK k p c).1:=by
 unfold lookedK;split
 · exact h
 · split
   · exact h
   · rename_i hw
     have hw:=Decidable.of_not_not hw;obtain⟨i,hi,hk,_,_⟩:=wnode_got h.disk _ _ _ _ hw;rw[hi];unfold lookAt;split;exact h;split;exact h;split;exact h;split;exact h;rename_i h2;split;exact h;exact right_chdir h hl (by rw[nodeL_nd hk]at h2;exact Decidable.of_not_not h2)
def Kd (n:Int):Prop:=n=12∨n=14
theorem right_do {k:KernL}(h:RigK k)(p:Int)(c:CallL)(hkd:Kd c.kind):RigK (doK k p c).1:=by
 unfold doK;split
 · exact h
 · rename_i hb
   have hl:liveB k.ps p=true:=by
    cases e:liveB k.ps p with
    | true=>rfl
    | false=>exact absurd (.inl e) hb
   split
   · unfold openK
     split;exact h;split;exact h;rename_i hc;split;exact h;exact right_open1 h hl hc _ _
   split;(exfalso;unfold Kd at hkd;omega);split;(exfalso;unfold Kd at hkd;omega);split;(exfalso;unfold Kd at hkd;omega);split;exact right_looked h hl c
   (exfalso;unfold Kd at hkd;omega)
end Go.Proofs.YtmiekcdkamgknaaGreatDoor
namespace Go.Proofs.YtmiekcdkamgknaaGreatDoor
section
variable (l:List NodeL) (most room who fr:Int) (path:Str)
theorem enter_err (s:SpotL)(n:NodeL)(h:(enterL l most room who s n).2.2≠0):(enterL l most room who s n).1=l:=by
 unfold enterL at h ⊢;split
 · rfl
 · split
   · rfl
   · rename_i h1 h2;rw[if_neg h1,if_neg h2]at h;exact absurd rfl h
theorem mkdir_err (mode:Int)(h:(mkdirL l most room who fr path mode).2≠0):(mkdirL l most room who fr path mode).1=l:=by
 unfold mkdirL at h ⊢;split
 · rfl
 · rename_i h1;rw[if_neg h1]at h;exact enter_err _ _ _ _ _ _ h
theorem symlink_err (text:Str)(h:(symlinkL l most room who fr text path).2≠0):(symlinkL l most room who fr text path).1=l:=by
 unfold symlinkL at h ⊢;split;rfl;split;rfl;split;rfl;split;rfl;rename_i h1 h2 h3 h4;rw[if_neg h1,if_neg h2,if_neg h3,if_neg h4]at h;exact enter_err _ _ _ _ _ _ h
theorem link_err (old:Str)(h:(linkL l who fr old path).2≠0):(linkL l who fr old path).1=l:=by
 unfold linkL at h ⊢;split;rfl;split;rfl;split;rfl;split;rfl;split;rfl;rename_i h1 h2 h3 h4 h5;rw[if_neg h1,if_neg h2,if_neg h3,if_neg h4,if_neg h5]at h;exact absurd rfl h
theorem unlink_err (h:(unlinkL l who fr path).2≠0):(unlinkL l who fr path).1=l:=by
 unfold unlinkL at h ⊢;split;rfl;split;rfl;split;rfl;rename_i h1 h2 h3;rw[if_neg h1,if_neg h2,if_neg h3]at h;exact absurd rfl h
theorem rmdir_err (h:(rmdirL l who fr path).2≠0):(rmdirL l who fr path).1=l:=by
 unfold rmdirL at h ⊢;split;rfl;split;rfl;rename_i h1 h2;rw[if_neg h1,if_neg h2]at h;exact absurd rfl h
theorem rename_err (who2 fr2:Int)(old:Str)(h:(renameL l who fr who2 fr2 old path).2≠0):(renameL l who fr who2 fr2 old path).1=l:=by
 unfold renameL at h ⊢;split;rfl;split;rfl;split;rfl;split;rfl;rename_i h1 h2 h3 h4;rw[if_neg h1,if_neg h2,if_neg h3,if_neg h4]at h;exact absurd rfl h
theorem chmod_err (mode:Int)(h:(chmodL l who fr path mode).2≠0):(chmodL l who fr path mode).1=l:=by
 unfold chmodL at h ⊢;split;rfl;split;rfl;rename_i h1 h2;rw[if_neg h1,if_neg h2]at h;exact absurd rfl h
end
theorem change_err (k:KernL)(who umask fr:Int)(c:CallL)(h:(changeL k who umask fr c).2≠0):(changeL k who umask fr c).1=k.l:=by
 unfold changeL at h ⊢
 split;· rename_i h1;rw[if_pos h1]at h;exact mkdir_err _ _ _ _ _ _ _ h
 rename_i h1;rw[if_neg h1]at h
 split;· rename_i h1;rw[if_pos h1]at h;exact rmdir_err _ _ _ _ h
 rename_i h1;rw[if_neg h1]at h
 split;· rename_i h1;rw[if_pos h1]at h;exact unlink_err _ _ _ _ h
 rename_i h1;rw[if_neg h1]at h
 split;· rename_i h1;rw[if_pos h1]at h;exact link_err _ _ _ _ _ h
 rename_i h1;rw[if_neg h1]at h
 split;· rename_i h1;rw[if_pos h1]at h;exact symlink_err _ _ _ _ _ _ _ h
 rename_i h1;rw[if_neg h1]at h
 split;· rename_i h1;rw[if_pos h1]at h;exact chmod_err _ _ _ _ _ h
 rfl
def Whole (k:KernL)(R:DoL):Prop:=R.2.e≠0→R.1=k∧R.2=errR R.2.e
theorem Whole.err (k:KernL)(e:Int):Whole k (k,errR e):=fun _=>⟨rfl,rfl⟩
theorem Whole.ok {k:KernL}{R:DoL}(h:R.2.e=0):Whole k R:=fun h2=>absurd h h2
theorem whole_at (k:KernL)(p flags:Int)(l:List NodeL)(i e:Int):Whole k (openAt k p flags l i e):=by
 unfold openAt;split
 · exact Whole.err k _
 · exact Whole.ok rfl
theorem whole_open (k:KernL)(p:Int)(c:CallL):Whole k (openK k p c):=by
 unfold openK;split;exact Whole.err k _;split;exact Whole.err k _;split;exact Whole.err k _;unfold openFrom;split;exact Whole.err k _;split
 · unfold openNew
   split;exact Whole.err k _;split;exact Whole.err k _;exact whole_at _ _ _ _ _ _
 · exact whole_at _ _ _ _ _ _
theorem whole_do (k:KernL)(p:Int)(c:CallL):Whole k (doK k p c):=by
 unfold doK;split;exact Whole.err k _;split;exact whole_open k p c;split
 · unfold shutK
   split;exact Whole.err k _;exact Whole.ok rfl
 split
 · unfold descK
   split;exact Whole.err k _;split
   · unfold readK
     split;exact Whole.err k _;exact Whole.ok rfl
   split
   · unfold writeK
     split;exact Whole.err k _;exact Whole.ok rfl
   split
   · unfold listK
     split;exact Whole.err k _;exact Whole.ok rfl
   split
   · unfold flockK
     split;exact Whole.err k _;exact Whole.ok rfl
   unfold dupK;split;exact Whole.err k _;exact Whole.ok rfl
 split
 · unfold renamedK
   split;exact Whole.err k _;split;exact Whole.err k _;intro h;refine⟨?_,rfl⟩;show withD k _=k;rw[rename_err _ _ _ _ _ _ _ h];rfl
 split
 · unfold lookedK
   split;exact Whole.err k _;split;exact Whole.err k _;unfold lookAt;split;exact Whole.ok rfl;split;exact Whole.err k _;split;exact Whole.ok rfl;split;exact Whole.err k _;split;exact Whole.err k _;exact Whole.ok rfl
 unfold changedK;split;exact Whole.err k _;intro h;refine⟨?_,rfl⟩;show withD k _=k;rw[change_err _ _ _ _ _ h];rfl
theorem put_len1 (es:List EntL)(e:EntL):(putL es e).length≤es.length+1:=by
 have h:(lo es e.1).length+(hi es e.1).length≤es.length:=by
  unfold lo hi
  induction es with
  | nil=>exact Nat.le_refl _
  | cons a es ih =>
     simp only[List.filter_cons];by_cases h1:a.1<e.1
     · have h2: ¬e.1<a.1:=fun h=>List.lt_irrefl _ (List.lt_trans h1 h)
       rw[decide_eq_true h1,decide_eq_false h2];simp only[if_true,Bool.false_eq_true,if_false,List.length_cons];omega
     · rw[decide_eq_false h1]
       by_cases h2:e.1<a.1
       · rw[decide_eq_true h2]
         simp only[if_true,Bool.false_eq_true,if_false,List.length_cons];omega
       · rw[decide_eq_false h2]
         simp only[Bool.false_eq_true,if_false,List.length_cons];omega
 unfold putL;rw[List.length_append,List.length_cons];omega
def NamC (c:Nat)(l:List NodeL):Prop:=∀n∈l,n.names.length≤c
theorem NamC.mono {c c':Nat}{l:List NodeL}(h:NamC c l)(hc:c≤c'):NamC c' l:=fun n hn=>Nat.le_trans (h n hn) hc
theorem NamC.node {c:Nat}{l:List NodeL}(h:NamC c l)(i:Int):(nodeL l i).names.length≤c:=by
 unfold nodeL atI;split
 · rw[List.getD_eq_getElem?_getD]
   rcases Nat.lt_or_ge i.toNat l.length with hi | hi
   · rw[List.getElem?_eq_getElem hi];exact h _ (List.getElem_mem hi)
   · rw[List.getElem?_eq_none hi];exact Nat.zero_le _
 · exact Nat.zero_le _
theorem NamC.set {c:Nat}{l:List NodeL}(h:NamC c l){n:NodeL}(hn:n.names.length≤c)(i:Int):NamC c (setL l i n):=by
 unfold setL;split
 · intro m hm
   rcases List.mem_or_eq_of_mem_set hm with hm | rfl
   · exact h m hm
   · exact hn
 · exact h
theorem NamC.named {c:Nat}{l:List NodeL}(h:NamC c l)(s:SpotL)(i:Int):NamC (c+1) (namedL l s i) :=
 (h.mono (Nat.le_succ c)).set (n:=putN (nodeL l s.dir) s.name i) (by have h1:=put_len1 (nodeL l s.dir).names (s.name,i);have h2:=h.node s.dir;show(putL (nodeL l s.dir).names (s.name,i)).length≤_;omega) s.dir
theorem NamC.dropped {c:Nat}{l:List NodeL}(h:NamC c l)(s:SpotL):NamC c (droppedL l s):=h.set (n:=dropN (nodeL l s.dir) s.name) (Nat.le_trans (List.length_filter_le _ _) (h.node s.dir)) s.dir
theorem NamC.settle {c:Nat}{l:List NodeL}(h:NamC c l)(i:Int):NamC c (settleL l i):=by
 unfold settleL;split
 · exact h.set (Nat.zero_le _) i
 · exact h
theorem NamC.lost {c:Nat}{l:List NodeL}(h:NamC c l)(s:SpotL):NamC c (lostL l s):=((h.dropped s).set (n:=lessN (nodeL (droppedL l s) s.ino)) ((h.dropped s).node s.ino) s.ino).settle s.ino
theorem NamC.opened {c:Nat}{l:List NodeL}(h:NamC c l)(i b:Int):NamC c (openedL l i b):=(h.set (n:=opnN (nodeL l i) b) (h.node i) i).settle i
theorem NamC.add {c:Nat}{l:List NodeL}(h:NamC c l){n:NodeL}(hn:n.names.length≤c)(most room:Int):NamC c (addL l most room n):=by
 unfold addL;split
 · exact h
 · split
   · intro m hm
     rcases List.mem_append.1 hm with hm | hm
     · exact h m hm
     · obtain rfl:=List.mem_singleton.1 hm
       exact hn
   · intro m hm
     rcases List.mem_or_eq_of_mem_set hm with hm | rfl
     · exact h m hm
     · exact hn
theorem NamC.enter {c:Nat}{l:List NodeL}(h:NamC c l){n:NodeL}(hn:n.names = [])(most room who:Int)(s:SpotL):NamC (c+1) (enterL l most room who s n).1:=by
 unfold enterL;split
 · exact h.mono (Nat.le_succ c)
 · split
   · exact h.mono (Nat.le_succ c)
   · exact(h.add (n:=ownN n who) (by rw[show(ownN n who).names = []from hn];exact Nat.zero_le _) most room).named s _
theorem NamC.moved {c:Nat}{l:List NodeL}(h:NamC c l)(s t:SpotL):NamC c (movedL l s t):=by
 unfold movedL;split
 · exact(h.dropped s).lost t
 · exact h.dropped s
theorem NamC.kept {c:Nat}{l:List NodeL}(h:NamC c l)(room i:Int)(d:Nm):NamC c (keptL l room i d).1:=by
 unfold keptL;split
 · exact h
 · exact h.set (n:=dataN (getL l i) d) (by rw[getL_nodeL];exact h.node i) i
section
variable {c:Nat} {l:List NodeL} (h:NamC c l)
include h
theorem namC_mkfile (most room who fr:Int)(path:Str)(mode:Int):NamC (c+1) (mkfileL l most room who fr path mode).1:=by
 unfold mkfileL;split;exact h.mono (Nat.le_succ c);split;exact h.mono (Nat.le_succ c);exact h.enter rfl _ _ _ _
theorem namC_write (room i a:Int)(s:Nm):NamC c (writeL l room i a s).1:=by
 unfold writeL;split;exact h;split;exact h;split;exact h;split;exact h;exact h.kept _ _ _
theorem namC_cut (room i n:Int):NamC c (cutL l room i n).1:=by
 unfold cutL;split;exact h;split;exact h;split;exact h.kept _ _ _;split;exact h;exact h.kept _ _ _
theorem namC_rename (who fr who2 fr2:Int)(old path:Str):NamC (c+1) (renameL l who fr who2 fr2 old path).1:=by
 have h1:=h.mono (Nat.le_succ c);unfold renameL;split;exact h1;split;exact h1;split;exact h1;split;exact h1;unfold moveL;exact((h.moved _ _).named _ _).set (n:=placeN _ _) (((h.moved _ _).named _ _).node _) _
end
theorem namC_change {c:Nat}{k:KernL}(h:NamC c k.l)(who umask fr:Int)(x:CallL):NamC (c+1) (changeL k who umask fr x).1:=by
 have h1:=h.mono (Nat.le_succ c);unfold changeL;split
 · unfold mkdirL
   split;exact h1;exact h.enter rfl _ _ _ _
 split
 · unfold rmdirL
   split;exact h1;split;exact h1;exact h1.lost _
 split
 · unfold unlinkL
   split;exact h1;split;exact h1;split;exact h1;exact h1.lost _
 split
 · unfold linkL
   split;exact h1;split;exact h1;split;exact h1;split;exact h1;split;exact h1;exact(h.set (n:=moreN _) (h.node _) _).named _ _
 split
 · unfold symlinkL
   split;exact h1;split;exact h1;split;exact h1;split;exact h1;exact h.enter rfl _ _ _ _
 split
 · unfold chmodL
   split;exact h1;split;exact h1;exact h1.set (n:=modeN _ _) (h1.node _) _
 exact h1
def KrnS (c:Nat)(k:KernL):Prop:=k.most≤100∧k.room≤1000∧NamC c k.l∧k.t.ds.length≤c
theorem KrnS.mono {c c':Nat}{k:KernL}(h:KrnS c k)(hc:c≤c'):KrnS c' k:=⟨h.1,h.2.1,h.2.2.1.mono hc,Nat.le_trans h.2.2.2 hc⟩
theorem len_openT (t:TabL)(p:Int)(x:DescL):(openT t p x).1.ds.length≤t.ds.length+1:=by
 unfold openT;split
 · exact Nat.le_succ _
 · split
   · exact Nat.le_succ _
   · show(putD1 _ _ _).length≤_
     rw[putD1_len];split<;>omega
theorem len_dupT (t:TabL)(p fd:Int):(dupT t p fd).1.ds.length=t.ds.length:=by
 unfold dupT;split
 · rfl
 · split
   · rfl
   · exact List.length_set ..
theorem len_closeT (t:TabL)(p fd:Int):(closeT t p fd).1.ds.length=t.ds.length:=by
 unfold closeT;split
 · rfl
 · exact List.length_set ..
theorem len_setT (t:TabL)(i:Int)(x:DescL):(setT t i x).ds.length=t.ds.length:=by
 unfold setT;split
 · rfl
 · exact List.length_set ..
theorem size_at {c:Nat}{k:KernL}(h:KrnS c k){l:List NodeL}(hl:NamC (c+1) l)(p flags i e:Int):KrnS (c+1) (openAt k p flags l i e).1:=by
 unfold openAt;split
 · exact h.mono (Nat.le_succ c)
 · exact⟨h.1,h.2.1,hl.opened _ _,by have:=len_openT k.t p (newD flags i);have:=h.2.2.2;show(openT _ _ _).1.ds.length≤_;omega⟩
theorem size_do {c:Nat}{k:KernL}(h:KrnS c k)(p:Int)(x:CallL):KrnS (c+1) (doK k p x).1:=by
 have h1:=h.mono (Nat.le_succ c);(have tab : ∀ {t:TabL},t.ds.length≤k.t.ds.length→KrnS (c+1) (withT k t):=fun ht=>⟨h1.1,h1.2.1,h1.2.2.1,Nat.le_trans ht h1.2.2.2⟩);unfold doK;split;exact h1;split
 · unfold openK
   split;exact h1;split;exact h1;split;exact h1;unfold openFrom;split;exact h1;split
   · unfold openNew
     split;exact h1;split;exact h1;exact size_at h (namC_mkfile h.2.2.1 _ _ _ _ _ _) _ _ _ _
   · refine size_at h ?_ _ _ _ _
     unfold fitL;split;exact h1.2.2.1;split
     · exact namC_cut h1.2.2.1 _ _ _
     · exact h1.2.2.1
 split
 · unfold shutK
   split;exact h1;refine⟨h1.1,h1.2.1,?_,by show(closeT _ _ _).1.ds.length≤_;rw[len_closeT];exact h1.2.2.2⟩;show NamC _ (if _ then _ else _);split
   · exact h1.2.2.1.opened _ _
   · exact h1.2.2.1
 split
 · unfold descK
   split;exact h1;split
   · unfold readK
     split;exact h1;exact tab (Nat.le_of_eq (len_setT _ _ _))
   split
   · unfold writeK
     split;exact h1;exact⟨h1.1,h1.2.1,namC_write h1.2.2.1 _ _ _ _,by show(setT _ _ _).ds.length≤_;rw[len_setT];exact h1.2.2.2⟩
   split
   · unfold listK
     split<;>exact h1
   split
   · unfold flockK
     split;exact h1;exact tab (Nat.le_of_eq (lock_len _ _ _))
   unfold dupK;split;exact h1;exact tab (Nat.le_of_eq (len_dupT _ _ _))
 split
 · unfold renamedK
   split;exact h1;split;exact h1;exact⟨h1.1,h1.2.1,namC_rename h.2.2.1 _ _ _ _ _ _,h1.2.2.2⟩
 split
 · unfold lookedK
   split;exact h1;split;exact h1;unfold lookAt;split;exact h1;split;exact h1;split;exact h1;split;exact h1;split;exact h1;exact⟨h1.1,h1.2.1,(h1.2.2.1.opened _ _).opened _ _,h1.2.2.2⟩
 unfold changedK;split;exact h1;exact⟨h1.1,h1.2.1,namC_change h.2.2.1 _ _ _ _,h1.2.2.2⟩
theorem small_right {c:Nat}{k:KernL}(h:RigK k)(hs:KrnS c k):k.l.length≤100∧∀n∈k.l,n.data.length≤1000∧n.names.length≤c:=by
 obtain⟨hR,h0,hl,hb⟩:=(right_iff _ _ _).1 h.disk;have h1:=hs.1;have h2:=hs.2.1;refine⟨by omega,fun n hn=>⟨?_,hs.2.2.1 n hn⟩⟩;obtain⟨i,hi,rfl⟩:=List.mem_iff_getElem.1 hn;rw[←nd_lt hi];by_cases hk:(nd k.l i).kind=0
 · rw[hR.zero i hk];exact Nat.zero_le _
 · by_cases h2:(nd k.l i).kind=2
   · rw[(hR.loc i hk).2.2.1 h2];exact Nat.zero_le _
   · have hp:=(hR.loc i hk).1
     unfold plainB at hp;simp only[Bool.and_eq_true,decide_eq_true_iff]at hp
     have hw:weightL (nd k.l i)=(nd k.l i).data.length:=by
      unfold weightL;rw[if_pos (by omega)]
     have:=bytes_set hi zeroN;have hz:weightL zeroN=0:=rfl;omega
end Go.Proofs.YtmiekcdkamgknaaGreatDoor
