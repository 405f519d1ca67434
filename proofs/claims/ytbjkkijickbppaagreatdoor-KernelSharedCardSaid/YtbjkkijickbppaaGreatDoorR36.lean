import Derived.Test.YtbjkkijickbppaaGreatDoorR30
import Derived.Test.YtbjkkijickbppaaGreatDoorR28
import Derived.Test.YtbjkkijickbppaaGreatDoorR20
namespace Go.Proofs.YtbjkkijickbppaaGreatDoor
def LikeD (x y:DescL):Prop:=x.ino=y.ino∧x.rd=y.rd∧x.wr=y.wr
def OwnT2 (t t':TabL)(q:Int):Prop:=∀m:Int,hasT t' q m=hasT t q m∧placeT t' q m=placeT t q m∧LikeD (foundT t' q m) (foundT t q m)
theorem OwnT2.rfl' (t:TabL)(q:Int):OwnT2 t t q:=fun _=>⟨rfl,rfl,rfl,rfl,rfl⟩
def Owns (k k':KernL)(q:Int):Prop:=k'.ps.length=k.ps.length∧(∀a:Nat,q=a→k'.ps[a]? = k.ps[a]?)∧OwnT2 k.t k'.t q
theorem Owns.rfl' (k:KernL)(q:Int):Owns k k q:=⟨rfl,fun _ _=>rfl,OwnT2.rfl' _ _⟩
end Go.Proofs.YtbjkkijickbppaaGreatDoor
namespace Go.Proofs.YtbjkkijickbppaaGreatDoor
theorem do_live {k:KernL}{p:Int}{c:CallL}(h:(doK k p c).2.e=0):liveB k.ps p=true∧1≤c.kind∧c.kind≤17:=by
 unfold doK at h;split at h
 · cases h
 · rename_i hb
   refine⟨?_,by omega,by omega⟩
   cases e:liveB k.ps p with
   | true=>rfl
   | false=>exact absurd (.inl e) hb
theorem do_desc {k:KernL}{p:Int}(hl:liveB k.ps p=true){c:CallL}(hc:c.kind=3∨c.kind=4∨c.kind=13∨c.kind=15∨c.kind=17):doK k p c=descK k p c:=by
 unfold doK;rw[if_neg (by rw[hl];simp;omega),if_neg (by omega),if_neg (by omega),if_pos hc]
theorem bad_has {k:KernL}{p:Int}{c:CallL}(h:badB k p c=false):hasT k.t p c.fd=true:=by
 cases e:hasT k.t p c.fd with
 | true=>rfl
 | false=>unfold badB at h;rw[e]at h;cases h
theorem bad_read {k:KernL}{p:Int}{c:CallL}(hc:c.kind=3):badB k p c=(!hasT k.t p c.fd || !(foundT k.t p c.fd).rd):=by
 unfold badB;rw[decide_eq_true (show c.kind=3∨c.kind=13 from .inl hc),decide_eq_false (show ¬c.kind=4 by omega)];simp
theorem read_zero {l:List NodeL}{i a n:Int}(h:(readL l i a n).2=0):fileE l i=0∧0≤a∧0≤n∧readL l i a n=(partD (getL l i).data a n,0):=by
 unfold readL at h ⊢;split at h
 · rename_i h1;exact absurd h h1
 · rename_i h1
   split at h
   · cases h
   · rename_i h2
     rw[if_neg h1,if_neg h2];exact⟨Decidable.of_not_not h1,by omega,by omega,rfl⟩
theorem read_goes {l:List NodeL}{i a n:Int}(h:fileE l i=0)(ha:0≤a)(hn:0≤n):readL l i a n=(partD (getL l i).data a n,0):=by
 unfold readL;rw[if_neg (by rw[h];decide),if_neg (by omega)]
theorem do_read {k:KernL}{p:Int}(hl:liveB k.ps p=true){c:CallL}(hc:c.kind=3)(hb:badB k p c=false):doK k p c=readK k (placeT k.t p c.fd) (foundT k.t p c.fd) c.n:=by
 rw[do_desc hl (.inl hc)];unfold descK;rw[if_neg (by rw[hb];decide),if_pos hc]
theorem read_ok {k:KernL}{p:Int}{c:CallL}(hc:c.kind=3)(h:(doK k p c).2.e=0):liveB k.ps p=true∧hasT k.t p c.fd=true∧(foundT k.t p c.fd).rd=true∧fileE k.l (foundT k.t p c.fd).ino=0∧0≤(foundT k.t p c.fd).pos∧0≤c.n
 ∧ doK k p c=(withT k (setT k.t (placeT k.t p c.fd) (posD (foundT k.t p c.fd) (partD (getL k.l (foundT k.t p c.fd).ino).data (foundT k.t p c.fd).pos c.n).length)),textR (partD (getL k.l (foundT k.t p c.fd).ino).data (foundT k.t p c.fd).pos c.n)):=by
 have hl:=(do_live h).1
 cases hb:badB k p c with
 | true =>
    rw[do_desc hl (.inl hc)]at h;unfold descK at h;rw[if_pos hb]at h
    cases h
 | false =>
    have hh:=bad_has hb;rw[bad_read hc,hh]at hb;(have hrd:(foundT k.t p c.fd).rd=true:=by simpa using hb);(have hb:badB k p c=false:=by rw[bad_read hc,hh,hrd];rfl);rw[do_read hl hc hb]at h ⊢;unfold readK at h ⊢;split at h
    · rename_i h1;exact absurd h h1
    · rename_i h1
      obtain⟨e1,e2,e3,e4⟩:=read_zero (Decidable.of_not_not h1);refine⟨hl,hh,hrd,e1,e2,e3,?_⟩;rw[if_neg h1,e4]
theorem read_does {k:KernL}{p:Int}{c:CallL}(hc:c.kind=3)(hl:liveB k.ps p=true)(hh:hasT k.t p c.fd=true)(hrd:(foundT k.t p c.fd).rd=true)(h1:fileE k.l (foundT k.t p c.fd).ino=0)(h2:0≤(foundT k.t p c.fd).pos)(h3:0≤c.n) :
 doK k p c=(withT k (setT k.t (placeT k.t p c.fd) (posD (foundT k.t p c.fd) (partD (getL k.l (foundT k.t p c.fd).ino).data (foundT k.t p c.fd).pos c.n).length)),textR (partD (getL k.l (foundT k.t p c.fd).ino).data (foundT k.t p c.fd).pos c.n)):=by
 rw[do_read hl hc (by rw[bad_read hc,hh,hrd];rfl)];unfold readK;rw[read_goes h1 h2 h3,if_neg (by simp)]
theorem part_len (d:Nm)(i n:Nat):(partD d i n).length=min n (d.length-i):=by
 have h1 : ∀m,m<(partD d i n).length↔m<min n (d.length-i):=fun m=>by
  (have h2:(partD d i n)[m]?≠ none↔m<(partD d i n).length:=by rw[ne_eq,List.getElem?_eq_none_iff];omega);rw[←h2,part_get];split
  · rw[ne_eq,List.getElem?_eq_none_iff];omega
  · simp;omega
 have h2:=h1 (partD d i n).length;have h3:=h1 (min n (d.length-i));omega
theorem part_seq (d:Nm)(i a b:Nat):partD d i (a+b:Nat)=partD d i a++partD d (i+(partD d i a).length:Nat) b:=by
 rw[part_two];congr 1;apply List.ext_getElem?;intro j;rw[part_get,part_get,part_len];split
 · by_cases h:a≤d.length-i
   · rw[show min a (d.length-i)=a by omega]
   · rw[List.getElem?_eq_none (by omega),List.getElem?_eq_none (by omega)]
 · rfl
theorem dup_old {t:TabL}(hr:RightT t){p fd:Int}(h:(dupT t p fd).2.2=0):hasT (dupT t p fd).1 p fd=true∧placeT (dupT t p fd).1 p fd=placeT t p fd∧LikeD (foundT (dupT t p fd).1 p fd) (foundT t p fd)∧(foundT (dupT t p fd).1 p fd).pos=(foundT t p fd).pos
 ∧ LikeD (foundT (dupT t p fd).1 p (dupT t p fd).2.1) (foundT t p fd)∧(foundT (dupT t p fd).1 p (dupT t p fd).2.1).pos=(foundT t p fd).pos:=by
 obtain⟨b1,b2,b3,_⟩:=back_dup hr h;obtain⟨hh,a,rfl,ha,hf,e⟩:=dup_ok h;obtain⟨a',m,ea,rfl,_,hm,h0⟩:=has_T hh;(obtain rfl:a=a':=by omega);obtain⟨i,hi,hil,hrf⟩:=place_T hr ha hm h0;obtain⟨g1,g2⟩:=found_at hh hi hil;have hneg:=first_lt hf
 have hne:m≠firstR (rowT t (a:Int)):=by
  rintro rfl;rw[at_R hm]at h0;omega
 (have hrow:rowT (dupT t (a:Int) (m:Int)).1 (a:Int)=(rowT t (a:Int)).set (firstR (rowT t (a:Int))) (placeT t (a:Int) (m:Int)):=by rw[e];exact row_same ha);have hm':m<(rowT (dupT t (a:Int) (m:Int)).1 (a:Int)).length:=by rw[hrow,List.length_set];exact hm
 have hget:(rowT (dupT t (a:Int) (m:Int)).1 (a:Int))[m]=(i:Int):=by
  rw[getE_of hrow hm' (by rw[List.length_set];exact hm),List.getElem_set_ne (Ne.symm hne),←at_R hm,hi]
 (have hfs:(dupT t (a:Int) (m:Int)).1.fs.length=t.fs.length:=by rw[e];exact putF_len _ _ _ _);have h1:=has_nat (t:=(dupT t (a:Int) (m:Int)).1) (a:=a) (m:=m) (by omega) hm' (by rw[hget];omega);obtain⟨c1,c2⟩:=get_nat h1 hm';rw[hget]at c1 c2
 have hdesc:LikeD (descT (dupT t (a:Int) (m:Int)).1 (i:Int)) (foundT t a m)∧(descT (dupT t (a:Int) (m:Int)).1 (i:Int)).pos=(foundT t a m).pos:=by
  rw[e,g1,g2,Int.toNat_natCast];rw[desc_at (t:=⟨t.ds.set i _,_⟩) (by show i<(t.ds.set i _).length;rw[List.length_set];exact hil)];rw[List.getElem_set_self];exact⟨⟨rfl,rfl,rfl⟩,rfl⟩
 refine⟨h1,by rw[c1,g1],by rw[c2];exact hdesc.1,by rw[c2];exact hdesc.2,?_⟩;rw[found_eq,b2,b3,g1];exact hdesc
theorem law_shared {k:KernL}(h:RigK k)(p fd:Int)(a b:Nat){d x y z:CallL}(hd:d.kind=17∧d.fd=fd)(hx:x.kind=3∧x.fd=fd∧x.n=a)(hy:y.kind=3∧y.fd=(doK k p d).2.n∧y.n=b)(hz:z.kind=3∧z.fd=fd∧z.n=(a:Int)+b)
 (h1:(doK k p d).2.e=0) (h2:(doK (doK k p d).1 p x).2.e=0) :
 (doK (doK (doK k p d).1 p x).1 p y).2.e=0∧(doK k p z).2.e=0∧(doK k p z).2.s=(doK (doK k p d).1 p x).2.s++(doK (doK (doK k p d).1 p x).1 p y).2.s:=by
  have hl:=(do_live h1).1
  have hD:(dupT k.t p fd).2.2=0∧doK k p d=(withT k (dupT k.t p fd).1,numR (dupT k.t p fd).2.1):=by
   rw[do_desc hl (by omega)]at h1 ⊢;unfold descK at h1 ⊢;split at h1
   · cases h1
   · rename_i hb
     rw[if_neg (by omega),if_neg (by omega),if_neg (by omega),if_neg (by omega)]at h1;rw[if_neg hb,if_neg (by omega),if_neg (by omega),if_neg (by omega),if_neg (by omega)];unfold dupK at h1 ⊢;rw[hd.2]at h1 ⊢;split at h1
     · rename_i hE;exact absurd h1 hE
     · rename_i hE
       rw[if_neg hE];exact⟨Decidable.of_not_not hE,rfl⟩
  obtain⟨hE,eD⟩:=hD;obtain⟨o1,o2,o3,o4,o5,o6⟩:=dup_old h.tab hE;obtain⟨b1,b2,b3,_⟩:=back_dup h.tab hE;have hrt:=right_dup h.tab p fd;rw[eD]at h2 hy ⊢;dsimp only at h2 hy ⊢;obtain⟨-, -,r3,r4,r5,r6,eX⟩:=read_ok hx.1 h2;rw[hx.2.1,hx.2.2]at eX;rw[hx.2.1]at r3 r4 r5;rw[eX];have e5:(withT k (dupT k.t p fd).1).t=(dupT k.t p fd).1:=rfl;have e6:(withT k (dupT k.t p fd).1).l=k.l:=rfl;rw[e5]at r3;rw[e5,e6]at r4;rw[e5]at r5;rw[e5,e6];rw[o3.1]at r4;rw[o4]at r5;rw[o3.2.1]at r3;have eY:y.fd=(dupT k.t p fd).2.1:=hy.2.1;obtain⟨i,hi⟩:=Int.eq_ofNat_of_zero_le r5;have hs:=sets_get hrt (placeT k.t p fd) (posD (foundT (dupT k.t p fd).1 p fd) (partD (getL k.l (foundT k.t p fd).ino).data (foundT k.t p fd).pos a).length) p (dupT k.t p fd).2.1;obtain⟨s1,s2,s3,_⟩:=hs;rw[if_pos ⟨b2,b3⟩]at s3;have hZ:=read_does hz.1 hl (by rw[hz.2.1];exact b1) (by rw[hz.2.1];exact r3) (by rw[hz.2.1];exact r4) (by rw[hz.2.1];exact r5) (by rw[hz.2.2];omega);rw[hz.2.1,hz.2.2]at hZ
  have hY:=read_does (k:=withT (withT k (dupT k.t p fd).1) (setT (dupT k.t p fd).1 (placeT k.t p fd) (posD (foundT (dupT k.t p fd).1 p fd) (partD (getL k.l (foundT k.t p fd).ino).data (foundT k.t p fd).pos a).length))) (p:=p) (c:=y) hy.1 hl
   (by rw[eY];exact s1.trans b2)
   (by rw[eY];show(foundT (setT _ _ _) p _).rd=true;rw[s3];show(foundT (dupT k.t p fd).1 p fd).rd=true;rw[o3.2.1];exact r3)
   (by rw[eY];show fileE k.l (foundT (setT _ _ _) p _).ino=0;rw[s3];show fileE k.l (foundT (dupT k.t p fd).1 p fd).ino=0;rw[o3.1];exact r4)
   (by rw[eY];show 0≤(foundT (setT _ _ _) p _).pos;rw[s3];show 0≤(foundT (dupT k.t p fd).1 p fd).pos+_;rw[o4];omega)
   (by rw[hy.2.2];omega)
  have e7:(foundT (setT (dupT k.t p fd).1 (placeT k.t p fd) (posD (foundT (dupT k.t p fd).1 p fd) (partD (getL k.l (foundT k.t p fd).ino).data (foundT k.t p fd).pos a).length)) p (dupT k.t p fd).2.1).ino=(foundT k.t p fd).ino:=by rw[s3];exact o3.1
  have e8:(foundT (setT (dupT k.t p fd).1 (placeT k.t p fd) (posD (foundT (dupT k.t p fd).1 p fd) (partD (getL k.l (foundT k.t p fd).ino).data (foundT k.t p fd).pos a).length)) p (dupT k.t p fd).2.1).pos=(foundT k.t p fd).pos+(partD (getL k.l (foundT k.t p fd).ino).data (foundT k.t p fd).pos a).length:=by
   rw[s3];show(foundT (dupT k.t p fd).1 p fd).pos+_=_;rw[o4]
  rw[o2,o3.1,o4];rw[hY,hZ];refine⟨rfl,rfl,?_⟩;rw[eY,hy.2.2];show partD _ _ ((a:Int)+b)=partD _ _ _++partD (getL k.l (foundT (setT _ _ _) p _).ino).data (foundT (setT _ _ _) p _).pos _;rw[e7,e8,hi];exact part_seq _ i a b
end Go.Proofs.YtbjkkijickbppaaGreatDoor
namespace Go.Proofs.YtbjkkijickbppaaGreatDoor
structure OpenW (k:KernL) (p fr:Int) (c:CallL) (l:List NodeL) (i:Nat):Prop where
 live:liveB k.ps p=true
 cnt:countT k.t p≠8
 base:baseK k p c.fd=(fr,0)
 eq:doK k p c=(⟨openedL l i 1,k.most,k.room,(openT k.t p (newD c.flags i)).1,k.ps⟩,numR (openT k.t p (newD c.flags i)).2.1)
 kind:(nd l i).kind≠0
 rig:RigK (withD k l)
 way:(∃(s:SpotL) (d:Nat),hasF c.flags 4=true∧walkL k.l (procL k.ps p).who fr c.path false=(s,0)∧Entered k.l l (procL k.ps p).who fr c.path s d i (ownN (fileN (maskI c.mode (procL k.ps p).umask)) (procL k.ps p).who))
  ∨ ((walkL k.l (procL k.ps p).who fr c.path (followB c.flags)).2=0∧(walkL k.l (procL k.ps p).who fr c.path (followB c.flags)).1.ino=i∧(nd k.l i).kind≠0∧fitE (nd k.l i) (procL k.ps p).who c.flags (onlyB c.flags)=0
   ∧ l=(fitL k.l k.room (procL k.ps p).who i c.flags (onlyB c.flags)).1∧(fitL k.l k.room (procL k.ps p).who i c.flags (onlyB c.flags)).2=0)
theorem OpenW.after {k:KernL}(h:RigK k){p fr:Int}{c:CallL}{l:List NodeL}{i:Nat}(w:OpenW k p fr c l i):hasT (doK k p c).1.t p (doK k p c).2.n=true∧foundT (doK k p c).1.t p (doK k p c).2.n = { newD c.flags i with refs:=1}∧SameW l (doK k p c).1.l
 ∧ (nd (doK k p c).1.l i).kind=(nd l i).kind∧(nd (doK k p c).1.l i).data=(nd l i).data∧(nd (doK k p c).1.l i).kind≠0:=by
 have h0:=open_goes h.tab (h.in_live w.live) w.cnt (newD c.flags i);obtain⟨a1,a2,a3,_⟩:=back_open h.tab h0
 have hpos:0<(nd l i).opn+1:=by
  have:=w.rig.opn i w.kind;show 0<(nd (withD k l).l i).opn+1;omega
 rw[w.eq];refine⟨a1,a3,opened_seen w.kind (.inr (.inr hpos)),?_,?_,?_⟩
 · show(nd (openedL l i 1) i).kind=_
   rw[opened_nd w.kind,if_pos rfl];exact(atN_kind hpos).1
 · show(nd (openedL l i 1) i).data=_
   rw[opened_nd w.kind,if_pos rfl];unfold atN;rw[if_neg (by omega)];rfl
 · show(nd (openedL l i 1) i).kind≠0
   rw[opened_nd w.kind,if_pos rfl,(atN_kind hpos).1];exact w.kind
end Go.Proofs.YtbjkkijickbppaaGreatDoor
namespace Go.Proofs.YtbjkkijickbppaaGreatDoor
open Go.RowKit Go.Shelf
section
variable {W:World} {b:Nat} {v0 v1 v2 v3 v4 v5 v6 v7 v8 v9 v10 v11 v12 v13 v14 v15:Value} {t:TypeId} {f:Nat × Nat}
theorem w_disk (h:W.heap[b]? = some (.cells #[v0,v1,v2,v3,v4,v5,v6,v7,v8,v9,v10,v11,v12,v13,v14,v15] t f)):W.rangeAt b 0 [v0,v1,v2]:=fun j v hv=>by
 rw[Lib.cell_of_heap h]
 match j with
 | 0=>simpa using hv
 | 1=>simpa using hv
 | 2=>simpa using hv
 | j+3=>simp at hv
theorem w_tab (h:W.heap[b]? = some (.cells #[v0,v1,v2,v3,v4,v5,v6,v7,v8,v9,v10,v11,v12,v13,v14,v15] t f)):W.rangeAt b 3 [v3,v4]:=fun j v hv=>by
 rw[Lib.cell_of_heap h]
 match j with
 | 0=>simpa using hv
 | 1=>simpa using hv
 | j+2=>simp at hv
theorem w_kern (h:W.heap[b]? = some (.cells #[v0,v1,v2,v3,v4,v5,v6,v7,v8,v9,v10,v11,v12,v13,v14,v15] t f)):W.rangeAt b 0 [v0,v1,v2,v3,v4,v5]:=fun j v hv=>by
 rw[Lib.cell_of_heap h]
 match j with
 | 0=>simpa using hv
 | 1=>simpa using hv
 | 2=>simpa using hv
 | 3=>simpa using hv
 | 4=>simpa using hv
 | 5=>simpa using hv
 | j+6=>simp at hv
theorem cells16 (h:W.heap[b]? = some (.cells #[v0,v1,v2,v3,v4,v5,v6,v7,v8,v9,v10,v11,v12,v13,v14,v15] t f)) :
 W.cell? ⟨b,0,none⟩=some v0∧W.cell? ⟨b,1,none⟩=some v1∧W.cell? ⟨b,2,none⟩=some v2∧W.cell? ⟨b,3,none⟩=some v3∧W.cell? ⟨b,4,none⟩=some v4∧W.cell? ⟨b,5,none⟩=some v5∧W.cell? ⟨b,6,none⟩=some v6∧W.cell? ⟨b,7,none⟩=some v7∧W.cell? ⟨b,8,none⟩=some v8∧W.cell? ⟨b,9,none⟩=some v9∧W.cell? ⟨b,10,none⟩=some v10∧W.cell? ⟨b,11,none⟩=some v11∧W.cell? ⟨b,12,none⟩=some v12∧W.cell? ⟨b,13,none⟩=some v13∧W.cell? ⟨b,14,none⟩=some v14∧W.cell? ⟨b,15,none⟩=some v15:=by
 refine⟨?_,?_,?_,?_,?_,?_,?_,?_,?_,?_,?_,?_,?_,?_,?_,?_⟩<;>(rw[Lib.cell_of_heap h];rfl)
end
theorem heap_w2 {W:World}{b:Nat}{v0 v1 v2 v3 v4 v5 v6 v7 v8 v9 v10 v11 v12 v13 v14 v15 x0 x1:Value}{t:TypeId}(h:W.heap[b]? = some (.cells #[v0,v1,v2,v3,v4,v5,v6,v7,v8,v9,v10,v11,v12,v13,v14,v15] t (0,0))):(W.setCells b 3 [x0,x1]).heap[b]? = some (.cells #[v0,v1,v2,x0,x1,v5,v6,v7,v8,v9,v10,v11,v12,v13,v14,v15] t (0,0)):=by
 have h0:=heap_set (i:=3) (u:=x0) h;have h1:=heap_set (i:=4) (u:=x1) h0;exact h1
theorem wpList_store_w2 {P:Program}{ops:Array Oper}{rest:List Oper}{op:Oper}{a:Act}{w:World}{Q:Exit→Act→World→Prop}(hgd:op.guard=none)(ty:TypeId)(x y:Operand)(ho:op.op = .store ty x y)
 (b:Nat) {v0 v1 v2 v3 v4 v5 v6 v7 v8 v9 v10 v11 v12 v13 v14 v15 x0 x1:Value} {t:TypeId} (hx:a.eval x = .pointer (some ⟨b,3,none⟩)) (hy:a.eval y = .agg #[x0,x1]) (hb:w.heap[b]? = some (.cells #[v0,v1,v2,v3,v4,v5,v6,v7,v8,v9,v10,v11,v12,v13,v14,v15] t (0,0)))
 (hi:(P.info? ty).map (·.size)=some 2) (o0:x0.oneCell'=true) (o1:x1.oneCell'=true)
 (h : ∀W',Below b w W'→(∀g,g≠b→W'.heap[g]? = w.heap[g]?)→W'.heap.size=w.heap.size→W'.heap[b]? = some (.cells #[v0,v1,v2,x0,x1,v5,v6,v7,v8,v9,v10,v11,v12,v13,v14,v15] t (0,0))→wpList P ops Q rest (a.put op.dst undef) W'):wpList P ops Q (op::rest) a w:=by
  refine wpList_store_mid hgd ty x y ho b 3 #[x0,x1] hx hy ?_ (by simpa using hi) ?_ ?_
  · intro j hj
    have hj':j<2:=hj;(have e : ∀i,w.frozen? ⟨b,i,none⟩=false:=fun i=>Lib.frozen_of_heap hb i);refine⟨?_,e _⟩;have hc:=cells16 hb
    match j,hj' with
    | 0,_=>rw[hc.2.2.2.1];rfl
    | 1,_=>rw[hc.2.2.2.2.1];rfl
  · exact all_oneCell_toArray (cs:= [x0,x1]) fun v hv=>by
     simp only[List.mem_cons,List.not_mem_nil,or_false]at hv;rcases hv with rfl | rfl<;>assumption
  · exact h _ (below_setCells _ _ (Nat.le_refl _) _ _ _) (fun g hg=>heap_setCells _ _ hg _ _ _) (size_setCells _ _ _ _) (heap_w2 hb)
theorem wp_store_w2 {P:Program}{op:Oper}{a:Act}{w:World}{K:Act→World→Prop}{Q:Exit→Act→World→Prop}(ty:TypeId)(x y:Operand)(ho:op.op = .store ty x y)
 (b:Nat) {v0 v1 v2 v3 v4 v5 v6 v7 v8 v9 v10 v11 v12 v13 v14 v15 x0 x1:Value} {t:TypeId} (hx:a.eval x = .pointer (some ⟨b,3,none⟩)) (hy:a.eval y = .agg #[x0,x1]) (hb:w.heap[b]? = some (.cells #[v0,v1,v2,v3,v4,v5,v6,v7,v8,v9,v10,v11,v12,v13,v14,v15] t (0,0)))
 (hi:(P.info? ty).map (·.size)=some 2) (o0:x0.oneCell'=true) (o1:x1.oneCell'=true)
 (h : ∀W',Below b w W'→(∀g,g≠b→W'.heap[g]? = w.heap[g]?)→W'.heap.size=w.heap.size→W'.heap[b]? = some (.cells #[v0,v1,v2,x0,x1,v5,v6,v7,v8,v9,v10,v11,v12,v13,v14,v15] t (0,0))→K (a.put op.dst undef) W'):op.wp P a w K Q:=by
  refine wp_store_mid ty x y ho b 3 #[x0,x1] hx hy ?_ (by simpa using hi) ?_ ?_
  · intro j hj
    have hj':j<2:=hj;(have e : ∀i,w.frozen? ⟨b,i,none⟩=false:=fun i=>Lib.frozen_of_heap hb i);refine⟨?_,e _⟩;have hc:=cells16 hb
    match j,hj' with
    | 0,_=>rw[hc.2.2.2.1];rfl
    | 1,_=>rw[hc.2.2.2.2.1];rfl
  · exact all_oneCell_toArray (cs:= [x0,x1]) fun v hv=>by
     simp only[List.mem_cons,List.not_mem_nil,or_false]at hv;rcases hv with rfl | rfl<;>assumption
  · exact h _ (below_setCells _ _ (Nat.le_refl _) _ _ _) (fun g hg=>heap_setCells _ _ hg _ _ _) (size_setCells _ _ _ _) (heap_w2 hb)
theorem th4 {X:Nat→Prop}{w:World}{P Q R S:Thing}(f:Firm P)(h:P X w)(g:Firm Q)(k:Q X w)(e:Firm R)(m:R X w)(d:Firm S)(n:S X w) : ∀U∈ [P,Q,R,S],Firm U∧U X w:=fun U hU=>by
 simp only[List.mem_cons,List.not_mem_nil,or_false]at hU;rcases hU with rfl | rfl | rfl | rfl
 · exact⟨f,h⟩
 · exact⟨g,k⟩
 · exact⟨e,m⟩
 · exact⟨d,n⟩
end Go.Proofs.YtbjkkijickbppaaGreatDoor
