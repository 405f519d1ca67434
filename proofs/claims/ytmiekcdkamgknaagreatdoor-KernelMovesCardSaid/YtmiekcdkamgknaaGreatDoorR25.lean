import Derived.Test.YtmiekcdkamgknaaGreatDoorR24
import Derived.Test.YtmiekcdkamgknaaGreatDoorR17
import Derived.Shelf.Spec.SlicesGrow
import Derived.StillTailTactics
import Derived.Test.YtmiekcdkamgknaaGreatDoorR15
import Derived.Test.YtmiekcdkamgknaaGreatDoorR23
import Derived.Test.YtmiekcdkamgknaaGreatDoorR19
import Derived.Deep.DeepCutAuto
namespace Go.Proofs.YtmiekcdkamgknaaGreatDoor
theorem nd_map_set {l:List NodeL}{k:Nat}(h:k<l.length)(n:NodeL)(h1:n.kind=(nd l k).kind)(h2:n.up=(nd l k).up)(j:Nat):(nd (l.set k n) j).kind=(nd l j).kind∧(nd (l.set k n) j).up=(nd l j).up:=by
 rw[nd_set h];split
 · rename_i e;subst e;exact⟨h1,h2⟩
 · exact⟨rfl,rfl⟩
theorem Rooted.kin {l l':List NodeL}(h : ∀j,(nd l' j).kind=(nd l j).kind∧(nd l' j).up=(nd l j).up){j:Int}(hr:Rooted l j):Rooted l' j :=
 hr.mono (fun _=>True) (fun k _ hk=>⟨(h k).1.trans hk,(h k).2,fun _ _ _=>trivial⟩) fun _ _ _=>trivial
theorem Rig.sorted {l:List NodeL}{E:Nat→Prop}(h:RigE l E)(k:Nat):SortedP (nd l k).names:=by
 by_cases hk:(nd l k).kind=0
 · rw[h.zero k hk];exact sorted_nil
 · exact(h.loc k hk).2.2.2
theorem Rig.cnt_free {l:List NodeL}{E:Nat→Prop}(h:RigE l E){k:Nat}(hk:(nd l k).kind=0)(j:Nat):cntN (nd l j).names k=0:=by
 rw[cntN_zero];intro e he hek;obtain⟨i,a,_,c⟩:=h.nam j e he;rw[hek]at a;(have:k=i:=by omega);subst this;exact c hk
theorem cnt_zero_of {l:List NodeL}{j:Int}(h : ∀k,cntN (nd l k).names j=0):cnt l j=0:=by
 (refine Nat.eq_zero_of_not_pos fun hp=> ?_);obtain⟨k,hk⟩:=cnt_pos hp;have:=h k;omega
theorem add_node {l l':List NodeL}(h:Rig l){p:Nat}(hp:(nd l p).kind=0)(h0:p≠0)(n:NodeL)(hn:LocOk n)(hnk:n.kind≠0)(hnm:n.names = [])(hnd : ∀j,nd l' j=if j=p then n else nd l j)(hc : ∀j,cnt l' j=cnt l j):RigE l' (fun k=>k=p):=by
 (have hold : ∀j,(nd l j).kind≠0→nd l' j=nd l j:=fun j hj=>by rw[hnd,if_neg];intro e;subst e;exact hj hp);refine⟨?_,fun j hj=> ?_,fun j hj=> ?_,fun j e he=> ?_,fun j hj0 hj hjk=> ?_⟩
 · rw[hnd,if_neg (Ne.symm h0)];exact h.root
 · rw[hnd]at hj ⊢
   split
   · rename_i e;rw[if_pos e]at hj;exact absurd hj hnk
   · rename_i e;rw[if_neg e]at hj;exact h.zero j hj
 · rw[hnd]at hj ⊢
   split
   · exact hn
   · rename_i e;rw[if_neg e]at hj;exact h.loc j hj
 · rw[hnd]at he
   split at he
   · rw[hnm]at he;cases he
   · obtain⟨i,a,b,c⟩:=h.nam j e he
     exact⟨i,a,b,by rw[hold i c];exact c⟩
 · rw[hnd,if_neg hj]at hjk ⊢
   refine(h.nmd j hj0 (fun h=>h) hjk).same (hc j) (fun _ u hu=> ?_) fun _ hr=> ?_
   · obtain⟨e,he,_⟩:=cntN_pos.1 hu
     (have:(nd l u).kind≠0:=fun hz=>by rw[h.zero u hz]at he;cases he);rw[hold u this];exact hu
   · exact hr.mono (fun _=>True) (fun k _ hk=>by rw[hold k (by rw[hk];decide)];exact⟨hk,rfl,fun _ _ _=>trivial⟩) fun _ _ _=>trivial
theorem put_name {l:List NodeL}{E:Nat→Prop}(h:RigE l E){d x:Nat}(hd:(nd l d).kind=2){nm:Nm}(hl:legalL nm=0)(hf:findL (nd l d).names nm=none)(hx:E x)(hx0:x≠0)(hxk:(nd l x).kind≠0)(hz:d≠0→¬E d→cnt l d≠0) :
 RigE (l.set d (putN (nd l d) nm x)) E:=by
 have hs:=Rig.sorted h d;refine h.names d hd (putL (nd l d).names (nm,(x:Int))) E (fun _ h=>h) (sorted_put hs _ hl) (fun e he=> ?_) (fun j hj=> ?_) fun h0 h1 h2=>absurd h2 (hz h0 h1)
 · unfold putL at he
   rcases List.mem_append.1 he with he | he
   · exact h.nam d e (mem_lo.1 he).1
   · rcases List.mem_cons.1 he with rfl | he
     · exact⟨x,rfl,hx0,hxk⟩
     · exact h.nam d e (mem_hi.1 he).1
 · have:=cntN_put hs.2 hf x j
   rw[if_neg (by intro e;exact hj (by
    have:j=x:=by omega
    rw[this];exact hx))]at this
   exact this
theorem put_facts {l:List NodeL}{d x:Nat}(hs:SortedP (nd l d).names)(hd:(nd l d).kind=2){nm:Nm}(hf:findL (nd l d).names nm=none) :
 (∀j,nd (l.set d (putN (nd l d) nm x)) j=if j=d then putN (nd l d) nm x else nd l j)∧(∀j:Nat,cnt (l.set d (putN (nd l d) nm x)) j=cnt l j+if x=j then 1 else 0)∧(∀j,(nd (l.set d (putN (nd l d) nm x)) j).kind=(nd l j).kind∧(nd (l.set d (putN (nd l d) nm x)) j).up=(nd l j).up)
   ∧ 0<cntN (nd (l.set d (putN (nd l d) nm x)) d).names x:=by
 have hlt:d<l.length:=nd_kind (by rw[hd];decide);refine⟨nd_set hlt _,fun j=> ?_,nd_map_set hlt (putN (nd l d) nm x) rfl rfl,?_⟩
 · have h1:=cnt_set hlt (putN (nd l d) nm x) j
   (have h2:cntN (putN (nd l d) nm x).names j=cntN (nd l d).names j+if(x:Int)=j then 1 else 0:=cntN_put hs.2 hf x j);by_cases hx:x=j
   · subst hx;rw[if_pos rfl]at h2 ⊢;omega
   · rw[if_neg (by omega)]at h2;rw[if_neg hx];omega
 · rw[nd_set hlt,if_pos rfl]
   (have h2:cntN (putN (nd l d) nm x).names x=cntN (nd l d).names x+if(x:Int)=x then 1 else 0:=cntN_put hs.2 hf x x);rw[if_pos rfl]at h2;omega
theorem add_nd {l:List NodeL}{most room:Int}{n:NodeL}(hR:Rig l)(h0:0<l.length)(hnm:n.names = [])(hE:addE l most room n=0) :
 ∃p:Nat,addI l most room n=p∧p≠0∧(nd l p).kind=0∧(∀j,nd (addL l most room n) j=if j=p then n else nd l j)∧(∀j,cnt (addL l most room n) j=cnt l j)∧(l.length≤(addL l most room n).length∧(addL l most room n).length≤l.length+1∧((l.length:Int)≤most→((addL l most room n).length:Int)≤most))∧((bytesL (addL l most room n):Int)≤room):=by
 have hno:addNo l most room n=false:=by
  unfold addE at hE
  cases hb:addNo l most room n with
  | false=>rfl
  | true=>rw[hb]at hE;cases hE
 have hno':=hno;unfold addNo at hno';simp only[Bool.or_eq_false_iff,decide_eq_false_iff_not]at hno';(have hroot:(nd l 0).kind≠0:=by rw[hR.root.1];decide);unfold addI addL;rw[hno];rcases idx_cases l 0 with⟨h,hk⟩ | ⟨j,hj,h,hk,hb⟩
 · have hneg:idxL l 0<0:=by omega
   simp only[hneg,if_true,Bool.false_eq_true,if_false]
   have hu:usedL l=l.length:=by
    unfold usedL;rw[List.countP_eq_length];intro a ha;obtain⟨i,hi,rfl⟩:=List.mem_iff_getElem.1 ha;simpa using hk i hi
   refine⟨l.length,rfl,by omega,by rw[nd_ge (Nat.le_refl _)];rfl,nd_app l n,fun j=>by rw[cnt_app,hnm,cntN_nil];rfl,⟨by simp,by simp,fun _=>by rw[List.length_append,List.length_singleton];omega⟩,?_⟩;(have:bytesL (l++ [n])=bytesL l+weightL n:=by simp[bytesL]);omega
 · rw[h,Nat.zero_add]
   (have hneg: ¬((j:Nat):Int)<0:=by omega);simp only[hneg,if_false,Bool.false_eq_true,Int.toNat_natCast];(have hjk:(nd l j).kind=0:=by rw[nd_lt hj];exact hk);refine⟨j,rfl,fun e=>by subst e;exact hroot hjk,hjk,nd_set hj n,fun i=> ?_,⟨by simp,by simp,fun h=>by rw[List.length_set];exact h⟩,?_⟩
   · have:=cnt_set hj n i
     rw[hR.zero j hjk,hnm,show zeroN.names = []from rfl,cntN_nil]at this;omega
   · have hw : ∀(l:List NodeL) (j:Nat) (h:j<l.length),bytesL (l.set j n)+weightL l[j]=bytesL l+weightL n:=by
      intro l
      induction l with
      | nil=>intro j h;simp at h
      | cons a l ih =>
         intro j h
         cases j with
         | zero=>simp[bytesL];omega
         | succ j =>
            have:=ih j (by simpa using h);simp only[bytesL,List.set_cons_succ,List.map_cons,List.sum_cons,List.getElem_cons_succ]at this ⊢;omega
     have:=hw l j hj;omega
theorem enter_rig {l:List NodeL}{most room who:Int}{s:SpotL}{n:NodeL}(hr:RightP l)(hs:SpotW l s)(hnk:n.kind≠0)(hn:LocOk (ownN n who))(hnm:n.names = [])(hup:n.kind=2→n.up=s.dir)
 (hF:freeE l who s=0) (hE:addE l most room (ownN n who)=0) : ∃d p:Nat,s.dir=d∧(nd l d).kind=2∧addI l most room (ownN n who)=p∧p≠0∧p≠d∧(nd l p).kind=0∧legalL s.name=0∧findL (nd l d).names s.name=none∧s.ino = -1
   ∧ (∀j,nd (enterL l most room who s n).1 j=if j=d then putN (nd l d) s.name p else if j=p then ownN n who else nd l j)∧Rig (enterL l most room who s n).1
   ∧ enterL l most room who s n=((addL l most room (ownN n who)).set d (putN (nd l d) s.name p),(p:Int),0)
   ∧ (l.length≤(enterL l most room who s n).1.length∧(enterL l most room who s n).1.length≤l.length+1∧((l.length:Int)≤most→((enterL l most room who s n).1.length:Int)≤most))∧(bytesL (enterL l most room who s n).1:Int)≤room:=by
 obtain⟨hR,h0⟩:=Rig.of hr;obtain⟨d,hd,hk⟩:=spot_dir hs;have hlt:d<l.length:=nd_kind (by rw[hk];decide);unfold freeE at hF;split at hF
 · cases hF
 · rename_i hneg
   split at hF
   · cases hF
   · rename_i hlk
     obtain⟨hleg,hfn,hino⟩:=spot_new hr hs (by omega) hd hk;rw[hd,nodeL_nd (by rw[hk];decide)]at hlk;obtain⟨p,hp,hp0,hpk,hnd,hc,⟨hl1,hl2,hl3⟩,hby⟩:=add_nd (most:=most) (room:=room) (n:=ownN n who) hR h0 hnm hE;(have hpd:p≠d:=fun e=>by subst e;rw[hpk]at hk;cases hk);have hR1:=add_node (l':=addL l most room (ownN n who)) hR hpk hp0 (ownN n who) hn hnk hnm hnd hc;generalize hL:addL l most room (ownN n who)=l1 at *;(have hd1:nd l1 d=nd l d:=by rw[hnd,if_neg (Ne.symm hpd)]);(have hk1:(nd l1 d).kind=2:=by rw[hd1];exact hk);have hlt1:d<l1.length:=by omega
     have hcd:d≠0→cnt l1 d≠0:=fun hd0=>by
      rw[hc];have:=(hR.nmd d hd0 (fun h=>h) (by rw[hk];decide)).1;omega
     (have hR2:=put_name hR1 hk1 (x:=p) hleg (by rw[hd1];exact hfn) rfl hp0 (by rw[hnd,if_pos rfl];exact hnk) fun hd0 _=>hcd hd0);obtain⟨f1,f2,f3,f4⟩:=put_facts (x:=p) (Rig.sorted hR1 d) hk1 (nm:=s.name) (by rw[hd1];exact hfn)
     have heq:enterL l most room who s n=(l1.set d (putN (nd l d) s.name p),(p:Int),0):=by
      unfold enterL;rw[if_neg (by rw[show freeE l who s=0 by unfold freeE;rw[if_neg hneg,hd,nodeL_nd (by rw[hk];decide),if_neg hlk];rw[hd]at hF;exact hF];simp),if_neg (by rw[hE];simp),hp,hL];unfold namedL;rw[hd,setL_nat hlt1,nodeL_nd (by rw[hd1,hk];decide),hd1]
     rw[hd1]at f1 f2 f3 f4 hR2
     have hR3:Rig (l1.set d (putN (nd l d) s.name p)):=by
      (refine hR2.less (E':=fun _=>False) fun k hk0=> .inr fun _ _=> ?_);subst hk0;(have hc0:cnt l k=0:=cnt_zero_of fun j=>Rig.cnt_free hR hpk j);(have hck:cnt (l1.set d (putN (nd l d) s.name k)) k=1:=by rw[f2,hc,hc0,if_pos rfl]);(have hkn:nd (l1.set d (putN (nd l d) s.name k)) k=ownN n who:=by rw[f1,if_neg hpd,hnd,if_pos rfl]);rw[hkn];refine⟨(by rw[hck];rfl),fun h=>(by rw[hck]at h;cases h),fun h2=>⟨fun h=>(by rw[hck]at h;cases h),fun _=>⟨hck,⟨d,(hup h2).trans hd,f4⟩,?_⟩⟩⟩
      have hrd:Rooted l d:=by
       by_cases hd0:d=0
       · subst hd0;exact .root
       · have hN:=hR.nmd d hd0 (fun h=>h) (by rw[hk];decide)
         exact((hN.2.2 hk).2 (by rw[←hc];exact hcd hd0)).2.2
      have hrd2:Rooted (l1.set d (putN (nd l d) s.name k)) d:=by
       (refine hrd.mono (fun _=>True) (fun j _ hj=> ?_) fun _ _ _=>trivial);(have:nd l1 j=nd l j:=by rw[hnd,if_neg];intro e;subst e;rw[hpk]at hj;cases hj);rw[(f3 j).1,(f3 j).2,this];exact⟨hj,rfl,fun _ _ _=>trivial⟩
      refine .up k (by rw[hkn];exact h2) ?_;rw[hkn];show Rooted _ n.up;rw[hup h2,hd];exact hrd2
     refine⟨d,p,hd,hk,hp,hp0,hpd,hpk,hleg,hfn,hino,?_,?_,heq,?_,?_⟩
     · rw[heq]
       intro j;rw[f1];split
       · rfl
       · rw[hnd]
     · rw[heq];exact hR3
     · rw[heq]
       simp only[List.length_set];exact⟨hl1,hl2,hl3⟩
     · rw[heq]
       have hw : ∀(l:List NodeL) (j:Nat) (h:j<l.length) (m:NodeL),weightL m=weightL l[j]→bytesL (l.set j m)=bytesL l:=by
        intro l
        induction l with
        | nil=>intro j h;simp at h
        | cons a l ih =>
           intro j h m hm
           cases j with
           | zero=>simp only[bytesL,List.set_cons_zero,List.map_cons,List.sum_cons];rw[hm];rfl
           | succ j =>
              have:=ih j (by simpa using h) m hm;simp only[bytesL,List.set_cons_succ,List.map_cons,List.sum_cons]at this ⊢;omega
       have:=hw l1 d hlt1 (putN (nd l d) s.name p) (by rw[←nd_lt hlt1,hd1];rfl);simp only;rw[this];exact hby
end Go.Proofs.YtmiekcdkamgknaaGreatDoor
namespace Go.Proofs.YtmiekcdkamgknaaGreatDoor
theorem bytes_set {l:List NodeL}{j:Nat}(h:j<l.length)(m:NodeL):bytesL (l.set j m)+weightL (nd l j)=bytesL l+weightL m:=by
 rw[nd_lt h]
 induction l generalizing j with
 | nil=>simp at h
 | cons a l ih =>
    cases j with
    | zero=>simp[bytesL];omega
    | succ j =>
       have:=ih (j:=j) (by simpa using h);simp only[bytesL,List.set_cons_succ,List.map_cons,List.sum_cons,List.getElem_cons_succ]at this ⊢;omega
theorem Rig.all {l:List NodeL}(h:Rig l)(E:Nat→Prop):RigE l E:=h.less fun _ h=>absurd h id
end Go.Proofs.YtmiekcdkamgknaaGreatDoor
namespace Go.Proofs.YtmiekcdkamgknaaGreatDoor
theorem right_RP {l:List NodeL}{most room:Int}(h:rightR l most room=true):RightP l:=⟨most,room,h⟩
theorem right_back {l l':List NodeL}{most room:Int}(h:rightR l most room=true)(hr:Rig l')(hl:l'.length=l.length)(hb:bytesL l'≤bytesL l):rightR l' most room=true:=by
 obtain⟨_,h1,h2,h3⟩:=(right_iff l most room).1 h;exact(right_iff l' most room).2 ⟨hr,by omega,by omega,by omega⟩
theorem own_loc (n:NodeL)(who:Int)(hk:1≤n.kind∧n.kind≤3)(hm:0≤n.mode∧n.mode≤63)(ho:n.opn=0)(hn:n.names = [])(hd:n.kind=2→n.data = []):LocOk (ownN n who):=by
 refine⟨?_,fun _=>hn,hd,?_⟩
 · unfold plainB
   simp only[Bool.and_eq_true,decide_eq_true_iff];refine⟨⟨⟨hk,hm.1⟩,hm.2⟩,?_⟩;show 0≤n.opn;omega
 · show SortedP n.names
   rw[hn];exact sorted_nil
theorem file_loc (mode who:Int):LocOk (ownN (fileN mode) who):=own_loc _ _ (show(1:Int)≤1∧(1:Int)≤3 by decide) (by show 0≤mode % 64∧mode % 64≤63;omega) rfl rfl (fun h=>rfl)
theorem right_enter {l:List NodeL}{most room who:Int}(h:rightR l most room=true){s:SpotL}(hs:SpotW l s){n:NodeL}(hnk:n.kind≠0)(hn:LocOk (ownN n who))(hnm:n.names = [])(hup:n.kind=2→n.up=s.dir):rightR (enterL l most room who s n).1 most room=true:=by
 by_cases hF:freeE l who s=0
 · by_cases hE:addE l most room (ownN n who)=0
   · obtain⟨d,p, -, -, -, -, -, -, -, -, -, -,hR, -,⟨h1,_,h3⟩,hb⟩:=enter_rig (right_RP h) hs hnk hn hnm hup hF hE
     obtain⟨_,a1,a2,_⟩:=(right_iff l most room).1 h;exact(right_iff _ most room).2 ⟨hR,by omega,h3 a2,hb⟩
   · unfold enterL
     rw[if_neg (by rw[hF];simp),if_pos hE];exact h
 · unfold enterL
   rw[if_pos hF];exact h
section
variable {l:List NodeL} {most room:Int} (h:rightR l most room=true) (who fr:Int) (path:Str)
include h
theorem right_mkfile (mode:Int):rightR (mkfileL l most room who fr path mode).1 most room=true:=by
 unfold mkfileL;split
 · exact h
 · rename_i hw
   split
   · exact h
   · exact right_enter h (walk_spot (right_RP h) (Decidable.not_not.1 hw)) (show(1:Int)≠0 by decide) (file_loc mode who) rfl (fun h=>by cases h)
theorem wnode_got (f:Bool)(he:(wnodeL (walkL l who fr path f)).2=0) : ∃i:Nat,(wnodeL (walkL l who fr path f)).1=i∧(nd l i).kind≠0∧(walkL l who fr path f).2=0∧(walkL l who fr path f).1.ino=i:=by
 (have hn:wnodeL (walkL l who fr path f)=((wnodeL (walkL l who fr path f)).1,0):=by rw[←he]);obtain⟨a,b,c⟩:=node_ok hn;have hi:=(walk_ino (right_RP h) who fr path f a).resolve_left (by omega);obtain⟨i,e1,_,e2⟩:=got_nat hi;exact⟨i,by rw[←c];exact e1,e2,a,e1⟩
end
end Go.Proofs.YtmiekcdkamgknaaGreatDoor
namespace Go.Proofs.YtmiekcdkamgknaaGreatDoor
open Go.RowKit Go.Shelf
attribute [local go_sem ↓] Go.wp_at_zero Go.wp_at_succ
def AddIs (l:List NodeL)(most room:Int)(n:NodeL)(e:Ending)(W W':World):Prop :=
 ∃v,e = .returned (.tuple #[.agg #[v, .int .i64 most, .int .i64 room], .int .i64 (addI l most room n), .int .i64 (addE l most room n)])∧GivesN (addL l most room n) v W'∧Below W.heap.size W W'
def AddIsM (v:Value)(ms:List NodeM)(most room:Int)(n:NodeL)(e:Ending)(W W':World):Prop :=
 ∃v' ms',e = .returned (.tuple #[.agg #[v', .int .i64 most, .int .i64 room], .int .i64 (addI (pl ms) most room n), .int .i64 (addE (pl ms) most room n)])∧pl ms'=addL (pl ms) most room n∧RdM W'.heap.size v' ms' W'∧Below W.heap.size W W'∧∀g,g<W.heap.size→AvoidM g v ms→AvoidM g v' ms'
theorem AddIsM.plain {v:Value}{ms:List NodeM}{most room:Int}{n:NodeL}{e:Ending}{W W':World}(h:AddIsM v ms most room n e W W'):AddIs (pl ms) most room n e W W':=by
 obtain⟨v',ms',h1,h2,h3,h4,_⟩:=h;exact⟨v',h1,⟨ms',h2,h3⟩,h4⟩
end Go.Proofs.YtmiekcdkamgknaaGreatDoor
namespace Go.Proofs.YtmiekcdkamgknaaGreatDoor
open Go.RowKit Go.Shelf
attribute [local go_sem ↓] Go.wp_at_zero Go.wp_at_succ
set_option maxRecDepth 100000 in
set_option maxHeartbeats 4000000 in
theorem wnode_any (v:Value)(ms:List NodeM)(most room who fr:Int)(path:Str)(follow:Bool)(w:World)(hv:RdM w.heap.size v ms w)(hd:DskW ms)(hpl:path.length≤10000)
 (hg:w.cell? ⟨0,0,none⟩=some errTypeV) :
 Calls Tryz.prog 165 #[.agg #[v, .int .i64 most, .int .i64 room], .int .i64 who, .int .i64 fr, .string (bs path), .bool follow] w fun e w'=>WNodeIs (walkL (pl ms) who fr path follow) e w w':=by
 obtain⟨aod,capd,rfl,_,_⟩:=rdm_form hv;have hb0:Below w.heap.size w (w.alloc (.cells #[.slice aod ms.length capd, .int .i64 most, .int .i64 room] 24)):=(Below.refl _ w).alloc (Nat.le_refl _) _;have hglt:=World.block_lt_of_cell? w _ hg;have HW:=zd (walk_any (.slice aod ms.length capd) ms most room who fr path follow _ (rdm_keep hv hb0) hd hpl ((hb0.cell (p:=⟨0,0,none⟩) hglt).trans hg));have hi:=walk_ino hd.ok.right who fr path follow;obtain⟨R,hR⟩ : ∃R,R=walkL (pl ms) who fr path follow:=⟨_,rfl⟩;rw[←hR]at HW hi ⊢;clear hv hg hR;obtain⟨⟨sd,sn,si,ss⟩,n⟩:=R;dsimp only at hi;have HI:=zd hi;clear hi;go_enter Tryz.func165,Tryz.ntmps165;go_wp2_with fail;refine HW.out.mono ?_;rintro e w1 ⟨rfl,hb1⟩;have HB1:=zd (ret_tr hb0 hb1);clear hb0 hb1;by_cases h0:n=0
 · subst h0
   by_cases hm:si = -1
   · subst hm
     go_wp2_with fail;refine post_fresh1 ?_;intro W5 hb5 hn5 hs5;go_ret2;exact⟨rfl,ret_tr HB1.out hb5⟩
   · have hI:(si == -1)=false:=by simpa using hm
     have hnn: ¬si<0:=by
      rcases HI.out rfl with h | h
      · exact absurd h hm
      · have:=got_le h;omega
     have HN:Hid (wnodeL (⟨sd,sn,si,ss⟩,0)=(si,0)):=zd (by unfold wnodeL;rw[if_neg (by simp),if_neg hnn]);clear hm hnn;go_wp2_with fail;refine post_fresh1 ?_;intro W5 hb5 hn5 hs5;go_ret2;exact⟨by rw[HN.out];rfl,ret_tr HB1.out hb5⟩
 · have hI:(n != 0)=true:=by simpa using h0
   have HN:Hid (wnodeL (⟨sd,sn,si,ss⟩,n)=(0,n)):=zd (by unfold wnodeL;rw[if_pos h0]);clear h0;go_wp2_with fail;refine post_fresh1 ?_;intro W5 hb5 hn5 hs5;go_ret2;exact⟨by rw[HN.out];rfl,ret_tr HB1.out hb5⟩
end Go.Proofs.YtmiekcdkamgknaaGreatDoor
namespace Go.Proofs.YtmiekcdkamgknaaGreatDoor
open Go.RowKit Go.Shelf
structure Dsk (l:List NodeL):Prop where
 w : ∀ms,pl ms=l→DskW ms
 sm:Small l
theorem Dsk.len {l:List NodeL}(h:Dsk l):l.length≤10000:=Nat.le_trans h.sm.1 (by decide)
theorem Dsk.nm {l:List NodeL}(h:Dsk l)(i:Int):(nodeL l i).names.length≤130:=by
 unfold nodeL;split
 · unfold atI
   rcases Nat.lt_or_ge i.toNat l.length with h1 | h1
   · rw[List.getD_eq_getElem?_getD,List.getElem?_eq_getElem h1];exact(h.sm.2 _ (List.getElem_mem _)).2
   · rw[List.getD_eq_getElem?_getD,List.getElem?_eq_none h1];exact Nat.zero_le _
 · exact Nat.zero_le _
theorem Dsk.rig {l:List NodeL}(h:Dsk l):RightP l:=by
 (have hp:pl (l.map fun n=>(n,Value.nilIface))=l:=by simp[pl,List.map_map,Function.comp_def]);have:=(h.w _ hp).ok.right
 rwa [hp]at this
theorem cnt_small {l:List NodeL}(h:Small l)(j:Int):cnt l j≤14300:=by
 have main : ∀l:List NodeL,(∀n∈l,n.names.length≤130)→(l.map fun n=>cntN n.names j).sum≤l.length*130:=by
  intro l
  induction l with
  | nil=>intro _;exact Nat.le_refl _
  | cons n l ih =>
     intro hl;(have h1:=ih fun m hm=>hl m (List.mem_cons_of_mem _ hm));have h2:=hl n List.mem_cons_self;have h3:cntN n.names j≤n.names.length:=List.countP_le_length;simp only[List.map_cons,List.sum_cons,List.length_cons];omega
 (have h1:=main l fun n hn=>(h.2 n hn).2);have h2:=h.1;unfold cnt;omega
theorem nodeL_no {l:List NodeL}{i:Int}(h:gotB l i=false):nodeL l i=zeroN:=by unfold nodeL;rw[h];rfl
theorem links_small {l:List NodeL}(h:Dsk l)(i:Int):0≤(nodeL l i).links∧(nodeL l i).links≤14300:=by
 cases hg:gotB l i with
 | false=>rw[nodeL_no hg];exact⟨Int.le_refl 0,by decide⟩
 | true =>
    obtain⟨k,rfl,hlt,hk⟩:=got_nat hg;rw[nodeL_nd hk];obtain⟨hR,_⟩:=Rig.of h.rig;by_cases h0:k=0
    · subst h0;rw[hR.root.2.2];exact⟨by decide,by decide⟩
    · rw[(hR.nmd k h0 id hk).1]
      have:=cnt_small h.sm k;omega
theorem drop_links (l:List NodeL)(s:SpotL)(i:Int):(nodeL (droppedL l s) i).links=(nodeL l i).links:=by
 unfold droppedL setL;split
 · rename_i h
   obtain⟨k,hk,hlt⟩:=in_nat h;rw[hk,Int.toNat_natCast];rcases(show i<0∨0≤i by omega)with h2 | h2
   · have hn : ∀l:List NodeL,gotB l i=false:=fun l=>by unfold gotB inL;rw[decide_eq_false (by omega)];rfl
     rw[nodeL_no (hn _),nodeL_no (hn _)]
   · obtain⟨j,rfl⟩:=Int.eq_ofNat_of_zero_le h2
     by_cases hj:j=k
     · subst hj
       by_cases hg:(nd l j).kind=0
       · have h3:gotB l j=false:=by cases h4:gotB l j with | false=>rfl | true=>exact absurd hg ((got_nd l j).1 h4)
         rw[nodeL_no h3];refine congrArg NodeL.links (nodeL_no ?_)
         cases h4:gotB (l.set j (dropN zeroN s.name)) j with
         | false=>rfl
         | true =>
            have:=(got_nd _ j).1 h4;rw[nd_set hlt,if_pos rfl]at this;exact absurd rfl this
       · have e1:=nodeL_nd hg
         rw[e1];rw[nodeL_nd (by rw[nd_set hlt,if_pos rfl];exact hg),nd_set hlt,if_pos rfl];rfl
     · have e1:nd (l.set k (dropN (nodeL l k) s.name)) j=nd l j:=by rw[nd_set hlt,if_neg hj]
       cases h4:gotB l j with
       | true =>
          have h5:=(got_nd l j).1 h4;rw[nodeL_nd h5,nodeL_nd (by rw[e1];exact h5),e1]
       | false =>
          have h5:gotB (l.set k (dropN (nodeL l k) s.name)) j=false:=by
           cases h6:gotB (l.set k (dropN (nodeL l k) s.name)) j with
           | false=>rfl
           | true =>
              have:=(got_nd _ j).1 h6;rw[e1]at this;rw[(got_nd l j).2 this]at h4
              cases h4
          rw[nodeL_no h4,nodeL_no h5]
 · rfl
theorem Dsk.wrap {l:List NodeL}(h:Dsk l)(s:SpotL):IntKind.i64.wrap ((nodeL (droppedL l s) s.ino).links-1)=(nodeL (droppedL l s) s.ino).links-1:=by
 rw[drop_links];have:=links_small h s.ino;exact Go.IntWalk.i64_in _ (by omega)
theorem xnode_g (X:Nat→Prop)(l:List NodeL)(hd:Dsk l)(a b who fr:Int)(path:Str)(follow:Bool)(hpl:path.length≤10000)(v:Value)(W:World)(hg:GivesX X l v W)(he:W.cell? ⟨0,0,none⟩=some errTypeV) :
 Calls Tryz.prog 165 #[.agg #[v, .int .i64 a, .int .i64 b], .int .i64 who, .int .i64 fr, .string (bs path), .bool follow] W fun e w'=>WNodeIs (walkL l who fr path follow) e W w':=by
 obtain⟨m,rfl,h⟩:=hg.gives;exact wnode_any v m a b who fr path follow W h (hd.w m rfl) hpl he
theorem GivesX.none {X:Nat→Prop}{l:List NodeL}{v:Value}{W:World}(h:GivesX X l v W):GivesX (fun _=>False) l v W:=h.sub fun _ h=>h.elim
theorem set_g (X:Nat→Prop)(l:List NodeL)(most room i:Int)(n:NodeL)(v vn:Value)(W:World)(hX:Old X W)(hg:GivesX X l v W)(hl:l.length≤10000)(hn:NodeX X n vn W)(hnl:n.names.length≤10000) :
 Calls Tryz.prog 137 #[.agg #[v, .int .i64 most, .int .i64 room], .int .i64 i,nval n vn] W fun e w'=>RDiskIs X (setL l i n) most room e W w':=by
 obtain⟨m,rfl,h,ha⟩:=hg;refine(set_any v m most room i n vn W h (by rw[←pl_len];exact hl) hn.1 hnl).mono ?_;rintro e w' ⟨v',ms',rfl,hp,hr,hb,hav⟩;have hG:GivesX X (setL (pl m) i n) v' w':=⟨ms',hp,hr,fun g hx=>hav g (hX g hx) (ha g hx)⟩;obtain⟨ao,cap,rfl⟩:=gives_form hG;exact⟨ao,cap,rfl,hG,hb⟩
theorem get_g (X:Nat→Prop)(l:List NodeL)(most room i:Int)(v:Value)(W:World)(hX:Old X W)(hg:GivesX X l v W)(hl:l.length≤10000)(hnl : ∀n∈l,n.names.length≤10000) :
 Calls Tryz.prog 58 #[.agg #[v, .int .i64 most, .int .i64 room], .int .i64 i] W fun e w'=>∃ao cap,e = .returned (.tuple #[nval (nodeL l i) (.slice ao (nodeL l i).names.length cap), .bool (gotB l i)])∧NodeX X (nodeL l i) (.slice ao (nodeL l i).names.length cap) w'∧Below W.heap.size W w':=by
 obtain⟨m,rfl,h,ha⟩:=hg;refine(get_new v m most room i W h (by rw[←pl_len];exact hl) hnl).mono ?_;rintro e w' ⟨v1,rfl,hr,hb,hnew⟩;(have hgl:getL (pl m) i=nodeL (pl m) i:=by unfold getL nodeL;cases gotB (pl m) i<;>rfl);rw[hgl]at hr ⊢
 have hN:NodeX X (nodeL (pl m) i) v1 w':=⟨hr,fun g hx=>by
  rintro a n c rfl _ e;have h1:W.heap.size≤a.block:=hnew a.block rfl;have h2:=hX g hx
  omega⟩
 obtain⟨ao,cap,rfl⟩:=node_form hN;exact⟨ao,cap,rfl,hN,hb⟩
end Go.Proofs.YtmiekcdkamgknaaGreatDoor
namespace Go.Proofs.YtmiekcdkamgknaaGreatDoor
structure MoreD (l l':List NodeL) (d:Int) (nm:Str) (p:Int):Prop where
 dir : ∀i,dirE l i=0→dirE l' i=0
 may : ∀who i,dirE l i=0→mayAt l' who i=mayAt l who i
 look : ∀i q,dirE l i=0→¬lookL l i q<0→lookL l' i q=lookL l i q
 node : ∀i,gotB l i=true→(nodeL l' i).kind=(nodeL l i).kind∧(nodeL l' i).data=(nodeL l i).data
 new:lookL l' d nm=p
 pos:0≤p
theorem more_go_ways {l l':List NodeL}{d:Int}{nm:Str}{p:Int}(hr:RightP l)(m:MoreD l l' d nm p)(who:Int)(sl:Bool)(h3:(nodeL l' p).kind≠3)(h2:sl=true→(nodeL l' p).kind=2) :
 ∀i ps hops,(goW l who false sl i ps hops).2=0→(goW l who false sl i ps hops).1.ino<0→(goW l who false sl i ps hops).1.dir=d→(goW l who false sl i ps hops).1.name=nm→goW l' who false sl i ps hops=(⟨d,nm,p,sl⟩,0):=by
 refine go_ind l who false sl (fun i ps hops R=>R.2=0→R.1.ino<0→R.1.dir=d→R.1.name=nm→goW l' who false sl i ps hops=(⟨d,nm,p,sl⟩,0)) ?_ ?_ ?_ ?_ ?_ ?_ ?_ ?_ ?_ ?_ ?_
 · intro i hops _ hi;exact absurd hi (show ¬(0:Int)<0 by decide)
 · intro i hops q rest hd he;exact absurd he hd
 · intro i hops q rest _ _ he;cases he
 · intro i hops q hd hm hn _ _ e1 e2
   simp only at e1 e2;subst e1 e2;have hp:=m.new;rw[go_spot (m.dir i hd) ((m.may who i hd).trans hm) (by rw[hp];have:=m.pos;omega) (by rw[hp];exact fun h=>h3 h.1) rfl (by rw[hp];exact fun h=>h.2 (h2 h.1)),hp]
 · intro i hops q rest _ _ _ _ he;cases he
 · intro i hops q rest _ _ _ _ _ _ he;cases he
 · intro i hops q rest _ _ _ _ _ _ hx he;exact absurd he hx
 · intro i hops q rest R hd hm hn hk hc h8 hx ih he hi e1 e2
   have hl:=m.look i q hd hn;obtain⟨n1,n2⟩:=m.node _ ((look_got hr hd q).2 hn);rw[go_link (m.dir i hd) ((m.may who i hd).trans hm) (by rw[hl];exact hn) (by rw[hl,n1];exact hk) hc h8 (by rw[hl,n2];exact hx),hl,n2];exact ih he hi e1 e2
 · intro i hops q _ _ _ _ _ _ he;cases he
 · intro i hops q _ _ hn _ _ _ hi;exact absurd hi hn
 · intro i hops q rest R hd hm hn hk hrest ih he hi e1 e2
   have hl:=m.look i q hd hn;obtain⟨n1,_⟩:=m.node _ ((look_got hr hd q).2 hn);rw[go_on (m.dir i hd) ((m.may who i hd).trans hm) (by rw[hl];exact hn) (by rw[hl,n1];exact hk) hrest,hl];exact ih he hi e1 e2
theorem more_walk {l l':List NodeL}{s:SpotL}{p:Int}(hr:RightP l){who fr:Int}{path:Str}(hw:walkL l who fr path false=(s,0))(hi:s.ino<0)(m:MoreD l l' s.dir s.name p)(h3:(nodeL l' p).kind≠3)(h2:s.slash=true→(nodeL l' p).kind=2) :
 walkL l' who fr path false=(⟨s.dir,s.name,p,s.slash⟩,0):=by
 unfold walkL at hw ⊢;split at hw
 · rename_i hc
   have:=congrArg Prod.snd hw;exact absurd this hc
 · rename_i hc
   rw[if_neg hc];split at hw
   · rename_i hp
     split at hw
     · rename_i hd
       have:=congrArg Prod.snd hw;exact absurd this hd
     · rename_i hd
       have e:=congrArg Prod.fst hw;simp only at e;rw[←e]at hi;have:=got_le (dir_got (Decidable.not_not.1 hd)).1;simp only at hi;omega
   · rename_i hp
     rw[if_neg hp]
     have hsl:s.slash=Lib.hasSuffix path [47]:=by
      have : ∀i ps hops,(goW l who false (Lib.hasSuffix path [47]) i ps hops).2=0→(goW l who false (Lib.hasSuffix path [47]) i ps hops).1.slash=Lib.hasSuffix path [47]:=by
       refine go_ind l who false _ (fun i ps hops R=>R.2=0→R.1.slash=Lib.hasSuffix path [47]) ?_ ?_ ?_ ?_ ?_ ?_ ?_ ?_ ?_ ?_ ?_
       · intro i hops _;rfl
       · intro i hops q rest hd he;exact absurd he hd
       · intro i hops q rest _ _ he;cases he
       · intro i hops q _ _ _ _;rfl
       · intro i hops q rest _ _ _ _ he;cases he
       · intro i hops q rest _ _ _ _ _ _ he;cases he
       · intro i hops q rest _ _ _ _ _ _ hx he;exact absurd he hx
       · intro i hops q rest R _ _ _ _ _ _ _ ih;exact ih
       · intro i hops q _ _ _ _ _ _ he;cases he
       · intro i hops q _ _ _ _ _ _;rfl
       · intro i hops q rest R _ _ _ _ _ ih;exact ih
      have h1:=this (firstAt fr path) (parts path) 0;rw[hw]at h1;exact h1 rfl
     have h1:=more_go_ways hr m who (Lib.hasSuffix path [47]) h3 (by rw[←hsl];exact h2) (firstAt fr path) (parts path) 0;rw[hw]at h1;rw[h1 rfl hi rfl rfl,hsl]
theorem dirE_nd {l:List NodeL}{k:Nat}:dirE l k=0↔(nd l k).kind=2:=by
 constructor
 · intro h
   obtain⟨hg,hk⟩:=dir_got h;rw[nodeL_nd ((got_nd l k).1 hg)]at hk;exact hk
 · intro h
   (have h0:(nd l k).kind≠0:=by rw[h];decide);exact got_dir ((got_nd l k).2 h0) (by rw[nodeL_nd h0];exact h)
theorem dir_nat {l:List NodeL}{i:Int}(h:dirE l i=0) : ∃k:Nat,i=k∧(nd l k).kind=2:=by
 obtain⟨k,e,_,_⟩:=got_nat (dir_got h).1;subst e;exact⟨k,rfl,dirE_nd.1 h⟩
theorem enter_moreD {l l':List NodeL}{d p:Nat}{nm:Nm}{n:NodeL}(hR:Rig l)(hk:(nd l d).kind=2)(hpd:p≠d)(hpk:(nd l p).kind=0)(hl:legalL nm=0)(hf:findL (nd l d).names nm=none)(hnd : ∀j,nd l' j=if j=d then putN (nd l d) nm p else if j=p then n else nd l j) :
 MoreD l l' d nm p:=by
 have hs:=(Rig.sorted hR d).2
 have h0 : ∀j:Nat,(nd l j).kind≠0→(nd l' j).kind=(nd l j).kind∧(nd l' j).data=(nd l j).data∧(nd l' j).mode=(nd l j).mode∧(nd l' j).owner=(nd l j).owner∧(nd l' j).up=(nd l j).up:=fun j hj=>by
  rw[hnd];split
  · rename_i e;subst e;exact⟨rfl,rfl,rfl,rfl,rfl⟩
  · rw[if_neg (by rintro rfl;exact hj hpk)];exact⟨rfl,rfl,rfl,rfl,rfl⟩
 have hdd:nm≠ [46]∧nm≠ [46,46]:=by
  constructor
  · rintro rfl;exact absurd hl (by decide)
  · rintro rfl;exact absurd hl (by decide)
 (have hnl : ∀j:Nat,(nd l j).kind≠0→nodeL l' j=nd l' j:=fun j hj=>nodeL_nd (by rw[(h0 j hj).1];exact hj));(have hkd:(nd l d).kind≠0:=by rw[hk];decide);refine⟨fun i hi=> ?_,fun who i hi=> ?_,fun i q hi hq=> ?_,fun i hi=> ?_,?_,by omega⟩
 · obtain⟨k,rfl,hk2⟩:=dir_nat hi
   exact dirE_nd.2 ((h0 k (by rw[hk2];decide)).1.trans hk2)
 · obtain⟨k,rfl,hk2⟩:=dir_nat hi
   (have hk0:(nd l k).kind≠0:=by rw[hk2];decide);obtain⟨_,_,a,b,_⟩:=h0 k hk0;unfold mayAt;rw[hnl k hk0,nodeL_nd hk0,a,b]
 · obtain⟨k,rfl,hk2⟩:=dir_nat hi
   (have hk0:(nd l k).kind≠0:=by rw[hk2];decide);unfold lookL at hq ⊢;rw[hnl k hk0];rw[nodeL_nd hk0]at hq ⊢;rw[(h0 k hk0).2.2.2.2];split
   · rfl
   · rename_i q1
     rw[if_neg q1]at hq;split
     · rfl
     · rename_i q2
       rw[if_neg q2]at hq;rw[hnd];split
       · rename_i e
         subst e
         have hqn:q≠nm:=by
          rintro rfl;rw[hf]at hq;exact hq (show(-1:Int)<0 by decide)
         show(findL (putL (nd l k).names (nm,(p:Int))) q).getD (-1)=_;rw[find_put_other hs _ _ _ hqn]
       · rw[if_neg (by rintro rfl;exact hk0 hpk)]
 · obtain⟨k,rfl,_,hk0⟩:=got_nat hi
   rw[hnl k hk0,nodeL_nd hk0];exact⟨(h0 k hk0).1,(h0 k hk0).2.1⟩
 · unfold lookL
   rw[if_neg hdd.1,if_neg hdd.2,hnl d hkd,hnd,if_pos rfl];show(findL (putL (nd l d).names (nm,(p:Int))) nm).getD (-1)=p;rw[find_put];rfl
structure Entered (l l':List NodeL) (who fr:Int) (path:Str) (s:SpotL) (d p:Nat) (n:NodeL):Prop where
 sd:s.dir=d
 dk:(nd l d).kind=2
 p0:p≠0
 pd:p≠d
 pk:(nd l p).kind=0
 leg:legalL s.name=0
 fn:findL (nd l d).names s.name=none
 si:s.ino = -1
 nds : ∀j,nd l' j=if j=d then putN (nd l d) s.name p else if j=p then n else nd l j
 rig:Rig l'
 walk:walkL l' who fr path false=(⟨s.dir,s.name,p,s.slash⟩,0)
 wr:writesL l who d=true
 len:l.length≤l'.length∧l'.length≤l.length+1
theorem entered_of {l:List NodeL}{most room who fr:Int}(h:rightR l most room=true){path:Str}{s:SpotL}(hw:walkL l who fr path false=(s,0)){n:NodeL}(hnk:n.kind=1∨n.kind=2)(hn:LocOk (ownN n who))(hnm:n.names = [])(hup:n.kind=2→n.up=s.dir)(hsl:s.slash=true→n.kind=2)
 (hE:(enterL l most room who s n).2.2=0) : ∃d p:Nat,Entered l (enterL l most room who s n).1 who fr path s d p (ownN n who)∧(enterL l most room who s n).2.1=p:=by
  have hr:=right_RP h;obtain⟨hR,_⟩:=Rig.of hr
  have hs:SpotW l s:=by
   have:=walk_spot hr (who:=who) (fr:=fr) (p:=path) (f:=false) (by rw[hw]);rw[hw]at this;exact this
  have hnk0:n.kind≠0:=by omega
  have hF:freeE l who s=0:=by
   (refine Decidable.byContradiction fun hF=> ?_);unfold enterL at hE;rw[if_pos hF]at hE;exact hF hE
  have hA:addE l most room (ownN n who)=0:=by
   (refine Decidable.byContradiction fun hA=> ?_);unfold enterL at hE;rw[if_neg (by rw[hF];simp),if_pos hA]at hE;exact hA hE
  obtain⟨d,p,hd,hk,_,hp0,hpd,hpk,hleg,hfn,hino,hnd,hRig,heq,⟨l1,l2,_⟩,_⟩:=enter_rig hr hs hnk0 hn hnm hup hF hA;have hm:=enter_moreD hR hk hpd hpk hleg hfn hnd
  have hpn:nodeL (enterL l most room who s n).1 p=ownN n who:=by
   rw[nodeL_nd (by rw[hnd,if_neg hpd,if_pos rfl];exact hnk0),hnd,if_neg hpd,if_pos rfl]
  (have hkn:(nodeL (enterL l most room who s n).1 p).kind=n.kind:=by rw[hpn];rfl);have hw':=more_walk hr hw (by omega) (l':=(enterL l most room who s n).1) (p:=p) (by rw[hd];exact hm) (by rw[hkn];omega) (by rw[hkn];exact hsl)
  have hwr:writesL l who d=true:=by
   unfold freeE at hF;rw[if_neg (by omega),hd]at hF;split at hF
   · cases hF
   · split at hF
     · cases hF
     · rename_i hc;exact Bool.not_eq_false _▸hc
  exact⟨d,p,⟨hd,hk,hp0,hpd,hpk,hleg,hfn,hino,hnd,hRig,hw',hwr,⟨l1,l2⟩⟩,by rw[heq]⟩
end Go.Proofs.YtmiekcdkamgknaaGreatDoor
