import Derived.Test.YtbjkkijickbppaaGreatDoorR16
import Derived.Test.YtbjkkijickbppaaGreatDoorR14
import Derived.Shelf.Spec.SlicesGrow
import Derived.StillTailTactics
import Derived.Test.YtbjkkijickbppaaGreatDoorR17
import Derived.Test.YtbjkkijickbppaaGreatDoorR15
import Derived.Deep.DeepCutAuto
namespace Go.Proofs.YtbjkkijickbppaaGreatDoor
def PartOk (q:Str):Prop:=q≠ []∧q.length≤12∧(47:UInt8)∉q∧(0:UInt8)∉q
theorem parts_no47 : ∀(n:Nat) (p:Str),p.length≤n→∀q∈parts p,(47:UInt8)∉q:=by
 intro n
 induction n with
 | zero =>
    intro p h q hq;obtain rfl:=List.eq_nil_of_length_eq_zero (Nat.le_zero.1 h);rw[parts_nil]at hq
    cases hq
 | succ n ih =>
    intro p h q hq;by_cases hm:(47:UInt8)∈p
    · obtain⟨a,b,rfl⟩:=List.append_of_mem hm
      rw[List.length_append,List.length_cons]at h;rw[parts_app]at hq;rcases List.mem_append.1 hq with hq | hq
      · exact ih a (by omega) q hq
      · exact ih b (by omega) q hq
    · by_cases hp:p = []
      · subst hp;rw[parts_nil]at hq;cases hq
      · rw[parts_one hm hp]at hq
        obtain rfl:=List.mem_singleton.1 hq;exact hm
theorem parts_sub (p:Str)(c:UInt8)(q:Str)(hq:q∈parts p)(hc:c∈q):c∈p:=by
 unfold parts at hq;obtain⟨s,_,rfl⟩:=List.mem_map.1 hq;unfold cutS at hc;exact List.mem_of_mem_take (List.mem_of_mem_drop hc)
theorem parts_ok {p:Str}(h:checkE p=0) : ∀q∈parts p,PartOk q:=by
 intro q hq;obtain⟨_,_,h0,h12⟩:=check_zero h;exact⟨parts_ne p q hq,h12 q hq,parts_no47 _ p (Nat.le_refl _) q hq,fun h=>h0 (parts_sub p 0 q hq h)⟩
theorem part_legal {q:Str}(h:PartOk q)(h1:q≠ [46])(h2:q≠ [46,46]):legalL q=0:=by
 obtain⟨a,b,c,d⟩:=h;unfold legalL;rw[if_neg,if_neg (by omega)];rintro(e | e | e | e)
 · exact a e
 · exact h1 e
 · exact h2 e
 · obtain⟨x,hx,hb⟩:=List.any_eq_true.1 e
   unfold barredL at hb;simp only[Bool.or_eq_true,beq_iff_eq]at hb;rcases hb with rfl | rfl
   · exact c hx
   · exact d hx
theorem part_go (l:List NodeL)(who:Int)(follow slash:Bool) : ∀i ps hops,(∀q∈ps,PartOk q)→(goW l who follow slash i ps hops).2=0→(goW l who follow slash i ps hops).1.name = []∨PartOk (goW l who follow slash i ps hops).1.name:=by
 refine go_ind l who follow slash (fun i ps hops R=>(∀q∈ps,PartOk q)→R.2=0→R.1.name = []∨PartOk R.1.name) ?_ ?_ ?_ ?_ ?_ ?_ ?_ ?_ ?_ ?_ ?_
 · intro i hops _ _;exact .inl rfl
 · intro i hops p rest hd _ he;exact absurd he hd
 · intro i hops p rest _ _ _ he;cases he
 · intro i hops p _ _ _ hp _;exact .inr (hp p (by simp))
 · intro i hops p rest _ _ _ _ _ he;cases he
 · intro i hops p rest _ _ _ _ _ _ _ he;cases he
 · intro i hops p rest _ _ _ _ _ _ hx _ he;exact absurd he hx
 · intro i hops p rest R _ _ _ _ _ _ hx ih hp he
   refine ih (fun q hq=> ?_) he;rcases List.mem_append.1 hq with hq | hq
   · exact parts_ok hx q hq
   · exact hp q (by simp[hq])
 · intro i hops p _ _ _ _ _ _ _ he;cases he
 · intro i hops p _ _ _ _ _ hp _;exact .inr (hp p (by simp))
 · intro i hops p rest R _ _ _ _ _ ih hp he;exact ih (fun q hq=>hp q (by simp[hq])) he
theorem part_walk (l:List NodeL)(who fr:Int)(p:Str)(f:Bool)(h:(walkL l who fr p f).2=0):(walkL l who fr p f).1.name = []∨PartOk (walkL l who fr p f).1.name:=by
 unfold walkL at h ⊢;split at h
 · rename_i hc;exact absurd h hc
 · rename_i hc
   rw[if_neg hc];have hc':=Decidable.not_not.1 hc;split at h
   · rename_i hp
     rw[if_pos hp];split at h
     · rename_i hd;exact absurd h hd
     · rename_i hd
       rw[if_neg hd];exact .inl rfl
   · rename_i hp
     rw[if_neg hp];exact part_go l who f _ _ _ _ (parts_ok hc') h
def SpotW (l:List NodeL)(s:SpotL):Prop:=SpotOk l s∧(s.name = []∨PartOk s.name)
theorem walk_spot {l:List NodeL}(hr:RightP l){who fr:Int}{p:Str}{f:Bool}(h:(walkL l who fr p f).2=0):SpotW l (walkL l who fr p f).1:=⟨law_spot hr who fr p f h,part_walk l who fr p f h⟩
theorem spot_dir {l:List NodeL}{s:SpotL}(h:SpotW l s) : ∃d:Nat,s.dir=d∧(nd l d).kind=2:=by
 obtain⟨hg,hk⟩:=dir_got h.1.1;obtain⟨d,e,_,h0⟩:=got_nat hg;refine⟨d,e,?_⟩;rw[e,nodeL_nd h0]at hk;exact hk
theorem spot_dots {l:List NodeL}(hr:RightP l){s:SpotL}(h:SpotW l s)(hd:dotsB s.name=true):gotB l s.ino=true∧(nodeL l s.ino).kind=2:=by
 unfold dotsB at hd;simp only[Bool.or_eq_true,decide_eq_true_iff]at hd;have h0:=h.1.1;rcases hd with(hd | hd) | hd
 · rw[h.1.2.1 hd];exact dir_got h0
 · have:s.ino=s.dir:=by rw[h.1.2.2 (by rw[hd];simp),hd];rfl
   rw[this];exact dir_got h0
 · have:s.ino=(nodeL l s.dir).up:=by rw[h.1.2.2 (by rw[hd];simp),hd];rfl
   rw[this];exact dir_got (right_up hr h0)
theorem spot_look {l:List NodeL}{s:SpotL}(h:SpotW l s)(hd:dotsB s.name=false):legalL s.name=0∧s.ino=(findL (nodeL l s.dir).names s.name).getD (-1):=by
 unfold dotsB at hd;simp only[Bool.or_eq_false_iff,decide_eq_false_iff_not]at hd;obtain⟨⟨h0,h1⟩,h2⟩:=hd;refine⟨part_legal (h.2.resolve_left h0) h1 h2,?_⟩;rw[h.1.2.2 h0];unfold lookL;rw[if_neg h1,if_neg h2]
theorem Rig.of {l:List NodeL}(h:RightP l):Rig l∧0<l.length:=by
 obtain⟨most,room,h⟩:=h;obtain⟨a,b,_⟩:=(right_iff l most room).1 h;exact⟨a,b⟩
theorem spot_new {l:List NodeL}(hr:RightP l){s:SpotL}(h:SpotW l s)(hn:s.ino<0){d:Nat}(hd:s.dir=d)(hk:(nd l d).kind=2):legalL s.name=0∧findL (nd l d).names s.name=none∧s.ino = -1:=by
 have h1:dotsB s.name=false:=by
  cases hb:dotsB s.name with
  | false=>rfl
  | true=>have:=got_le (spot_dots hr h hb).1;omega
 obtain⟨h2,h3⟩:=spot_look h h1;rw[hd,nodeL_nd (by rw[hk];decide)]at h3;refine⟨h2,?_⟩
 cases hf:findL (nd l d).names s.name with
 | none=>rw[hf]at h3;exact⟨rfl,h3⟩
 | some i =>
    rw[hf]at h3;obtain⟨j,e,_,_⟩:=(Rig.of hr).1.nam d _ (findL_mem hf);simp only[Option.getD_some]at h3 e;omega
theorem setL_nat {l:List NodeL}{k:Nat}(h:k<l.length)(n:NodeL):setL l (k:Int) n=l.set k n:=by
 unfold setL;rw[if_pos (nat_in h),Int.toNat_natCast]
end Go.Proofs.YtbjkkijickbppaaGreatDoor
namespace Go.Proofs.YtbjkkijickbppaaGreatDoor
theorem nd_map_set {l:List NodeL}{k:Nat}(h:k<l.length)(n:NodeL)(h1:n.kind=(nd l k).kind)(h2:n.up=(nd l k).up)(j:Nat):(nd (l.set k n) j).kind=(nd l j).kind∧(nd (l.set k n) j).up=(nd l j).up:=by
 rw[nd_set h];split
 · rename_i e;subst e;exact⟨h1,h2⟩
 · exact⟨rfl,rfl⟩
theorem Rooted.kin {l l':List NodeL}(h : ∀j,(nd l' j).kind=(nd l j).kind∧(nd l' j).up=(nd l j).up){j:Int}(hr:Rooted l j):Rooted l' j :=
 hr.mono (fun _=>True) (fun k _ hk=>⟨(h k).1.trans hk,(h k).2,fun _ _ _=>trivial⟩) fun _ _ _=>trivial
theorem Rig.sorted {l:List NodeL}{E:Nat→Prop}(h:RigE l E)(k:Nat):SortedP (nd l k).names:=by
 by_cases hk:(nd l k).kind=0
 · rw[h.zero k hk];exact sorted_nil
 · exact(h.loc k hk).2.2.2
theorem Rig.cnt_free {l:List NodeL}{E:Nat→Prop}(h:RigE l E){k:Nat}(hk:(nd l k).kind=0)(j:Nat):cntN (nd l j).names k=0:=by
 rw[cntN_zero];intro e he hek;obtain⟨i,a,_,c⟩:=h.nam j e he;rw[hek]at a;(have:k=i:=by omega);subst this;exact c hk
theorem cnt_zero_of {l:List NodeL}{j:Int}(h : ∀k,cntN (nd l k).names j=0):cnt l j=0:=by
 (refine Nat.eq_zero_of_not_pos fun hp=> ?_);obtain⟨k,hk⟩:=cnt_pos hp;have:=h k;omega
theorem add_node {l l':List NodeL}(h:Rig l){p:Nat}(hp:(nd l p).kind=0)(h0:p≠0)(n:NodeL)(hn:LocOk n)(hnk:n.kind≠0)(hnm:n.names = [])(hnd : ∀j,nd l' j=if j=p then n else nd l j)(hc : ∀j,cnt l' j=cnt l j):RigE l' (fun k=>k=p):=by
 (have hold : ∀j,(nd l j).kind≠0→nd l' j=nd l j:=fun j hj=>by rw[hnd,if_neg];intro e;subst e;exact hj hp);refine⟨?_,fun j hj=> ?_,fun j hj=> ?_,fun j e he=> ?_,fun j hj0 hj hjk=> ?_⟩
 · rw[hnd,if_neg (Ne.symm h0)];exact h.root
 · rw[hnd]at hj ⊢
   split
   · rename_i e;rw[if_pos e]at hj;exact absurd hj hnk
   · rename_i e;rw[if_neg e]at hj;exact h.zero j hj
 · rw[hnd]at hj ⊢
   split
   · exact hn
   · rename_i e;rw[if_neg e]at hj;exact h.loc j hj
 · rw[hnd]at he
   split at he
   · rw[hnm]at he;cases he
   · obtain⟨i,a,b,c⟩:=h.nam j e he
     exact⟨i,a,b,by rw[hold i c];exact c⟩
 · rw[hnd,if_neg hj]at hjk ⊢
   refine(h.nmd j hj0 (fun h=>h) hjk).same (hc j) (fun _ u hu=> ?_) fun _ hr=> ?_
   · obtain⟨e,he,_⟩:=cntN_pos.1 hu
     (have:(nd l u).kind≠0:=fun hz=>by rw[h.zero u hz]at he;cases he);rw[hold u this];exact hu
   · exact hr.mono (fun _=>True) (fun k _ hk=>by rw[hold k (by rw[hk];decide)];exact⟨hk,rfl,fun _ _ _=>trivial⟩) fun _ _ _=>trivial
theorem put_name {l:List NodeL}{E:Nat→Prop}(h:RigE l E){d x:Nat}(hd:(nd l d).kind=2){nm:Nm}(hl:legalL nm=0)(hf:findL (nd l d).names nm=none)(hx:E x)(hx0:x≠0)(hxk:(nd l x).kind≠0)(hz:d≠0→¬E d→cnt l d≠0) :
 RigE (l.set d (putN (nd l d) nm x)) E:=by
 have hs:=Rig.sorted h d;refine h.names d hd (putL (nd l d).names (nm,(x:Int))) E (fun _ h=>h) (sorted_put hs _ hl) (fun e he=> ?_) (fun j hj=> ?_) fun h0 h1 h2=>absurd h2 (hz h0 h1)
 · unfold putL at he
   rcases List.mem_append.1 he with he | he
   · exact h.nam d e (mem_lo.1 he).1
   · rcases List.mem_cons.1 he with rfl | he
     · exact⟨x,rfl,hx0,hxk⟩
     · exact h.nam d e (mem_hi.1 he).1
 · have:=cntN_put hs.2 hf x j
   rw[if_neg (by intro e;exact hj (by
    have:j=x:=by omega
    rw[this];exact hx))]at this
   exact this
theorem put_facts {l:List NodeL}{d x:Nat}(hs:SortedP (nd l d).names)(hd:(nd l d).kind=2){nm:Nm}(hf:findL (nd l d).names nm=none) :
 (∀j,nd (l.set d (putN (nd l d) nm x)) j=if j=d then putN (nd l d) nm x else nd l j)∧(∀j:Nat,cnt (l.set d (putN (nd l d) nm x)) j=cnt l j+if x=j then 1 else 0)∧(∀j,(nd (l.set d (putN (nd l d) nm x)) j).kind=(nd l j).kind∧(nd (l.set d (putN (nd l d) nm x)) j).up=(nd l j).up)
   ∧ 0<cntN (nd (l.set d (putN (nd l d) nm x)) d).names x:=by
 have hlt:d<l.length:=nd_kind (by rw[hd];decide);refine⟨nd_set hlt _,fun j=> ?_,nd_map_set hlt (putN (nd l d) nm x) rfl rfl,?_⟩
 · have h1:=cnt_set hlt (putN (nd l d) nm x) j
   (have h2:cntN (putN (nd l d) nm x).names j=cntN (nd l d).names j+if(x:Int)=j then 1 else 0:=cntN_put hs.2 hf x j);by_cases hx:x=j
   · subst hx;rw[if_pos rfl]at h2 ⊢;omega
   · rw[if_neg (by omega)]at h2;rw[if_neg hx];omega
 · rw[nd_set hlt,if_pos rfl]
   (have h2:cntN (putN (nd l d) nm x).names x=cntN (nd l d).names x+if(x:Int)=x then 1 else 0:=cntN_put hs.2 hf x x);rw[if_pos rfl]at h2;omega
theorem add_nd {l:List NodeL}{most room:Int}{n:NodeL}(hR:Rig l)(h0:0<l.length)(hnm:n.names = [])(hE:addE l most room n=0) :
 ∃p:Nat,addI l most room n=p∧p≠0∧(nd l p).kind=0∧(∀j,nd (addL l most room n) j=if j=p then n else nd l j)∧(∀j,cnt (addL l most room n) j=cnt l j)∧(l.length≤(addL l most room n).length∧(addL l most room n).length≤l.length+1∧((l.length:Int)≤most→((addL l most room n).length:Int)≤most))∧((bytesL (addL l most room n):Int)≤room):=by
 have hno:addNo l most room n=false:=by
  unfold addE at hE
  cases hb:addNo l most room n with
  | false=>rfl
  | true=>rw[hb]at hE;cases hE
 have hno':=hno;unfold addNo at hno';simp only[Bool.or_eq_false_iff,decide_eq_false_iff_not]at hno';(have hroot:(nd l 0).kind≠0:=by rw[hR.root.1];decide);unfold addI addL;rw[hno];rcases idx_cases l 0 with⟨h,hk⟩ | ⟨j,hj,h,hk,hb⟩
 · have hneg:idxL l 0<0:=by omega
   simp only[hneg,if_true,Bool.false_eq_true,if_false]
   have hu:usedL l=l.length:=by
    unfold usedL;rw[List.countP_eq_length];intro a ha;obtain⟨i,hi,rfl⟩:=List.mem_iff_getElem.1 ha;simpa using hk i hi
   refine⟨l.length,rfl,by omega,by rw[nd_ge (Nat.le_refl _)];rfl,nd_app l n,fun j=>by rw[cnt_app,hnm,cntN_nil];rfl,⟨by simp,by simp,fun _=>by rw[List.length_append,List.length_singleton];omega⟩,?_⟩;(have:bytesL (l++ [n])=bytesL l+weightL n:=by simp[bytesL]);omega
 · rw[h,Nat.zero_add]
   (have hneg: ¬((j:Nat):Int)<0:=by omega);simp only[hneg,if_false,Bool.false_eq_true,Int.toNat_natCast];(have hjk:(nd l j).kind=0:=by rw[nd_lt hj];exact hk);refine⟨j,rfl,fun e=>by subst e;exact hroot hjk,hjk,nd_set hj n,fun i=> ?_,⟨by simp,by simp,fun h=>by rw[List.length_set];exact h⟩,?_⟩
   · have:=cnt_set hj n i
     rw[hR.zero j hjk,hnm,show zeroN.names = []from rfl,cntN_nil]at this;omega
   · have hw : ∀(l:List NodeL) (j:Nat) (h:j<l.length),bytesL (l.set j n)+weightL l[j]=bytesL l+weightL n:=by
      intro l
      induction l with
      | nil=>intro j h;simp at h
      | cons a l ih =>
         intro j h
         cases j with
         | zero=>simp[bytesL];omega
         | succ j =>
            have:=ih j (by simpa using h);simp only[bytesL,List.set_cons_succ,List.map_cons,List.sum_cons,List.getElem_cons_succ]at this ⊢;omega
     have:=hw l j hj;omega
theorem enter_rig {l:List NodeL}{most room who:Int}{s:SpotL}{n:NodeL}(hr:RightP l)(hs:SpotW l s)(hnk:n.kind≠0)(hn:LocOk (ownN n who))(hnm:n.names = [])(hup:n.kind=2→n.up=s.dir)
 (hF:freeE l who s=0) (hE:addE l most room (ownN n who)=0) : ∃d p:Nat,s.dir=d∧(nd l d).kind=2∧addI l most room (ownN n who)=p∧p≠0∧p≠d∧(nd l p).kind=0∧legalL s.name=0∧findL (nd l d).names s.name=none∧s.ino = -1
   ∧ (∀j,nd (enterL l most room who s n).1 j=if j=d then putN (nd l d) s.name p else if j=p then ownN n who else nd l j)∧Rig (enterL l most room who s n).1
   ∧ enterL l most room who s n=((addL l most room (ownN n who)).set d (putN (nd l d) s.name p),(p:Int),0)
   ∧ (l.length≤(enterL l most room who s n).1.length∧(enterL l most room who s n).1.length≤l.length+1∧((l.length:Int)≤most→((enterL l most room who s n).1.length:Int)≤most))∧(bytesL (enterL l most room who s n).1:Int)≤room:=by
 obtain⟨hR,h0⟩:=Rig.of hr;obtain⟨d,hd,hk⟩:=spot_dir hs;have hlt:d<l.length:=nd_kind (by rw[hk];decide);unfold freeE at hF;split at hF
 · cases hF
 · rename_i hneg
   split at hF
   · cases hF
   · rename_i hlk
     obtain⟨hleg,hfn,hino⟩:=spot_new hr hs (by omega) hd hk;rw[hd,nodeL_nd (by rw[hk];decide)]at hlk;obtain⟨p,hp,hp0,hpk,hnd,hc,⟨hl1,hl2,hl3⟩,hby⟩:=add_nd (most:=most) (room:=room) (n:=ownN n who) hR h0 hnm hE;(have hpd:p≠d:=fun e=>by subst e;rw[hpk]at hk;cases hk);have hR1:=add_node (l':=addL l most room (ownN n who)) hR hpk hp0 (ownN n who) hn hnk hnm hnd hc;generalize hL:addL l most room (ownN n who)=l1 at *;(have hd1:nd l1 d=nd l d:=by rw[hnd,if_neg (Ne.symm hpd)]);(have hk1:(nd l1 d).kind=2:=by rw[hd1];exact hk);have hlt1:d<l1.length:=by omega
     have hcd:d≠0→cnt l1 d≠0:=fun hd0=>by
      rw[hc];have:=(hR.nmd d hd0 (fun h=>h) (by rw[hk];decide)).1;omega
     (have hR2:=put_name hR1 hk1 (x:=p) hleg (by rw[hd1];exact hfn) rfl hp0 (by rw[hnd,if_pos rfl];exact hnk) fun hd0 _=>hcd hd0);obtain⟨f1,f2,f3,f4⟩:=put_facts (x:=p) (Rig.sorted hR1 d) hk1 (nm:=s.name) (by rw[hd1];exact hfn)
     have heq:enterL l most room who s n=(l1.set d (putN (nd l d) s.name p),(p:Int),0):=by
      unfold enterL;rw[if_neg (by rw[show freeE l who s=0 by unfold freeE;rw[if_neg hneg,hd,nodeL_nd (by rw[hk];decide),if_neg hlk];rw[hd]at hF;exact hF];simp),if_neg (by rw[hE];simp),hp,hL];unfold namedL;rw[hd,setL_nat hlt1,nodeL_nd (by rw[hd1,hk];decide),hd1]
     rw[hd1]at f1 f2 f3 f4 hR2
     have hR3:Rig (l1.set d (putN (nd l d) s.name p)):=by
      (refine hR2.less (E':=fun _=>False) fun k hk0=> .inr fun _ _=> ?_);subst hk0;(have hc0:cnt l k=0:=cnt_zero_of fun j=>Rig.cnt_free hR hpk j);(have hck:cnt (l1.set d (putN (nd l d) s.name k)) k=1:=by rw[f2,hc,hc0,if_pos rfl]);(have hkn:nd (l1.set d (putN (nd l d) s.name k)) k=ownN n who:=by rw[f1,if_neg hpd,hnd,if_pos rfl]);rw[hkn];refine⟨(by rw[hck];rfl),fun h=>(by rw[hck]at h;cases h),fun h2=>⟨fun h=>(by rw[hck]at h;cases h),fun _=>⟨hck,⟨d,(hup h2).trans hd,f4⟩,?_⟩⟩⟩
      have hrd:Rooted l d:=by
       by_cases hd0:d=0
       · subst hd0;exact .root
       · have hN:=hR.nmd d hd0 (fun h=>h) (by rw[hk];decide)
         exact((hN.2.2 hk).2 (by rw[←hc];exact hcd hd0)).2.2
      have hrd2:Rooted (l1.set d (putN (nd l d) s.name k)) d:=by
       (refine hrd.mono (fun _=>True) (fun j _ hj=> ?_) fun _ _ _=>trivial);(have:nd l1 j=nd l j:=by rw[hnd,if_neg];intro e;subst e;rw[hpk]at hj;cases hj);rw[(f3 j).1,(f3 j).2,this];exact⟨hj,rfl,fun _ _ _=>trivial⟩
      refine .up k (by rw[hkn];exact h2) ?_;rw[hkn];show Rooted _ n.up;rw[hup h2,hd];exact hrd2
     refine⟨d,p,hd,hk,hp,hp0,hpd,hpk,hleg,hfn,hino,?_,?_,heq,?_,?_⟩
     · rw[heq]
       intro j;rw[f1];split
       · rfl
       · rw[hnd]
     · rw[heq];exact hR3
     · rw[heq]
       simp only[List.length_set];exact⟨hl1,hl2,hl3⟩
     · rw[heq]
       have hw : ∀(l:List NodeL) (j:Nat) (h:j<l.length) (m:NodeL),weightL m=weightL l[j]→bytesL (l.set j m)=bytesL l:=by
        intro l
        induction l with
        | nil=>intro j h;simp at h
        | cons a l ih =>
           intro j h m hm
           cases j with
           | zero=>simp only[bytesL,List.set_cons_zero,List.map_cons,List.sum_cons];rw[hm];rfl
           | succ j =>
              have:=ih j (by simpa using h) m hm;simp only[bytesL,List.set_cons_succ,List.map_cons,List.sum_cons]at this ⊢;omega
       have:=hw l1 d hlt1 (putN (nd l d) s.name p) (by rw[←nd_lt hlt1,hd1];rfl);simp only;rw[this];exact hby
end Go.Proofs.YtbjkkijickbppaaGreatDoor
namespace Go.Proofs.YtbjkkijickbppaaGreatDoor
theorem bytes_set {l:List NodeL}{j:Nat}(h:j<l.length)(m:NodeL):bytesL (l.set j m)+weightL (nd l j)=bytesL l+weightL m:=by
 rw[nd_lt h]
 induction l generalizing j with
 | nil=>simp at h
 | cons a l ih =>
    cases j with
    | zero=>simp[bytesL];omega
    | succ j =>
       have:=ih (j:=j) (by simpa using h);simp only[bytesL,List.set_cons_succ,List.map_cons,List.sum_cons,List.getElem_cons_succ]at this ⊢;omega
theorem Rig.all {l:List NodeL}(h:Rig l)(E:Nat→Prop):RigE l E:=h.less fun _ h=>absurd h id
end Go.Proofs.YtbjkkijickbppaaGreatDoor
namespace Go.Proofs.YtbjkkijickbppaaGreatDoor
theorem right_RP {l:List NodeL}{most room:Int}(h:rightR l most room=true):RightP l:=⟨most,room,h⟩
theorem right_back {l l':List NodeL}{most room:Int}(h:rightR l most room=true)(hr:Rig l')(hl:l'.length=l.length)(hb:bytesL l'≤bytesL l):rightR l' most room=true:=by
 obtain⟨_,h1,h2,h3⟩:=(right_iff l most room).1 h;exact(right_iff l' most room).2 ⟨hr,by omega,by omega,by omega⟩
theorem own_loc (n:NodeL)(who:Int)(hk:1≤n.kind∧n.kind≤3)(hm:0≤n.mode∧n.mode≤63)(ho:n.opn=0)(hn:n.names = [])(hd:n.kind=2→n.data = []):LocOk (ownN n who):=by
 refine⟨?_,fun _=>hn,hd,?_⟩
 · unfold plainB
   simp only[Bool.and_eq_true,decide_eq_true_iff];refine⟨⟨⟨hk,hm.1⟩,hm.2⟩,?_⟩;show 0≤n.opn;omega
 · show SortedP n.names
   rw[hn];exact sorted_nil
theorem file_loc (mode who:Int):LocOk (ownN (fileN mode) who):=own_loc _ _ (show(1:Int)≤1∧(1:Int)≤3 by decide) (by show 0≤mode % 64∧mode % 64≤63;omega) rfl rfl (fun h=>rfl)
theorem right_enter {l:List NodeL}{most room who:Int}(h:rightR l most room=true){s:SpotL}(hs:SpotW l s){n:NodeL}(hnk:n.kind≠0)(hn:LocOk (ownN n who))(hnm:n.names = [])(hup:n.kind=2→n.up=s.dir):rightR (enterL l most room who s n).1 most room=true:=by
 by_cases hF:freeE l who s=0
 · by_cases hE:addE l most room (ownN n who)=0
   · obtain⟨d,p, -, -, -, -, -, -, -, -, -, -,hR, -,⟨h1,_,h3⟩,hb⟩:=enter_rig (right_RP h) hs hnk hn hnm hup hF hE
     obtain⟨_,a1,a2,_⟩:=(right_iff l most room).1 h;exact(right_iff _ most room).2 ⟨hR,by omega,h3 a2,hb⟩
   · unfold enterL
     rw[if_neg (by rw[hF];simp),if_pos hE];exact h
 · unfold enterL
   rw[if_pos hF];exact h
section
variable {l:List NodeL} {most room:Int} (h:rightR l most room=true) (who fr:Int) (path:Str)
include h
theorem right_mkfile (mode:Int):rightR (mkfileL l most room who fr path mode).1 most room=true:=by
 unfold mkfileL;split
 · exact h
 · rename_i hw
   split
   · exact h
   · exact right_enter h (walk_spot (right_RP h) (Decidable.not_not.1 hw)) (show(1:Int)≠0 by decide) (file_loc mode who) rfl (fun h=>by cases h)
end
end Go.Proofs.YtbjkkijickbppaaGreatDoor
namespace Go.Proofs.YtbjkkijickbppaaGreatDoor
open Go.RowKit Go.Shelf
attribute [local go_sem ↓] Go.wp_at_zero Go.wp_at_succ
def AddIs (l:List NodeL)(most room:Int)(n:NodeL)(e:Ending)(W W':World):Prop :=
 ∃v,e = .returned (.tuple #[.agg #[v, .int .i64 most, .int .i64 room], .int .i64 (addI l most room n), .int .i64 (addE l most room n)])∧GivesN (addL l most room n) v W'∧Below W.heap.size W W'
def AddIsM (v:Value)(ms:List NodeM)(most room:Int)(n:NodeL)(e:Ending)(W W':World):Prop :=
 ∃v' ms',e = .returned (.tuple #[.agg #[v', .int .i64 most, .int .i64 room], .int .i64 (addI (pl ms) most room n), .int .i64 (addE (pl ms) most room n)])∧pl ms'=addL (pl ms) most room n∧RdM W'.heap.size v' ms' W'∧Below W.heap.size W W'∧∀g,g<W.heap.size→AvoidM g v ms→AvoidM g v' ms'
theorem AddIsM.plain {v:Value}{ms:List NodeM}{most room:Int}{n:NodeL}{e:Ending}{W W':World}(h:AddIsM v ms most room n e W W'):AddIs (pl ms) most room n e W W':=by
 obtain⟨v',ms',h1,h2,h3,h4,_⟩:=h;exact⟨v',h1,⟨ms',h2,h3⟩,h4⟩
end Go.Proofs.YtbjkkijickbppaaGreatDoor
namespace Go.Proofs.YtbjkkijickbppaaGreatDoor
open Go.RowKit Go.Shelf
structure Dsk (l:List NodeL):Prop where
 w : ∀ms,pl ms=l→DskW ms
 sm:Small l
theorem Dsk.len {l:List NodeL}(h:Dsk l):l.length≤10000:=Nat.le_trans h.sm.1 (by decide)
theorem Dsk.nm {l:List NodeL}(h:Dsk l)(i:Int):(nodeL l i).names.length≤130:=by
 unfold nodeL;split
 · unfold atI
   rcases Nat.lt_or_ge i.toNat l.length with h1 | h1
   · rw[List.getD_eq_getElem?_getD,List.getElem?_eq_getElem h1];exact(h.sm.2 _ (List.getElem_mem _)).2
   · rw[List.getD_eq_getElem?_getD,List.getElem?_eq_none h1];exact Nat.zero_le _
 · exact Nat.zero_le _
theorem Dsk.rig {l:List NodeL}(h:Dsk l):RightP l:=by
 (have hp:pl (l.map fun n=>(n,Value.nilIface))=l:=by simp[pl,List.map_map,Function.comp_def]);have:=(h.w _ hp).ok.right
 rwa [hp]at this
theorem cnt_small {l:List NodeL}(h:Small l)(j:Int):cnt l j≤14300:=by
 have main : ∀l:List NodeL,(∀n∈l,n.names.length≤130)→(l.map fun n=>cntN n.names j).sum≤l.length*130:=by
  intro l
  induction l with
  | nil=>intro _;exact Nat.le_refl _
  | cons n l ih =>
     intro hl;(have h1:=ih fun m hm=>hl m (List.mem_cons_of_mem _ hm));have h2:=hl n List.mem_cons_self;have h3:cntN n.names j≤n.names.length:=List.countP_le_length;simp only[List.map_cons,List.sum_cons,List.length_cons];omega
 (have h1:=main l fun n hn=>(h.2 n hn).2);have h2:=h.1;unfold cnt;omega
theorem nodeL_no {l:List NodeL}{i:Int}(h:gotB l i=false):nodeL l i=zeroN:=by unfold nodeL;rw[h];rfl
theorem links_small {l:List NodeL}(h:Dsk l)(i:Int):0≤(nodeL l i).links∧(nodeL l i).links≤14300:=by
 cases hg:gotB l i with
 | false=>rw[nodeL_no hg];exact⟨Int.le_refl 0,by decide⟩
 | true =>
    obtain⟨k,rfl,hlt,hk⟩:=got_nat hg;rw[nodeL_nd hk];obtain⟨hR,_⟩:=Rig.of h.rig;by_cases h0:k=0
    · subst h0;rw[hR.root.2.2];exact⟨by decide,by decide⟩
    · rw[(hR.nmd k h0 id hk).1]
      have:=cnt_small h.sm k;omega
theorem drop_links (l:List NodeL)(s:SpotL)(i:Int):(nodeL (droppedL l s) i).links=(nodeL l i).links:=by
 unfold droppedL setL;split
 · rename_i h
   obtain⟨k,hk,hlt⟩:=in_nat h;rw[hk,Int.toNat_natCast];rcases(show i<0∨0≤i by omega)with h2 | h2
   · have hn : ∀l:List NodeL,gotB l i=false:=fun l=>by unfold gotB inL;rw[decide_eq_false (by omega)];rfl
     rw[nodeL_no (hn _),nodeL_no (hn _)]
   · obtain⟨j,rfl⟩:=Int.eq_ofNat_of_zero_le h2
     by_cases hj:j=k
     · subst hj
       by_cases hg:(nd l j).kind=0
       · have h3:gotB l j=false:=by cases h4:gotB l j with | false=>rfl | true=>exact absurd hg ((got_nd l j).1 h4)
         rw[nodeL_no h3];refine congrArg NodeL.links (nodeL_no ?_)
         cases h4:gotB (l.set j (dropN zeroN s.name)) j with
         | false=>rfl
         | true =>
            have:=(got_nd _ j).1 h4;rw[nd_set hlt,if_pos rfl]at this;exact absurd rfl this
       · have e1:=nodeL_nd hg
         rw[e1];rw[nodeL_nd (by rw[nd_set hlt,if_pos rfl];exact hg),nd_set hlt,if_pos rfl];rfl
     · have e1:nd (l.set k (dropN (nodeL l k) s.name)) j=nd l j:=by rw[nd_set hlt,if_neg hj]
       cases h4:gotB l j with
       | true =>
          have h5:=(got_nd l j).1 h4;rw[nodeL_nd h5,nodeL_nd (by rw[e1];exact h5),e1]
       | false =>
          have h5:gotB (l.set k (dropN (nodeL l k) s.name)) j=false:=by
           cases h6:gotB (l.set k (dropN (nodeL l k) s.name)) j with
           | false=>rfl
           | true =>
              have:=(got_nd _ j).1 h6;rw[e1]at this;rw[(got_nd l j).2 this]at h4
              cases h4
          rw[nodeL_no h4,nodeL_no h5]
 · rfl
theorem Dsk.wrap {l:List NodeL}(h:Dsk l)(s:SpotL):IntKind.i64.wrap ((nodeL (droppedL l s) s.ino).links-1)=(nodeL (droppedL l s) s.ino).links-1:=by
 rw[drop_links];have:=links_small h s.ino;exact Go.IntWalk.i64_in _ (by omega)
theorem GivesX.none {X:Nat→Prop}{l:List NodeL}{v:Value}{W:World}(h:GivesX X l v W):GivesX (fun _=>False) l v W:=h.sub fun _ h=>h.elim
end Go.Proofs.YtbjkkijickbppaaGreatDoor
