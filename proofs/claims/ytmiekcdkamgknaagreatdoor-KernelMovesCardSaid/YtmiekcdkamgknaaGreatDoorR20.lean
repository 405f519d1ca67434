import Derived.Test.YtmiekcdkamgknaaGreatDoorR15
import Derived.Test.YtmiekcdkamgknaaGreatDoorR19
namespace Go.Proofs.YtmiekcdkamgknaaGreatDoor
def nd (l:List NodeL)(k:Nat):NodeL:=l.getD k zeroN
theorem nd_lt {l:List NodeL}{k:Nat}(h:k<l.length):nd l k=l[k]:=by
 unfold nd;rw[List.getD_eq_getElem?_getD,List.getElem?_eq_getElem h];rfl
theorem nd_ge {l:List NodeL}{k:Nat}(h:l.length≤k):nd l k=zeroN:=by
 unfold nd;rw[List.getD_eq_getElem?_getD,List.getElem?_eq_none h];rfl
theorem nd_kind {l:List NodeL}{k:Nat}(h:(nd l k).kind≠0):k<l.length:=by
 (refine Decidable.byContradiction fun hk=>h ?_);rw[nd_ge (by omega)];rfl
theorem at_nd (l:List NodeL)(k:Nat):atI l (k:Int)=nd l k:=by unfold atI nd;rw[Int.toNat_natCast]
theorem got_nd (l:List NodeL)(k:Nat):gotB l (k:Int)=true↔(nd l k).kind≠0:=by
 unfold gotB;rw[at_nd,Bool.and_eq_true];constructor
 · rintro⟨_,h⟩;simpa using h
 · intro h;exact⟨nat_in (nd_kind h),by simpa using h⟩
theorem got_nat {l:List NodeL}{i:Int}(h:gotB l i=true) : ∃k:Nat,i=k∧k<l.length∧(nd l k).kind≠0:=by
 obtain⟨h0,h1⟩:=got_le h;obtain⟨k,rfl⟩:=Int.eq_ofNat_of_zero_le h0;exact⟨k,rfl,by omega,(got_nd l k).1 h⟩
theorem nodeL_nd {l:List NodeL}{k:Nat}(h:(nd l k).kind≠0):nodeL l (k:Int)=nd l k:=by
 unfold nodeL;rw[if_pos ((got_nd l k).2 h),at_nd]
theorem nd_set {l:List NodeL}{k:Nat}(h:k<l.length)(n:NodeL)(j:Nat):nd (l.set k n) j=if j=k then n else nd l j:=by
 unfold nd;rw[List.getD_eq_getElem?_getD,List.getD_eq_getElem?_getD,List.getElem?_set];by_cases e:j=k
 · subst e;simp[h]
 · rw[if_neg e,if_neg (fun h=>e h.symm)]
theorem nd_app (l:List NodeL)(n:NodeL)(j:Nat):nd (l++ [n]) j=if j=l.length then n else nd l j:=by
 by_cases h:j<l.length
 · rw[if_neg (by omega),nd_lt (l:=l++ [n]) (by rw[List.length_append];omega),nd_lt h,List.getElem_append_left]
 · by_cases e:j=l.length
   · subst e;rw[if_pos rfl,nd_lt (l:=l++ [n]) (by simp)];simp
   · rw[if_neg e,nd_ge (by rw[List.length_append,List.length_singleton];omega),nd_ge (by omega)]
def cntN (es:List EntL)(j:Int):Nat:=es.countP fun e=>decide (e.2=j)
def cnt (l:List NodeL)(j:Int):Nat:=(l.map fun n=>cntN n.names j).sum
theorem cntN_nil (j:Int):cntN [] j=0:=rfl
theorem cntN_pos {es:List EntL}{j:Int}:0<cntN es j↔ ∃e∈es,e.2=j:=by
 unfold cntN;rw[List.countP_pos_iff];simp
theorem cntN_zero {es:List EntL}{j:Int}:cntN es j=0↔ ∀e∈es,e.2≠j:=by
 unfold cntN;rw[List.countP_eq_zero];simp
theorem cntN_app (a b:List EntL)(j:Int):cntN (a++b) j=cntN a j+cntN b j:=List.countP_append
theorem cntN_mid (n:Nm)(m:Option Int)(j:Int):cntN (mid n m) j=if m=some j then 1 else 0:=by
 cases m with
 | none=>rfl
 | some i=>by_cases h:i=j<;>simp[mid,cntN,h]
theorem cntN_put {es:List EntL}(h:Up es){nm:Nm}(hf:findL es nm=none)(i j:Int):cntN (putL es (nm,i)) j=cntN es j+if i=j then 1 else 0:=by
 have e:=eparts h nm;rw[hf]at e;rw[put_mid]
 conv=>rhs;rw[e]
 simp only[cntN_app,cntN_mid];by_cases hij:i=j<;>simp[hij]<;>omega
theorem cnt_set {l:List NodeL}{k:Nat}(h:k<l.length)(n:NodeL)(j:Int):cnt (l.set k n) j+cntN (nd l k).names j=cnt l j+cntN n.names j:=by
 rw[nd_lt h];unfold cnt
 induction l generalizing k with
 | nil=>simp at h
 | cons a l ih =>
    cases k with
    | zero=>simp;omega
    | succ k =>
       have:=ih (k:=k) (by simpa using h);simp only[List.set_cons_succ,List.map_cons,List.sum_cons,List.getElem_cons_succ]at this ⊢;omega
theorem cnt_app (l:List NodeL)(n:NodeL)(j:Int):cnt (l++ [n]) j=cnt l j+cntN n.names j:=by simp[cnt]
theorem cnt_ge {l:List NodeL}(k:Nat)(j:Int):cntN (nd l k).names j≤cnt l j:=by
 by_cases h:k<l.length
 · have:=cnt_set h ⟨0,0,0,0,0,0,[],[]⟩ j
   simp only[cntN_nil]at this;omega
 · rw[nd_ge (by omega)];exact Nat.zero_le _
theorem cnt_ge2 {l:List NodeL}{k h:Nat}(hne:k≠h)(j:Int):cntN (nd l k).names j+cntN (nd l h).names j≤cnt l j:=by
 by_cases hk:k<l.length
 · have h1:=cnt_set hk ⟨0,0,0,0,0,0,[],[]⟩ j
   have h2:=cnt_ge (l:=l.set k ⟨0,0,0,0,0,0,[],[]⟩) h j;rw[nd_set hk,if_neg (Ne.symm hne)]at h2;simp only[cntN_nil]at h1;omega
 · rw[nd_ge (l:=l) (k:=k) (by omega)]
   have:=cnt_ge (l:=l) h j;simpa[zeroN,cntN_nil]using this
theorem cnt_pos {l:List NodeL}{j:Int}(h:0<cnt l j) : ∃k,0<cntN (nd l k).names j:=by
 induction l with
 | nil=>exact absurd h (Nat.lt_irrefl 0)
 | cons a l ih =>
    (have e:cnt (a::l) j=cntN a.names j+cnt l j:=by simp[cnt]);by_cases h0:0<cntN a.names j
    · exact⟨0,h0⟩
    · obtain⟨k,hk⟩:=ih (by omega)
      exact⟨k+1,hk⟩
theorem nm_cnt (l:List NodeL)(j:Int)(s:Nat × Int):(nmL l j s).1=s.1+cnt l j:=by
 have hf : ∀(es:List EntL) (at':Int) (s:Nat × Int),(foldN j at' s es).1=s.1+cntN es j:=by
  intro es at'
  induction es with
  | nil=>intro s;rfl
  | cons e es ih =>
     intro s;show(foldN j at' (stepN j at' s e) es).1=_;rw[ih];unfold stepN cntN;by_cases h:e.2=j<;>simp[h]<;>omega
 have : ∀k,k≤l.length→(nmTo l j s k).1=s.1+cnt (l.take k) j:=by
  intro k
  induction k with
  | zero=>intro _;simp[nmTo,cnt]
  | succ k ih =>
     intro hk;show(foldN j k (nmTo l j s k) (l.getD k zeroN).names).1=_;rw[hf,ih (by omega),List.take_succ_eq_append_getElem (by omega),cnt_app,←nd_lt (by omega)];unfold nd;omega
 have:=this l.length (Nat.le_refl _)
 rwa [List.take_length]at this
inductive Rooted (l:List NodeL):Int→Prop
 | root:Rooted l 0
 | up (k:Nat):(nd l k).kind=2→Rooted l (nd l k).up→Rooted l k
def LocOk (n:NodeL):Prop:=plainB n=true∧(n.kind≠2→n.names = [])∧(n.kind=2→n.data = [])∧SortedP n.names
def Placed (l:List NodeL)(k:Nat)(n:NodeL):Prop :=
 (cnt l k=0→n.names = []∧n.up=0)∧(cnt l k≠0→cnt l k=1∧(∃h:Nat,n.up=h∧0<cntN (nd l h).names k)∧Rooted l k)
def NamedOk (l:List NodeL)(k:Nat)(n:NodeL):Prop:=n.links=cnt l k∧(cnt l k=0→1≤n.opn)∧(n.kind=2→Placed l k n)
structure RigE (l:List NodeL) (E:Nat→Prop):Prop where
 root:(nd l 0).kind=2∧(nd l 0).up=0∧(nd l 0).links=1
 zero : ∀k,(nd l k).kind=0→nd l k=zeroN
 loc : ∀k,(nd l k).kind≠0→LocOk (nd l k)
 nam : ∀k,∀e∈(nd l k).names,∃j:Nat,e.2=j∧j≠0∧(nd l j).kind≠0
 nmd : ∀k,k≠0→¬E k→(nd l k).kind≠0→NamedOk l k (nd l k)
abbrev Rig (l:List NodeL):Prop:=RigE l fun _=>False
theorem rootR_Rooted {l:List NodeL} : ∀(f:Nat) (j:Int),rootR l f j=true→Rooted l j:=by
 intro f
 induction f with
 | zero=>intro j h;cases h
 | succ f ih =>
    intro j h;rcases rootR_up h with rfl | ⟨hg,hk,h2⟩
    · exact .root
    · obtain⟨k,rfl,_,_⟩:=got_nat hg
      rw[at_nd]at hk h2;exact .up k hk (ih _ h2)
theorem rootR_mono (l:List NodeL) : ∀(f:Nat) (j:Int),rootR l f j=true→rootR l (f+1) j=true:=by
 intro f
 induction f with
 | zero=>intro j h;cases h
 | succ f ih =>
    intro j h;unfold rootR at h ⊢;split
    · rfl
    · rename_i h0
      rw[if_neg h0]at h;split at h
      · rename_i h1;rw[if_pos h1];exact ih _ h
      · cases h
theorem rootR_path (l:List NodeL)(h0:0<l.length) : ∀(f:Nat) (j:Int),rootR l (f+1) j=true→rootR l f j=false →
 ∃L:List Nat,L.length=f+1∧L.Nodup∧(∀x∈L,x<l.length)∧∀x∈L,rootR l (f+1) (x:Int)=true:=by
 intro f
 induction f with
 | zero =>
    intro j h _;refine⟨[0],rfl,by simp,fun x hx=> ?_,fun x hx=> ?_⟩
    · obtain rfl:=List.mem_singleton.1 hx;exact h0
    · obtain rfl:=List.mem_singleton.1 hx;rfl
 | succ f ih =>
    intro j h hn
    have hj:j≠0:=by
     intro e;subst e;rw[show rootR l (f+1) 0=true from rfl]at hn
     cases hn
    rcases rootR_up h with h1 | ⟨hg,hk,h2⟩
    · exact absurd h1 hj
    · have hn':rootR l f (atI l j).up=false:=by
       unfold rootR at hn;rw[if_neg hj,if_pos (by rw[hg,hk];rfl)]at hn;exact hn
      obtain⟨k,rfl,hlt,_⟩:=got_nat hg;obtain⟨L,a1,a2,a3,a4⟩:=ih _ h2 hn';refine⟨k::L,by simp[a1],List.nodup_cons.2 ⟨fun hm=> ?_,a2⟩,fun x hx=> ?_,fun x hx=> ?_⟩
      · have:=a4 k hm
        rw[hn]at this
        cases this
      · rcases List.mem_cons.1 hx with rfl | hx
        · exact hlt
        · exact a3 x hx
      · rcases List.mem_cons.1 hx with rfl | hx
        · exact h
        · exact rootR_mono l _ _ (a4 x hx)
theorem rootR_len (l:List NodeL)(h0:0<l.length) : ∀(f:Nat) (j:Int),rootR l f j=true→rootR l (l.length+1) j=true:=by
 intro f
 induction f with
 | zero=>intro j h;cases h
 | succ f ih =>
    intro j h;by_cases hf:f+1≤l.length+1
    · have : ∀d,rootR l (f+1+d) j=true:=by
       intro d
       induction d with
       | zero=>exact h
       | succ d ihd=>exact rootR_mono l _ _ ihd
      have h2:=this (l.length+1-(f+1))
      rwa [show f+1+(l.length+1-(f+1))=l.length+1 by omega]at h2
    · cases hc:rootR l f j with
      | true=>exact ih j hc
      | false =>
         obtain⟨L,a1,a2,a3,_⟩:=rootR_path l h0 f j h hc;have:=pigeon _ _ a2 a3;omega
theorem Rooted_rootR {l:List NodeL}(h0:0<l.length){j:Int}(h:Rooted l j):rootR l (l.length+1) j=true:=by
 have : ∃f,rootR l f j=true:=by
  induction h with
  | root=>exact⟨1,rfl⟩
  | up k hk _ ih =>
     obtain⟨f,hf⟩:=ih;refine⟨f+1,?_⟩;unfold rootR;split
     · rfl
     · rw[at_nd,if_pos (by rw[(got_nd l k).2 (by rw[hk];decide),hk];rfl)]
       exact hf
 obtain⟨f,hf⟩:=this;exact rootR_len l h0 f j hf
theorem Rooted_iff {l:List NodeL}(h0:0<l.length)(j:Int):rootR l (l.length+1) j=true↔Rooted l j:=⟨rootR_Rooted _ _,Rooted_rootR h0⟩
end Go.Proofs.YtmiekcdkamgknaaGreatDoor
namespace Go.Proofs.YtmiekcdkamgknaaGreatDoor
theorem holder {l:List NodeL}{k:Int}(h:cnt l k≠0) : ∃h0:Nat,(nmL l k (0, -1)).2=h0∧0<cntN (nd l h0).names k:=by
 have h1:=nm_holds l k (-1) (by rw[nm_cnt];omega);obtain⟨h0,e,hlt,x,hx,hk⟩:=h1;exact⟨h0,e,by rw[nd_lt hlt];exact cntN_pos.2 ⟨x,hx,hk⟩⟩
theorem lastR_iff {l:List NodeL}(h0:0<l.length){k:Nat}(hk:k≠0)(n:NodeL):lastR l (k:Int) n (nmL l k (0, -1))=true↔NamedOk l k n:=by
 have hc:=nm_cnt l k (0, -1);(have hk': ¬(k:Int)=0:=by omega);unfold lastR NamedOk Placed;rw[if_neg hk',hc,Nat.zero_add];constructor
 · intro h
   split at h
   · cases h
   · rename_i h1
     have hl:n.links=cnt l k:=Decidable.byContradiction fun hn=>h1 (.inl hn)
     have ho:cnt l k=0→1≤n.opn:=fun hz=>by
      refine Decidable.byContradiction fun hn=>h1 (.inr ⟨hz,by omega⟩)
     refine⟨hl,ho,fun h2=> ?_⟩;rw[if_neg (by simpa using h2)]at h;split at h
     · rename_i hz
       simp only[Bool.and_eq_true,decide_eq_true_iff]at h;exact⟨fun _=>⟨List.eq_nil_of_length_eq_zero h.1,h.2⟩,fun hn=>absurd hz hn⟩
     · rename_i hz
       simp only[Bool.and_eq_true,decide_eq_true_iff]at h;refine⟨fun hn=>absurd hn hz,fun _=>⟨h.1.1,?_,(Rooted_iff h0 k).1 h.2⟩⟩;obtain⟨h3,e,hp⟩:=holder (l:=l) (k:=k) hz;exact⟨h3,h.1.2.trans e,hp⟩
 · rintro⟨hl,ho,hd⟩
   rw[if_neg (by rintro(h | ⟨h,h'⟩);exact h hl;have:=ho h;omega)];split
   · rfl
   · rename_i h2
     obtain⟨p0,p1⟩:=hd (by simpa using h2);split
     · rename_i hz
       obtain⟨e1,e2⟩:=p0 hz;rw[e1,e2];rfl
     · rename_i hz
       obtain⟨e1,⟨h3,e2,e3⟩,e4⟩:=p1 hz;obtain⟨h5,e6,hp⟩:=holder (l:=l) (k:=k) hz
       have:h3=h5:=Decidable.byContradiction fun hne=>by
        have:=cnt_ge2 (l:=l) hne k;omega
       subst this;simp only[Bool.and_eq_true,decide_eq_true_iff];exact⟨⟨e1,e2.trans e6.symm⟩,(Rooted_iff h0 k).2 e4⟩
theorem okR_iff {l:List NodeL}{k:Nat}{n:NodeL}(hn:n.kind≠0):okR l k n=true↔LocOk n∧namableB l n.names=true∧lastR l k n (nmL l k (0, -1))=true:=by
 unfold okR LocOk;rw[if_neg hn];simp only[Bool.and_eq_true,decide_eq_true_iff,Bool.or_eq_true,Bool.not_eq_true',decide_eq_false_iff_not];constructor
 · rintro⟨⟨⟨⟨⟨h1,h2⟩,h3⟩,h4⟩,h5⟩,h6⟩
   exact⟨⟨h1,fun hk=>List.eq_nil_of_length_eq_zero (h2.resolve_left hk),fun hk=>h3.resolve_left (fun h=>h hk),h4⟩,h5,h6⟩
 · rintro⟨⟨h1,h2,h3,h4⟩,h5,h6⟩
   refine⟨⟨⟨⟨⟨h1,?_⟩,?_⟩,h4⟩,h5⟩,h6⟩
   · by_cases hk:n.kind=2
     · exact .inl hk
     · exact .inr (by rw[h2 hk];rfl)
   · by_cases hk:n.kind=2
     · exact .inr (h3 hk)
     · exact .inl hk
theorem namable_iff {l:List NodeL}{es:List EntL}:namableB l es=true↔ ∀e∈es,∃j:Nat,e.2=j∧j≠0∧(nd l j).kind≠0:=by
 unfold namableB;rw[List.all_eq_true];(refine forall_congr' fun e=>forall_congr' fun _=> ?_);unfold namB;simp only[Bool.and_eq_true,Bool.not_eq_true',decide_eq_false_iff_not];constructor
 · rintro⟨h1,h2⟩
   obtain⟨k,hk,_,h3⟩:=got_nat h1;exact⟨k,hk,by omega,h3⟩
 · rintro⟨j,h1,h2,h3⟩
   rw[h1];exact⟨(got_nd l j).2 h3,by omega⟩
theorem right_iff (l:List NodeL)(most room:Int):rightR l most room=true↔Rig l∧0<l.length∧(l.length:Int)≤most∧(bytesL l:Int)≤room:=by
 unfold rightR;simp only[Bool.and_eq_true,Bool.not_eq_true',decide_eq_false_iff_not,decide_eq_true_iff];rw[range_all];have hat0:atI l 0=nd l 0:=at_nd l 0;constructor
 · rintro⟨⟨⟨⟨h1,h2⟩,h3⟩,h4⟩,h5⟩
   (have hlen:0<l.length:=by omega);rw[hat0]at h4
   have hok : ∀k,(nd l k).kind≠0→LocOk (nd l k)∧namableB l (nd l k).names=true∧lastR l k (nd l k) (nmL l k (0, -1))=true:=fun k hk=>by
    have:=h5 k (nd_kind hk);rw[at_nd]at this;exact(okR_iff hk).1 this
   refine⟨⟨?_,fun k hk=> ?_,fun k hk=>(hok k hk).1,fun k e he=> ?_,fun k h0 _ hk=> ?_⟩,hlen,by omega,by omega⟩
   · have:=(hok 0 (by rw[h4];decide)).2.2
     unfold lastR at this;rw[if_pos (show((0:Nat):Int)=0 from rfl)]at this;simp only[Bool.and_eq_true,decide_eq_true_iff]at this;exact⟨this.1.1,this.1.2,this.2⟩
   · by_cases hlt:k<l.length
     · have:=h5 k hlt
       rw[at_nd]at this;unfold okR at this;rw[if_pos hk]at this;exact of_decide_eq_true this
     · exact nd_ge (by omega)
   · have hkk:(nd l k).kind≠0:=fun hz=>by
      by_cases hlt:k<l.length
      · have:=h5 k hlt
        rw[at_nd]at this;unfold okR at this;rw[if_pos hz]at this;rw[of_decide_eq_true this]at he
        cases he
      · rw[nd_ge (by omega)]at he
        cases he
     exact namable_iff.1 (hok k hkk).2.1 e he
   · exact(lastR_iff hlen h0 _).1 (hok k hk).2.2
 · rintro⟨hR,hlen,h2,h3⟩
   refine⟨⟨⟨⟨by omega,by omega⟩,by omega⟩,by rw[hat0];exact hR.root.1⟩,fun k hk=> ?_⟩;rw[at_nd];by_cases hz:(nd l k).kind=0
   · unfold okR
     rw[if_pos hz];exact decide_eq_true (hR.zero k hz)
   · refine(okR_iff hz).2 ⟨hR.loc k hz,namable_iff.2 (hR.nam k),?_⟩
     by_cases h0:k=0
     · subst h0
       unfold lastR;rw[if_pos (show((0:Nat):Int)=0 from rfl)];obtain⟨a,b,c⟩:=hR.root;rw[a,b,c];rfl
     · exact(lastR_iff hlen h0 _).2 (hR.nmd k h0 (fun h=>h) hz)
theorem Rooted.mono {l l':List NodeL}(P:Nat→Prop)(hs : ∀k,P k→(nd l k).kind=2→(nd l' k).kind=2∧(nd l' k).up=(nd l k).up∧∀u:Nat,(nd l k).up=u→u≠0→P u) :
 ∀ {j:Int},Rooted l j→(∀k:Nat,j=k→k≠0→P k)→Rooted l' j:=by
 intro j h
 induction h with
 | root=>exact fun _=> .root
 | up k hk hr ih =>
    intro hP;by_cases h0:k=0
    · subst h0;exact .root
    · obtain⟨a,b,c⟩:=hs k (hP k rfl h0) hk
      refine .up k a ?_;rw[b];exact ih fun u hu=>c u hu
theorem NamedOk.same {l l':List NodeL}{k:Nat}{n:NodeL}(h:NamedOk l k n)(hc:cnt l' k=cnt l k)(hh:n.kind=2→∀h:Nat,0<cntN (nd l h).names k→0<cntN (nd l' h).names k)(hr:n.kind=2→Rooted l k→Rooted l' k):NamedOk l' k n:=by
 obtain⟨h1,h2,h3⟩:=h;refine⟨by rw[hc];exact h1,by rw[hc];exact h2,fun hk=> ?_⟩;obtain⟨h4,h5⟩:=h3 hk;refine⟨by rw[hc];exact h4,?_⟩;rw[hc];intro hn;obtain⟨a,⟨u,b,c⟩,d⟩:=h5 hn;exact⟨a,⟨u,b,hh hk u c⟩,hr hk d⟩
theorem RigE.names {l:List NodeL}{E:Nat→Prop}(h:RigE l E)(d:Nat)(hd:(nd l d).kind=2)(es:List EntL)(E':Nat→Prop)(hE : ∀k,E k→E' k)(hs:SortedP es)
 (hn : ∀e∈es,∃j:Nat,e.2=j∧j≠0∧(nd l j).kind≠0) (hc : ∀j:Nat,¬E' j→cntN es j=cntN (nd l d).names j) (hz:d≠0→¬E' d→cnt l d=0→es = []) :
 RigE (l.set d { nd l d with names:=es}) E':=by
 have hlt:d<l.length:=nd_kind (by rw[hd];decide);have hnd : ∀j,nd (l.set d { nd l d with names:=es}) j=if j=d then { nd l d with names:=es} else nd l j:=nd_set hlt _
 have hk : ∀j,(nd (l.set d { nd l d with names:=es}) j).kind=(nd l j).kind∧(nd (l.set d { nd l d with names:=es}) j).up=(nd l j).up∧(nd (l.set d { nd l d with names:=es}) j).links=(nd l j).links:=fun j=>by
  rw[hnd];split
  · rename_i e;rw[e];exact⟨rfl,rfl,rfl⟩
  · exact⟨rfl,rfl,rfl⟩
 have hcn : ∀j:Nat,¬E' j→cnt (l.set d { nd l d with names:=es}) j=cnt l j:=fun j hj=>by
  have h1:cnt (l.set d { nd l d with names:=es}) j+cntN (nd l d).names j=cnt l j+cntN es j:=cnt_set hlt _ j;have h2:=hc j hj;omega
 refine⟨by obtain⟨a,b,c⟩:=h.root;exact⟨(hk 0).1.trans a,(hk 0).2.1.trans b,(hk 0).2.2.trans c⟩,fun j hj=> ?_,fun j hj=> ?_,fun j e he=> ?_,fun j h0 hj hjk=> ?_⟩
 · rw[(hk j).1]at hj
   rw[hnd,if_neg (by intro e;rw[e,hd]at hj;cases hj)];exact h.zero j hj
 · rw[(hk j).1]at hj
   rw[hnd];split
   · rename_i e
     subst e;obtain⟨a,b,c,_⟩:=h.loc j hj;exact⟨a,fun h=>absurd hd h,c,hs⟩
   · exact h.loc j hj
 · have : ∃i:Nat,e.2=i∧i≠0∧(nd l i).kind≠0:=by
    rw[hnd]at he;split at he
    · exact hn e he
    · exact h.nam j e he
   obtain⟨i,a,b,c⟩:=this;exact⟨i,a,b,by rw[(hk i).1];exact c⟩
 · rw[(hk j).1]at hjk
   have hn:=h.nmd j h0 (fun he=>hj (hE j he)) hjk
   have hn':NamedOk (l.set d { nd l d with names:=es}) j (nd l j):=by
    (refine hn.same (hcn j hj) (fun _ u hu=> ?_) fun _ hr=>hr.mono (fun _=>True) (fun k _ hk2=>⟨(hk k).1.trans hk2,(hk k).2.1,fun _ _ _=>trivial⟩) fun _ _ _=>trivial);rw[hnd];split
    · rename_i e;subst e;simp only;rw[hc j hj];exact hu
    · exact hu
   rw[hnd];split
   · rename_i e
     subst e;obtain⟨a,b,c⟩:=hn';refine⟨a,b,fun h2=> ?_⟩;obtain⟨c1,c2⟩:=c hd;refine⟨fun hz0=>⟨hz h0 hj ((hcn j hj).symm.trans hz0),(c1 hz0).2⟩,c2⟩
   · exact hn'
theorem RigE.less {l:List NodeL}{E E':Nat→Prop}(h:RigE l E)(hE : ∀k,E k→E' k∨(k≠0→(nd l k).kind≠0→NamedOk l k (nd l k))):RigE l E':=by
 refine⟨h.root,h.zero,h.loc,h.nam,fun k h0 hk hkk=> ?_⟩;by_cases he:E k
 · exact(hE k he).resolve_left hk h0 hkk
 · exact h.nmd k h0 he hkk
theorem RigE.node {l:List NodeL}{E:Nat→Prop}(h:RigE l E){y:Nat}(hy:E y)(h0:y≠0)(hlt:y<l.length)(n:NodeL)(hnm:n.names=(nd l y).names)(hl:n.kind≠0→LocOk n)(hz:n.kind=0→n=zeroN)(hk0:n.kind=0→∀k,cntN (nd l k).names y=0)
 (hr : ∀k:Nat,k≠0→¬E k→(nd l k).kind=2→Rooted l k→Rooted (l.set y n) k):RigE (l.set y n) E:=by
  have hnd : ∀j,nd (l.set y n) j=if j=y then n else nd l j:=nd_set hlt _
  have hc : ∀j:Int,cnt (l.set y n) j=cnt l j:=fun j=>by
   have:=cnt_set hlt n j;rw[hnm]at this;omega
  have hns : ∀j,(nd (l.set y n) j).names=(nd l j).names:=fun j=>by
   rw[hnd];split
   · rename_i e;rw[e,hnm]
   · rfl
  refine⟨by rw[hnd,if_neg (Ne.symm h0)];exact h.root,fun j hj=> ?_,fun j hj=> ?_,fun j e he=> ?_,fun j hj0 hj hjk=> ?_⟩
  · rw[hnd]at hj ⊢
    split
    · rename_i e;rw[if_pos e]at hj;exact hz hj
    · rename_i e;rw[if_neg e]at hj;exact h.zero j hj
  · rw[hnd]at hj ⊢
    split
    · rename_i e;rw[if_pos e]at hj;exact hl hj
    · rename_i e;rw[if_neg e]at hj;exact h.loc j hj
  · rw[hns]at he
    obtain⟨i,a,b,c⟩:=h.nam j e he;refine⟨i,a,b,?_⟩;rw[hnd];split
    · rename_i e1
      subst e1;intro hn0;have:=cntN_zero.1 (hk0 hn0 j) e he;exact this a
    · exact c
  · have hjy:j≠y:=fun e=>hj (e▸hy)
    rw[hnd,if_neg hjy]at hjk ⊢;refine(h.nmd j hj0 hj hjk).same (hc j) (fun _ u hu=>by rw[hns];exact hu) fun h2 hr0=>hr j hj0 hj h2 hr0
end Go.Proofs.YtmiekcdkamgknaaGreatDoor
namespace Go.Proofs.YtmiekcdkamgknaaGreatDoor
def settleL (l:List NodeL)(i:Int):List NodeL:=if gotB l i=true∧i≠0∧(nodeL l i).links≤0∧(nodeL l i).opn≤0 then setL l i zeroN else l
def writesL (l:List NodeL)(who d:Int):Bool:=mayB (nodeL l d).mode (nodeL l d).owner who 2
def putN (n:NodeL)(nm:Nm)(i:Int):NodeL:= { n with names:=putL n.names (nm,i)}
def dropN (n:NodeL)(nm:Nm):NodeL:= { n with names:=dropL n.names nm}
def namedL (l:List NodeL)(s:SpotL)(i:Int):List NodeL:=setL l s.dir (putN (nodeL l s.dir) s.name i)
def droppedL (l:List NodeL)(s:SpotL):List NodeL:=setL l s.dir (dropN (nodeL l s.dir) s.name)
def freeE (l:List NodeL)(who:Int)(s:SpotL):Int:=if 0≤s.ino then 3 else if(nodeL l s.dir).links<1 then 2 else if writesL l who s.dir=false then 7 else 0
abbrev ChgL:=List NodeL × Int
abbrev MakL:=List NodeL × Int × Int
def ownN (n:NodeL)(who:Int):NodeL:= { n with links:=1,owner:=who}
def enterL (l:List NodeL)(most room who:Int)(s:SpotL)(n:NodeL):MakL :=
 if freeE l who s≠0 then(l,0,freeE l who s)
 else if addE l most room (ownN n who)≠0 then(l,0,addE l most room (ownN n who))
 else(namedL (addL l most room (ownN n who)) s (addI l most room (ownN n who)),addI l most room (ownN n who),0)
def fileN (mode:Int):NodeL:=⟨1,mode % 64,0,0,0,0,[],[]⟩
def dirN (mode up:Int):NodeL:=⟨2,mode % 64,0,0,0,up,[],[]⟩
def linkN (text:Nm):NodeL:=⟨3,63,0,0,0,0,text,[]⟩
def mkfileL (l:List NodeL)(most room who fr:Int)(path:Str)(mode:Int):MakL :=
 if(walkL l who fr path false).2≠0 then(l,0,(walkL l who fr path false).2)
 else if(walkL l who fr path false).1.slash=true∧(walkL l who fr path false).1.ino<0 then(l,0,5)
 else enterL l most room who (walkL l who fr path false).1 (fileN mode)
def mkdirL (l:List NodeL)(most room who fr:Int)(path:Str)(mode:Int):ChgL :=
 if(walkL l who fr path false).2≠0 then(l,(walkL l who fr path false).2)
 else((enterL l most room who (walkL l who fr path false).1 (dirN mode (walkL l who fr path false).1.dir)).1,(enterL l most room who (walkL l who fr path false).1 (dirN mode (walkL l who fr path false).1.dir)).2.2)
def symlinkL (l:List NodeL)(most room who fr:Int)(text path:Str):ChgL :=
 if text = []then(l,2)else if 100<text.length then(l,9)
 else if(walkL l who fr path false).2≠0 then(l,(walkL l who fr path false).2)
 else if(walkL l who fr path false).1.slash=true∧(walkL l who fr path false).1.ino<0 then(l,4)
 else((enterL l most room who (walkL l who fr path false).1 (linkN text)).1,(enterL l most room who (walkL l who fr path false).1 (linkN text)).2.2)
def moreN (n:NodeL):NodeL:= { n with links:=n.links+1}
def spotE (l:List NodeL)(who:Int)(R:ResL):Int:=if R.2≠0 then R.2 else freeE l who R.1
def linkL (l:List NodeL)(who fr:Int)(old path:Str):ChgL :=
 if(wnodeL (walkL l who fr old false)).2≠0 then(l,(wnodeL (walkL l who fr old false)).2)
 else if(nodeL l (wnodeL (walkL l who fr old false)).1).kind=2 then(l,5)
 else if 20≤(nodeL l (wnodeL (walkL l who fr old false)).1).links then(l,11)
 else if spotE l who (walkL l who fr path false)≠0 then(l,spotE l who (walkL l who fr path false))
 else if(walkL l who fr path false).1.slash=true then(l,4)
 else(namedL (setL l (wnodeL (walkL l who fr old false)).1 (moreN (nodeL l (wnodeL (walkL l who fr old false)).1))) (walkL l who fr path false).1 (wnodeL (walkL l who fr old false)).1,0)
def lessN (n:NodeL):NodeL:= { n with links:=n.links-1,up:=if n.kind=2 then 0 else n.up}
def lostL (l:List NodeL)(s:SpotL):List NodeL:=settleL (setL (droppedL l s) s.ino (lessN (nodeL (droppedL l s) s.ino))) s.ino
def thereE (R:ResL):Int:=if R.2≠0 then R.2 else if R.1.ino<0 then 2 else 0
def unlinkL (l:List NodeL)(who fr:Int)(path:Str):ChgL :=
 if thereE (walkL l who fr path false)≠0 then(l,thereE (walkL l who fr path false))
 else if(nodeL l (walkL l who fr path false).1.ino).kind=2 then(l,5)
 else if writesL l who (walkL l who fr path false).1.dir=false then(l,7)
 else(lostL l (walkL l who fr path false).1,0)
def rmdirE (l:List NodeL)(who:Int)(s:SpotL):Int :=
 if(nodeL l s.ino).kind≠2 then 4 else if s.name = []∨s.name = [46]then 1 else if s.name = [46,46]then 6
 else if writesL l who s.dir=false then 7 else if(nodeL l s.ino).names≠ []then 6 else 0
def rmdirL (l:List NodeL)(who fr:Int)(path:Str):ChgL :=
 if thereE (walkL l who fr path false)≠0 then(l,thereE (walkL l who fr path false))
 else if rmdirE l who (walkL l who fr path false).1≠0 then(l,rmdirE l who (walkL l who fr path false).1)
 else(lostL l (walkL l who fr path false).1,0)
def beneathL (l:List NodeL):Nat→Int→Int→Bool
 | 0,_,_=>false
 | f+1,i,top=>if i=top then true else if i=0 then false else beneathL l f (nodeL l i).up top
def dotsB (nm:Nm):Bool:=decide (nm = []) || decide (nm = [46]) || decide (nm = [46,46])
def overE (l:List NodeL)(s t:SpotL):Int :=
 if(nodeL l t.dir).links<1 then 2
 else if(nodeL l s.ino).kind=2 then
  if beneathL l (l.length+1) t.dir s.ino=true then 15
  else if gotB l t.ino=true∧(nodeL l t.ino).kind≠2 then 4
  else if gotB l t.ino=true∧(nodeL l t.ino).names≠ []then 6
  else 0
 else if gotB l t.ino=true∧(nodeL l t.ino).kind=2 then 5
 else if t.slash=true then 4 else 0
def placeN (n:NodeL)(d:Int):NodeL:= { n with up:=if n.kind=2 then d else n.up}
def movedL (l:List NodeL)(s t:SpotL):List NodeL:=if 0≤t.ino then lostL (droppedL l s) t else droppedL l s
def moveL (l:List NodeL)(s t:SpotL):List NodeL :=
 setL (namedL (movedL l s t) t s.ino) s.ino (placeN (nodeL (namedL (movedL l s t) t s.ino) s.ino) t.dir)
def renameE (l:List NodeL)(who1 who2:Int)(s t:SpotL):Int :=
 if dotsB s.name=true∨dotsB t.name=true then 1
 else if writesL l who1 s.dir=false∨writesL l who2 t.dir=false then 7
 else if s.ino=t.ino then -1 else overE l s t
def renameL (l:List NodeL)(who1 fr1 who2 fr2:Int)(old path:Str):ChgL :=
 if thereE (walkL l who1 fr1 old false)≠0 then(l,thereE (walkL l who1 fr1 old false))
 else if(walkL l who2 fr2 path false).2≠0 then(l,(walkL l who2 fr2 path false).2)
 else if renameE l who1 who2 (walkL l who1 fr1 old false).1 (walkL l who2 fr2 path false).1 = -1 then(l,0)
 else if renameE l who1 who2 (walkL l who1 fr1 old false).1 (walkL l who2 fr2 path false).1≠0 then(l,renameE l who1 who2 (walkL l who1 fr1 old false).1 (walkL l who2 fr2 path false).1)
 else(moveL l (walkL l who1 fr1 old false).1 (walkL l who2 fr2 path false).1,0)
def modeN (n:NodeL)(mode:Int):NodeL:= { n with mode:=mode % 64}
def chmodL (l:List NodeL)(who fr:Int)(path:Str)(mode:Int):ChgL :=
 if(wnodeL (walkL l who fr path true)).2≠0 then(l,(wnodeL (walkL l who fr path true)).2)
 else if who≠0∧who≠(nodeL l (wnodeL (walkL l who fr path true)).1).owner then(l,7)
 else(setL l (wnodeL (walkL l who fr path true)).1 (modeN (nodeL l (wnodeL (walkL l who fr path true)).1) mode),0)
end Go.Proofs.YtmiekcdkamgknaaGreatDoor
