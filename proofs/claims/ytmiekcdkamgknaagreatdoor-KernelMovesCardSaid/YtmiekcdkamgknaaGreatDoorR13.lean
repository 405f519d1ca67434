import Derived.Lib.Strings
import Derived.Laws.RangeAny
import Derived.Test.YtmiekcdkamgknaaGreatDoorR11
import Derived.Test.YtmiekcdkamgknaaGreatDoorShelf
import Derived.Laws.Runes
import Derived.Lib.Builder
import Derived.Deep.WholeRow
import Derived.WalkMore
import Derived.Lib.OthersKept
import Derived.Lib.QuietBelow
import Derived.Deep.DrawnRows
import Derived.Laws.Cover1
import Derived.Shelf.SlSorted.Search
import Derived.Shelf.Spec.SlicesGrow
import Derived.StillTailTactics
namespace Go.Proofs.YtmiekcdkamgknaaGreatDoor
abbrev Nm:=List UInt8
abbrev EntL:=Nm × Int
theorem lt_irr (a:Nm): ¬a<a:=List.lt_irrefl a
theorem lt_tr {a b c:Nm}(h:a<b)(g:b<c):a<c:=List.lt_trans h g
theorem lt_as {a b:Nm}(h:a<b): ¬b<a:=List.lt_asymm h
theorem lt_eq {a b:Nm}(h: ¬a<b)(g: ¬b<a):a=b:=List.le_antisymm (List.not_lt.1 g) (List.not_lt.1 h)
theorem lt_ne {a b:Nm}(h:a<b):a≠b:=fun e=>by subst e;exact lt_irr _ h
theorem le_lt {a b c:Nm}(h: ¬b<a)(g:b<c):a<c:=by
 by_cases e:a<b
 · exact lt_tr e g
 · obtain rfl:=lt_eq e h
   exact g
def barredL (c:UInt8):Bool:=c == 47 || c == 0
def legalL (s:Nm):Int:=if s = []∨s = [46]∨s = [46,46]∨s.any barredL=true then 1 else if 12<s.length then 9 else 0
theorem legal_len {s:Nm}(h:legalL s=0):s.length≤12:=by
 unfold legalL at h;split at h
 · cases h
 · split at h
   · cases h
   · omega
def Up (l:List EntL):Prop:=l.Pairwise fun a b=>a.1<b.1
def SortedP (l:List EntL):Prop:=(∀e∈l,legalL e.1=0)∧Up l
instance (l:List EntL):Decidable (SortedP l):=by unfold SortedP Up;infer_instance
theorem SortedP.sub {l m:List EntL}(h:SortedP l)(hs:List.Sublist m l):SortedP m :=
 ⟨fun e he=>h.1 e (hs.subset he),h.2.sublist hs⟩
theorem sorted_nil:SortedP []:=⟨fun _ h=>(by cases h),List.Pairwise.nil⟩
theorem sorted_succ {l:List EntL}{k:Nat}(h:k<l.length)(hs:SortedP (l.take k))(hl:legalL l[k].1=0)(ho : ∀j (hj:j<l.length),k=j+1→l[j].1<l[k].1):SortedP (l.take (k+1)):=by
 rw[List.take_succ_eq_append_getElem h];refine⟨fun e he=> ?_,?_⟩
 · rcases List.mem_append.1 he with he | he
   · exact hs.1 e he
   · obtain rfl:=List.mem_singleton.1 he
     exact hl
 · refine List.pairwise_append.2 ⟨hs.2,List.pairwise_singleton _ _,fun a ha b hb=> ?_⟩
   obtain rfl:=List.mem_singleton.1 hb;obtain⟨i,hi,rfl⟩:=List.mem_iff_getElem.1 ha;rw[List.length_take]at hi;(have hik:i<k:=by omega);obtain⟨j,rfl⟩ : ∃j,k=j+1:=⟨k-1,by omega⟩;have h1:=ho j (by omega) rfl;rw[List.getElem_take];rcases Nat.lt_or_ge i j with h2 | h2
   · have:=List.pairwise_iff_getElem.1 hs.2 i j (by rw[List.length_take];omega) (by rw[List.length_take];omega) h2
     rw[List.getElem_take,List.getElem_take]at this;exact lt_tr this h1
   · obtain rfl:i=j:=by omega
     exact h1
theorem sorted_order {l:List EntL}(hs:SortedP l){j k:Nat}(hk:k<l.length)(h:k=j+1):(l[j]'(by omega)).1<l[k].1 :=
 List.pairwise_iff_getElem.1 hs.2 j k (by omega) hk (by omega)
def lo (l:List EntL)(n:Nm):List EntL:=l.filter fun e=>decide (e.1<n)
def hi (l:List EntL)(n:Nm):List EntL:=l.filter fun e=>decide (n<e.1)
def mid (n:Nm):Option Int→List EntL
 | none=> []
 | some i=> [(n,i)]
def findL (l:List EntL)(n:Nm):Option Int:=(l.find? fun e=>e.1 == n).map (·.2)
def dropL (l:List EntL)(n:Nm):List EntL:=l.filter fun e=> !(e.1 == n)
def putL (l:List EntL)(e:EntL):List EntL:=lo l e.1++e::hi l e.1
theorem mem_lo {l:List EntL}{n:Nm}{e:EntL}:e∈lo l n↔e∈l∧e.1<n:=by simp[lo]
theorem mem_hi {l:List EntL}{n:Nm}{e:EntL}:e∈hi l n↔e∈l∧n<e.1:=by simp[hi]
theorem mid_name {n:Nm}{m:Option Int}{e:EntL}(h:e∈mid n m):e.1=n:=by
 cases m with
 | none=>cases h
 | some i=>obtain rfl:=List.mem_singleton.1 h;rfl
theorem find_skip (a m c:List EntL)(o:Nm)(hm : ∀e∈m,e.1≠o):findL (a++m++c) o=findL (a++c) o:=by
 (have:m.find? (fun e=>e.1 == o)=none:=List.find?_eq_none.2 fun e he=>by simpa using hm e he);unfold findL;rw[List.find?_append,List.find?_append,List.find?_append,this,Option.or_none]
theorem find_parts (a c:List EntL)(n:Nm)(m:Option Int)(ha : ∀e∈a,e.1≠n)(hc : ∀e∈c,e.1≠n):findL (a++mid n m++c) n=m:=by
 (have h1:a.find? (fun e=>e.1 == n)=none:=List.find?_eq_none.2 fun e he=>by simpa using ha e he);(have h2:c.find? (fun e=>e.1 == n)=none:=List.find?_eq_none.2 fun e he=>by simpa using hc e he);unfold findL;rw[List.find?_append,List.find?_append,h1,h2,Option.or_none,Option.none_or]
 cases m with
 | none=>rfl
 | some i=>simp[mid]
theorem up_parts {l:List EntL}(h:Up l)(n:Nm) : ∃m,l=lo l n++mid n m++hi l n:=by
 induction l with
 | nil=>exact⟨none,rfl⟩
 | cons a r ih =>
    obtain⟨h1,h2⟩:=List.pairwise_cons.1 h;by_cases ha:a.1<n
    · obtain⟨m,hm⟩:=ih h2
      refine⟨m,?_⟩;(have e1:lo (a::r) n=a::lo r n:=by simp[lo,ha]);(have e2:hi (a::r) n=hi r n:=by simp[hi,lt_as ha]);rw[e1,e2,List.cons_append,List.cons_append,←hm]
    · have hr : ∀e∈r,n<e.1:=fun e he=>le_lt ha (h1 e he)
      (have e3:lo r n = []:=List.filter_eq_nil_iff.2 fun e he=>by simpa using lt_as (hr e he));have e4:hi r n=r:=List.filter_eq_self.2 fun e he=>by simpa using hr e he
      have e1:lo (a::r) n = []:=by
       (have:lo (a::r) n=lo r n:=by simp[lo,ha]);rw[this,e3]
      by_cases hb:n<a.1
      · refine⟨none,?_⟩
        have e2:hi (a::r) n=a::r:=by
         (have:hi (a::r) n=a::hi r n:=by simp[hi,hb]);rw[this,e4]
        rw[e1,e2];rfl
      · obtain⟨x,i⟩:=a
        obtain rfl:x=n:=lt_eq ha hb;refine⟨some i,?_⟩
        have e2:hi ((x,i)::r) x=r:=by
         (have:hi ((x,i)::r) x=hi r x:=by simp[hi]);rw[this,e4]
        rw[e1,e2];rfl
theorem eparts {l:List EntL}(h:Up l)(n:Nm):l=lo l n++mid n (findL l n)++hi l n:=by
 obtain⟨m,hm⟩:=up_parts h n;(have:=find_parts (lo l n) (hi l n) n m (fun e he=>lt_ne (mem_lo.1 he).2) fun e he=>(lt_ne (mem_hi.1 he).2).symm);rw[←hm]at this;rw[this];exact hm
theorem put_mid (l:List EntL)(n:Nm)(i:Int):putL l (n,i)=lo l n++mid n (some i)++hi l n:=by simp[putL,mid]
theorem up_put {l:List EntL}(h:Up l)(e:EntL):Up (putL l e):=by
 refine List.pairwise_append.2 ⟨h.sublist List.filter_sublist,List.pairwise_cons.2 ⟨fun b hb=>(mem_hi.1 hb).2,h.sublist List.filter_sublist⟩,fun a ha b hb=> ?_⟩;have h1:=(mem_lo.1 ha).2;rcases List.mem_cons.1 hb with rfl | hb
 · exact h1
 · exact lt_tr h1 (mem_hi.1 hb).2
theorem sorted_put {l:List EntL}(h:SortedP l)(e:EntL)(he:legalL e.1=0):SortedP (putL l e):=by
 refine⟨fun a ha=> ?_,up_put h.2 e⟩;rcases List.mem_append.1 ha with ha | ha
 · exact h.1 a (mem_lo.1 ha).1
 · rcases List.mem_cons.1 ha with rfl | ha
   · exact he
   · exact h.1 a (mem_hi.1 ha).1
theorem find_put (l:List EntL)(n:Nm)(i:Int):findL (putL l (n,i)) n=some i:=by
 rw[put_mid];exact find_parts _ _ _ _ (fun e he=>lt_ne (mem_lo.1 he).2) fun e he=>(lt_ne (mem_hi.1 he).2).symm
theorem find_put_other {l:List EntL}(h:Up l)(n o:Nm)(i:Int)(ho:o≠n):findL (putL l (n,i)) o=findL l o:=by
 rw[put_mid,find_skip _ _ _ _ fun e he=>by rw[mid_name he];exact ho.symm];(have:=find_skip (lo l n) (mid n (findL l n)) (hi l n) o fun e he=>by rw[mid_name he];exact ho.symm);rw[←eparts h n]at this;exact this.symm
theorem put_len (l:List EntL)(e:EntL):(putL l e).length≤l.length+l.length+1:=by
 have h1:=List.length_filter_le (fun a:EntL=>decide (a.1<e.1)) l;have h2:=List.length_filter_le (fun a:EntL=>decide (e.1<a.1)) l;simp only[putL,lo,hi,List.length_append,List.length_cons];omega
theorem count_at (q:EntL→Bool)(l:List EntL)(d:EntL):(List.range l.length).countP (fun i=>q (l.getD i d))=(l.filter q).length:=by
 have:(List.range l.length).map (fun i=>l.getD i d)=l:=by
  apply List.ext_getElem
  · simp
  · intro i h1 h2
    simp[h2]
 rw[←List.countP_eq_length_filter]
 conv=>rhs;rw[←this]
 rw[List.countP_map];rfl
theorem up_le {l:List EntL}(h:Up l){a b:Nat}(hab:a≤b)(hb:b<l.length)(n:Nm)(d:EntL)(hn: ¬(l.getD a d).1<n): ¬(l.getD b d).1<n:=by
 (have ha:a<l.length:=by omega);rw[List.getD_eq_getElem?_getD,List.getElem?_eq_getElem ha]at hn;rw[List.getD_eq_getElem?_getD,List.getElem?_eq_getElem hb];simp only[Option.getD_some]at hn ⊢;rcases Nat.lt_or_eq_of_le hab with hlt | rfl
 · have:=List.pairwise_iff_getElem.1 h a b ha hb hlt
   intro hx;exact hn (lt_tr this hx)
 · exact hn
theorem at_lo {l:List EntL}(h:Up l)(n:Nm)(hk:(lo l n).length<l.length):(∃i,findL l n=some i∧l[(lo l n).length]=(n,i))∨(findL l n=none∧l[(lo l n).length].1≠n):=by
 have h0:=eparts h n
 cases hf:findL l n with
 | some i =>
    refine .inl ⟨i,rfl,?_⟩
    have:l[(lo l n).length]? = some (n,i):=by
     rw[hf]at h0;(have : ∀a c:List EntL,(a++ [(n,i)]++c)[a.length]? = some (n,i):=fun a c=>by simp);have:=this (lo l n) (hi l n)
     rwa [show lo l n++ [(n,i)]++hi l n=l from h0.symm]at this
    rw[List.getElem?_eq_getElem hk]at this;exact Option.some.inj this
 | none =>
    refine .inr ⟨rfl,?_⟩
    have hm:l[(lo l n).length]∈hi l n:=by
     have h1:l[(lo l n).length]? = (hi l n)[0]?:= by
      rw[hf]at h0;(have h2:l=lo l n++hi l n:=by simpa[mid]using h0);(have : ∀a c:List EntL,(a++c)[a.length]? = c[0]?:= fun a c=>by rw[List.getElem?_append_right (Nat.le_refl _),Nat.sub_self]);rw[←this (lo l n) (hi l n),←h2]
     rw[List.getElem?_eq_getElem hk]at h1;exact List.mem_of_getElem? h1.symm
    exact(lt_ne (mem_hi.1 hm).2).symm
theorem lo_len (l:List EntL)(n:Nm):(lo l n).length≤l.length:=List.length_filter_le _ _
theorem end_le {l:List EntL}(h:Up l)(n:Nm):(lo l n).length+(mid n (findL l n)).length≤l.length:=by
 have h0:=congrArg List.length (eparts h n);rw[List.length_append,List.length_append]at h0;omega
end Go.Proofs.YtmiekcdkamgknaaGreatDoor
namespace Go.Proofs.YtmiekcdkamgknaaGreatDoor
def xs (l:List UInt8):Nat:=(l.reverse.takeWhile (fun c=>c == 88)).length
end Go.Proofs.YtmiekcdkamgknaaGreatDoor
namespace Go.Proofs.YtmiekcdkamgknaaGreatDoor
open Go.RowKit Go.Shelf
end Go.Proofs.YtmiekcdkamgknaaGreatDoor
namespace Go.Proofs.YtmiekcdkamgknaaGreatDoor
open Go.RowKit Go.Shelf
end Go.Proofs.YtmiekcdkamgknaaGreatDoor
namespace Go.Proofs.YtmiekcdkamgknaaGreatDoor
open Go.RowKit Go.Shelf
theorem legal_err {s:Nm}(h:s = []∨s = [46]∨s = [46,46]∨s.any barredL=true):legalL s=1:=if_pos h
theorem legal_long {s:Nm}(h: ¬(s = []∨s = [46]∨s = [46,46]∨s.any barredL=true))(hl:12<s.length):legalL s=9:=by unfold legalL;rw[if_neg h,if_pos hl]
theorem legal_ok {s:Nm}(h: ¬(s = []∨s = [46]∨s = [46,46]∨s.any barredL=true))(hl: ¬12<s.length):legalL s=0:=by unfold legalL;rw[if_neg h,if_neg hl]
theorem empty_false {s:Nm}(h:s≠ []):s.isEmpty=false:=by cases s with | nil=>exact absurd rfl h | cons a l=>rfl
theorem beq_list_false {a b:Nm}(h:a≠b):(a == b)=false:=by rw[beq_eq_false_iff_ne];exact h
theorem any_take8 (s:Nm)(p:UInt8→Bool)(k:Nat)(h:k<s.length):(s.take (k+1)).any p=((s.take k).any p || p s[k]):=by
 rw[List.take_succ_eq_append_getElem h,List.any_append];simp
set_option maxRecDepth 100000 in
set_option maxHeartbeats 1000000 in
theorem rlegal_any (s:Nm)(hm:s.length≤maxLen)(w:World):Calls Tryz.prog 5 #[.string (bs s)] w fun e w'=>e = .returned (.int .i64 (legalL s))∧w=w':=by
 unfold maxLen at hm;by_cases h0:s = []
 · subst h0
   go_enter Tryz.func5,Tryz.ntmps5;go_wp2_with fail;go_ret;exact⟨ret_int rfl,rfl⟩
 by_cases h1:s = [46]
 · subst h1
   go_enter Tryz.func5,Tryz.ntmps5;go_wp2_with fail;go_ret;exact⟨ret_int rfl,rfl⟩
 by_cases h2:s = [46,46]
 · subst h2
   go_enter Tryz.func5,Tryz.ntmps5;go_wp2_with fail;go_ret;exact⟨ret_int rfl,rfl⟩
 have e0:=empty_false h0;have e1:=beq_list_false h1;have e2:=beq_list_false h2
 have HN:Hid (s.any barredL=false→¬(s = []∨s = [46]∨s = [46,46]∨s.any barredL=true)):=Lib.hid fun hb=>by
  rintro(h | h | h | h)
  · exact h0 h
  · exact h1 h
  · exact h2 h
  · rw[hb]at h;cases h
 clear h0 h1 h2;go_enter Tryz.func5,Tryz.ntmps5;go_wp2_with fail;clear e0 e1 e2;go_loop [3] (fun i=>∃k:Nat,i = .int .i64 k∧k≤s.length∧Hid ((s.take k).any barredL=false)) (fun i=>s.length-(intOf i).toNat)
 case atStart=>exact⟨0,rfl,Nat.zero_le _,Lib.hid rfl⟩
 case round =>
  obtain⟨k,rfl,hk,hal⟩:=hrel;by_cases hlt:k<s.length
  · have ht:=any_take8 s barredL k hlt
    have hm1:s[k]∈s:=List.getElem_mem hlt;obtain⟨x,hx⟩ : ∃x:UInt8,x=s[k]:=⟨s[k],rfl⟩;(have hg : ∀h,(bs s)[k]'h=x:=fun h=>by rw[hx];exact bs_get s k h);rw[←hx]at ht hm1;clear hx;by_cases hq:x=47
    · have hI:((x.toNat:Int) == 47)=true:=by rw[hq];rfl
      have H:Hid (legalL s=1):=Lib.hid (legal_err (.inr (.inr (.inr (List.any_eq_true.2 ⟨x,hm1,by rw[hq];rfl⟩)))));clear ht hm1 hq;go_wp2_with fail;go_ret;exact⟨ret_int H.out.symm,rfl⟩
    · have hI:((x.toNat:Int) == 47)=false:=by
       rw[beq_eq_false_iff_ne];exact fun e=>hq (UInt8.toNat_inj.1 (by simp;omega))
      by_cases hz:x=0
      · have hJ:((x.toNat:Int) == 0)=true:=by rw[hz];rfl
        have H:Hid (legalL s=1):=Lib.hid (legal_err (.inr (.inr (.inr (List.any_eq_true.2 ⟨x,hm1,by rw[hz];rfl⟩)))));clear ht hm1 hq hz;go_wp2_with fail;go_ret;exact⟨ret_int H.out.symm,rfl⟩
      · have hJ:((x.toNat:Int) == 0)=false:=by
         rw[beq_eq_false_iff_ne];exact fun e=>hz (UInt8.toNat_inj.1 (by simp;omega))
        have HB:Hid ((s.take (k+1)).any barredL=false):=Lib.hid (by
         rw[ht,hal.out]
         simp[barredL,hq,hz])
        clear ht hm1 hq hz;go_wp2_with fail;go_round
        case rel=>exact⟨k+1,by go_num,hlt,HB⟩
        case measure=>simp[intOf];omega
  · have hke:k=s.length:=by omega
    have HB:=HN.out (by have:=hal.out;rwa [hke,List.take_length]at this);(have hI2:decide (k<s.length)=false:=by simp;omega);by_cases hl:12<s.length
    · have H:Hid (legalL s=9):=Lib.hid (legal_long HB hl)
      (have hI:decide ((12:Int)<(s.length:Int))=true:=by simp;omega);clear hke hlt hl HB;go_wp2_with fail;go_ret;exact⟨ret_int H.out.symm,rfl⟩
    · have H:Hid (legalL s=0):=Lib.hid (legal_ok HB hl)
      (have hI:decide ((12:Int)<(s.length:Int))=false:=by simp;omega);clear hke hlt hl HB;go_wp2_with fail;go_ret;exact⟨ret_int H.out.symm,rfl⟩
end Go.Proofs.YtmiekcdkamgknaaGreatDoor
namespace Go.Proofs.YtmiekcdkamgknaaGreatDoor
open Go.RowKit Go.Shelf
attribute [local go_sem ↓] Go.wp_at_zero Go.wp_at_succ
def ents (l:List EntL):List Value:=l.flatMap fun e=> [.string (bs e.1), .int .i64 e.2]
theorem ents_app (a b:List EntL):ents (a++b)=ents a++ents b:=by simp[ents]
theorem ents_at0 (l:List EntL)(k:Nat)(h:k<l.length):(ents l)[k*2]? = some (.string (bs (l[k]).1)):=by
 induction l generalizing k with
 | nil=>simp at h
 | cons f l ih =>
    cases k with
    | zero=>rfl
    | succ k =>
       have:=ih k (by simpa using h);rw[show(k+1)*2=k*2+2 by omega];simpa[ents]using this
theorem ents_at1 (l:List EntL)(k:Nat)(h:k<l.length):(ents l)[k*2+1]? = some (.int .i64 (l[k]).2):=by
 induction l generalizing k with
 | nil=>simp at h
 | cons f l ih =>
    cases k with
    | zero=>rfl
    | succ k =>
       have:=ih k (by simpa using h);rw[show(k+1)*2+1=k*2+1+2 by omega];simpa[ents]using this
theorem ents_one (l:List EntL) : ∀u∈ents l,u.oneCell'=true:=by
 intro u hu;obtain⟨e,_,h⟩:=List.mem_flatMap.1 hu;simp only[List.mem_cons,List.not_mem_nil,or_false]at h;rcases h with rfl | rfl<;>rfl
def Fit (l:List EntL):Prop:=∀e∈l,e.1.length≤maxLen
theorem bless (a b:Nm):Op.bytesLess a b=decide (a<b):=by
 induction a generalizing b with
 | nil=>cases b<;>simp[Op.bytesLess]
 | cons x a ih =>
    cases b with
    | nil=>simp[Op.bytesLess]
    | cons y b =>
       rw[Op.bytesLess,ih,Bool.eq_iff_iff,decide_eq_true_iff,List.cons_lt_cons_iff];simp
theorem bless_yes {a b:Nm}(h:a<b):Op.bytesLess a b=true:=by rw[bless];simpa using h
theorem bless_no {a b:Nm}(h: ¬a<b):Op.bytesLess a b=false:=by rw[bless];simpa using h
theorem leq_ways {a b:Nm}(h: ¬b<a):(Op.bytesLess a b=true∧(a == b)=false)∨(Op.bytesLess a b=false∧(a == b)=true):=by
 by_cases e:a<b
 · exact .inl ⟨bless_yes e,beq_list_false (lt_ne e)⟩
 · refine .inr ⟨bless_no e,?_⟩
   rw[lt_eq e h];simp
theorem not_legal {l:List EntL}{k:Nat}(h:k<l.length)(hl:legalL l[k].1≠0):decide (SortedP l)=false:=by
 rw[decide_eq_false_iff_not];exact fun hs=>hl (hs.1 _ (List.getElem_mem h))
theorem not_order {l:List EntL}{j:Nat}(h:j+1<l.length)(hl: ¬(l[j]'(by omega)).1<l[j+1].1):decide (SortedP l)=false:=by
 rw[decide_eq_false_iff_not];exact fun hs=>hl (sorted_order hs h rfl)
end Go.Proofs.YtmiekcdkamgknaaGreatDoor
namespace Go.Proofs.YtmiekcdkamgknaaGreatDoor
open Go.RowKit Go.Shelf
attribute [local go_sem ↓] Go.wp_at_zero Go.wp_at_succ
theorem infoREnt:(Tryz.prog.info? 136).map (fun i=>(i.zero,i.size,i.bytes))=some (some (.agg #[.string ⟨#[]⟩, .int .i64 0]),2,24):=by kernel_rfl
theorem eqEnt (x y:EntL)(w:World):(Op.equalIn 10000 136 (.agg #[.string (bs x.1), .int .i64 x.2]) (.agg #[.string (bs y.1), .int .i64 y.2])).run Tryz.prog w = .ok (decide (x=y)) w:=by
 have u3:=Tryz.underlying3;have u9:=Tryz.underlying9;have a3:=Tryz.isAgg3;have a9:=Tryz.isAgg9;(have hS:Tryz.prog.underlying 136=some (.struct (Tryz.prog.fieldsOf 136)):=by kernel_rfl);rw[show(10000:Nat)=9998+1+1 from rfl,run_equalIn_agg w (9998+1) 136 _ _ hS (by kernel_rfl)];simp only[Program.fieldsOf,Tryz.underlying136];go_simp;obtain⟨x1,x2⟩:=x;obtain⟨y1,y2⟩:=y;by_cases h1:x1=y1<;>by_cases h2:x2=y2<;>simp[h1,h2]
theorem entGuard:Tryz.prog.eqGuardType Tryz.prog.depth 136=false:=by kernel_rfl
def sameTo {α:Type} [DecidableEq α] (a b:List α)(k:Nat):Prop:=a.take k=b.take k
theorem sameTo_succ {α:Type} [DecidableEq α] {a b:List α}{k:Nat}(h:sameTo a b k)(ha:k<a.length)(hb:k<b.length)(e:a[k]=b[k]):sameTo a b (k+1):=by
 unfold sameTo at h ⊢;rw[List.take_succ_eq_append_getElem ha,List.take_succ_eq_append_getElem hb,h,e]
set_option maxRecDepth 100000 in
set_option maxHeartbeats 1000000 in
theorem same_any (B:Nat)(va vb:Value)(a b:List EntL)(w:World)(hva:Rd B 2 va a.length (ents a) w)(hvb:Rd B 2 vb b.length (ents b) w)(ha:a.length≤10000000)(hb:b.length≤10000000) :
 Calls Tryz.prog 80 #[va,vb] w fun e w'=>e = .returned (.bool (decide (a=b)))∧∃n,w'=w.drewN n:=by
 obtain⟨aoa,capa,rfl,_,_⟩:=hva.form;obtain⟨aob,capb,rfl,_,_⟩:=hvb.form;have HVA:=Lib.hid hva;have HVB:=Lib.hid hvb;clear hva hvb;by_cases hl:a.length=b.length
 · have hI:((a.length:Int) != (b.length:Int))=false:=by rw[hl];simp
   have HL:=Lib.hid hl;(have hle1:a.length≤b.length:=by omega);(have hle2:b.length≤a.length:=by omega);clear hl;go_enter Tryz.func80,Tryz.ntmps80;go_wp2_with fail;go_loopw [5] (fun i wr=>∃k n:Nat,i = .int .i64 k∧k≤a.length∧Hid (sameTo a b k)∧wr=w.drewN n) (fun i _=>a.length-(intOf i).toNat)
   case atStart=>exact⟨0,0,rfl,Nat.zero_le _,Lib.hid rfl,rfl⟩
   case round =>
    obtain⟨k,n,rfl,hk,hs,rfl⟩:=hrel;by_cases hlt:k<a.length
    · have hltb:k<b.length:=by omega
      obtain⟨ba,offa,capa',ea,_,_,_,_,hca⟩:=HVA.out.at (by omega);obtain⟨bb,offb,capb',eb,_,_,_,_,hcb⟩:=HVB.out.at (by omega);injection ea with ea1 _ ea2;injection eb with eb1 _ eb2;subst ea1 ea2 eb1 eb2;have hc0:=hca _ _ (ents_at0 a k hlt);have hc1:=hcb _ _ (ents_at0 b k hltb);have hc2:w.cell? ⟨ba,offa+k*2+1,none⟩=_:=hca (k*2+1) _ (ents_at1 a k hlt);have hc3:w.cell? ⟨bb,offb+k*2+1,none⟩=_:=hcb (k*2+1) _ (ents_at1 b k hltb);(have k0:(0:Int)≤(k:Int):=by omega);(have k1:(k:Int)<(a.length:Int):=by omega);(have k2:(k:Int)<(b.length:Int):=by omega);clear hca hcb;have heq:=eqEnt a[k] b[k];have hgd:=entGuard;by_cases hq:a[k]=b[k]
      · have hs':=Lib.hid (sameTo_succ hs.out hlt hltb hq)
        (have hI2:decide (a[k]=b[k])=true:=by simpa using hq);rw[hI2]at heq;clear hq hI2;go_wp2_with fail;go_quiet (fail);go_wp2_with fail;go_roundw
        case rel=>exact⟨k+1,n+nq,by go_num,hlt,hs',by first | rfl | exact drewN_two w n nq⟩
        case measure=>simp[intOf];omega
      · have H:Hid (decide (a=b)=false):=Lib.hid (by rw[decide_eq_false_iff_not];intro e;subst e;exact hq rfl)
        (have hI2:decide (a[k]=b[k])=false:=by simpa using hq);rw[hI2]at heq;clear hq hI2;go_wp2_with fail;go_quiet (fail);go_wp2_with fail;go_ret;exact⟨ret_bool H.out.symm,n+nq,by first | rfl | exact drewN_two w n nq⟩
    · have hke:k=a.length:=by omega
      have H:Hid (decide (a=b)=true):=Lib.hid (by
       rw[decide_eq_true_iff];have:=hs.out;unfold sameTo at this
       rwa [hke,List.take_length,HL.out,List.take_length]at this)
      (have hI2:decide (k<a.length)=false:=by simp;omega);clear hke hlt;go_wp2_with fail;go_ret;exact⟨ret_bool H.out.symm,n,rfl⟩
 · have hI:((a.length:Int) != (b.length:Int))=true:=by rw[bne_iff_ne];omega
   have H:Hid (decide (a=b)=false):=Lib.hid (by rw[decide_eq_false_iff_not];intro e;exact hl (by rw[e]));clear hl;go_enter Tryz.func80,Tryz.ntmps80;go_wp2_with fail;go_ret;exact⟨ret_bool H.out.symm,0,rfl⟩
set_option maxRecDepth 100000 in
set_option maxHeartbeats 2000000 in
theorem rsorted_any (B:Nat)(v:Value)(l:List EntL)(w:World)(hv:Rd B 2 v l.length (ents l) w)(hl:l.length≤10000)(hn:Fit l) :
 Calls Tryz.prog 82 #[v] w fun e w'=>e = .returned (.bool (decide (SortedP l)))∧∃n,w'=w.drewN n:=by
 obtain⟨ao,cap,rfl,_,_⟩:=hv.form;have HV:=Lib.hid hv;have HN:=Lib.hid hn;clear hv hn;go_enter Tryz.func82,Tryz.ntmps82;go_wp2_with fail;go_loopw [3] (fun i wr=>∃k n:Nat,i = .int .i64 k∧k≤l.length∧Hid (SortedP (l.take k))∧wr=w.drewN n) (fun i _=>l.length-(intOf i).toNat)
 case atStart=>exact⟨0,0,rfl,Nat.zero_le _,Lib.hid sorted_nil,rfl⟩
 case round =>
  obtain⟨k,n,rfl,hk,hS,rfl⟩:=hrel;by_cases hlt:k<l.length
  · obtain⟨b,off,cap',e,hn,hm,hb,hlen,hc⟩:=HV.out.at (by omega)
    injection e with e1 _ e2;subst e1;subst e2;have hc0:=hc _ _ (ents_at0 l k hlt);have hxm:=HN.out _ (List.getElem_mem hlt);(have HC:Hid (∀j (hj:j<l.length),w.cell? ⟨b,off+j*2,none⟩=some (.string (bs (l[j]).1))):=Lib.hid fun j hj=>hc _ _ (ents_at0 l j hj));obtain⟨x,hx⟩ : ∃x,x=(l[k]).1:=⟨_,rfl⟩;rw[←hx]at hc0 hxm;(have HL : ∀w,Calls Tryz.prog 5 #[.string (bs x)] w fun e w'=>e = .returned (.int .i64 (legalL x))∧w'=w:=fun w=>(rlegal_any x hxm w).mono fun e w' h=>⟨h.1,h.2.symm⟩);have HX:=Lib.hid hx;(have k0:(0:Int)≤(k:Int):=by omega);(have k1:(k:Int)<(l.length:Int):=by omega);clear hc;by_cases hq:legalL x=0
    · rw[hq]at HL
      by_cases h0:k=0
      · have hnx:Hid (SortedP (l.take (k+1))):=Lib.hid (sorted_succ hlt hS.out (by rw[←HX.out];exact hq) fun j _ h=>by omega)
        (have hI:decide (0<k)=false:=by simp;omega);clear hx hq h0;go_wp2_with fail;go_quiet ((go_at_call 5;exact(HL _).mono fun e w' h=>⟨h.1,_,h.2⟩));go_wp2_with fail;go_roundw
        case rel=>exact⟨k+1,n+nq,by go_num,hlt,hnx,by first | rfl | exact drewN_two w n nq⟩
        case measure=>simp[intOf];omega
      · obtain⟨j,hj⟩ : ∃j,k=j+1:=⟨k-1,by omega⟩
        (have hI:decide (0<k)=true:=by simp;omega);(have hk1:(k:Int)-1=(j:Int):=by omega);(have hjl:(j:Int)<(l.length:Int):=by omega);(have hj0:(0:Int)≤(j:Int):=by omega);have hcp:=HC.out j (by omega);obtain⟨y,hy⟩ : ∃y,y=(l[j]'(by omega)).1:=⟨_,rfl⟩;rw[←hy]at hcp;by_cases hord:y<x
        · have hJ:=bless_no (lt_as hord)
          have hJ2:=beq_list_false (lt_ne hord).symm
          have hnx:Hid (SortedP (l.take (k+1))):=Lib.hid (sorted_succ hlt hS.out (by rw[←HX.out];exact hq) fun j' hj' h=>by
           obtain rfl:j'=j:=by omega
           rw[←hy,←HX.out];exact hord)
          clear hx hq h0 hord hj hy;go_wp2_with fail;go_quiet ((go_at_call 5;exact(HL _).mono fun e w' h=>⟨h.1,_,h.2⟩));go_wp2_with fail;go_roundw
          case rel=>exact⟨k+1,n+nq,by go_num,hlt,hnx,by first | rfl | exact drewN_two w n nq⟩
          case measure=>simp[intOf];omega
        · have HF:Hid (decide (SortedP l)=false):=Lib.hid (by
           subst hj
           exact not_order hlt (by rw[←hy,←HX.out];exact hord))
          have hlw:=leq_ways hord;clear hx hq h0 hord hj hy;rcases hlw with⟨hJ,hJ2⟩ | ⟨hJ,hJ2⟩
          all_goals (
           go_wp2_with fail;go_quiet ((go_at_call 5;exact(HL _).mono fun e w' h=>⟨h.1,_,h.2⟩));go_wp2_with fail;go_ret
           exact⟨ret_bool HF.out.symm,n+nq,by first | rfl | exact drewN_two w n nq⟩)
    · have HF:Hid (decide (SortedP l)=false):=Lib.hid (not_legal hlt (by rw[←hx];exact hq))
      (have hI:(legalL x != 0)=true:=by rw[bne_iff_ne];exact hq);generalize legalL x=q at *;clear hx hq;go_wp2_with fail;go_quiet ((go_at_call 5;exact(HL _).mono fun e w' h=>⟨h.1,_,h.2⟩));go_wp2_with fail;go_ret;exact⟨ret_bool HF.out.symm,n+nq,by first | rfl | exact drewN_two w n nq⟩
  · have hke:k=l.length:=by omega
    have HF:Hid (decide (SortedP l)=true):=Lib.hid (by have:=hS.out;rw[hke,List.take_length]at this;simpa using this);(have hI2:decide (k<l.length)=false:=by simp;omega);clear hke hlt;go_wp2_with fail;go_ret;exact⟨ret_bool HF.out.symm,n,rfl⟩
end Go.Proofs.YtmiekcdkamgknaaGreatDoor
namespace Go.Proofs.YtmiekcdkamgknaaGreatDoor
open Go.RowKit Go.Shelf
attribute [local go_sem ↓] Go.wp_at_zero Go.wp_at_succ
end Go.Proofs.YtmiekcdkamgknaaGreatDoor
namespace Go.Proofs.YtmiekcdkamgknaaGreatDoor
open Go.RowKit Go.Shelf
attribute [local go_sem ↓] Go.wp_at_zero Go.wp_at_succ
def vint (o:Option Int):Int:=o.getD (-1)
end Go.Proofs.YtmiekcdkamgknaaGreatDoor
namespace Go.Proofs.YtmiekcdkamgknaaGreatDoor
open Go.RowKit Go.Shelf
attribute [local go_sem ↓] Go.wp_at_zero Go.wp_at_succ
theorem drop_len (l:List EntL)(n:Nm):(dropL l n).length≤l.length:=List.length_filter_le _ _
end Go.Proofs.YtmiekcdkamgknaaGreatDoor
namespace Go.Proofs.YtmiekcdkamgknaaGreatDoor
open Go.RowKit Go.Shelf
attribute [local go_sem ↓] Go.wp_at_zero Go.wp_at_succ
def searchRen:Go.Shelf.Ren:=⟨fun | 16=>224 | n=>n,fun | 3=>3 | 4=>4 | 35=>147 | 38=>289 | n=>n,fun | n=>n⟩
theorem searchLaid:SlLaysO.n16 Tryz.prog searchRen:= {
 mixed:=by kernel_rfl
 f16:=Tryz.func224.trans (congrArg some (by kernel_rfl))
 t3:=Tryz.underlying3
 a3:=Tryz.isAgg3
 z3:=Tryz.sizeOf3
 v3:=Tryz.zeroValue3
 t4:=Tryz.underlying4
 a4:=Tryz.isAgg4
 z4:=Tryz.sizeOf4
 v4:=Tryz.zeroValue4
 t35:=Tryz.underlying147
 a35:=Tryz.isAgg147
 z35:=Tryz.sizeOf147
 v35:=Tryz.zeroValue147
 t38:=Tryz.underlying289
 a38:=Tryz.isAgg289
 z38:=Tryz.sizeOf289
 v38:=Tryz.zeroValue289}
def fromP (l:List EntL)(n:Nm)(i:Nat):Bool:= !decide ((l.getD i ([],0)).1<n)
theorem fromP_count (l:List EntL)(n:Nm):(List.range l.length).countP (fun i=> !fromP l n i)=(lo l n).length:=by
 unfold lo;rw[←count_at (fun e=>decide (e.1<n)) l ([],0)];congr 1;funext i;simp[fromP]
theorem fromP_mono {l:List EntL}(h:Up l)(n:Nm) : ∀a b,a≤b→b<l.length→fromP l n a=true→fromP l n b=true:=by
 intro a b hab hb ha;unfold fromP at ha ⊢;simp only[Bool.not_eq_true',decide_eq_false_iff_not]at ha ⊢;exact up_le h hab hb n _ ha
set_option maxRecDepth 100000 in
set_option maxHeartbeats 1000000 in
theorem closure_any (ba bx b off cap:Nat)(l:List EntL)(n:Nm)(i:Nat)(W:World)(hi:i<l.length)
 (ha:W.cell? ⟨ba,0,none⟩=some (.slice (some ⟨b,off,none⟩) l.length cap)) (hx:W.cell? ⟨bx,0,none⟩=some (.string (bs n))) (hc:W.cell? ⟨b,off+i*2,none⟩=some (.string (bs (l[i]).1))) :
 Calls Tryz.prog 225 (#[.int .i64 i]++ #[.pointer (some ⟨ba,0,none⟩), .pointer (some ⟨bx,0,none⟩)]) W fun e w'=>e = .returned (.bool (fromP l n i))∧∃q,w'=W.drewN q:=by
 have hp:fromP l n i = !decide ((l[i]).1<n):=by
  unfold fromP;rw[List.getD_eq_getElem?_getD,List.getElem?_eq_getElem hi];rfl
 have HP:=Lib.hid hp;have hb:=bless (l[i]).1 n;generalize (l[i]).1=x at *;(have i0:(0:Int)≤(i:Int):=by omega);(have i1:(i:Int)<(l.length:Int):=by omega);clear hp;go_enter Tryz.func225,Tryz.ntmps225;go_wp2_with fail;go_quiet (fail);go_wp2_with fail;go_ret;exact⟨ret_bool HP.out.symm,_,rfl⟩
def PlaceIs (a m:Nat)(e:Ending)(W W':World):Prop:=e = .returned (.tuple #[.int .i64 a, .int .i64 (a+m:Nat)])∧Below W.heap.size W W'
set_option maxRecDepth 100000 in
set_option maxHeartbeats 2000000 in
theorem place_any (B:Nat)(v:Value)(l:List EntL)(n:Nm)(w:World)(hv:Rd B 2 v l.length (ents l) w)(hB:B≤w.heap.size)(hl:l.length≤10000)(hu:Up l) :
 Calls Tryz.prog 208 #[v, .string (bs n)] w fun e w'=>PlaceIs (lo l n).length (mid n (findL l n)).length e w w':=by
 obtain⟨W0,hW0⟩ : ∃W0,W0=(w.alloc (.cells #[v] 76)).alloc (.cells #[.string (bs n)] 9):=⟨_,rfl⟩;(have hsize:W0.heap.size=w.heap.size+1+1:=by rw[hW0];simp);(have hB0:Below w.heap.size w W0:=by rw[hW0];exact((Below.refl _ w).alloc (Nat.le_refl _) _).alloc (by simp) _);(have ca:W0.cell? ⟨w.heap.size,0,none⟩=some v:=by rw[hW0];exact cell_alloc_sl _ (cell_new_sl w _ _));(have cx:W0.cell? ⟨w.heap.size+1,0,none⟩=some (.string (bs n)):=by rw[hW0];have:=cell_new_sl (w.alloc (.cells #[v] 76)) (.string (bs n)) 9;rwa [World.size_alloc]at this);have hv0:Rd w.heap.size 2 v l.length (ents l) W0:=(hv.mono hB).below hB0
 have hS:=Any.sort_Search (P:=Tryz.prog) (ρ:=searchRen) searchLaid 225 #[.pointer (some ⟨w.heap.size,0,none⟩), .pointer (some ⟨w.heap.size+1,0,none⟩)] l.length (fromP l n) W0
  (enters_of Tryz.func225 (by kernel_rfl) rfl) (by omega)
  (fun m os i hi=>by
    obtain⟨b,off,cap',e,_,_,hb,_,hc⟩:=hv0.at (by omega);rw[e]at ca
    exact(closure_any w.heap.size (w.heap.size+1) b off cap' l n i _ hi (cell_grown (by show w.heap.size<_;omega) ca m os) (cell_grown (by show w.heap.size+1<_;omega) cx m os)
     (cell_grown (by show b<_;omega) (hc _ _ (ents_at0 l i hi)) m os)).mono fun e w' h=>⟨h.1,by obtain⟨q,hq⟩:=h.2;exact⟨q,#[],by rw[hq,Sort.grow_empty]⟩⟩)
  (fromP_mono hu n)
 change Calls Tryz.prog 224 _ _ _ at hS;rw[fromP_count]at hS;have hat:=at_lo hu n;have HA:Hid (∀hk:(lo l n).length<l.length,(∃i,findL l n=some i∧l[(lo l n).length]=(n,i))∨(findL l n=none∧l[(lo l n).length].1≠n)):=Lib.hid hat;have hend:=end_le hu n;have hle:=lo_len l n;generalize (lo l n).length=a at *;obtain⟨M,hM⟩ : ∃M,M=mid n (findL l n):=⟨_,rfl⟩;rw[←hM]at hend ⊢;have HM:=Lib.hid hM;have HV:=Lib.hid hv0;clear hat hv hv0 hu hM;obtain⟨ao,cap,rfl,_,_⟩:=HV.out.form;go_enter Tryz.func208,Tryz.ntmps208;go_wp2_with (go_at_call 224;rw[←hW0];refine hS.mono ?_);rintro e w1 ⟨rfl,q,os,rfl⟩;have ca1:=cell_grown (by show w.heap.size<_;omega) ca q os;have cx1:=cell_grown (by show w.heap.size+1<_;omega) cx q os;have hg:=below_grown_sl w.heap.size W0 q os (by omega);have hB1:=hB0.trans hg;have HV1:=Lib.hid (HV.out.below hg);clear hS ca cx hg hW0 hB0;generalize Go.Sort.grow (W0.drewN q) os=W1 at *;by_cases hlt:a<l.length
 · obtain⟨b,off,cap',e,_,_,hb,_,hc⟩:=HV1.out.at (by omega)
   injection e with e1 _ e2;subst e1;subst e2;have hc0:=hc _ _ (ents_at0 l a hlt);(have a0:(0:Int)≤(a:Int):=by omega);(have a1:(a:Int)<(l.length:Int):=by omega);(have hI:decide (a<l.length)=true:=by simpa using hlt);rcases HA.out hlt with⟨i,h1,h2⟩ | ⟨h1,h2⟩
   · have H1:Hid (M.length=1):=Lib.hid (by rw[HM.out,h1];rfl)
     (have hJ:((l[a]).1 == n)=true:=by rw[h2];simp);clear h1 h2 hc;go_wp2_with fail;go_quiet (fail);go_wp2_with fail;go_ret2;exact⟨by rw[H1.out];rfl,below_drewN hB1 _⟩
   · have H1:Hid (M.length=0):=Lib.hid (by rw[HM.out,h1];rfl)
     have hJ:=beq_list_false h2;clear h1 h2 hc;go_wp2_with fail;go_quiet (fail);go_wp2_with fail;go_ret2;exact⟨by rw[H1.out];rfl,below_drewN hB1 _⟩
 · have H1:Hid (M.length=0):=Lib.hid (by omega)
   (have hI:decide (a<l.length)=false:=by simpa using hlt);clear hlt;go_wp2_with fail;go_quiet (fail);go_wp2_with fail;go_ret2;exact⟨by rw[H1.out];rfl,below_drewN hB1 _⟩
end Go.Proofs.YtmiekcdkamgknaaGreatDoor
namespace Go.Proofs.YtmiekcdkamgknaaGreatDoor
open Go.RowKit Go.Shelf
open Go.WideShapes (add_plain)
attribute [local go_sem ↓] Go.wp_at_zero Go.wp_at_succ
theorem infoEnt:(Tryz.prog.info? 137).map (fun i=>(i.zero,i.size,i.bytes))=some (some (.agg #[.string ⟨#[]⟩, .int .i64 0]),2,24):=by kernel_rfl
end Go.Proofs.YtmiekcdkamgknaaGreatDoor
namespace Go.Proofs.YtmiekcdkamgknaaGreatDoor
open Go.RowKit Go.Shelf
open Go.WideShapes (add_plain)
attribute [local go_sem ↓] Go.wp_at_zero Go.wp_at_succ
end Go.Proofs.YtmiekcdkamgknaaGreatDoor
namespace Go.Proofs.YtmiekcdkamgknaaGreatDoor
open Go.RowKit Go.Shelf
open Go.WideShapes (add_plain)
attribute [local go_sem ↓] Go.wp_at_zero Go.wp_at_succ
def FindIs (o:Option Int)(e:Ending)(W W':World):Prop:=e = .returned (.tuple #[.int .i64 (vint o), .bool o.isSome])∧Below W.heap.size W W'
set_option maxRecDepth 100000 in
set_option maxHeartbeats 2000000 in
theorem find_any (B:Nat)(v:Value)(l:List EntL)(n:Nm)(w:World)(hv:Rd B 2 v l.length (ents l) w)(hB:B≤w.heap.size)(hl:l.length≤10000)(hu:Up l) :
 Calls Tryz.prog 231 #[v, .string (bs n)] w fun e w'=>FindIs (findL l n) e w w':=by
 obtain⟨ao,cap,rfl,_,_⟩:=hv.form;(have HP:=fun w (hw:Rd w.heap.size 2 (.slice ao l.length cap) l.length (ents l) w)=>place_any w.heap.size _ l n w hw (Nat.le_refl _) hl hu);have hend:=end_le hu n;have hat:=at_lo hu n
 cases hf:findL l n with
 | none =>
    rw[hf]at HP;have HV:=Lib.hid (hv.mono hB);clear hv hat hend hf;generalize (lo l n).length=a at *;go_enter Tryz.func231,Tryz.ntmps231;go_wp2_with fail;refine(HP _ HV.out).mono ?_;rintro e w1 ⟨rfl,hb1⟩;rw[show a+(mid n none).length=a from rfl];go_wp2_with fail;go_ret2;exact⟨rfl,hb1⟩
 | some i =>
    rw[hf]at HP hend
    have hlt:(lo l n).length<l.length:=by
     have:(mid n (some i)).length=1:=rfl;omega
    have hit:l[(lo l n).length]=(n,i):=by
     rcases hat hlt with⟨j,h1,h2⟩ | ⟨h1,_⟩
     · rw[hf]at h1
       injection h1 with h1;rw[h2,h1]
     · rw[hf]at h1;cases h1
    have HV:=Lib.hid (hv.mono hB);clear hv hat hend hf;generalize (lo l n).length=a at *;go_enter Tryz.func231,Tryz.ntmps231;go_wp2_with fail;refine(HP _ HV.out).mono ?_;rintro e w1 ⟨rfl,hb1⟩;rw[show a+(mid n (some i)).length=a+1 from rfl];obtain⟨b,off,cap',e,_,_,hb,_,hc⟩:=(HV.out.below hb1).at (by omega);injection e with e1 _ e2;subst e1;subst e2
    have hc1:w1.cell? ⟨b,off+a*2+1,none⟩=some (.int .i64 i):=by
     have:=hc (a*2+1) _ (ents_at1 l a hlt)
     rwa [hit]at this
    (have hne:((a:Int) == (a:Int)+1)=false:=by rw[beq_eq_false_iff_ne];omega);clear hc HP hit;go_wp2_with fail;go_ret2;exact⟨rfl,hb1⟩
end Go.Proofs.YtmiekcdkamgknaaGreatDoor
