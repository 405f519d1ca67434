import Derived.Lib.Strings
import Derived.Laws.RangeAny
import Derived.Test.YtbjkkijickbppaaGreatDoorR11
import Derived.Test.YtbjkkijickbppaaGreatDoorShelf
import Derived.Laws.Runes
import Derived.Lib.Builder
import Derived.Deep.WholeRow
import Derived.WalkMore
import Derived.Lib.OthersKept
import Derived.Lib.QuietBelow
import Derived.Deep.DrawnRows
import Derived.Laws.Cover1
import Derived.Shelf.SlSorted.Search
import Derived.Shelf.Spec.SlicesGrow
import Derived.StillTailTactics
namespace Go.Proofs.YtbjkkijickbppaaGreatDoor
abbrev Nm:=List UInt8
abbrev EntL:=Nm × Int
theorem lt_irr (a:Nm): ¬a<a:=List.lt_irrefl a
theorem lt_tr {a b c:Nm}(h:a<b)(g:b<c):a<c:=List.lt_trans h g
theorem lt_as {a b:Nm}(h:a<b): ¬b<a:=List.lt_asymm h
theorem lt_eq {a b:Nm}(h: ¬a<b)(g: ¬b<a):a=b:=List.le_antisymm (List.not_lt.1 g) (List.not_lt.1 h)
theorem lt_ne {a b:Nm}(h:a<b):a≠b:=fun e=>by subst e;exact lt_irr _ h
theorem le_lt {a b c:Nm}(h: ¬b<a)(g:b<c):a<c:=by
 by_cases e:a<b
 · exact lt_tr e g
 · obtain rfl:=lt_eq e h
   exact g
def barredL (c:UInt8):Bool:=c == 47 || c == 0
def legalL (s:Nm):Int:=if s = []∨s = [46]∨s = [46,46]∨s.any barredL=true then 1 else if 12<s.length then 9 else 0
def Up (l:List EntL):Prop:=l.Pairwise fun a b=>a.1<b.1
def SortedP (l:List EntL):Prop:=(∀e∈l,legalL e.1=0)∧Up l
instance (l:List EntL):Decidable (SortedP l):=by unfold SortedP Up;infer_instance
theorem SortedP.sub {l m:List EntL}(h:SortedP l)(hs:List.Sublist m l):SortedP m :=
 ⟨fun e he=>h.1 e (hs.subset he),h.2.sublist hs⟩
theorem sorted_nil:SortedP []:=⟨fun _ h=>(by cases h),List.Pairwise.nil⟩
theorem sorted_succ {l:List EntL}{k:Nat}(h:k<l.length)(hs:SortedP (l.take k))(hl:legalL l[k].1=0)(ho : ∀j (hj:j<l.length),k=j+1→l[j].1<l[k].1):SortedP (l.take (k+1)):=by
 rw[List.take_succ_eq_append_getElem h];refine⟨fun e he=> ?_,?_⟩
 · rcases List.mem_append.1 he with he | he
   · exact hs.1 e he
   · obtain rfl:=List.mem_singleton.1 he
     exact hl
 · refine List.pairwise_append.2 ⟨hs.2,List.pairwise_singleton _ _,fun a ha b hb=> ?_⟩
   obtain rfl:=List.mem_singleton.1 hb;obtain⟨i,hi,rfl⟩:=List.mem_iff_getElem.1 ha;rw[List.length_take]at hi;(have hik:i<k:=by omega);obtain⟨j,rfl⟩ : ∃j,k=j+1:=⟨k-1,by omega⟩;have h1:=ho j (by omega) rfl;rw[List.getElem_take];rcases Nat.lt_or_ge i j with h2 | h2
   · have:=List.pairwise_iff_getElem.1 hs.2 i j (by rw[List.length_take];omega) (by rw[List.length_take];omega) h2
     rw[List.getElem_take,List.getElem_take]at this;exact lt_tr this h1
   · obtain rfl:i=j:=by omega
     exact h1
theorem sorted_order {l:List EntL}(hs:SortedP l){j k:Nat}(hk:k<l.length)(h:k=j+1):(l[j]'(by omega)).1<l[k].1 :=
 List.pairwise_iff_getElem.1 hs.2 j k (by omega) hk (by omega)
def lo (l:List EntL)(n:Nm):List EntL:=l.filter fun e=>decide (e.1<n)
def hi (l:List EntL)(n:Nm):List EntL:=l.filter fun e=>decide (n<e.1)
def mid (n:Nm):Option Int→List EntL
 | none=> []
 | some i=> [(n,i)]
def findL (l:List EntL)(n:Nm):Option Int:=(l.find? fun e=>e.1 == n).map (·.2)
def dropL (l:List EntL)(n:Nm):List EntL:=l.filter fun e=> !(e.1 == n)
def putL (l:List EntL)(e:EntL):List EntL:=lo l e.1++e::hi l e.1
theorem mem_lo {l:List EntL}{n:Nm}{e:EntL}:e∈lo l n↔e∈l∧e.1<n:=by simp[lo]
theorem mem_hi {l:List EntL}{n:Nm}{e:EntL}:e∈hi l n↔e∈l∧n<e.1:=by simp[hi]
theorem mid_name {n:Nm}{m:Option Int}{e:EntL}(h:e∈mid n m):e.1=n:=by
 cases m with
 | none=>cases h
 | some i=>obtain rfl:=List.mem_singleton.1 h;rfl
theorem find_skip (a m c:List EntL)(o:Nm)(hm : ∀e∈m,e.1≠o):findL (a++m++c) o=findL (a++c) o:=by
 (have:m.find? (fun e=>e.1 == o)=none:=List.find?_eq_none.2 fun e he=>by simpa using hm e he);unfold findL;rw[List.find?_append,List.find?_append,List.find?_append,this,Option.or_none]
theorem find_parts (a c:List EntL)(n:Nm)(m:Option Int)(ha : ∀e∈a,e.1≠n)(hc : ∀e∈c,e.1≠n):findL (a++mid n m++c) n=m:=by
 (have h1:a.find? (fun e=>e.1 == n)=none:=List.find?_eq_none.2 fun e he=>by simpa using ha e he);(have h2:c.find? (fun e=>e.1 == n)=none:=List.find?_eq_none.2 fun e he=>by simpa using hc e he);unfold findL;rw[List.find?_append,List.find?_append,h1,h2,Option.or_none,Option.none_or]
 cases m with
 | none=>rfl
 | some i=>simp[mid]
theorem up_parts {l:List EntL}(h:Up l)(n:Nm) : ∃m,l=lo l n++mid n m++hi l n:=by
 induction l with
 | nil=>exact⟨none,rfl⟩
 | cons a r ih =>
    obtain⟨h1,h2⟩:=List.pairwise_cons.1 h;by_cases ha:a.1<n
    · obtain⟨m,hm⟩:=ih h2
      refine⟨m,?_⟩;(have e1:lo (a::r) n=a::lo r n:=by simp[lo,ha]);(have e2:hi (a::r) n=hi r n:=by simp[hi,lt_as ha]);rw[e1,e2,List.cons_append,List.cons_append,←hm]
    · have hr : ∀e∈r,n<e.1:=fun e he=>le_lt ha (h1 e he)
      (have e3:lo r n = []:=List.filter_eq_nil_iff.2 fun e he=>by simpa using lt_as (hr e he));have e4:hi r n=r:=List.filter_eq_self.2 fun e he=>by simpa using hr e he
      have e1:lo (a::r) n = []:=by
       (have:lo (a::r) n=lo r n:=by simp[lo,ha]);rw[this,e3]
      by_cases hb:n<a.1
      · refine⟨none,?_⟩
        have e2:hi (a::r) n=a::r:=by
         (have:hi (a::r) n=a::hi r n:=by simp[hi,hb]);rw[this,e4]
        rw[e1,e2];rfl
      · obtain⟨x,i⟩:=a
        obtain rfl:x=n:=lt_eq ha hb;refine⟨some i,?_⟩
        have e2:hi ((x,i)::r) x=r:=by
         (have:hi ((x,i)::r) x=hi r x:=by simp[hi]);rw[this,e4]
        rw[e1,e2];rfl
theorem eparts {l:List EntL}(h:Up l)(n:Nm):l=lo l n++mid n (findL l n)++hi l n:=by
 obtain⟨m,hm⟩:=up_parts h n;(have:=find_parts (lo l n) (hi l n) n m (fun e he=>lt_ne (mem_lo.1 he).2) fun e he=>(lt_ne (mem_hi.1 he).2).symm);rw[←hm]at this;rw[this];exact hm
theorem put_mid (l:List EntL)(n:Nm)(i:Int):putL l (n,i)=lo l n++mid n (some i)++hi l n:=by simp[putL,mid]
theorem up_put {l:List EntL}(h:Up l)(e:EntL):Up (putL l e):=by
 refine List.pairwise_append.2 ⟨h.sublist List.filter_sublist,List.pairwise_cons.2 ⟨fun b hb=>(mem_hi.1 hb).2,h.sublist List.filter_sublist⟩,fun a ha b hb=> ?_⟩;have h1:=(mem_lo.1 ha).2;rcases List.mem_cons.1 hb with rfl | hb
 · exact h1
 · exact lt_tr h1 (mem_hi.1 hb).2
theorem sorted_put {l:List EntL}(h:SortedP l)(e:EntL)(he:legalL e.1=0):SortedP (putL l e):=by
 refine⟨fun a ha=> ?_,up_put h.2 e⟩;rcases List.mem_append.1 ha with ha | ha
 · exact h.1 a (mem_lo.1 ha).1
 · rcases List.mem_cons.1 ha with rfl | ha
   · exact he
   · exact h.1 a (mem_hi.1 ha).1
theorem find_put (l:List EntL)(n:Nm)(i:Int):findL (putL l (n,i)) n=some i:=by
 rw[put_mid];exact find_parts _ _ _ _ (fun e he=>lt_ne (mem_lo.1 he).2) fun e he=>(lt_ne (mem_hi.1 he).2).symm
theorem find_put_other {l:List EntL}(h:Up l)(n o:Nm)(i:Int)(ho:o≠n):findL (putL l (n,i)) o=findL l o:=by
 rw[put_mid,find_skip _ _ _ _ fun e he=>by rw[mid_name he];exact ho.symm];(have:=find_skip (lo l n) (mid n (findL l n)) (hi l n) o fun e he=>by rw[mid_name he];exact ho.symm);rw[←eparts h n]at this;exact this.symm
theorem put_len (l:List EntL)(e:EntL):(putL l e).length≤l.length+l.length+1:=by
 have h1:=List.length_filter_le (fun a:EntL=>decide (a.1<e.1)) l;have h2:=List.length_filter_le (fun a:EntL=>decide (e.1<a.1)) l;simp only[putL,lo,hi,List.length_append,List.length_cons];omega
end Go.Proofs.YtbjkkijickbppaaGreatDoor
namespace Go.Proofs.YtbjkkijickbppaaGreatDoor
def xs (l:List UInt8):Nat:=(l.reverse.takeWhile (fun c=>c == 88)).length
end Go.Proofs.YtbjkkijickbppaaGreatDoor
namespace Go.Proofs.YtbjkkijickbppaaGreatDoor
open Go.RowKit Go.Shelf
end Go.Proofs.YtbjkkijickbppaaGreatDoor
namespace Go.Proofs.YtbjkkijickbppaaGreatDoor
open Go.RowKit Go.Shelf
end Go.Proofs.YtbjkkijickbppaaGreatDoor
namespace Go.Proofs.YtbjkkijickbppaaGreatDoor
open Go.RowKit Go.Shelf
theorem legal_err {s:Nm}(h:s = []∨s = [46]∨s = [46,46]∨s.any barredL=true):legalL s=1:=if_pos h
theorem legal_long {s:Nm}(h: ¬(s = []∨s = [46]∨s = [46,46]∨s.any barredL=true))(hl:12<s.length):legalL s=9:=by unfold legalL;rw[if_neg h,if_pos hl]
theorem legal_ok {s:Nm}(h: ¬(s = []∨s = [46]∨s = [46,46]∨s.any barredL=true))(hl: ¬12<s.length):legalL s=0:=by unfold legalL;rw[if_neg h,if_neg hl]
theorem empty_false {s:Nm}(h:s≠ []):s.isEmpty=false:=by cases s with | nil=>exact absurd rfl h | cons a l=>rfl
theorem beq_list_false {a b:Nm}(h:a≠b):(a == b)=false:=by rw[beq_eq_false_iff_ne];exact h
theorem any_take8 (s:Nm)(p:UInt8→Bool)(k:Nat)(h:k<s.length):(s.take (k+1)).any p=((s.take k).any p || p s[k]):=by
 rw[List.take_succ_eq_append_getElem h,List.any_append];simp
set_option maxRecDepth 100000 in
set_option maxHeartbeats 1000000 in
theorem rlegal_any (s:Nm)(hm:s.length≤maxLen)(w:World):Calls Tryz.prog 127 #[.string (bs s)] w fun e w'=>e = .returned (.int .i64 (legalL s))∧w=w':=by
 unfold maxLen at hm;by_cases h0:s = []
 · subst h0
   go_enter Tryz.func127,Tryz.ntmps127;go_wp2_with fail;go_ret;exact⟨ret_int rfl,rfl⟩
 by_cases h1:s = [46]
 · subst h1
   go_enter Tryz.func127,Tryz.ntmps127;go_wp2_with fail;go_ret;exact⟨ret_int rfl,rfl⟩
 by_cases h2:s = [46,46]
 · subst h2
   go_enter Tryz.func127,Tryz.ntmps127;go_wp2_with fail;go_ret;exact⟨ret_int rfl,rfl⟩
 have e0:=empty_false h0;have e1:=beq_list_false h1;have e2:=beq_list_false h2
 have HN:Hid (s.any barredL=false→¬(s = []∨s = [46]∨s = [46,46]∨s.any barredL=true)):=Lib.hid fun hb=>by
  rintro(h | h | h | h)
  · exact h0 h
  · exact h1 h
  · exact h2 h
  · rw[hb]at h;cases h
 clear h0 h1 h2;go_enter Tryz.func127,Tryz.ntmps127;go_wp2_with fail;clear e0 e1 e2;go_loop [3] (fun i=>∃k:Nat,i = .int .i64 k∧k≤s.length∧Hid ((s.take k).any barredL=false)) (fun i=>s.length-(intOf i).toNat)
 case atStart=>exact⟨0,rfl,Nat.zero_le _,Lib.hid rfl⟩
 case round =>
  obtain⟨k,rfl,hk,hal⟩:=hrel;by_cases hlt:k<s.length
  · have ht:=any_take8 s barredL k hlt
    have hm1:s[k]∈s:=List.getElem_mem hlt;obtain⟨x,hx⟩ : ∃x:UInt8,x=s[k]:=⟨s[k],rfl⟩;(have hg : ∀h,(bs s)[k]'h=x:=fun h=>by rw[hx];exact bs_get s k h);rw[←hx]at ht hm1;clear hx;by_cases hq:x=47
    · have hI:((x.toNat:Int) == 47)=true:=by rw[hq];rfl
      have H:Hid (legalL s=1):=Lib.hid (legal_err (.inr (.inr (.inr (List.any_eq_true.2 ⟨x,hm1,by rw[hq];rfl⟩)))));clear ht hm1 hq;go_wp2_with fail;go_ret;exact⟨ret_int H.out.symm,rfl⟩
    · have hI:((x.toNat:Int) == 47)=false:=by
       rw[beq_eq_false_iff_ne];exact fun e=>hq (UInt8.toNat_inj.1 (by simp;omega))
      by_cases hz:x=0
      · have hJ:((x.toNat:Int) == 0)=true:=by rw[hz];rfl
        have H:Hid (legalL s=1):=Lib.hid (legal_err (.inr (.inr (.inr (List.any_eq_true.2 ⟨x,hm1,by rw[hz];rfl⟩)))));clear ht hm1 hq hz;go_wp2_with fail;go_ret;exact⟨ret_int H.out.symm,rfl⟩
      · have hJ:((x.toNat:Int) == 0)=false:=by
         rw[beq_eq_false_iff_ne];exact fun e=>hz (UInt8.toNat_inj.1 (by simp;omega))
        have HB:Hid ((s.take (k+1)).any barredL=false):=Lib.hid (by
         rw[ht,hal.out]
         simp[barredL,hq,hz])
        clear ht hm1 hq hz;go_wp2_with fail;go_round
        case rel=>exact⟨k+1,by go_num,hlt,HB⟩
        case measure=>simp[intOf];omega
  · have hke:k=s.length:=by omega
    have HB:=HN.out (by have:=hal.out;rwa [hke,List.take_length]at this);(have hI2:decide (k<s.length)=false:=by simp;omega);by_cases hl:12<s.length
    · have H:Hid (legalL s=9):=Lib.hid (legal_long HB hl)
      (have hI:decide ((12:Int)<(s.length:Int))=true:=by simp;omega);clear hke hlt hl HB;go_wp2_with fail;go_ret;exact⟨ret_int H.out.symm,rfl⟩
    · have H:Hid (legalL s=0):=Lib.hid (legal_ok HB hl)
      (have hI:decide ((12:Int)<(s.length:Int))=false:=by simp;omega);clear hke hlt hl HB;go_wp2_with fail;go_ret;exact⟨ret_int H.out.symm,rfl⟩
end Go.Proofs.YtbjkkijickbppaaGreatDoor
namespace Go.Proofs.YtbjkkijickbppaaGreatDoor
open Go.RowKit Go.Shelf
attribute [local go_sem ↓] Go.wp_at_zero Go.wp_at_succ
def ents (l:List EntL):List Value:=l.flatMap fun e=> [.string (bs e.1), .int .i64 e.2]
theorem ents_app (a b:List EntL):ents (a++b)=ents a++ents b:=by simp[ents]
theorem ents_at0 (l:List EntL)(k:Nat)(h:k<l.length):(ents l)[k*2]? = some (.string (bs (l[k]).1)):=by
 induction l generalizing k with
 | nil=>simp at h
 | cons f l ih =>
    cases k with
    | zero=>rfl
    | succ k =>
       have:=ih k (by simpa using h);rw[show(k+1)*2=k*2+2 by omega];simpa[ents]using this
theorem ents_at1 (l:List EntL)(k:Nat)(h:k<l.length):(ents l)[k*2+1]? = some (.int .i64 (l[k]).2):=by
 induction l generalizing k with
 | nil=>simp at h
 | cons f l ih =>
    cases k with
    | zero=>rfl
    | succ k =>
       have:=ih k (by simpa using h);rw[show(k+1)*2+1=k*2+1+2 by omega];simpa[ents]using this
theorem ents_one (l:List EntL) : ∀u∈ents l,u.oneCell'=true:=by
 intro u hu;obtain⟨e,_,h⟩:=List.mem_flatMap.1 hu;simp only[List.mem_cons,List.not_mem_nil,or_false]at h;rcases h with rfl | rfl<;>rfl
def Fit (l:List EntL):Prop:=∀e∈l,e.1.length≤maxLen
theorem bless (a b:Nm):Op.bytesLess a b=decide (a<b):=by
 induction a generalizing b with
 | nil=>cases b<;>simp[Op.bytesLess]
 | cons x a ih =>
    cases b with
    | nil=>simp[Op.bytesLess]
    | cons y b =>
       rw[Op.bytesLess,ih,Bool.eq_iff_iff,decide_eq_true_iff,List.cons_lt_cons_iff];simp
theorem bless_yes {a b:Nm}(h:a<b):Op.bytesLess a b=true:=by rw[bless];simpa using h
theorem bless_no {a b:Nm}(h: ¬a<b):Op.bytesLess a b=false:=by rw[bless];simpa using h
theorem leq_ways {a b:Nm}(h: ¬b<a):(Op.bytesLess a b=true∧(a == b)=false)∨(Op.bytesLess a b=false∧(a == b)=true):=by
 by_cases e:a<b
 · exact .inl ⟨bless_yes e,beq_list_false (lt_ne e)⟩
 · refine .inr ⟨bless_no e,?_⟩
   rw[lt_eq e h];simp
theorem not_legal {l:List EntL}{k:Nat}(h:k<l.length)(hl:legalL l[k].1≠0):decide (SortedP l)=false:=by
 rw[decide_eq_false_iff_not];exact fun hs=>hl (hs.1 _ (List.getElem_mem h))
theorem not_order {l:List EntL}{j:Nat}(h:j+1<l.length)(hl: ¬(l[j]'(by omega)).1<l[j+1].1):decide (SortedP l)=false:=by
 rw[decide_eq_false_iff_not];exact fun hs=>hl (sorted_order hs h rfl)
end Go.Proofs.YtbjkkijickbppaaGreatDoor
namespace Go.Proofs.YtbjkkijickbppaaGreatDoor
open Go.RowKit Go.Shelf
attribute [local go_sem ↓] Go.wp_at_zero Go.wp_at_succ
theorem infoREnt:(Tryz.prog.info? 133).map (fun i=>(i.zero,i.size,i.bytes))=some (some (.agg #[.string ⟨#[]⟩, .int .i64 0]),2,24):=by kernel_rfl
theorem eqEnt (x y:EntL)(w:World):(Op.equalIn 10000 133 (.agg #[.string (bs x.1), .int .i64 x.2]) (.agg #[.string (bs y.1), .int .i64 y.2])).run Tryz.prog w = .ok (decide (x=y)) w:=by
 have u3:=Tryz.underlying3;have u9:=Tryz.underlying9;have a3:=Tryz.isAgg3;have a9:=Tryz.isAgg9;(have hS:Tryz.prog.underlying 133=some (.struct (Tryz.prog.fieldsOf 133)):=by kernel_rfl);rw[show(10000:Nat)=9998+1+1 from rfl,run_equalIn_agg w (9998+1) 133 _ _ hS (by kernel_rfl)];simp only[Program.fieldsOf,Tryz.underlying133];go_simp;obtain⟨x1,x2⟩:=x;obtain⟨y1,y2⟩:=y;by_cases h1:x1=y1<;>by_cases h2:x2=y2<;>simp[h1,h2]
theorem entGuard:Tryz.prog.eqGuardType Tryz.prog.depth 133=false:=by kernel_rfl
def sameTo {α:Type} [DecidableEq α] (a b:List α)(k:Nat):Prop:=a.take k=b.take k
theorem sameTo_succ {α:Type} [DecidableEq α] {a b:List α}{k:Nat}(h:sameTo a b k)(ha:k<a.length)(hb:k<b.length)(e:a[k]=b[k]):sameTo a b (k+1):=by
 unfold sameTo at h ⊢;rw[List.take_succ_eq_append_getElem ha,List.take_succ_eq_append_getElem hb,h,e]
set_option maxRecDepth 100000 in
set_option maxHeartbeats 1000000 in
theorem same_any (B:Nat)(va vb:Value)(a b:List EntL)(w:World)(hva:Rd B 2 va a.length (ents a) w)(hvb:Rd B 2 vb b.length (ents b) w)(ha:a.length≤10000000)(hb:b.length≤10000000) :
 Calls Tryz.prog 126 #[va,vb] w fun e w'=>e = .returned (.bool (decide (a=b)))∧∃n,w'=w.drewN n:=by
 obtain⟨aoa,capa,rfl,_,_⟩:=hva.form;obtain⟨aob,capb,rfl,_,_⟩:=hvb.form;have HVA:=Lib.hid hva;have HVB:=Lib.hid hvb;clear hva hvb;by_cases hl:a.length=b.length
 · have hI:((a.length:Int) != (b.length:Int))=false:=by rw[hl];simp
   have HL:=Lib.hid hl;(have hle1:a.length≤b.length:=by omega);(have hle2:b.length≤a.length:=by omega);clear hl;go_enter Tryz.func126,Tryz.ntmps126;go_wp2_with fail;go_loopw [5] (fun i wr=>∃k n:Nat,i = .int .i64 k∧k≤a.length∧Hid (sameTo a b k)∧wr=w.drewN n) (fun i _=>a.length-(intOf i).toNat)
   case atStart=>exact⟨0,0,rfl,Nat.zero_le _,Lib.hid rfl,rfl⟩
   case round =>
    obtain⟨k,n,rfl,hk,hs,rfl⟩:=hrel;by_cases hlt:k<a.length
    · have hltb:k<b.length:=by omega
      obtain⟨ba,offa,capa',ea,_,_,_,_,hca⟩:=HVA.out.at (by omega);obtain⟨bb,offb,capb',eb,_,_,_,_,hcb⟩:=HVB.out.at (by omega);injection ea with ea1 _ ea2;injection eb with eb1 _ eb2;subst ea1 ea2 eb1 eb2;have hc0:=hca _ _ (ents_at0 a k hlt);have hc1:=hcb _ _ (ents_at0 b k hltb);have hc2:w.cell? ⟨ba,offa+k*2+1,none⟩=_:=hca (k*2+1) _ (ents_at1 a k hlt);have hc3:w.cell? ⟨bb,offb+k*2+1,none⟩=_:=hcb (k*2+1) _ (ents_at1 b k hltb);(have k0:(0:Int)≤(k:Int):=by omega);(have k1:(k:Int)<(a.length:Int):=by omega);(have k2:(k:Int)<(b.length:Int):=by omega);clear hca hcb;have heq:=eqEnt a[k] b[k];have hgd:=entGuard;by_cases hq:a[k]=b[k]
      · have hs':=Lib.hid (sameTo_succ hs.out hlt hltb hq)
        (have hI2:decide (a[k]=b[k])=true:=by simpa using hq);rw[hI2]at heq;clear hq hI2;go_wp2_with fail;go_quiet (fail);go_wp2_with fail;go_roundw
        case rel=>exact⟨k+1,n+nq,by go_num,hlt,hs',by first | rfl | exact drewN_two w n nq⟩
        case measure=>simp[intOf];omega
      · have H:Hid (decide (a=b)=false):=Lib.hid (by rw[decide_eq_false_iff_not];intro e;subst e;exact hq rfl)
        (have hI2:decide (a[k]=b[k])=false:=by simpa using hq);rw[hI2]at heq;clear hq hI2;go_wp2_with fail;go_quiet (fail);go_wp2_with fail;go_ret;exact⟨ret_bool H.out.symm,n+nq,by first | rfl | exact drewN_two w n nq⟩
    · have hke:k=a.length:=by omega
      have H:Hid (decide (a=b)=true):=Lib.hid (by
       rw[decide_eq_true_iff];have:=hs.out;unfold sameTo at this
       rwa [hke,List.take_length,HL.out,List.take_length]at this)
      (have hI2:decide (k<a.length)=false:=by simp;omega);clear hke hlt;go_wp2_with fail;go_ret;exact⟨ret_bool H.out.symm,n,rfl⟩
 · have hI:((a.length:Int) != (b.length:Int))=true:=by rw[bne_iff_ne];omega
   have H:Hid (decide (a=b)=false):=Lib.hid (by rw[decide_eq_false_iff_not];intro e;exact hl (by rw[e]));clear hl;go_enter Tryz.func126,Tryz.ntmps126;go_wp2_with fail;go_ret;exact⟨ret_bool H.out.symm,0,rfl⟩
set_option maxRecDepth 100000 in
set_option maxHeartbeats 2000000 in
theorem rsorted_any (B:Nat)(v:Value)(l:List EntL)(w:World)(hv:Rd B 2 v l.length (ents l) w)(hl:l.length≤10000)(hn:Fit l) :
 Calls Tryz.prog 77 #[v] w fun e w'=>e = .returned (.bool (decide (SortedP l)))∧∃n,w'=w.drewN n:=by
 obtain⟨ao,cap,rfl,_,_⟩:=hv.form;have HV:=Lib.hid hv;have HN:=Lib.hid hn;clear hv hn;go_enter Tryz.func77,Tryz.ntmps77;go_wp2_with fail;go_loopw [3] (fun i wr=>∃k n:Nat,i = .int .i64 k∧k≤l.length∧Hid (SortedP (l.take k))∧wr=w.drewN n) (fun i _=>l.length-(intOf i).toNat)
 case atStart=>exact⟨0,0,rfl,Nat.zero_le _,Lib.hid sorted_nil,rfl⟩
 case round =>
  obtain⟨k,n,rfl,hk,hS,rfl⟩:=hrel;by_cases hlt:k<l.length
  · obtain⟨b,off,cap',e,hn,hm,hb,hlen,hc⟩:=HV.out.at (by omega)
    injection e with e1 _ e2;subst e1;subst e2;have hc0:=hc _ _ (ents_at0 l k hlt);have hxm:=HN.out _ (List.getElem_mem hlt);(have HC:Hid (∀j (hj:j<l.length),w.cell? ⟨b,off+j*2,none⟩=some (.string (bs (l[j]).1))):=Lib.hid fun j hj=>hc _ _ (ents_at0 l j hj));obtain⟨x,hx⟩ : ∃x,x=(l[k]).1:=⟨_,rfl⟩;rw[←hx]at hc0 hxm;(have HL : ∀w,Calls Tryz.prog 127 #[.string (bs x)] w fun e w'=>e = .returned (.int .i64 (legalL x))∧w'=w:=fun w=>(rlegal_any x hxm w).mono fun e w' h=>⟨h.1,h.2.symm⟩);have HX:=Lib.hid hx;(have k0:(0:Int)≤(k:Int):=by omega);(have k1:(k:Int)<(l.length:Int):=by omega);clear hc;by_cases hq:legalL x=0
    · rw[hq]at HL
      by_cases h0:k=0
      · have hnx:Hid (SortedP (l.take (k+1))):=Lib.hid (sorted_succ hlt hS.out (by rw[←HX.out];exact hq) fun j _ h=>by omega)
        (have hI:decide (0<k)=false:=by simp;omega);clear hx hq h0;go_wp2_with fail;go_quiet ((go_at_call 127;exact(HL _).mono fun e w' h=>⟨h.1,_,h.2⟩));go_wp2_with fail;go_roundw
        case rel=>exact⟨k+1,n+nq,by go_num,hlt,hnx,by first | rfl | exact drewN_two w n nq⟩
        case measure=>simp[intOf];omega
      · obtain⟨j,hj⟩ : ∃j,k=j+1:=⟨k-1,by omega⟩
        (have hI:decide (0<k)=true:=by simp;omega);(have hk1:(k:Int)-1=(j:Int):=by omega);(have hjl:(j:Int)<(l.length:Int):=by omega);(have hj0:(0:Int)≤(j:Int):=by omega);have hcp:=HC.out j (by omega);obtain⟨y,hy⟩ : ∃y,y=(l[j]'(by omega)).1:=⟨_,rfl⟩;rw[←hy]at hcp;by_cases hord:y<x
        · have hJ:=bless_no (lt_as hord)
          have hJ2:=beq_list_false (lt_ne hord).symm
          have hnx:Hid (SortedP (l.take (k+1))):=Lib.hid (sorted_succ hlt hS.out (by rw[←HX.out];exact hq) fun j' hj' h=>by
           obtain rfl:j'=j:=by omega
           rw[←hy,←HX.out];exact hord)
          clear hx hq h0 hord hj hy;go_wp2_with fail;go_quiet ((go_at_call 127;exact(HL _).mono fun e w' h=>⟨h.1,_,h.2⟩));go_wp2_with fail;go_roundw
          case rel=>exact⟨k+1,n+nq,by go_num,hlt,hnx,by first | rfl | exact drewN_two w n nq⟩
          case measure=>simp[intOf];omega
        · have HF:Hid (decide (SortedP l)=false):=Lib.hid (by
           subst hj
           exact not_order hlt (by rw[←hy,←HX.out];exact hord))
          have hlw:=leq_ways hord;clear hx hq h0 hord hj hy;rcases hlw with⟨hJ,hJ2⟩ | ⟨hJ,hJ2⟩
          all_goals (
           go_wp2_with fail;go_quiet ((go_at_call 127;exact(HL _).mono fun e w' h=>⟨h.1,_,h.2⟩));go_wp2_with fail;go_ret
           exact⟨ret_bool HF.out.symm,n+nq,by first | rfl | exact drewN_two w n nq⟩)
    · have HF:Hid (decide (SortedP l)=false):=Lib.hid (not_legal hlt (by rw[←hx];exact hq))
      (have hI:(legalL x != 0)=true:=by rw[bne_iff_ne];exact hq);generalize legalL x=q at *;clear hx hq;go_wp2_with fail;go_quiet ((go_at_call 127;exact(HL _).mono fun e w' h=>⟨h.1,_,h.2⟩));go_wp2_with fail;go_ret;exact⟨ret_bool HF.out.symm,n+nq,by first | rfl | exact drewN_two w n nq⟩
  · have hke:k=l.length:=by omega
    have HF:Hid (decide (SortedP l)=true):=Lib.hid (by have:=hS.out;rw[hke,List.take_length]at this;simpa using this);(have hI2:decide (k<l.length)=false:=by simp;omega);clear hke hlt;go_wp2_with fail;go_ret;exact⟨ret_bool HF.out.symm,n,rfl⟩
end Go.Proofs.YtbjkkijickbppaaGreatDoor
namespace Go.Proofs.YtbjkkijickbppaaGreatDoor
open Go.RowKit Go.Shelf
attribute [local go_sem ↓] Go.wp_at_zero Go.wp_at_succ
end Go.Proofs.YtbjkkijickbppaaGreatDoor
namespace Go.Proofs.YtbjkkijickbppaaGreatDoor
open Go.RowKit Go.Shelf
attribute [local go_sem ↓] Go.wp_at_zero Go.wp_at_succ
end Go.Proofs.YtbjkkijickbppaaGreatDoor
namespace Go.Proofs.YtbjkkijickbppaaGreatDoor
open Go.RowKit Go.Shelf
attribute [local go_sem ↓] Go.wp_at_zero Go.wp_at_succ
theorem drop_len (l:List EntL)(n:Nm):(dropL l n).length≤l.length:=List.length_filter_le _ _
end Go.Proofs.YtbjkkijickbppaaGreatDoor
namespace Go.Proofs.YtbjkkijickbppaaGreatDoor
open Go.RowKit Go.Shelf
attribute [local go_sem ↓] Go.wp_at_zero Go.wp_at_succ
end Go.Proofs.YtbjkkijickbppaaGreatDoor
namespace Go.Proofs.YtbjkkijickbppaaGreatDoor
open Go.RowKit Go.Shelf
open Go.WideShapes (add_plain)
attribute [local go_sem ↓] Go.wp_at_zero Go.wp_at_succ
theorem infoEnt:(Tryz.prog.info? 136).map (fun i=>(i.zero,i.size,i.bytes))=some (some (.agg #[.string ⟨#[]⟩, .int .i64 0]),2,24):=by kernel_rfl
end Go.Proofs.YtbjkkijickbppaaGreatDoor
namespace Go.Proofs.YtbjkkijickbppaaGreatDoor
open Go.RowKit Go.Shelf
open Go.WideShapes (add_plain)
attribute [local go_sem ↓] Go.wp_at_zero Go.wp_at_succ
end Go.Proofs.YtbjkkijickbppaaGreatDoor
namespace Go.Proofs.YtbjkkijickbppaaGreatDoor
open Go.RowKit Go.Shelf
open Go.WideShapes (add_plain)
attribute [local go_sem ↓] Go.wp_at_zero Go.wp_at_succ
end Go.Proofs.YtbjkkijickbppaaGreatDoor
namespace Go.Proofs.YtbjkkijickbppaaGreatDoor
structure NodeL where
 kind:Int
 mode:Int
 owner:Int
 links:Int
 opn:Int
 up:Int
 data:Nm
 names:List EntL
def zeroN:NodeL:=⟨0,0,0,0,0,0,[],[]⟩
theorem node_ext {a b:NodeL}(h0:a.kind=b.kind)(h1:a.mode=b.mode)(h2:a.owner=b.owner)(h3:a.links=b.links)(h4:a.opn=b.opn)(h5:a.up=b.up)(h6:a.data=b.data)(h7:a.names=b.names):a=b:=by
 cases a;cases b;simp_all
instance:DecidableEq NodeL:=fun a b =>
 decidable_of_iff (a.kind=b.kind∧a.mode=b.mode∧a.owner=b.owner∧a.links=b.links∧a.opn=b.opn∧a.up=b.up∧a.data=b.data∧a.names=b.names)
  ⟨fun⟨h0,h1,h2,h3,h4,h5,h6,h7⟩=>node_ext h0 h1 h2 h3 h4 h5 h6 h7,fun h=>by subst h;simp⟩
def weightL (n:NodeL):Nat:=if n.kind=1∨n.kind=3 then n.data.length else 0
def bytesL (l:List NodeL):Nat:=(l.map weightL).sum
def usedL (l:List NodeL):Nat:=l.countP fun n=> !decide (n.kind=0)
theorem bytes_succ (l:List NodeL)(k:Nat)(h:k<l.length):bytesL (l.take (k+1))=bytesL (l.take k)+weightL l[k]:=by
 unfold bytesL;rw[List.take_succ_eq_append_getElem h,List.map_append,List.sum_append];simp
def SmallN (n:NodeL):Prop:=n.data.length≤2000∧n.names.length≤130
def Small (l:List NodeL):Prop:=l.length≤110∧∀n∈l,SmallN n
theorem weight_le {n:NodeL}(h:SmallN n):weightL n≤2000:=by
 unfold weightL;split
 · exact h.1
 · omega
theorem bytes_le (l:List NodeL)(h : ∀n∈l,SmallN n):bytesL l≤l.length*2000:=by
 induction l with
 | nil=>simp[bytesL]
 | cons a l ih =>
    (have h1:=ih fun n hn=>h n (by simp[hn]));have h2:=weight_le (h a (by simp));(have:bytesL (a::l)=weightL a+bytesL l:=by simp[bytesL]);rw[this,List.length_cons];omega
theorem bytes_take_le {l:List NodeL}(h:Small l)(k:Nat):bytesL (l.take k)≤220000:=by
 (have h1:=bytes_le (l.take k) fun n hn=>h.2 n (List.mem_of_mem_take hn));(have h2:(l.take k).length≤110:=by have:=h.1;rw[List.length_take];omega);omega
def stepN (i at':Int)(s:Nat × Int)(e:EntL):Nat × Int:=if e.2=i then(s.1+1,at')else s
def foldN (i at':Int)(s:Nat × Int)(es:List EntL):Nat × Int:=es.foldl (stepN i at') s
def nmTo (l:List NodeL)(i:Int)(s0:Nat × Int):Nat→Nat × Int
 | 0=>s0
 | k+1=>foldN i k (nmTo l i s0 k) (l.getD k zeroN).names
def nmL (l:List NodeL)(i:Int)(s0:Nat × Int):Nat × Int:=nmTo l i s0 l.length
theorem foldN_succ (i at':Int)(s:Nat × Int)(es:List EntL)(j:Nat)(h:j<es.length):foldN i at' s (es.take (j+1))=stepN i at' (foldN i at' s (es.take j)) es[j]:=by
 unfold foldN;rw[List.take_succ_eq_append_getElem h,List.foldl_append];rfl
def Holds (l:List NodeL)(i:Int)(s:Nat × Int):Prop:=0<s.1→∃k:Nat,s.2=k∧∃h:k<l.length,∃e∈l[k].names,e.2=i
theorem fold_holds (l:List NodeL)(i:Int)(k:Nat)(hk:k<l.length)(es:List EntL):(∀e∈es,e∈l[k].names)→∀s,Holds l i s→Holds l i (foldN i k s es):=by
 induction es with
 | nil=>intro _ s h;exact h
 | cons e es ih =>
    intro hes s h;refine ih (fun e he=>hes e (by simp[he])) _ ?_;unfold stepN;split
    · rename_i he
      exact fun _=>⟨k,rfl,hk,e,hes e (by simp),he⟩
    · exact h
theorem nm_holds (l:List NodeL)(i x:Int):Holds l i (nmL l i (0,x)):=by
 unfold nmL
 have : ∀k,k≤l.length→Holds l i (nmTo l i (0,x) k):=by
  intro k
  induction k with
  | zero=>exact fun _ h=>absurd h (Nat.lt_irrefl 0)
  | succ k ih =>
     intro hk;refine fold_holds l i k (by omega) _ (fun e he=> ?_) _ (ih (by omega));rw[List.getD_eq_getElem?_getD,List.getElem?_eq_getElem (by omega)]at he;exact he
 exact this _ (Nat.le_refl _)
theorem fold_le (i at':Int)(es:List EntL)(s:Nat × Int):(foldN i at' s es).1≤s.1+es.length:=by
 induction es generalizing s with
 | nil=>exact Nat.le_refl _
 | cons e es ih =>
    have h1:=ih (stepN i at' s e);(have h2:(stepN i at' s e).1≤s.1+1:=by unfold stepN;split<;>simp);show(foldN i at' (stepN i at' s e) es).1≤_;rw[List.length_cons];omega
theorem nm_le {l:List NodeL}(hs:Small l)(i:Int)(s:Nat × Int)(k:Nat):(nmTo l i s k).1≤s.1+k*130:=by
 induction k with
 | zero=>simp[nmTo]
 | succ k ih =>
    have h1:=fold_le i k (l.getD k zeroN).names (nmTo l i s k)
    have h2:(l.getD k zeroN).names.length≤130:=by
     rw[List.getD_eq_getElem?_getD]
     cases hg:l[k]? with
     | none=>exact Nat.zero_le _
     | some n=>exact(hs.2 n (List.mem_of_getElem? hg)).2
    show(foldN i k (nmTo l i s k) (l.getD k zeroN).names).1≤_;omega
def inL (l:List NodeL)(j:Int):Bool:=decide (0≤j) && decide (j<l.length)
def atI (l:List NodeL)(j:Int):NodeL:=l.getD j.toNat zeroN
def gotB (l:List NodeL)(j:Int):Bool:=inL l j && !decide ((atI l j).kind=0)
def plainB (n:NodeL):Bool:=decide (1≤n.kind) && decide (n.kind≤3) && decide (0≤n.mode) && decide (n.mode≤63) && decide (0≤n.opn)
def namB (l:List NodeL)(e:EntL):Bool:=gotB l e.2 && !decide (e.2=0)
def namableB (l:List NodeL)(es:List EntL):Bool:=es.all (namB l)
def rootR (l:List NodeL):Nat→Int→Bool
 | 0,_=>false
 | f+1,j=>if j=0 then true else if gotB l j && decide ((atI l j).kind=2)then rootR l f (atI l j).up else false
def lastR (l:List NodeL)(i:Int)(n:NodeL)(s:Nat × Int):Bool :=
 if i=0 then decide (n.kind=2) && decide (n.up=0) && decide (n.links=1)
 else if n.links≠s.1∨(s.1=0∧n.opn<1)then false
 else if n.kind≠2 then true
 else if s.1=0 then decide (n.names.length=0) && decide (n.up=0)
 else decide (s.1=1) && decide (n.up=s.2) && rootR l (l.length+1) i
def okR (l:List NodeL)(i:Nat)(n:NodeL):Bool :=
 if n.kind=0 then decide (n=zeroN)
 else plainB n && (decide (n.kind=2) || decide (n.names.length=0)) && (!decide (n.kind=2) || decide (n.data = [])) && decide (SortedP n.names) && namableB l n.names && lastR l i n (nmL l i (0, -1))
def rightR (l:List NodeL)(most room:Int):Bool :=
 !decide (l.length=0) && !decide (most<l.length) && !decide (room<bytesL l) && decide ((atI l 0).kind=2) && (List.range l.length).all fun i=>okR l i (atI l i)
theorem at_nat (l:List NodeL)(i:Nat)(h:i<l.length):atI l i=l[i]:=by
 unfold atI;rw[Int.toNat_natCast,List.getD_eq_getElem?_getD,List.getElem?_eq_getElem h];rfl
theorem in_nat {l:List NodeL}{j:Int}(h:inL l j=true) : ∃k:Nat,j=k∧k<l.length:=by
 unfold inL at h;rw[Bool.and_eq_true,decide_eq_true_iff,decide_eq_true_iff]at h;exact⟨j.toNat,by omega,by omega⟩
theorem nat_in {l:List NodeL}{k:Nat}(h:k<l.length):inL l (k:Int)=true:=by
 unfold inL;rw[Bool.and_eq_true,decide_eq_true_iff,decide_eq_true_iff];omega
theorem range_all (p:Nat→Bool)(n:Nat):(List.range n).all p=true↔ ∀i,i<n→p i=true:=by simp
theorem pigeon : ∀(n:Nat) (L:List Nat),L.Nodup→(∀x∈L,x<n)→L.length≤n:=by
 intro n
 induction n with
 | zero =>
    intro L _ h
    cases L with
    | nil=>exact Nat.le_refl _
    | cons a L=>exact absurd (h a (by simp)) (Nat.not_lt_zero _)
 | succ n ih =>
    intro L hd h
    have h1:=ih (L.erase n) (hd.erase n) fun x hx=>by
     have h2:=(hd.mem_erase_iff).1 hx;have h3:=h x h2.2;have:=h2.1;omega
    rw[List.length_erase]at h1;split at h1<;>omega
end Go.Proofs.YtbjkkijickbppaaGreatDoor
