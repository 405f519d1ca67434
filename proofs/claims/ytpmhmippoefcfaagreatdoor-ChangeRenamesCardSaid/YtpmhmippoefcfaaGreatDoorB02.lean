/-
  Names of a directory, plainly: which names may be; what is found, put and dropped.
  Plain facts on stencils: how many blanks a text ends with, letters, signs; what is made; what fits.
  strings.IndexRune, IndexAny, ContainsAny at two plain bytes, in whatever text.
  strings.ContainsAny at the two bytes that no name has; which names may be.
  Which names may be: the program's and the document's.
  Lists of entries in memory; whether they are sorted: the program's and the document's.
  The document's Sorted, Find, Drop, Same, Names; the statements' its; the program's Names.
  The document's Sorted and Same of entries.
  The document's Find, Drop, Put; both Names.
  The document's Put; both Names.
  sort.Search, laid; the closure; where a name begins and ends.
  slices.Grow, laid; slices.Concat; what stands between two places, replaced.
  slices.Concat; what stands between two places, replaced.
  The program's replace, Find, Drop, Put. Nodes of a disk, plainly: what names a node; what is right, in the program's words and in the document's; they say the same. Where a path leads, plainly; what it says on disks that are right.
-/
import Derived.RangeFuncNested
import Derived.RangeFuncBound
import Derived.RangeFuncCalls
import Derived.RangeFuncLeaves
import Derived.RangeFuncBox
import Derived.Shelf.Abstract
import Derived.Shelf.RegionOpen
import Derived.WalkKit
import Derived.OwnWalkIn
import Derived.TacticsInMore
import Derived.LoopNIn
import Derived.LoopIn
import Derived.Lib.Hide
import Derived.Outline
import Derived.Deep.QuietTactic
import Derived.Deep.AppendLies
import Derived.BigQuiet
import Derived.Lib.Strings
import Derived.WalkSmall
import Derived.Shelf.Small.Strs
import Derived.Shelf.Strings.Search1
import Derived.Shelf.Strings.Prefix
import Derived.Laws.AppendOwn
import Derived.Laws.OwnMore
import Derived.Laws.AppendOwnNone
import Derived.WideShapes
import Derived.Laws.RangeAny
import Derived.Laws.Runes
import Derived.Lib.Builder
import Derived.Deep.WholeRow
import Derived.WalkMore
import Derived.Lib.OthersKept
import Derived.Lib.QuietBelow
import Derived.Deep.DrawnRows
import Derived.Laws.Cover1
import Derived.Shelf.SlSorted.Search
import Derived.Shelf.Spec.SlicesGrow
import Derived.StillTailTactics
import Derived.Lib.TrimByte
import Derived.Lib.Bytealg
import Derived.Laws.BitsLemmas
import Derived.Test.YtpmhmippoefcfaaGreatDoorProg
import Derived.Test.YtpmhmippoefcfaaGreatDoorShelf
import Derived.Test.YtpmhmippoefcfaaGreatDoorB01
namespace Go.Proofs.YtpmhmippoefcfaaGreatDoor
abbrev Nm := List UInt8
abbrev EntL := Nm × Int
theorem lt_irr (a : Nm) : ¬ a < a := List.lt_irrefl a
theorem lt_tr {a b c : Nm} (h : a < b) (g : b < c) : a < c := List.lt_trans h g
theorem lt_as {a b : Nm} (h : a < b) : ¬ b < a := List.lt_asymm h
theorem lt_eq {a b : Nm} (h : ¬ a < b) (g : ¬ b < a) : a = b := List.le_antisymm (List.not_lt.1 g) (List.not_lt.1 h)
theorem lt_ne {a b : Nm} (h : a < b) : a ≠ b := fun e => by subst e; exact lt_irr _ h
theorem le_lt {a b c : Nm} (h : ¬ b < a) (g : b < c) : a < c := by
  by_cases e : a < b
  · exact lt_tr e g
  · obtain rfl := lt_eq e h
    exact g
/-- The bytes that no name has. -/
def barredL (c : UInt8) : Bool := c == 47 || c == 0
def legalL (s : Nm) : Int := if s = [] ∨ s = [46] ∨ s = [46, 46] ∨ s.any barredL = true then 1 else if 12 < s.length then 9 else 0
def Up (l : List EntL) : Prop := l.Pairwise fun a b => a.1 < b.1
def SortedP (l : List EntL) : Prop := (∀ e ∈ l, legalL e.1 = 0) ∧ Up l
instance (l : List EntL) : Decidable (SortedP l) := by unfold SortedP Up; infer_instance
theorem SortedP.sub {l m : List EntL} (h : SortedP l) (hs : List.Sublist m l) : SortedP m :=
  ⟨fun e he => h.1 e (hs.subset he), h.2.sublist hs⟩
theorem sorted_nil : SortedP [] := ⟨fun _ h => (by cases h), List.Pairwise.nil⟩
/-- One entry more of the beginning of a list. -/
theorem sorted_succ {l : List EntL} {k : Nat} (h : k < l.length) (hs : SortedP (l.take k)) (hl : legalL l[k].1 = 0) (ho : ∀ j (hj : j < l.length), k = j + 1 → l[j].1 < l[k].1) : SortedP (l.take (k + 1)) := by
  rw [List.take_succ_eq_append_getElem h]
  refine ⟨fun e he => ?_, ?_⟩
  · rcases List.mem_append.1 he with he | he
    · exact hs.1 e he
    · obtain rfl := List.mem_singleton.1 he
      exact hl
  · refine List.pairwise_append.2 ⟨hs.2, List.pairwise_singleton _ _, fun a ha b hb => ?_⟩
    obtain rfl := List.mem_singleton.1 hb
    obtain ⟨i, hi, rfl⟩ := List.mem_iff_getElem.1 ha
    rw [List.length_take] at hi
    have hik : i < k := by omega
    obtain ⟨j, rfl⟩ : ∃ j, k = j + 1 := ⟨k - 1, by omega⟩
    have h1 := ho j (by omega) rfl
    rw [List.getElem_take]
    rcases Nat.lt_or_ge i j with h2 | h2
    · have := List.pairwise_iff_getElem.1 hs.2 i j (by rw [List.length_take]; omega) (by rw [List.length_take]; omega) h2
      rw [List.getElem_take, List.getElem_take] at this
      exact lt_tr this h1
    · obtain rfl : i = j := by omega
      exact h1
theorem sorted_order {l : List EntL} (hs : SortedP l) {j k : Nat} (hk : k < l.length) (h : k = j + 1) : (l[j]'(by omega)).1 < l[k].1 :=
  List.pairwise_iff_getElem.1 hs.2 j k (by omega) hk (by omega)
/-- What is below a name, and what is above it. -/
def lo (l : List EntL) (n : Nm) : List EntL := l.filter fun e => decide (e.1 < n)
def hi (l : List EntL) (n : Nm) : List EntL := l.filter fun e => decide (n < e.1)
def mid (n : Nm) : Option Int → List EntL
  | none => []
  | some i => [(n, i)]
def findL (l : List EntL) (n : Nm) : Option Int := (l.find? fun e => e.1 == n).map (·.2)
def dropL (l : List EntL) (n : Nm) : List EntL := l.filter fun e => !(e.1 == n)
def putL (l : List EntL) (e : EntL) : List EntL := lo l e.1 ++ e :: hi l e.1
theorem mem_lo {l : List EntL} {n : Nm} {e : EntL} : e ∈ lo l n ↔ e ∈ l ∧ e.1 < n := by simp [lo]
theorem mem_hi {l : List EntL} {n : Nm} {e : EntL} : e ∈ hi l n ↔ e ∈ l ∧ n < e.1 := by simp [hi]
theorem mid_name {n : Nm} {m : Option Int} {e : EntL} (h : e ∈ mid n m) : e.1 = n := by
  cases m with
  | none => cases h
  | some i => obtain rfl := List.mem_singleton.1 h; rfl
theorem find_parts (a c : List EntL) (n : Nm) (m : Option Int) (ha : ∀ e ∈ a, e.1 ≠ n) (hc : ∀ e ∈ c, e.1 ≠ n) : findL (a ++ mid n m ++ c) n = m := by
  have h1 : a.find? (fun e => e.1 == n) = none := List.find?_eq_none.2 fun e he => by simpa using ha e he
  have h2 : c.find? (fun e => e.1 == n) = none := List.find?_eq_none.2 fun e he => by simpa using hc e he
  unfold findL
  rw [List.find?_append, List.find?_append, h1, h2, Option.or_none, Option.none_or]
  cases m with
  | none => rfl
  | some i => simp [mid]
theorem up_parts {l : List EntL} (h : Up l) (n : Nm) : ∃ m, l = lo l n ++ mid n m ++ hi l n := by
  induction l with
  | nil => exact ⟨none, rfl⟩
  | cons a r ih =>
    obtain ⟨h1, h2⟩ := List.pairwise_cons.1 h
    by_cases ha : a.1 < n
    · obtain ⟨m, hm⟩ := ih h2
      refine ⟨m, ?_⟩
      have e1 : lo (a :: r) n = a :: lo r n := by simp [lo, ha]
      have e2 : hi (a :: r) n = hi r n := by simp [hi, lt_as ha]
      rw [e1, e2, List.cons_append, List.cons_append, ← hm]
    · have hr : ∀ e ∈ r, n < e.1 := fun e he => le_lt ha (h1 e he)
      have e3 : lo r n = [] := List.filter_eq_nil_iff.2 fun e he => by simpa using lt_as (hr e he)
      have e4 : hi r n = r := List.filter_eq_self.2 fun e he => by simpa using hr e he
      have e1 : lo (a :: r) n = [] := by
        have : lo (a :: r) n = lo r n := by simp [lo, ha]
        rw [this, e3]
      by_cases hb : n < a.1
      · refine ⟨none, ?_⟩
        have e2 : hi (a :: r) n = a :: r := by
          have : hi (a :: r) n = a :: hi r n := by simp [hi, hb]
          rw [this, e4]
        rw [e1, e2]
        rfl
      · obtain ⟨x, i⟩ := a
        obtain rfl : x = n := lt_eq ha hb
        refine ⟨some i, ?_⟩
        have e2 : hi ((x, i) :: r) x = r := by
          have : hi ((x, i) :: r) x = hi r x := by simp [hi]
          rw [this, e4]
        rw [e1, e2]
        rfl
/-- A list that rises: what is below, the entry of that name if there is one, what is above. -/
theorem eparts {l : List EntL} (h : Up l) (n : Nm) : l = lo l n ++ mid n (findL l n) ++ hi l n := by
  obtain ⟨m, hm⟩ := up_parts h n
  have := find_parts (lo l n) (hi l n) n m (fun e he => lt_ne (mem_lo.1 he).2) fun e he => (lt_ne (mem_hi.1 he).2).symm
  rw [← hm] at this
  rw [this]
  exact hm
theorem drop_parts {l : List EntL} (h : Up l) (n : Nm) : dropL l n = lo l n ++ hi l n := by
  have h0 := eparts h n
  have e1 : (lo l n).filter (fun e => !(e.1 == n)) = lo l n := List.filter_eq_self.2 fun e he => by simpa using lt_ne (mem_lo.1 he).2
  have e2 : (hi l n).filter (fun e => !(e.1 == n)) = hi l n := List.filter_eq_self.2 fun e he => by simpa using (lt_ne (mem_hi.1 he).2).symm
  have e3 : (mid n (findL l n)).filter (fun e => !(e.1 == n)) = [] := List.filter_eq_nil_iff.2 fun e he => by simp [mid_name he]
  have : dropL l n = (lo l n ++ mid n (findL l n) ++ hi l n).filter (fun e => !(e.1 == n)) := by
    unfold dropL
    exact congrArg _ h0
  rw [this, List.filter_append, List.filter_append, e1, e2, e3, List.append_nil]
theorem put_mid (l : List EntL) (n : Nm) (i : Int) : putL l (n, i) = lo l n ++ mid n (some i) ++ hi l n := by simp [putL, mid]
theorem up_put {l : List EntL} (h : Up l) (e : EntL) : Up (putL l e) := by
  refine List.pairwise_append.2 ⟨h.sublist List.filter_sublist, List.pairwise_cons.2 ⟨fun b hb => (mem_hi.1 hb).2, h.sublist List.filter_sublist⟩, fun a ha b hb => ?_⟩
  have h1 := (mem_lo.1 ha).2
  rcases List.mem_cons.1 hb with rfl | hb
  · exact h1
  · exact lt_tr h1 (mem_hi.1 hb).2
theorem sorted_put {l : List EntL} (h : SortedP l) (e : EntL) (he : legalL e.1 = 0) : SortedP (putL l e) := by
  refine ⟨fun a ha => ?_, up_put h.2 e⟩
  rcases List.mem_append.1 ha with ha | ha
  · exact h.1 a (mem_lo.1 ha).1
  · rcases List.mem_cons.1 ha with rfl | ha
    · exact he
    · exact h.1 a (mem_hi.1 ha).1
theorem put_len (l : List EntL) (e : EntL) : (putL l e).length ≤ l.length + l.length + 1 := by
  have h1 := List.length_filter_le (fun a : EntL => decide (a.1 < e.1)) l
  have h2 := List.length_filter_le (fun a : EntL => decide (e.1 < a.1)) l
  simp only [putL, lo, hi, List.length_append, List.length_cons]
  omega
/-- How many are below a name, counted by places. -/
theorem count_at (q : EntL → Bool) (l : List EntL) (d : EntL) : (List.range l.length).countP (fun i => q (l.getD i d)) = (l.filter q).length := by
  have : (List.range l.length).map (fun i => l.getD i d) = l := by
    apply List.ext_getElem
    · simp
    · intro i h1 h2
      simp [h2]
  rw [← List.countP_eq_length_filter]
  conv => rhs; rw [← this]
  rw [List.countP_map]
  rfl
theorem up_le {l : List EntL} (h : Up l) {a b : Nat} (hab : a ≤ b) (hb : b < l.length) (n : Nm) (d : EntL) (hn : ¬ (l.getD a d).1 < n) : ¬ (l.getD b d).1 < n := by
  have ha : a < l.length := by omega
  rw [List.getD_eq_getElem?_getD, List.getElem?_eq_getElem ha] at hn
  rw [List.getD_eq_getElem?_getD, List.getElem?_eq_getElem hb]
  simp only [Option.getD_some] at hn ⊢
  rcases Nat.lt_or_eq_of_le hab with hlt | rfl
  · have := List.pairwise_iff_getElem.1 h a b ha hb hlt
    intro hx
    exact hn (lt_tr this hx)
  · exact hn
/-- The entry behind those that are below a name. -/
theorem at_lo {l : List EntL} (h : Up l) (n : Nm) (hk : (lo l n).length < l.length) : (∃ i, findL l n = some i ∧ l[(lo l n).length] = (n, i)) ∨ (findL l n = none ∧ l[(lo l n).length].1 ≠ n) := by
  have h0 := eparts h n
  cases hf : findL l n with
  | some i =>
    refine .inl ⟨i, rfl, ?_⟩
    have : l[(lo l n).length]? = some (n, i) := by
      rw [hf] at h0
      have : ∀ a c : List EntL, (a ++ [(n, i)] ++ c)[a.length]? = some (n, i) := fun a c => by simp
      have := this (lo l n) (hi l n)
      rwa [show lo l n ++ [(n, i)] ++ hi l n = l from h0.symm] at this
    rw [List.getElem?_eq_getElem hk] at this
    exact Option.some.inj this
  | none =>
    refine .inr ⟨rfl, ?_⟩
    have hm : l[(lo l n).length] ∈ hi l n := by
      have h1 : l[(lo l n).length]? = (hi l n)[0]? := by
        rw [hf] at h0
        have h2 : l = lo l n ++ hi l n := by simpa [mid] using h0
        have : ∀ a c : List EntL, (a ++ c)[a.length]? = c[0]? := fun a c => by rw [List.getElem?_append_right (Nat.le_refl _), Nat.sub_self]
        rw [← this (lo l n) (hi l n), ← h2]
      rw [List.getElem?_eq_getElem hk] at h1
      exact List.mem_of_getElem? h1.symm
    exact (lt_ne (mem_hi.1 hm).2).symm
theorem lo_len (l : List EntL) (n : Nm) : (lo l n).length ≤ l.length := List.length_filter_le _ _
theorem take_lo {l : List EntL} (h : Up l) (n : Nm) : l.take (lo l n).length = lo l n := by
  have h0 := eparts h n
  have : ∀ a c d : List EntL, (a ++ c ++ d).take a.length = a := fun a c d => by simp
  have := this (lo l n) (mid n (findL l n)) (hi l n)
  rwa [← h0] at this
theorem drop_hi {l : List EntL} (h : Up l) (n : Nm) : l.drop ((lo l n).length + (mid n (findL l n)).length) = hi l n := by
  have h0 := eparts h n
  have : ∀ a c d : List EntL, (a ++ c ++ d).drop (a.length + c.length) = d := fun a c d => by simp
  have := this (lo l n) (mid n (findL l n)) (hi l n)
  rwa [← h0] at this
theorem end_le {l : List EntL} (h : Up l) (n : Nm) : (lo l n).length + (mid n (findL l n)).length ≤ l.length := by
  have h0 := congrArg List.length (eparts h n)
  rw [List.length_append, List.length_append] at h0
  omega
end Go.Proofs.YtpmhmippoefcfaaGreatDoor
namespace Go.Proofs.YtpmhmippoefcfaaGreatDoor
/-- How many blanks a text ends with. -/
def xs (l : List UInt8) : Nat := (l.reverse.takeWhile (fun c => c == 88)).length
end Go.Proofs.YtpmhmippoefcfaaGreatDoor
namespace Go.Proofs.YtpmhmippoefcfaaGreatDoor
open Go.RowKit Go.Shelf
end Go.Proofs.YtpmhmippoefcfaaGreatDoor
namespace Go.Proofs.YtpmhmippoefcfaaGreatDoor
open Go.RowKit Go.Shelf
end Go.Proofs.YtpmhmippoefcfaaGreatDoor
namespace Go.Proofs.YtpmhmippoefcfaaGreatDoor
open Go.RowKit Go.Shelf
theorem legal_err {s : Nm} (h : s = [] ∨ s = [46] ∨ s = [46, 46] ∨ s.any barredL = true) : legalL s = 1 := if_pos h
theorem legal_long {s : Nm} (h : ¬ (s = [] ∨ s = [46] ∨ s = [46, 46] ∨ s.any barredL = true)) (hl : 12 < s.length) : legalL s = 9 := by unfold legalL; rw [if_neg h, if_pos hl]
theorem legal_ok {s : Nm} (h : ¬ (s = [] ∨ s = [46] ∨ s = [46, 46] ∨ s.any barredL = true)) (hl : ¬ 12 < s.length) : legalL s = 0 := by unfold legalL; rw [if_neg h, if_neg hl]
theorem empty_false {s : Nm} (h : s ≠ []) : s.isEmpty = false := by cases s with | nil => exact absurd rfl h | cons a l => rfl
theorem beq_list_false {a b : Nm} (h : a ≠ b) : (a == b) = false := by rw [beq_eq_false_iff_ne]; exact h
theorem any_take8 (s : Nm) (p : UInt8 → Bool) (k : Nat) (h : k < s.length) : (s.take (k + 1)).any p = ((s.take k).any p || p s[k]) := by
  rw [List.take_succ_eq_append_getElem h, List.any_append]
  simp
set_option maxRecDepth 100000 in
set_option maxHeartbeats 1000000 in
theorem rlegal_any (s : Nm) (hm : s.length ≤ maxLen) (w : World) : Calls Tryz.prog 125 #[.string (bs s)] w fun e w' => e = .returned (.int .i64 (legalL s)) ∧ w = w' := by
  unfold maxLen at hm
  by_cases h0 : s = []
  · subst h0
    go_enter Tryz.func125, Tryz.ntmps125
    go_wp2_with fail
    go_ret
    exact ⟨ret_int rfl, rfl⟩
  by_cases h1 : s = [46]
  · subst h1
    go_enter Tryz.func125, Tryz.ntmps125
    go_wp2_with fail
    go_ret
    exact ⟨ret_int rfl, rfl⟩
  by_cases h2 : s = [46, 46]
  · subst h2
    go_enter Tryz.func125, Tryz.ntmps125
    go_wp2_with fail
    go_ret
    exact ⟨ret_int rfl, rfl⟩
  have e0 := empty_false h0
  have e1 := beq_list_false h1
  have e2 := beq_list_false h2
  have HN : Hid (s.any barredL = false → ¬ (s = [] ∨ s = [46] ∨ s = [46, 46] ∨ s.any barredL = true)) := Lib.hid fun hb => by
    rintro (h | h | h | h)
    · exact h0 h
    · exact h1 h
    · exact h2 h
    · rw [hb] at h; cases h
  clear h0 h1 h2
  go_enter Tryz.func125, Tryz.ntmps125
  go_wp2_with fail
  clear e0 e1 e2
  go_loop [3] (fun i => ∃ k : Nat, i = .int .i64 k ∧ k ≤ s.length ∧ Hid ((s.take k).any barredL = false)) (fun i => s.length - (intOf i).toNat)
  case atStart => exact ⟨0, rfl, Nat.zero_le _, Lib.hid rfl⟩
  case round =>
    obtain ⟨k, rfl, hk, hal⟩ := hrel
    by_cases hlt : k < s.length
    · have ht := any_take8 s barredL k hlt
      have hm1 : s[k] ∈ s := List.getElem_mem hlt
      obtain ⟨x, hx⟩ : ∃ x : UInt8, x = s[k] := ⟨s[k], rfl⟩
      have hg : ∀ h, (bs s)[k]'h = x := fun h => by rw [hx]; exact bs_get s k h
      rw [← hx] at ht hm1
      clear hx
      by_cases hq : x = 47
      · have hI : ((x.toNat : Int) == 47) = true := by rw [hq]; rfl
        have H : Hid (legalL s = 1) := Lib.hid (legal_err (.inr (.inr (.inr (List.any_eq_true.2 ⟨x, hm1, by rw [hq]; rfl⟩)))))
        clear ht hm1 hq
        go_wp2_with fail
        go_ret
        exact ⟨ret_int H.out.symm, rfl⟩
      · have hI : ((x.toNat : Int) == 47) = false := by
          rw [beq_eq_false_iff_ne]
          exact fun e => hq (UInt8.toNat_inj.1 (by simp; omega))
        by_cases hz : x = 0
        · have hJ : ((x.toNat : Int) == 0) = true := by rw [hz]; rfl
          have H : Hid (legalL s = 1) := Lib.hid (legal_err (.inr (.inr (.inr (List.any_eq_true.2 ⟨x, hm1, by rw [hz]; rfl⟩)))))
          clear ht hm1 hq hz
          go_wp2_with fail
          go_ret
          exact ⟨ret_int H.out.symm, rfl⟩
        · have hJ : ((x.toNat : Int) == 0) = false := by
            rw [beq_eq_false_iff_ne]
            exact fun e => hz (UInt8.toNat_inj.1 (by simp; omega))
          have HB : Hid ((s.take (k + 1)).any barredL = false) := Lib.hid (by
            rw [ht, hal.out]
            simp [barredL, hq, hz])
          clear ht hm1 hq hz
          go_wp2_with fail
          go_round
          case rel => exact ⟨k + 1, by go_num, hlt, HB⟩
          case measure => simp [intOf]; omega
    · have hke : k = s.length := by omega
      have HB := HN.out (by have := hal.out; rwa [hke, List.take_length] at this)
      have hI2 : decide (k < s.length) = false := by simp; omega
      by_cases hl : 12 < s.length
      · have H : Hid (legalL s = 9) := Lib.hid (legal_long HB hl)
        have hI : decide ((12 : Int) < (s.length : Int)) = true := by simp; omega
        clear hke hlt hl HB
        go_wp2_with fail
        go_ret
        exact ⟨ret_int H.out.symm, rfl⟩
      · have H : Hid (legalL s = 0) := Lib.hid (legal_ok HB hl)
        have hI : decide ((12 : Int) < (s.length : Int)) = false := by simp; omega
        clear hke hlt hl HB
        go_wp2_with fail
        go_ret
        exact ⟨ret_int H.out.symm, rfl⟩
end Go.Proofs.YtpmhmippoefcfaaGreatDoor
namespace Go.Proofs.YtpmhmippoefcfaaGreatDoor
open Go.RowKit Go.Shelf
attribute [local go_sem ↓] Go.wp_at_zero Go.wp_at_succ
/-- Entries in a row of cells. -/
def ents (l : List EntL) : List Value := l.flatMap fun e => [.string (bs e.1), .int .i64 e.2]
theorem ents_len (l : List EntL) : (ents l).length = l.length * 2 := by
  induction l with
  | nil => rfl
  | cons e l ih => simp [ents] at ih ⊢; omega
theorem ents_app (a b : List EntL) : ents (a ++ b) = ents a ++ ents b := by simp [ents]
theorem ents_at0 (l : List EntL) (k : Nat) (h : k < l.length) : (ents l)[k * 2]? = some (.string (bs (l[k]).1)) := by
  induction l generalizing k with
  | nil => simp at h
  | cons f l ih =>
    cases k with
    | zero => rfl
    | succ k =>
      have := ih k (by simpa using h)
      rw [show (k + 1) * 2 = k * 2 + 2 by omega]
      simpa [ents] using this
theorem ents_at1 (l : List EntL) (k : Nat) (h : k < l.length) : (ents l)[k * 2 + 1]? = some (.int .i64 (l[k]).2) := by
  induction l generalizing k with
  | nil => simp at h
  | cons f l ih =>
    cases k with
    | zero => rfl
    | succ k =>
      have := ih k (by simpa using h)
      rw [show (k + 1) * 2 + 1 = k * 2 + 1 + 2 by omega]
      simpa [ents] using this
theorem ents_one (l : List EntL) : ∀ u ∈ ents l, u.oneCell' = true := by
  intro u hu
  obtain ⟨e, _, h⟩ := List.mem_flatMap.1 hu
  simp only [List.mem_cons, List.not_mem_nil, or_false] at h
  rcases h with rfl | rfl <;> rfl
/-- Names that fit in memory. -/
def Fit (l : List EntL) : Prop := ∀ e ∈ l, e.1.length ≤ maxLen
theorem bless (a b : Nm) : Op.bytesLess a b = decide (a < b) := by
  induction a generalizing b with
  | nil => cases b <;> simp [Op.bytesLess]
  | cons x a ih =>
    cases b with
    | nil => simp [Op.bytesLess]
    | cons y b =>
      rw [Op.bytesLess, ih, Bool.eq_iff_iff, decide_eq_true_iff, List.cons_lt_cons_iff]
      simp
theorem bless_yes {a b : Nm} (h : a < b) : Op.bytesLess a b = true := by rw [bless]; simpa using h
theorem bless_no {a b : Nm} (h : ¬ a < b) : Op.bytesLess a b = false := by rw [bless]; simpa using h
theorem leq_ways {a b : Nm} (h : ¬ b < a) : (Op.bytesLess a b = true ∧ (a == b) = false) ∨ (Op.bytesLess a b = false ∧ (a == b) = true) := by
  by_cases e : a < b
  · exact .inl ⟨bless_yes e, beq_list_false (lt_ne e)⟩
  · refine .inr ⟨bless_no e, ?_⟩
    rw [lt_eq e h]; simp
theorem not_legal {l : List EntL} {k : Nat} (h : k < l.length) (hl : legalL l[k].1 ≠ 0) : decide (SortedP l) = false := by
  rw [decide_eq_false_iff_not]
  exact fun hs => hl (hs.1 _ (List.getElem_mem h))
theorem not_order {l : List EntL} {j : Nat} (h : j + 1 < l.length) (hl : ¬ (l[j]'(by omega)).1 < l[j + 1].1) : decide (SortedP l) = false := by
  rw [decide_eq_false_iff_not]
  exact fun hs => hl (sorted_order hs h rfl)
end Go.Proofs.YtpmhmippoefcfaaGreatDoor
namespace Go.Proofs.YtpmhmippoefcfaaGreatDoor
open Go.RowKit Go.Shelf
attribute [local go_sem ↓] Go.wp_at_zero Go.wp_at_succ
theorem infoREnt : (Tryz.prog.info? 130).map (fun i => (i.zero, i.size, i.bytes)) = some (some (.agg #[.string ⟨#[]⟩, .int .i64 0]), 2, 24) := by kernel_rfl
theorem eqEnt (x y : EntL) (w : World) : (Op.equalIn 10000 130 (.agg #[.string (bs x.1), .int .i64 x.2]) (.agg #[.string (bs y.1), .int .i64 y.2])).run Tryz.prog w = .ok (decide (x = y)) w := by
  have u3 := Tryz.underlying3
  have u9 := Tryz.underlying9
  have a3 := Tryz.isAgg3
  have a9 := Tryz.isAgg9
  have hS : Tryz.prog.underlying 130 = some (.struct (Tryz.prog.fieldsOf 130)) := by kernel_rfl
  rw [show (10000 : Nat) = 9998 + 1 + 1 from rfl, run_equalIn_agg w (9998 + 1) 130 _ _ hS (by kernel_rfl)]
  simp only [Program.fieldsOf, Tryz.underlying130]
  go_simp
  obtain ⟨x1, x2⟩ := x
  obtain ⟨y1, y2⟩ := y
  by_cases h1 : x1 = y1 <;> by_cases h2 : x2 = y2 <;> simp [h1, h2]
theorem entGuard : Tryz.prog.eqGuardType Tryz.prog.depth 130 = false := by kernel_rfl
/-- Are the first k the same? -/
def sameTo {α : Type} [DecidableEq α] (a b : List α) (k : Nat) : Prop := a.take k = b.take k
theorem sameTo_succ {α : Type} [DecidableEq α] {a b : List α} {k : Nat} (h : sameTo a b k) (ha : k < a.length) (hb : k < b.length) (e : a[k] = b[k]) : sameTo a b (k + 1) := by
  unfold sameTo at h ⊢
  rw [List.take_succ_eq_append_getElem ha, List.take_succ_eq_append_getElem hb, h, e]
set_option maxRecDepth 100000 in
set_option maxHeartbeats 1000000 in
theorem same_any (B : Nat) (va vb : Value) (a b : List EntL) (w : World) (hva : Rd B 2 va a.length (ents a) w) (hvb : Rd B 2 vb b.length (ents b) w) (ha : a.length ≤ 10000000) (hb : b.length ≤ 10000000) :
    Calls Tryz.prog 39 #[va, vb] w fun e w' => e = .returned (.bool (decide (a = b))) ∧ ∃ n, w' = w.drewN n := by
  obtain ⟨aoa, capa, rfl, _, _⟩ := hva.form
  obtain ⟨aob, capb, rfl, _, _⟩ := hvb.form
  have HVA := Lib.hid hva
  have HVB := Lib.hid hvb
  clear hva hvb
  by_cases hl : a.length = b.length
  · have hI : ((a.length : Int) != (b.length : Int)) = false := by rw [hl]; simp
    have HL := Lib.hid hl
    have hle1 : a.length ≤ b.length := by omega
    have hle2 : b.length ≤ a.length := by omega
    clear hl
    go_enter Tryz.func39, Tryz.ntmps39
    go_wp2_with fail
    go_loopw [5] (fun i wr => ∃ k n : Nat, i = .int .i64 k ∧ k ≤ a.length ∧ Hid (sameTo a b k) ∧ wr = w.drewN n) (fun i _ => a.length - (intOf i).toNat)
    case atStart => exact ⟨0, 0, rfl, Nat.zero_le _, Lib.hid rfl, rfl⟩
    case round =>
      obtain ⟨k, n, rfl, hk, hs, rfl⟩ := hrel
      by_cases hlt : k < a.length
      · have hltb : k < b.length := by omega
        obtain ⟨ba, offa, capa', ea, _, _, _, _, hca⟩ := HVA.out.at (by omega)
        obtain ⟨bb, offb, capb', eb, _, _, _, _, hcb⟩ := HVB.out.at (by omega)
        injection ea with ea1 _ ea2
        injection eb with eb1 _ eb2
        subst ea1 ea2 eb1 eb2
        have hc0 := hca _ _ (ents_at0 a k hlt)
        have hc1 := hcb _ _ (ents_at0 b k hltb)
        have hc2 : w.cell? ⟨ba, offa + k * 2 + 1, none⟩ = _ := hca (k * 2 + 1) _ (ents_at1 a k hlt)
        have hc3 : w.cell? ⟨bb, offb + k * 2 + 1, none⟩ = _ := hcb (k * 2 + 1) _ (ents_at1 b k hltb)
        have k0 : (0 : Int) ≤ (k : Int) := by omega
        have k1 : (k : Int) < (a.length : Int) := by omega
        have k2 : (k : Int) < (b.length : Int) := by omega
        clear hca hcb
        have heq := eqEnt a[k] b[k]
        have hgd := entGuard
        by_cases hq : a[k] = b[k]
        · have hs' := Lib.hid (sameTo_succ hs.out hlt hltb hq)
          have hI2 : decide (a[k] = b[k]) = true := by simpa using hq
          rw [hI2] at heq
          clear hq hI2
          go_wp2_with fail
          go_quiet (fail)
          go_wp2_with fail
          go_roundw
          case rel => exact ⟨k + 1, n + nq, by go_num, hlt, hs', by first | rfl | exact drewN_two w n nq⟩
          case measure => simp [intOf]; omega
        · have H : Hid (decide (a = b) = false) := Lib.hid (by rw [decide_eq_false_iff_not]; intro e; subst e; exact hq rfl)
          have hI2 : decide (a[k] = b[k]) = false := by simpa using hq
          rw [hI2] at heq
          clear hq hI2
          go_wp2_with fail
          go_quiet (fail)
          go_wp2_with fail
          go_ret
          exact ⟨ret_bool H.out.symm, n + nq, by first | rfl | exact drewN_two w n nq⟩
      · have hke : k = a.length := by omega
        have H : Hid (decide (a = b) = true) := Lib.hid (by
          rw [decide_eq_true_iff]
          have := hs.out
          unfold sameTo at this
          rwa [hke, List.take_length, HL.out, List.take_length] at this)
        have hI2 : decide (k < a.length) = false := by simp; omega
        clear hke hlt
        go_wp2_with fail
        go_ret
        exact ⟨ret_bool H.out.symm, n, rfl⟩
  · have hI : ((a.length : Int) != (b.length : Int)) = true := by rw [bne_iff_ne]; omega
    have H : Hid (decide (a = b) = false) := Lib.hid (by rw [decide_eq_false_iff_not]; intro e; exact hl (by rw [e]))
    clear hl
    go_enter Tryz.func39, Tryz.ntmps39
    go_wp2_with fail
    go_ret
    exact ⟨ret_bool H.out.symm, 0, rfl⟩
set_option maxRecDepth 100000 in
set_option maxHeartbeats 2000000 in
theorem rsorted_any (B : Nat) (v : Value) (l : List EntL) (w : World) (hv : Rd B 2 v l.length (ents l) w) (hl : l.length ≤ 10000) (hn : Fit l) :
    Calls Tryz.prog 103 #[v] w fun e w' => e = .returned (.bool (decide (SortedP l))) ∧ ∃ n, w' = w.drewN n := by
  obtain ⟨ao, cap, rfl, _, _⟩ := hv.form
  have HV := Lib.hid hv
  have HN := Lib.hid hn
  clear hv hn
  go_enter Tryz.func103, Tryz.ntmps103
  go_wp2_with fail
  go_loopw [3] (fun i wr => ∃ k n : Nat, i = .int .i64 k ∧ k ≤ l.length ∧ Hid (SortedP (l.take k)) ∧ wr = w.drewN n) (fun i _ => l.length - (intOf i).toNat)
  case atStart => exact ⟨0, 0, rfl, Nat.zero_le _, Lib.hid sorted_nil, rfl⟩
  case round =>
    obtain ⟨k, n, rfl, hk, hS, rfl⟩ := hrel
    by_cases hlt : k < l.length
    · obtain ⟨b, off, cap', e, hn, hm, hb, hlen, hc⟩ := HV.out.at (by omega)
      injection e with e1 _ e2
      subst e1
      subst e2
      have hc0 := hc _ _ (ents_at0 l k hlt)
      have hxm := HN.out _ (List.getElem_mem hlt)
      have HC : Hid (∀ j (hj : j < l.length), w.cell? ⟨b, off + j * 2, none⟩ = some (.string (bs (l[j]).1))) := Lib.hid fun j hj => hc _ _ (ents_at0 l j hj)
      obtain ⟨x, hx⟩ : ∃ x, x = (l[k]).1 := ⟨_, rfl⟩
      rw [← hx] at hc0 hxm
      have HL : ∀ w, Calls Tryz.prog 125 #[.string (bs x)] w fun e w' => e = .returned (.int .i64 (legalL x)) ∧ w' = w := fun w => (rlegal_any x hxm w).mono fun e w' h => ⟨h.1, h.2.symm⟩
      have HX := Lib.hid hx
      have k0 : (0 : Int) ≤ (k : Int) := by omega
      have k1 : (k : Int) < (l.length : Int) := by omega
      clear hc
      by_cases hq : legalL x = 0
      · rw [hq] at HL
        by_cases h0 : k = 0
        · have hnx : Hid (SortedP (l.take (k + 1))) := Lib.hid (sorted_succ hlt hS.out (by rw [← HX.out]; exact hq) fun j _ h => by omega)
          have hI : decide (0 < k) = false := by simp; omega
          clear hx hq h0
          go_wp2_with fail
          go_quiet ((go_at_call 125; exact (HL _).mono fun e w' h => ⟨h.1, _, h.2⟩))
          go_wp2_with fail
          go_roundw
          case rel => exact ⟨k + 1, n + nq, by go_num, hlt, hnx, by first | rfl | exact drewN_two w n nq⟩
          case measure => simp [intOf]; omega
        · obtain ⟨j, hj⟩ : ∃ j, k = j + 1 := ⟨k - 1, by omega⟩
          have hI : decide (0 < k) = true := by simp; omega
          have hk1 : (k : Int) - 1 = (j : Int) := by omega
          have hjl : (j : Int) < (l.length : Int) := by omega
          have hj0 : (0 : Int) ≤ (j : Int) := by omega
          have hcp := HC.out j (by omega)
          obtain ⟨y, hy⟩ : ∃ y, y = (l[j]'(by omega)).1 := ⟨_, rfl⟩
          rw [← hy] at hcp
          by_cases hord : y < x
          · have hJ := bless_no (lt_as hord)
            have hJ2 := beq_list_false (lt_ne hord).symm
            have hnx : Hid (SortedP (l.take (k + 1))) := Lib.hid (sorted_succ hlt hS.out (by rw [← HX.out]; exact hq) fun j' hj' h => by
              obtain rfl : j' = j := by omega
              rw [← hy, ← HX.out]; exact hord)
            clear hx hq h0 hord hj hy
            go_wp2_with fail
            go_quiet ((go_at_call 125; exact (HL _).mono fun e w' h => ⟨h.1, _, h.2⟩))
            go_wp2_with fail
            go_roundw
            case rel => exact ⟨k + 1, n + nq, by go_num, hlt, hnx, by first | rfl | exact drewN_two w n nq⟩
            case measure => simp [intOf]; omega
          · have HF : Hid (decide (SortedP l) = false) := Lib.hid (by
              subst hj
              exact not_order hlt (by rw [← hy, ← HX.out]; exact hord))
            have hlw := leq_ways hord
            clear hx hq h0 hord hj hy
            rcases hlw with ⟨hJ, hJ2⟩ | ⟨hJ, hJ2⟩
            all_goals (
              go_wp2_with fail
              go_quiet ((go_at_call 125; exact (HL _).mono fun e w' h => ⟨h.1, _, h.2⟩))
              go_wp2_with fail
              go_ret
              exact ⟨ret_bool HF.out.symm, n + nq, by first | rfl | exact drewN_two w n nq⟩)
      · have HF : Hid (decide (SortedP l) = false) := Lib.hid (not_legal hlt (by rw [← hx]; exact hq))
        have hI : (legalL x != 0) = true := by rw [bne_iff_ne]; exact hq
        generalize legalL x = q at *
        clear hx hq
        go_wp2_with fail
        go_quiet ((go_at_call 125; exact (HL _).mono fun e w' h => ⟨h.1, _, h.2⟩))
        go_wp2_with fail
        go_ret
        exact ⟨ret_bool HF.out.symm, n + nq, by first | rfl | exact drewN_two w n nq⟩
    · have hke : k = l.length := by omega
      have HF : Hid (decide (SortedP l) = true) := Lib.hid (by have := hS.out; rw [hke, List.take_length] at this; simpa using this)
      have hI2 : decide (k < l.length) = false := by simp; omega
      clear hke hlt
      go_wp2_with fail
      go_ret
      exact ⟨ret_bool HF.out.symm, n, rfl⟩
end Go.Proofs.YtpmhmippoefcfaaGreatDoor
namespace Go.Proofs.YtpmhmippoefcfaaGreatDoor
open Go.RowKit Go.Shelf
attribute [local go_sem ↓] Go.wp_at_zero Go.wp_at_succ
end Go.Proofs.YtpmhmippoefcfaaGreatDoor
namespace Go.Proofs.YtpmhmippoefcfaaGreatDoor
open Go.RowKit Go.Shelf
attribute [local go_sem ↓] Go.wp_at_zero Go.wp_at_succ
def vint (o : Option Int) : Int := o.getD (-1)
end Go.Proofs.YtpmhmippoefcfaaGreatDoor
namespace Go.Proofs.YtpmhmippoefcfaaGreatDoor
open Go.RowKit Go.Shelf
attribute [local go_sem ↓] Go.wp_at_zero Go.wp_at_succ
theorem drop_len (l : List EntL) (n : Nm) : (dropL l n).length ≤ l.length := List.length_filter_le _ _
end Go.Proofs.YtpmhmippoefcfaaGreatDoor
namespace Go.Proofs.YtpmhmippoefcfaaGreatDoor
open Go.RowKit Go.Shelf
attribute [local go_sem ↓] Go.wp_at_zero Go.wp_at_succ
def searchRen : Go.Shelf.Ren := ⟨fun | 16 => 133 | n => n, fun | 3 => 3 | 4 => 4 | 35 => 205 | 38 => 155 | n => n, fun | n => n⟩
theorem searchLaid : SlLaysO.n16 Tryz.prog searchRen := {
  mixed := by kernel_rfl
  f16 := Tryz.func133.trans (congrArg some (by kernel_rfl))
  t3 := Tryz.underlying3
  a3 := Tryz.isAgg3
  z3 := Tryz.sizeOf3
  v3 := Tryz.zeroValue3
  t4 := Tryz.underlying4
  a4 := Tryz.isAgg4
  z4 := Tryz.sizeOf4
  v4 := Tryz.zeroValue4
  t35 := Tryz.underlying205
  a35 := Tryz.isAgg205
  z35 := Tryz.sizeOf205
  v35 := Tryz.zeroValue205
  t38 := Tryz.underlying155
  a38 := Tryz.isAgg155
  z38 := Tryz.sizeOf155
  v38 := Tryz.zeroValue155 }
/-- What the search asks at a place. -/
def fromP (l : List EntL) (n : Nm) (i : Nat) : Bool := !decide ((l.getD i ([], 0)).1 < n)
theorem fromP_count (l : List EntL) (n : Nm) : (List.range l.length).countP (fun i => !fromP l n i) = (lo l n).length := by
  unfold lo
  rw [← count_at (fun e => decide (e.1 < n)) l ([], 0)]
  congr 1
  funext i
  simp [fromP]
theorem fromP_mono {l : List EntL} (h : Up l) (n : Nm) : ∀ a b, a ≤ b → b < l.length → fromP l n a = true → fromP l n b = true := by
  intro a b hab hb ha
  unfold fromP at ha ⊢
  simp only [Bool.not_eq_true', decide_eq_false_iff_not] at ha ⊢
  exact up_le h hab hb n _ ha
set_option maxRecDepth 100000 in
set_option maxHeartbeats 1000000 in
theorem closure_any (ba bx b off cap : Nat) (l : List EntL) (n : Nm) (i : Nat) (W : World) (hi : i < l.length)
    (ha : W.cell? ⟨ba, 0, none⟩ = some (.slice (some ⟨b, off, none⟩) l.length cap)) (hx : W.cell? ⟨bx, 0, none⟩ = some (.string (bs n))) (hc : W.cell? ⟨b, off + i * 2, none⟩ = some (.string (bs (l[i]).1))) :
    Calls Tryz.prog 134 (#[.int .i64 i] ++ #[.pointer (some ⟨ba, 0, none⟩), .pointer (some ⟨bx, 0, none⟩)]) W fun e w' => e = .returned (.bool (fromP l n i)) ∧ ∃ q, w' = W.drewN q := by
  have hp : fromP l n i = !decide ((l[i]).1 < n) := by
    unfold fromP
    rw [List.getD_eq_getElem?_getD, List.getElem?_eq_getElem hi]
    rfl
  have HP := Lib.hid hp
  have hb := bless (l[i]).1 n
  generalize (l[i]).1 = x at *
  have i0 : (0 : Int) ≤ (i : Int) := by omega
  have i1 : (i : Int) < (l.length : Int) := by omega
  clear hp
  go_enter Tryz.func134, Tryz.ntmps134
  go_wp2_with fail
  go_quiet (fail)
  go_wp2_with fail
  go_ret
  exact ⟨ret_bool HP.out.symm, _, rfl⟩
def PlaceIs (a m : Nat) (e : Ending) (W W' : World) : Prop := e = .returned (.tuple #[.int .i64 a, .int .i64 (a + m : Nat)]) ∧ Below W.heap.size W W'
set_option maxRecDepth 100000 in
set_option maxHeartbeats 2000000 in
theorem place_any (B : Nat) (v : Value) (l : List EntL) (n : Nm) (w : World) (hv : Rd B 2 v l.length (ents l) w) (hB : B ≤ w.heap.size) (hl : l.length ≤ 10000) (hu : Up l) :
    Calls Tryz.prog 121 #[v, .string (bs n)] w fun e w' => PlaceIs (lo l n).length (mid n (findL l n)).length e w w' := by
  obtain ⟨W0, hW0⟩ : ∃ W0, W0 = (w.alloc (.cells #[v] 61)).alloc (.cells #[.string (bs n)] 9) := ⟨_, rfl⟩
  have hsize : W0.heap.size = w.heap.size + 1 + 1 := by rw [hW0]; simp
  have hB0 : Below w.heap.size w W0 := by rw [hW0]; exact ((Below.refl _ w).alloc (Nat.le_refl _) _).alloc (by simp) _
  have ca : W0.cell? ⟨w.heap.size, 0, none⟩ = some v := by rw [hW0]; exact cell_alloc_sl _ (cell_new_sl w _ _)
  have cx : W0.cell? ⟨w.heap.size + 1, 0, none⟩ = some (.string (bs n)) := by rw [hW0]; have := cell_new_sl (w.alloc (.cells #[v] 61)) (.string (bs n)) 9; rwa [World.size_alloc] at this
  have hv0 : Rd w.heap.size 2 v l.length (ents l) W0 := (hv.mono hB).below hB0
  have hS := Any.sort_Search (P := Tryz.prog) (ρ := searchRen) searchLaid 134 #[.pointer (some ⟨w.heap.size, 0, none⟩), .pointer (some ⟨w.heap.size + 1, 0, none⟩)] l.length (fromP l n) W0
    (enters_of Tryz.func134 (by kernel_rfl) rfl) (by omega)
    (fun m os i hi => by
      obtain ⟨b, off, cap', e, _, _, hb, _, hc⟩ := hv0.at (by omega)
      rw [e] at ca
      exact (closure_any w.heap.size (w.heap.size + 1) b off cap' l n i _ hi (cell_grown (by show w.heap.size < _; omega) ca m os) (cell_grown (by show w.heap.size + 1 < _; omega) cx m os)
        (cell_grown (by show b < _; omega) (hc _ _ (ents_at0 l i hi)) m os)).mono fun e w' h => ⟨h.1, by obtain ⟨q, hq⟩ := h.2; exact ⟨q, #[], by rw [hq, Sort.grow_empty]⟩⟩)
    (fromP_mono hu n)
  change Calls Tryz.prog 133 _ _ _ at hS
  rw [fromP_count] at hS
  have hat := at_lo hu n
  have HA : Hid (∀ hk : (lo l n).length < l.length, (∃ i, findL l n = some i ∧ l[(lo l n).length] = (n, i)) ∨ (findL l n = none ∧ l[(lo l n).length].1 ≠ n)) := Lib.hid hat
  have hend := end_le hu n
  have hle := lo_len l n
  generalize (lo l n).length = a at *
  obtain ⟨M, hM⟩ : ∃ M, M = mid n (findL l n) := ⟨_, rfl⟩
  rw [← hM] at hend ⊢
  have HM := Lib.hid hM
  have HV := Lib.hid hv0
  clear hat hv hv0 hu hM
  obtain ⟨ao, cap, rfl, _, _⟩ := HV.out.form
  go_enter Tryz.func121, Tryz.ntmps121
  go_wp2_with (go_at_call 133; rw [← hW0]; refine hS.mono ?_)
  rintro e w1 ⟨rfl, q, os, rfl⟩
  have ca1 := cell_grown (by show w.heap.size < _; omega) ca q os
  have cx1 := cell_grown (by show w.heap.size + 1 < _; omega) cx q os
  have hg := below_grown_sl w.heap.size W0 q os (by omega)
  have hB1 := hB0.trans hg
  have HV1 := Lib.hid (HV.out.below hg)
  clear hS ca cx hg hW0 hB0
  generalize Go.Sort.grow (W0.drewN q) os = W1 at *
  by_cases hlt : a < l.length
  · obtain ⟨b, off, cap', e, _, _, hb, _, hc⟩ := HV1.out.at (by omega)
    injection e with e1 _ e2
    subst e1
    subst e2
    have hc0 := hc _ _ (ents_at0 l a hlt)
    have a0 : (0 : Int) ≤ (a : Int) := by omega
    have a1 : (a : Int) < (l.length : Int) := by omega
    have hI : decide (a < l.length) = true := by simpa using hlt
    rcases HA.out hlt with ⟨i, h1, h2⟩ | ⟨h1, h2⟩
    · have H1 : Hid (M.length = 1) := Lib.hid (by rw [HM.out, h1]; rfl)
      have hJ : ((l[a]).1 == n) = true := by rw [h2]; simp
      clear h1 h2 hc
      go_wp2_with fail
      go_quiet (fail)
      go_wp2_with fail
      go_ret2
      exact ⟨by rw [H1.out]; rfl, below_drewN hB1 _⟩
    · have H1 : Hid (M.length = 0) := Lib.hid (by rw [HM.out, h1]; rfl)
      have hJ := beq_list_false h2
      clear h1 h2 hc
      go_wp2_with fail
      go_quiet (fail)
      go_wp2_with fail
      go_ret2
      exact ⟨by rw [H1.out]; rfl, below_drewN hB1 _⟩
  · have H1 : Hid (M.length = 0) := Lib.hid (by omega)
    have hI : decide (a < l.length) = false := by simpa using hlt
    clear hlt
    go_wp2_with fail
    go_quiet (fail)
    go_wp2_with fail
    go_ret2
    exact ⟨by rw [H1.out]; rfl, below_drewN hB1 _⟩
end Go.Proofs.YtpmhmippoefcfaaGreatDoor
namespace Go.Proofs.YtpmhmippoefcfaaGreatDoor
open Go.RowKit Go.Shelf
open Go.WideShapes (add_plain)
attribute [local go_sem ↓] Go.wp_at_zero Go.wp_at_succ
def growRen : Go.Shelf.Ren := ⟨fun | 4 => 142 | n => n, fun | 0 => 0 | 3 => 3 | 4 => 4 | 9 => 9 | 20 => 20 | 22 => 61 | 25 => 131 | n => n, fun | n => n⟩
theorem growLaid : Lays8.n4 Tryz.prog growRen := {
  mixed := by kernel_rfl
  f4 := ⟨ "slices.Grow[[]flagstone/entry.Entry,flagstone/entry.Entry]", by decide, Tryz.func142.trans (congrArg some (by kernel_rfl))⟩
  t0 := Tryz.underlying0
  a0 := Tryz.isAgg0
  z0 := Tryz.sizeOf0
  v0 := Tryz.zeroValue0
  t3 := Tryz.underlying3
  a3 := Tryz.isAgg3
  z3 := Tryz.sizeOf3
  v3 := Tryz.zeroValue3
  t4 := Tryz.underlying4
  a4 := Tryz.isAgg4
  z4 := Tryz.sizeOf4
  v4 := Tryz.zeroValue4
  t9 := Tryz.underlying9
  a9 := Tryz.isAgg9
  z9 := Tryz.sizeOf9
  v9 := Tryz.zeroValue9
  t20 := Tryz.underlying20
  a20 := Tryz.isAgg20
  z20 := Tryz.sizeOf20
  v20 := Tryz.zeroValue20
  t22 := Tryz.underlying61
  a22 := Tryz.isAgg61
  z22 := Tryz.sizeOf61
  v22 := Tryz.zeroValue61 }
theorem infoEnt : (Tryz.prog.info? 131).map (fun i => (i.zero, i.size, i.bytes)) = some (some (.agg #[.string ⟨#[]⟩, .int .i64 0]), 2, 24) := by kernel_rfl
def GrowIs (e : Ending) (W W' : World) : Prop := ∃ v, e = .returned v ∧ W'.ownsRow W.heap.size 131 2 v 0 [] ∧ Below W.heap.size W W'
/-- A new row with room for n. -/
theorem grow_any (n : Nat) (hn : n ≤ 1000000) (w : World) : Calls Tryz.prog 142 #[.slice none 0 0, .int .i64 n] w fun e w' => GrowIs e w w' := by
  obtain ⟨i0, hi0, hz0, hz1, hz2⟩ := info_parts infoEnt
  rcases Nat.eq_zero_or_pos n with rfl | hp
  · refine (Any8.slices_Grow_room growLaid none 0 0 0 w (Nat.le_refl _) (by decide) (by decide) (by decide)).mono ?_
    rintro e w' ⟨rfl, rfl⟩
    exact ⟨_, rfl, ⟨rfl, .inl ⟨rfl, rfl⟩⟩, Below.refl _ _⟩
  · refine (Any8.slices_Grow_grow growLaid i0 _ hi0 hz0 (by omega) none 0 0 n [] w (Nat.le_refl _) (by omega) (by rw [hz2]; omega) (by omega) (by simp) (fun _ => rfl) (fun a h => by cases h)).mono ?_
    rintro e w' ⟨rfl, rfl⟩
    have h1 := grownCap_ge w (0 + n) 0 131
    have h2 := grownCap_le_maxLen w (0 + n) 0 131 (by unfold maxLen; omega)
    refine ⟨_, rfl, ⟨rfl, .inr ⟨w.heap.size, _, _, rfl, Nat.le_refl _, heap_alloc_new w.drew _, Nat.zero_le _, h2, ?_, by simp⟩⟩, ((Below.refl _ w).drew).alloc (Nat.le_refl _) _⟩
    show (#[] ++ _ ++ _ : Array Value).size = grownCap w (0 + n) 0 131 * 2
    rw [Array.size_append, Array.size_append, size_zeroCells, size_zeroCells]
    show 0 + (0 + n - 0) * 2 + (grownCap w (0 + n) 0 131 - (0 + n)) * 2 = _
    omega
end Go.Proofs.YtpmhmippoefcfaaGreatDoor
namespace Go.Proofs.YtpmhmippoefcfaaGreatDoor
open Go.RowKit Go.Shelf
open Go.WideShapes (add_plain)
attribute [local go_sem ↓] Go.wp_at_zero Go.wp_at_succ
/-- Slices that are to be joined: each value, and what it reads as. -/
abbrev Src := Value × List EntL
def allL (S : List Src) : List EntL := (S.map (·.2)).flatten
theorem allL_succ (S : List Src) (k : Nat) (h : k < S.length) : allL (S.take (k + 1)) = allL (S.take k) ++ S[k].2 := by
  unfold allL
  rw [List.take_succ_eq_append_getElem h, List.map_append, List.flatten_append]
  simp
theorem allL_len (S : List Src) (hs : ∀ x ∈ S, x.2.length ≤ 10001) (h3 : S.length ≤ 3) (k : Nat) : (allL (S.take k)).length ≤ 30003 := by
  have main : ∀ S : List Src, (∀ x ∈ S, x.2.length ≤ 10001) → (allL S).length ≤ S.length * 10001 := by
    intro S
    induction S with
    | nil => intro _; exact Nat.le_refl _
    | cons a S ih =>
      intro h
      have h1 := ih fun x hx => h x (by simp [hx])
      have h2 := h a (by simp)
      have : (allL (a :: S)).length = a.2.length + (allL S).length := by simp [allL]
      rw [this, List.length_cons]
      omega
  have h1 := main (S.take k) fun x hx => hs x (List.mem_of_mem_take hx)
  have h2 : (S.take k).length ≤ 3 := by rw [List.length_take]; omega
  omega
/-- What the joining reads. -/
def SrcOk (B b off : Nat) (S : List Src) (w : World) : Prop := ∀ k (h : k < S.length), w.cell? ⟨b, off + k, none⟩ = some S[k].1 ∧ Rd B 2 S[k].1 S[k].2.length (ents S[k].2) w
end Go.Proofs.YtpmhmippoefcfaaGreatDoor
namespace Go.Proofs.YtpmhmippoefcfaaGreatDoor
open Go.RowKit Go.Shelf
open Go.WideShapes (add_plain)
attribute [local go_sem ↓] Go.wp_at_zero Go.wp_at_succ
/-- Where s[:k] begins, and s[k:], of elements of two cells. -/
def headA (ao : Option Addr) (cap : Nat) : Option Addr := if cap = 0 then ao else ao.map (·.add (0 * 2))
def cutB (ao : Option Addr) (k cap : Nat) : Option Addr := if cap = k then ao else ao.map (·.add (k * 2))
theorem sizeEnt (w : World) : (sizeOf 131).run Tryz.prog w = .ok 2 w := by kernel_rfl
theorem run_head (ao : Option Addr) (n cap k : Nat) (hk : k ≤ cap) (w : World) :
    (Instr.slice 61 (.slice ao n cap) none (some (.int .i64 (k : Int))) none).run Tryz.prog w = .ok (.slice (headA ao cap) k cap) w := by
  have he : Tryz.prog.elem 61 = 131 := by simp [Program.elem, Tryz.underlying61]
  rw [run_slice_h w 61 ao n cap (by rw [he]; exact Tryz.underlying61) .i64 k (by omega) (by omega), he, sizeEnt]
  simp [Result.andThen, sliced, headA]
theorem run_tail (ao : Option Addr) (n cap k : Nat) (hk : k ≤ n) (w : World) :
    (Instr.slice 61 (.slice ao n cap) (some (.int .i64 (k : Int))) none none).run Tryz.prog w = .ok (.slice (cutB ao k cap) (n - k) (cap - k)) w := by
  have he : Tryz.prog.elem 61 = 131 := by simp [Program.elem, Tryz.underlying61]
  rw [run_slice_l w 61 ao n cap (by rw [he]; exact Tryz.underlying61) .i64 k (by omega) (by omega), he, sizeEnt]
  simp [Result.andThen, sliced, cutB]
theorem ents_take (l : List EntL) (k : Nat) : ents (l.take k) = (ents l).take (k * 2) := by
  induction l generalizing k with
  | nil => simp [ents]
  | cons e l ih =>
    cases k with
    | zero => simp [ents]
    | succ k =>
      have := ih k
      rw [show (k + 1) * 2 = k * 2 + 1 + 1 by omega]
      simpa [ents] using this
theorem ents_drop (l : List EntL) (k : Nat) : ents (l.drop k) = (ents l).drop (k * 2) := by
  induction l generalizing k with
  | nil => simp [ents]
  | cons e l ih =>
    cases k with
    | zero => simp
    | succ k =>
      have := ih k
      rw [show (k + 1) * 2 = k * 2 + 1 + 1 by omega]
      simpa [ents] using this
theorem Rd.head2 {B : Nat} {ao : Option Addr} {cap : Nat} {l : List EntL} {W : World} (h : Rd B 2 (.slice ao l.length cap) l.length (ents l) W) (k : Nat) (hk : k ≤ l.length) : Rd B 2 (.slice (headA ao cap) k cap) k (ents (l.take k)) W := by
  obtain ⟨ao', cap', e, hc, hm, hz, hl, h⟩ := h
  injection e with e1 _ e2
  subst e1
  subst e2
  refine ⟨_, _, rfl, by omega, hm, fun e => ?_, by rw [ents_len, List.length_take]; omega, fun hn => ?_⟩
  · unfold headA at e
    split at e
    · assumption
    · cases ao with
      | none => exact hz rfl
      | some a => cases e
  · obtain ⟨b, off, rfl, hb, h⟩ := h (by omega)
    refine ⟨b, off, ?_, hb, fun j u hu => ?_⟩
    · unfold headA
      split
      · rfl
      · simp [add_plain]
    · rw [ents_take] at hu
      have := (List.getElem?_eq_some_iff.1 hu).1
      rw [List.length_take] at this
      rw [List.getElem?_take_of_lt (by omega)] at hu
      exact h j u hu
theorem Rd.tail2 {B : Nat} {ao : Option Addr} {cap : Nat} {l : List EntL} {W : World} (h : Rd B 2 (.slice ao l.length cap) l.length (ents l) W) (k : Nat) (hk : k ≤ l.length) : Rd B 2 (.slice (cutB ao k cap) (l.length - k) (cap - k)) (l.length - k) (ents (l.drop k)) W := by
  obtain ⟨ao', cap', e, hc, hm, hz, hl, h⟩ := h
  injection e with e1 _ e2
  subst e1
  subst e2
  refine ⟨_, _, rfl, by omega, by omega, fun e => ?_, by rw [ents_len, List.length_drop], fun hn => ?_⟩
  · unfold cutB at e
    split at e
    · omega
    · cases ao with
      | none => have := hz rfl; omega
      | some a => cases e
  · obtain ⟨b, off, rfl, hb, h⟩ := h (by omega)
    refine ⟨b, off + k * 2, ?_, hb, fun j u hu => ?_⟩
    · unfold cutB
      rw [if_neg (by omega)]
      simp [add_plain]
    · rw [ents_drop, List.getElem?_drop] at hu
      rw [Nat.add_assoc]
      exact h _ u hu
/-- A new slice of entries. -/
theorem Rd_newE (W : World) (l : List EntL) (t : TypeId) (vs : Array Value) (hv : vs = (ents l).toArray) (hl : l.length ≤ 65000) : Rd (W.alloc (.cells vs t)).heap.size 2 (.slice (some ⟨W.heap.size, 0, none⟩) l.length l.length) l.length (ents l) (W.alloc (.cells vs t)) := by
  subst hv
  refine ⟨_, _, rfl, Nat.le_refl _, by unfold maxLen; omega, fun e => (by cases e), ents_len l, fun _ => ⟨W.heap.size, 0, rfl, by simp, fun j u hu => ?_⟩⟩
  rw [Lib.cell_of_heap (heap_alloc_new W _), Nat.zero_add]
  simpa using hu
def FindIs (o : Option Int) (e : Ending) (W W' : World) : Prop := e = .returned (.tuple #[.int .i64 (vint o), .bool o.isSome]) ∧ Below W.heap.size W W'
set_option maxRecDepth 100000 in
set_option maxHeartbeats 2000000 in
theorem find_any (B : Nat) (v : Value) (l : List EntL) (n : Nm) (w : World) (hv : Rd B 2 v l.length (ents l) w) (hB : B ≤ w.heap.size) (hl : l.length ≤ 10000) (hu : Up l) :
    Calls Tryz.prog 147 #[v, .string (bs n)] w fun e w' => FindIs (findL l n) e w w' := by
  obtain ⟨ao, cap, rfl, _, _⟩ := hv.form
  have HP := fun w (hw : Rd w.heap.size 2 (.slice ao l.length cap) l.length (ents l) w) => place_any w.heap.size _ l n w hw (Nat.le_refl _) hl hu
  have hend := end_le hu n
  have hat := at_lo hu n
  cases hf : findL l n with
  | none =>
    rw [hf] at HP
    have HV := Lib.hid (hv.mono hB)
    clear hv hat hend hf
    generalize (lo l n).length = a at *
    go_enter Tryz.func147, Tryz.ntmps147
    go_wp2_with fail
    refine (HP _ HV.out).mono ?_
    rintro e w1 ⟨rfl, hb1⟩
    rw [show a + (mid n none).length = a from rfl]
    go_wp2_with fail
    go_ret2
    exact ⟨rfl, hb1⟩
  | some i =>
    rw [hf] at HP hend
    have hlt : (lo l n).length < l.length := by
      have : (mid n (some i)).length = 1 := rfl
      omega
    have hit : l[(lo l n).length] = (n, i) := by
      rcases hat hlt with ⟨j, h1, h2⟩ | ⟨h1, _⟩
      · rw [hf] at h1
        injection h1 with h1
        rw [h2, h1]
      · rw [hf] at h1; cases h1
    have HV := Lib.hid (hv.mono hB)
    clear hv hat hend hf
    generalize (lo l n).length = a at *
    go_enter Tryz.func147, Tryz.ntmps147
    go_wp2_with fail
    refine (HP _ HV.out).mono ?_
    rintro e w1 ⟨rfl, hb1⟩
    rw [show a + (mid n (some i)).length = a + 1 from rfl]
    obtain ⟨b, off, cap', e, _, _, hb, _, hc⟩ := (HV.out.below hb1).at (by omega)
    injection e with e1 _ e2
    subst e1
    subst e2
    have hc1 : w1.cell? ⟨b, off + a * 2 + 1, none⟩ = some (.int .i64 i) := by
      have := hc (a * 2 + 1) _ (ents_at1 l a hlt)
      rwa [hit] at this
    have hne : ((a : Int) == (a : Int) + 1) = false := by rw [beq_eq_false_iff_ne]; omega
    clear hc HP hit
    go_wp2_with fail
    go_ret2
    exact ⟨rfl, hb1⟩
end Go.Proofs.YtpmhmippoefcfaaGreatDoor
namespace Go.Proofs.YtpmhmippoefcfaaGreatDoor
structure NodeL where
  kind : Int
  mode : Int
  owner : Int
  links : Int
  opn : Int
  up : Int
  data : Nm
  names : List EntL
def zeroN : NodeL := ⟨0, 0, 0, 0, 0, 0, [], []⟩
theorem node_ext {a b : NodeL} (h0 : a.kind = b.kind) (h1 : a.mode = b.mode) (h2 : a.owner = b.owner) (h3 : a.links = b.links) (h4 : a.opn = b.opn) (h5 : a.up = b.up) (h6 : a.data = b.data) (h7 : a.names = b.names) : a = b := by
  cases a; cases b; simp_all
instance : DecidableEq NodeL := fun a b =>
  decidable_of_iff (a.kind = b.kind ∧ a.mode = b.mode ∧ a.owner = b.owner ∧ a.links = b.links ∧ a.opn = b.opn ∧ a.up = b.up ∧ a.data = b.data ∧ a.names = b.names)
    ⟨fun ⟨h0, h1, h2, h3, h4, h5, h6, h7⟩ => node_ext h0 h1 h2 h3 h4 h5 h6 h7, fun h => by subst h; simp⟩
def weightL (n : NodeL) : Nat := if n.kind = 1 ∨ n.kind = 3 then n.data.length else 0
def bytesL (l : List NodeL) : Nat := (l.map weightL).sum
def usedL (l : List NodeL) : Nat := l.countP fun n => !decide (n.kind = 0)
theorem bytes_succ (l : List NodeL) (k : Nat) (h : k < l.length) : bytesL (l.take (k + 1)) = bytesL (l.take k) + weightL l[k] := by
  unfold bytesL
  rw [List.take_succ_eq_append_getElem h, List.map_append, List.sum_append]
  simp
theorem used_succ (l : List NodeL) (k : Nat) (h : k < l.length) : usedL (l.take (k + 1)) = usedL (l.take k) + if l[k].kind = 0 then 0 else 1 := by
  unfold usedL
  rw [List.take_succ_eq_append_getElem h, List.countP_append]
  by_cases hk : l[k].kind = 0 <;> simp [hk]
theorem used_le (l : List NodeL) : usedL l ≤ l.length := List.countP_le_length
/-- What is not too much to look at. -/
def SmallN (n : NodeL) : Prop := n.data.length ≤ 300 ∧ n.names.length ≤ 130
def Small (l : List NodeL) : Prop := l.length ≤ 110 ∧ ∀ n ∈ l, SmallN n
theorem weight_le {n : NodeL} (h : SmallN n) : weightL n ≤ 300 := by
  unfold weightL
  split
  · exact h.1
  · omega
theorem bytes_le (l : List NodeL) (h : ∀ n ∈ l, SmallN n) : bytesL l ≤ l.length * 300 := by
  induction l with
  | nil => simp [bytesL]
  | cons a l ih =>
    have h1 := ih fun n hn => h n (by simp [hn])
    have h2 := weight_le (h a (by simp))
    have : bytesL (a :: l) = weightL a + bytesL l := by simp [bytesL]
    rw [this, List.length_cons]
    omega
theorem bytes_take_le {l : List NodeL} (h : Small l) (k : Nat) : bytesL (l.take k) ≤ 33000 := by
  have h1 := bytes_le (l.take k) fun n hn => h.2 n (List.mem_of_mem_take hn)
  have h2 : (l.take k).length ≤ 110 := by have := h.1; rw [List.length_take]; omega
  omega
/-- Counting what names node i: how many names, and the node that has the last of them. -/
def stepN (i at' : Int) (s : Nat × Int) (e : EntL) : Nat × Int := if e.2 = i then (s.1 + 1, at') else s
def foldN (i at' : Int) (s : Nat × Int) (es : List EntL) : Nat × Int := es.foldl (stepN i at') s
def nmTo (l : List NodeL) (i : Int) (s0 : Nat × Int) : Nat → Nat × Int
  | 0 => s0
  | k + 1 => foldN i k (nmTo l i s0 k) (l.getD k zeroN).names
def nmL (l : List NodeL) (i : Int) (s0 : Nat × Int) : Nat × Int := nmTo l i s0 l.length
theorem foldN_succ (i at' : Int) (s : Nat × Int) (es : List EntL) (j : Nat) (h : j < es.length) : foldN i at' s (es.take (j + 1)) = stepN i at' (foldN i at' s (es.take j)) es[j] := by
  unfold foldN
  rw [List.take_succ_eq_append_getElem h, List.foldl_append]
  rfl
/-- The node that has the last name of i. -/
def Holds (l : List NodeL) (i : Int) (s : Nat × Int) : Prop := 0 < s.1 → ∃ k : Nat, s.2 = k ∧ ∃ h : k < l.length, ∃ e ∈ l[k].names, e.2 = i
theorem fold_holds (l : List NodeL) (i : Int) (k : Nat) (hk : k < l.length) (es : List EntL) : (∀ e ∈ es, e ∈ l[k].names) → ∀ s, Holds l i s → Holds l i (foldN i k s es) := by
  induction es with
  | nil => intro _ s h; exact h
  | cons e es ih =>
    intro hes s h
    refine ih (fun e he => hes e (by simp [he])) _ ?_
    unfold stepN
    split
    · rename_i he
      exact fun _ => ⟨k, rfl, hk, e, hes e (by simp), he⟩
    · exact h
theorem nm_holds (l : List NodeL) (i x : Int) : Holds l i (nmL l i (0, x)) := by
  unfold nmL
  have : ∀ k, k ≤ l.length → Holds l i (nmTo l i (0, x) k) := by
    intro k
    induction k with
    | zero => exact fun _ h => absurd h (Nat.lt_irrefl 0)
    | succ k ih =>
      intro hk
      refine fold_holds l i k (by omega) _ (fun e he => ?_) _ (ih (by omega))
      rw [List.getD_eq_getElem?_getD, List.getElem?_eq_getElem (by omega)] at he
      exact he
  exact this _ (Nat.le_refl _)
theorem fold_le (i at' : Int) (es : List EntL) (s : Nat × Int) : (foldN i at' s es).1 ≤ s.1 + es.length := by
  induction es generalizing s with
  | nil => exact Nat.le_refl _
  | cons e es ih =>
    have h1 := ih (stepN i at' s e)
    have h2 : (stepN i at' s e).1 ≤ s.1 + 1 := by unfold stepN; split <;> simp
    show (foldN i at' (stepN i at' s e) es).1 ≤ _
    rw [List.length_cons]
    omega
theorem nm_le {l : List NodeL} (hs : Small l) (i : Int) (s : Nat × Int) (k : Nat) : (nmTo l i s k).1 ≤ s.1 + k * 130 := by
  induction k with
  | zero => simp [nmTo]
  | succ k ih =>
    have h1 := fold_le i k (l.getD k zeroN).names (nmTo l i s k)
    have h2 : (l.getD k zeroN).names.length ≤ 130 := by
      rw [List.getD_eq_getElem?_getD]
      cases hg : l[k]? with
      | none => exact Nat.zero_le _
      | some n => exact (hs.2 n (List.mem_of_getElem? hg)).2
    show (foldN i k (nmTo l i s k) (l.getD k zeroN).names).1 ≤ _
    omega
def inL (l : List NodeL) (j : Int) : Bool := decide (0 ≤ j) && decide (j < l.length)
def atI (l : List NodeL) (j : Int) : NodeL := l.getD j.toNat zeroN
/-- Is there a node j that is not free? -/
def gotB (l : List NodeL) (j : Int) : Bool := inL l j && !decide ((atI l j).kind = 0)
def plainB (n : NodeL) : Bool := decide (1 ≤ n.kind) && decide (n.kind ≤ 3) && decide (0 ≤ n.mode) && decide (n.mode ≤ 63) && decide (0 ≤ n.opn)
def namB (l : List NodeL) (e : EntL) : Bool := gotB l e.2 && !decide (e.2 = 0)
def namableB (l : List NodeL) (es : List EntL) : Bool := es.all (namB l)
def rootR (l : List NodeL) : Nat → Int → Bool
  | 0, _ => false
  | f + 1, j => if j = 0 then true else if gotB l j && decide ((atI l j).kind = 2) then rootR l f (atI l j).up else false
/-- The document's. -/
def lastR (l : List NodeL) (i : Int) (n : NodeL) (s : Nat × Int) : Bool :=
  if i = 0 then decide (n.kind = 2) && decide (n.up = 0) && decide (n.links = 1)
  else if n.links ≠ s.1 ∨ (s.1 = 0 ∧ n.opn < 1) then false
  else if n.kind ≠ 2 then true
  else if s.1 = 0 then decide (n.names.length = 0) && decide (n.up = 0)
  else decide (s.1 = 1) && decide (n.up = s.2) && rootR l (l.length + 1) i
def okR (l : List NodeL) (i : Nat) (n : NodeL) : Bool :=
  if n.kind = 0 then decide (n = zeroN)
  else plainB n && (decide (n.kind = 2) || decide (n.names.length = 0)) && (!decide (n.kind = 2) || decide (n.data = [])) && decide (SortedP n.names) && namableB l n.names && lastR l i n (nmL l i (0, -1))
def rightR (l : List NodeL) (most room : Int) : Bool :=
  !decide (l.length = 0) && !decide (most < l.length) && !decide (room < bytesL l) && decide ((atI l 0).kind = 2) && (List.range l.length).all fun i => okR l i (atI l i)
theorem at_nat (l : List NodeL) (i : Nat) (h : i < l.length) : atI l i = l[i] := by
  unfold atI
  rw [Int.toNat_natCast, List.getD_eq_getElem?_getD, List.getElem?_eq_getElem h]
  rfl
theorem in_nat {l : List NodeL} {j : Int} (h : inL l j = true) : ∃ k : Nat, j = k ∧ k < l.length := by
  unfold inL at h
  rw [Bool.and_eq_true, decide_eq_true_iff, decide_eq_true_iff] at h
  exact ⟨j.toNat, by omega, by omega⟩
theorem nat_in {l : List NodeL} {k : Nat} (h : k < l.length) : inL l (k : Int) = true := by
  unfold inL
  rw [Bool.and_eq_true, decide_eq_true_iff, decide_eq_true_iff]
  omega
theorem range_all (p : Nat → Bool) (n : Nat) : (List.range n).all p = true ↔ ∀ i, i < n → p i = true := by simp
/-- A list of different numbers below n is no longer than n. -/
theorem pigeon : ∀ (n : Nat) (L : List Nat), L.Nodup → (∀ x ∈ L, x < n) → L.length ≤ n := by
  intro n
  induction n with
  | zero =>
    intro L _ h
    cases L with
    | nil => exact Nat.le_refl _
    | cons a L => exact absurd (h a (by simp)) (Nat.not_lt_zero _)
  | succ n ih =>
    intro L hd h
    have h1 := ih (L.erase n) (hd.erase n) fun x hx => by
      have h2 := (hd.mem_erase_iff).1 hx
      have h3 := h x h2.2
      have := h2.1
      omega
    rw [List.length_erase] at h1
    split at h1 <;> omega
end Go.Proofs.YtpmhmippoefcfaaGreatDoor
namespace Go.Proofs.YtpmhmippoefcfaaGreatDoor
structure SpotL where
  dir : Int
  name : Str
  ino : Int
  slash : Bool
def zeroS : SpotL := ⟨0, [], 0, false⟩
theorem spot_ext {a b : SpotL} (h0 : a.dir = b.dir) (h1 : a.name = b.name) (h2 : a.ino = b.ino) (h3 : a.slash = b.slash) : a = b := by
  cases a; cases b; simp_all
instance : DecidableEq SpotL := fun a b =>
  decidable_of_iff (a.dir = b.dir ∧ a.name = b.name ∧ a.ino = b.ino ∧ a.slash = b.slash) ⟨fun ⟨h0, h1, h2, h3⟩ => spot_ext h0 h1 h2 h3, fun h => by subst h; simp⟩
abbrev ResL := SpotL × Int
def nodeL (l : List NodeL) (i : Int) : NodeL := if gotB l i = true then atI l i else zeroN
/-- What is wrong with a directory. -/
def dirE (l : List NodeL) (i : Int) : Int := if gotB l i = true then if (nodeL l i).kind = 2 then 0 else 4 else 2
/-- What a part names at a node. -/
def lookL (l : List NodeL) (i : Int) (p : Str) : Int := if p = [46] then i else if p = [46, 46] then (nodeL l i).up else (findL (nodeL l i).names p).getD (-1)
def firstAt (i : Int) (p : Str) : Int := if Lib.hasPrefix p [47] = true then 0 else i
def mayAt (l : List NodeL) (who i : Int) : Bool := mayB (nodeL l i).mode (nodeL l i).owner who 1
def goW (l : List NodeL) (who : Int) (follow slash : Bool) (i : Int) (ps : List Str) (hops : Nat) : ResL :=
  match ps with
  | [] => (⟨0, [], 0, slash⟩, 0)
  | p :: rest =>
    if dirE l i ≠ 0 then (zeroS, dirE l i)
    else if mayAt l who i = false then (zeroS, 7)
    else if lookL l i p < 0 then if rest = [] then (⟨i, p, -1, slash⟩, 0) else (zeroS, 2)
    else if (nodeL l (lookL l i p)).kind = 3 ∧ (rest ≠ [] ∨ follow = true ∨ slash = true) then
      if 8 ≤ hops then (zeroS, 8)
      else if checkE (nodeL l (lookL l i p)).data ≠ 0 then (zeroS, checkE (nodeL l (lookL l i p)).data)
      else goW l who follow slash (firstAt i (nodeL l (lookL l i p)).data) (parts (nodeL l (lookL l i p)).data ++ rest) (hops + 1)
    else if rest = [] then if slash = true ∧ (nodeL l (lookL l i p)).kind ≠ 2 then (zeroS, 4) else (⟨i, p, lookL l i p, slash⟩, 0)
    else goW l who follow slash (lookL l i p) rest hops
termination_by (9 - hops, ps.length)
def walkL (l : List NodeL) (who fr : Int) (path : Str) (follow : Bool) : ResL :=
  if checkE path ≠ 0 then (zeroS, checkE path)
  else if parts path = [] then if dirE l (firstAt fr path) ≠ 0 then (zeroS, dirE l (firstAt fr path)) else (⟨firstAt fr path, [], firstAt fr path, true⟩, 0)
  else goW l who follow (Lib.hasSuffix path [47]) (firstAt fr path) (parts path) 0
def wnodeL (r : ResL) : Int × Int := if r.2 ≠ 0 then (0, r.2) else if r.1.ino < 0 then (0, 2) else (r.1.ino, 0)
section
variable {l : List NodeL} {who : Int} {follow slash : Bool} {i : Int} {p : Str} {rest : List Str} {hops : Nat}
theorem go_nil : goW l who follow slash i [] hops = (⟨0, [], 0, slash⟩, 0) := by rw [goW]
theorem go_dir (h : dirE l i ≠ 0) : goW l who follow slash i (p :: rest) hops = (zeroS, dirE l i) := by rw [goW, if_pos h]
theorem go_may (h : dirE l i = 0) (h2 : mayAt l who i = false) : goW l who follow slash i (p :: rest) hops = (zeroS, 7) := by rw [goW, if_neg (by simp [h]), if_pos h2]
theorem go_none1 (h : dirE l i = 0) (h2 : mayAt l who i = true) (h3 : lookL l i p < 0) (h4 : rest = []) : goW l who follow slash i (p :: rest) hops = (⟨i, p, -1, slash⟩, 0) := by
  rw [goW, if_neg (by simp [h]), if_neg (by simp [h2]), if_pos h3, if_pos h4]
theorem go_none2 (h : dirE l i = 0) (h2 : mayAt l who i = true) (h3 : lookL l i p < 0) (h4 : rest ≠ []) : goW l who follow slash i (p :: rest) hops = (zeroS, 2) := by
  rw [goW, if_neg (by simp [h]), if_neg (by simp [h2]), if_pos h3, if_neg h4]
theorem go_loop (h : dirE l i = 0) (h2 : mayAt l who i = true) (h3 : ¬ lookL l i p < 0) (h4 : (nodeL l (lookL l i p)).kind = 3) (h5 : rest ≠ [] ∨ follow = true ∨ slash = true) (h6 : 8 ≤ hops) :
    goW l who follow slash i (p :: rest) hops = (zeroS, 8) := by
  rw [goW, if_neg (by simp [h]), if_neg (by simp [h2]), if_neg h3, if_pos ⟨h4, h5⟩, if_pos h6]
theorem go_bad (h : dirE l i = 0) (h2 : mayAt l who i = true) (h3 : ¬ lookL l i p < 0) (h4 : (nodeL l (lookL l i p)).kind = 3) (h5 : rest ≠ [] ∨ follow = true ∨ slash = true) (h6 : ¬ 8 ≤ hops) (h7 : checkE (nodeL l (lookL l i p)).data ≠ 0) :
    goW l who follow slash i (p :: rest) hops = (zeroS, checkE (nodeL l (lookL l i p)).data) := by
  rw [goW, if_neg (by simp [h]), if_neg (by simp [h2]), if_neg h3, if_pos ⟨h4, h5⟩, if_neg h6, if_pos h7]
theorem go_link (h : dirE l i = 0) (h2 : mayAt l who i = true) (h3 : ¬ lookL l i p < 0) (h4 : (nodeL l (lookL l i p)).kind = 3) (h5 : rest ≠ [] ∨ follow = true ∨ slash = true) (h6 : ¬ 8 ≤ hops) (h7 : checkE (nodeL l (lookL l i p)).data = 0) :
    goW l who follow slash i (p :: rest) hops = goW l who follow slash (firstAt i (nodeL l (lookL l i p)).data) (parts (nodeL l (lookL l i p)).data ++ rest) (hops + 1) := by
  rw [goW, if_neg (by simp [h]), if_neg (by simp [h2]), if_neg h3, if_pos ⟨h4, h5⟩, if_neg h6, if_neg (by simp [h7])]
theorem go_file (h : dirE l i = 0) (h2 : mayAt l who i = true) (h3 : ¬ lookL l i p < 0) (h4 : ¬ ((nodeL l (lookL l i p)).kind = 3 ∧ (rest ≠ [] ∨ follow = true ∨ slash = true))) (h5 : rest = []) (h6 : slash = true ∧ (nodeL l (lookL l i p)).kind ≠ 2) :
    goW l who follow slash i (p :: rest) hops = (zeroS, 4) := by
  rw [goW, if_neg (by simp [h]), if_neg (by simp [h2]), if_neg h3, if_neg h4, if_pos h5, if_pos h6]
theorem go_spot (h : dirE l i = 0) (h2 : mayAt l who i = true) (h3 : ¬ lookL l i p < 0) (h4 : ¬ ((nodeL l (lookL l i p)).kind = 3 ∧ (rest ≠ [] ∨ follow = true ∨ slash = true))) (h5 : rest = []) (h6 : ¬ (slash = true ∧ (nodeL l (lookL l i p)).kind ≠ 2)) :
    goW l who follow slash i (p :: rest) hops = (⟨i, p, lookL l i p, slash⟩, 0) := by
  rw [goW, if_neg (by simp [h]), if_neg (by simp [h2]), if_neg h3, if_neg h4, if_pos h5, if_neg h6]
theorem go_on (h : dirE l i = 0) (h2 : mayAt l who i = true) (h3 : ¬ lookL l i p < 0) (h4 : (nodeL l (lookL l i p)).kind ≠ 3) (h5 : rest ≠ []) :
    goW l who follow slash i (p :: rest) hops = goW l who follow slash (lookL l i p) rest hops := by
  rw [goW, if_neg (by simp [h]), if_neg (by simp [h2]), if_neg h3, if_neg (fun h => h4 h.1), if_neg h5]
end
def RightP (l : List NodeL) : Prop := ∃ most room, rightR l most room = true
theorem right_ok {l : List NodeL} (h : RightP l) {i : Int} (hi : gotB l i = true) : ∃ k : Nat, i = k ∧ ∃ hk : k < l.length, nodeL l i = l[k] ∧ l[k].kind ≠ 0 ∧ okR l k l[k] = true := by
  obtain ⟨most, room, h⟩ := h
  have hg := hi
  unfold gotB at hi
  rw [Bool.and_eq_true] at hi
  obtain ⟨k, rfl, hk⟩ := in_nat hi.1
  have hat := at_nat l k hk
  refine ⟨k, rfl, hk, ?_, ?_, ?_⟩
  · unfold nodeL; rw [if_pos hg, hat]
  · have := hi.2; rw [hat] at this; simpa using this
  · unfold rightR at h
    rw [Bool.and_eq_true] at h
    have := (range_all _ _).1 h.2 k hk
    rw [hat] at this
    exact this
theorem right_len {l : List NodeL} (h : RightP l) : 0 < l.length ∧ (atI l 0).kind = 2 := by
  obtain ⟨most, room, h⟩ := h
  unfold rightR at h
  simp only [Bool.and_eq_true, decide_eq_true_iff, Bool.not_eq_true', decide_eq_false_iff_not] at h
  exact ⟨by omega, h.1.2⟩
theorem right_root {l : List NodeL} (h : RightP l) : dirE l 0 = 0 ∧ gotB l 0 = true := by
  obtain ⟨h1, h2⟩ := right_len h
  have hg : gotB l 0 = true := by
    have h3 : inL l 0 = true := nat_in (l := l) (k := 0) h1
    unfold gotB
    rw [h3, h2]
    rfl
  refine ⟨?_, hg⟩
  unfold dirE nodeL
  rw [if_pos hg, if_pos hg, if_pos h2]
theorem dir_got {l : List NodeL} {i : Int} (h : dirE l i = 0) : gotB l i = true ∧ (nodeL l i).kind = 2 := by
  unfold dirE at h
  split at h
  · rename_i hg
    split at h
    · exact ⟨hg, ‹_›⟩
    · cases h
  · cases h
theorem got_dir {l : List NodeL} {i : Int} (h : gotB l i = true) (h2 : (nodeL l i).kind = 2) : dirE l i = 0 := by
  unfold dirE; rw [if_pos h, if_pos h2]
theorem got_le {l : List NodeL} {i : Int} (h : gotB l i = true) : 0 ≤ i ∧ i < l.length := by
  unfold gotB inL at h
  simp only [Bool.and_eq_true, decide_eq_true_iff] at h
  exact h.1
theorem okR_parts {l : List NodeL} {k : Nat} {n : NodeL} (h0 : n.kind ≠ 0) (h : okR l k n = true) : 1 ≤ n.kind ∧ n.kind ≤ 3 ∧ SortedP n.names ∧ namableB l n.names = true ∧ (n.kind ≠ 2 → n.names = []) ∧ lastR l k n (nmL l k (0, -1)) = true := by
  unfold okR at h
  rw [if_neg h0] at h
  simp only [Bool.and_eq_true, decide_eq_true_iff, Bool.or_eq_true] at h
  obtain ⟨⟨⟨⟨⟨h1, h2⟩, h3⟩, h4⟩, h5⟩, h6⟩ := h
  unfold plainB at h1
  simp only [Bool.and_eq_true, decide_eq_true_iff] at h1
  refine ⟨h1.1.1.1.1, h1.1.1.1.2, h4, h5, fun hk => ?_, h6⟩
  rcases h2 with h2 | h2
  · exact absurd h2 hk
  · exact List.eq_nil_of_length_eq_zero h2
theorem rootR_up {l : List NodeL} {f : Nat} {j : Int} (h : rootR l (f + 1) j = true) : j = 0 ∨ (gotB l j = true ∧ (atI l j).kind = 2 ∧ rootR l f (atI l j).up = true) := by
  unfold rootR at h
  split at h
  · exact .inl ‹_›
  · split at h
    · rename_i h1
      simp only [Bool.and_eq_true, decide_eq_true_iff] at h1
      exact .inr ⟨h1.1, h1.2, h⟩
    · cases h
/-- The way up from a directory comes to a directory. -/
theorem right_up {l : List NodeL} (h : RightP l) {i : Int} (hi : dirE l i = 0) : dirE l (nodeL l i).up = 0 := by
  obtain ⟨hg, hk⟩ := dir_got hi
  obtain ⟨k, rfl, hlt, hn, h0, hok⟩ := right_ok h hg
  obtain ⟨_, _, _, _, _, hl⟩ := okR_parts h0 hok
  rw [hn] at hk ⊢
  have h00 := (right_root h).1
  unfold lastR at hl
  split at hl
  · simp only [Bool.and_eq_true, decide_eq_true_iff] at hl
    rw [hl.1.2]; exact h00
  · split at hl
    · cases hl
    · rw [if_neg (by simpa using hk)] at hl
      split at hl
      · simp only [Bool.and_eq_true, decide_eq_true_iff] at hl
        rw [hl.2]; exact h00
      · simp only [Bool.and_eq_true, decide_eq_true_iff] at hl
        rcases rootR_up hl.2 with h1 | ⟨_, _, h2⟩
        · rename_i hne _ _
          exact absurd h1 hne
        · rw [at_nat l k hlt] at h2
          obtain ⟨f, hf⟩ : ∃ f, l.length = f + 1 := ⟨l.length - 1, by omega⟩
          rw [hf] at h2
          rcases rootR_up h2 with h3 | ⟨h3, h4, _⟩
          · rw [h3]; exact h00
          · exact got_dir h3 (by unfold nodeL; rw [if_pos h3]; exact h4)
theorem findL_mem {l : List EntL} {n : Nm} {i : Int} (h : findL l n = some i) : (n, i) ∈ l := by
  unfold findL at h
  obtain ⟨e, he, rfl⟩ := Option.map_eq_some_iff.1 h
  have h1 := List.mem_of_find?_eq_some he
  have h2 := List.find?_some he
  have h3 : e.1 = n := by simpa using h2
  rw [← h3]
  exact h1
/-- What a part names, on a disk that is right: a node, or none. -/
theorem right_look {l : List NodeL} (h : RightP l) {i : Int} (hi : dirE l i = 0) (p : Str) : lookL l i p = -1 ∨ gotB l (lookL l i p) = true := by
  obtain ⟨hg, hk⟩ := dir_got hi
  unfold lookL
  split
  · exact .inr hg
  · split
    · exact .inr (dir_got (right_up h hi)).1
    · cases hf : findL (nodeL l i).names p with
      | none => exact .inl rfl
      | some j =>
        obtain ⟨k, rfl, hlt, hn, h0, hok⟩ := right_ok h hg
        obtain ⟨_, _, _, h4, _, _⟩ := okR_parts h0 hok
        rw [hn] at hf
        unfold namableB at h4
        have h5 := List.all_eq_true.1 h4 _ (findL_mem hf)
        unfold namB at h5
        simp only [Bool.and_eq_true] at h5
        exact .inr h5.1
theorem look_neg {l : List NodeL} (h : RightP l) {i : Int} (hi : dirE l i = 0) (p : Str) : lookL l i p < 0 ↔ lookL l i p = -1 := by
  rcases right_look h hi p with h1 | h1
  · rw [h1]; decide
  · have := got_le h1; omega
theorem look_got {l : List NodeL} (h : RightP l) {i : Int} (hi : dirE l i = 0) (p : Str) : gotB l (lookL l i p) = true ↔ ¬ lookL l i p < 0 := by
  rcases right_look h hi p with h1 | h1
  · rw [h1]
    exact ⟨fun h => by have := got_le h; omega, fun h => by omega⟩
  · have := got_le h1
    exact ⟨fun _ => by omega, fun _ => h1⟩
theorem right_kind {l : List NodeL} (h : RightP l) {i : Int} (hi : gotB l i = true) : (nodeL l i).kind = 1 ∨ (nodeL l i).kind = 2 ∨ (nodeL l i).kind = 3 := by
  obtain ⟨k, rfl, hlt, hn, h0, hok⟩ := right_ok h hi
  obtain ⟨h1, h2, _⟩ := okR_parts h0 hok
  rw [hn]; omega
theorem right_sorted {l : List NodeL} (h : RightP l) (i : Int) : SortedP (nodeL l i).names := by
  cases hg : gotB l i with
  | false => unfold nodeL; rw [hg]; exact sorted_nil
  | true =>
    obtain ⟨k, rfl, hlt, hn, h0, hok⟩ := right_ok h hg
    rw [hn]; exact (okR_parts h0 hok).2.2.1
/-- A file on the way: what comes of it where the next part is looked up. -/
theorem go_stuck {l : List NodeL} {who : Int} {follow slash : Bool} {i : Int} {p q : Str} {rest : List Str} {hops : Nat} (h : dirE l i = 0) (h2 : mayAt l who i = true) (h3 : gotB l (lookL l i p) = true) (h3' : ¬ lookL l i p < 0) (h4 : (nodeL l (lookL l i p)).kind = 1) :
    goW l who follow slash i (p :: q :: rest) hops = (zeroS, 4) := by
  rw [go_on h h2 h3' (by rw [h4]; decide) (by simp)]
  have : dirE l (lookL l i p) = 4 := by unfold dirE; rw [if_pos h3, if_neg (by rw [h4]; decide)]
  rw [go_dir (by rw [this]; decide), this]
end Go.Proofs.YtpmhmippoefcfaaGreatDoor
