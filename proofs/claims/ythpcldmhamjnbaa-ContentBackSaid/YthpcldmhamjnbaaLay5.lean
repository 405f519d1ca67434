/-
  Names of a directory, plainly: which names may be; what is found, put and dropped.
  Plain facts on stencils: how many blanks a text ends with, letters, signs; what is made; what fits.
  strings.IndexRune, IndexAny, ContainsAny at two plain bytes, in whatever text.
  strings.ContainsAny at the two bytes that no name has; which names may be.
  Which names may be: the program's and the document's.
  Lists of entries in memory; whether they are sorted: the program's and the document's.
  The document's Sorted, Find, Drop, Same, Names; the statements' its; the program's Names.
  The document's Sorted and Same of entries.
-/
import Derived.Lib.Strings
import Derived.Laws.RangeAny
import Derived.Test.YthpcldmhamjnbaaMem
import Derived.Lib.Bytealg
import Derived.Test.YthpcldmhamjnbaaProg
import Derived.Laws.Runes
import Derived.Lib.Builder
import Derived.Deep.WholeRow
import Derived.WalkMore
import Derived.Lib.OthersKept
import Derived.Lib.QuietBelow
import Derived.Deep.DrawnRows
import Derived.Laws.Cover1
namespace Go.Proofs.Ythpcldmhamjnbaa

abbrev Nm := List UInt8
abbrev EntL := Nm × Int

theorem lt_irr (a : Nm) : ¬ a < a := List.lt_irrefl a
theorem lt_tr {a b c : Nm} (h : a < b) (g : b < c) : a < c := List.lt_trans h g
theorem lt_as {a b : Nm} (h : a < b) : ¬ b < a := List.lt_asymm h
theorem lt_eq {a b : Nm} (h : ¬ a < b) (g : ¬ b < a) : a = b := List.le_antisymm (List.not_lt.1 g) (List.not_lt.1 h)
theorem lt_ne {a b : Nm} (h : a < b) : a ≠ b := fun e => by subst e; exact lt_irr _ h
theorem le_lt {a b c : Nm} (h : ¬ b < a) (g : b < c) : a < c := by
  by_cases e : a < b
  · exact lt_tr e g
  · obtain rfl := lt_eq e h
    exact g
theorem lt_le {a b c : Nm} (h : a < b) (g : ¬ c < b) : a < c := by
  by_cases e : b < c
  · exact lt_tr h e
  · obtain rfl := lt_eq e g
    exact h

/-- The bytes that no name has. -/
def barredL (c : UInt8) : Bool := c == 47 || c == 0
def legalL (s : Nm) : Int := if s = [] ∨ s = [46] ∨ s = [46, 46] ∨ s.any barredL = true then 1 else if 12 < s.length then 9 else 0
theorem legal_len {s : Nm} (h : legalL s = 0) : s.length ≤ 12 := by
  unfold legalL at h
  split at h
  · cases h
  · split at h
    · cases h
    · omega

def Up (l : List EntL) : Prop := l.Pairwise fun a b => a.1 < b.1
def SortedP (l : List EntL) : Prop := (∀ e ∈ l, legalL e.1 = 0) ∧ Up l
instance (l : List EntL) : Decidable (SortedP l) := by unfold SortedP Up; infer_instance

theorem SortedP.sub {l m : List EntL} (h : SortedP l) (hs : List.Sublist m l) : SortedP m :=
  ⟨fun e he => h.1 e (hs.subset he), h.2.sublist hs⟩
theorem sorted_nil : SortedP [] := ⟨fun _ h => (by cases h), List.Pairwise.nil⟩
/-- One entry more of the beginning of a list. -/
theorem sorted_succ {l : List EntL} {k : Nat} (h : k < l.length) (hs : SortedP (l.take k)) (hl : legalL l[k].1 = 0) (ho : ∀ j (hj : j < l.length), k = j + 1 → l[j].1 < l[k].1) : SortedP (l.take (k + 1)) := by
  rw [List.take_succ_eq_append_getElem h]
  refine ⟨fun e he => ?_, ?_⟩
  · rcases List.mem_append.1 he with he | he
    · exact hs.1 e he
    · obtain rfl := List.mem_singleton.1 he
      exact hl
  · refine List.pairwise_append.2 ⟨hs.2, List.pairwise_singleton _ _, fun a ha b hb => ?_⟩
    obtain rfl := List.mem_singleton.1 hb
    obtain ⟨i, hi, rfl⟩ := List.mem_iff_getElem.1 ha
    rw [List.length_take] at hi
    have hik : i < k := by omega
    obtain ⟨j, rfl⟩ : ∃ j, k = j + 1 := ⟨k - 1, by omega⟩
    have h1 := ho j (by omega) rfl
    rw [List.getElem_take]
    rcases Nat.lt_or_ge i j with h2 | h2
    · have := List.pairwise_iff_getElem.1 hs.2 i j (by rw [List.length_take]; omega) (by rw [List.length_take]; omega) h2
      rw [List.getElem_take, List.getElem_take] at this
      exact lt_tr this h1
    · obtain rfl : i = j := by omega
      exact h1
theorem sorted_order {l : List EntL} (hs : SortedP l) {j k : Nat} (hk : k < l.length) (h : k = j + 1) : (l[j]'(by omega)).1 < l[k].1 :=
  List.pairwise_iff_getElem.1 hs.2 j k (by omega) hk (by omega)

/-- What is below a name, and what is above it. -/
def lo (l : List EntL) (n : Nm) : List EntL := l.filter fun e => decide (e.1 < n)
def hi (l : List EntL) (n : Nm) : List EntL := l.filter fun e => decide (n < e.1)
def mid (n : Nm) : Option Int → List EntL
  | none => []
  | some i => [(n, i)]
def findL (l : List EntL) (n : Nm) : Option Int := (l.find? fun e => e.1 == n).map (·.2)
def dropL (l : List EntL) (n : Nm) : List EntL := l.filter fun e => !(e.1 == n)
def putL (l : List EntL) (e : EntL) : List EntL := lo l e.1 ++ e :: hi l e.1

theorem mem_lo {l : List EntL} {n : Nm} {e : EntL} : e ∈ lo l n ↔ e ∈ l ∧ e.1 < n := by simp [lo]
theorem mem_hi {l : List EntL} {n : Nm} {e : EntL} : e ∈ hi l n ↔ e ∈ l ∧ n < e.1 := by simp [hi]
theorem mid_name {n : Nm} {m : Option Int} {e : EntL} (h : e ∈ mid n m) : e.1 = n := by
  cases m with
  | none => cases h
  | some i => obtain rfl := List.mem_singleton.1 h; rfl
theorem find_skip (a m c : List EntL) (o : Nm) (hm : ∀ e ∈ m, e.1 ≠ o) : findL (a ++ m ++ c) o = findL (a ++ c) o := by
  have : m.find? (fun e => e.1 == o) = none := List.find?_eq_none.2 fun e he => by simpa using hm e he
  unfold findL
  rw [List.find?_append, List.find?_append, List.find?_append, this, Option.or_none]
theorem find_parts (a c : List EntL) (n : Nm) (m : Option Int) (ha : ∀ e ∈ a, e.1 ≠ n) (hc : ∀ e ∈ c, e.1 ≠ n) : findL (a ++ mid n m ++ c) n = m := by
  have h1 : a.find? (fun e => e.1 == n) = none := List.find?_eq_none.2 fun e he => by simpa using ha e he
  have h2 : c.find? (fun e => e.1 == n) = none := List.find?_eq_none.2 fun e he => by simpa using hc e he
  unfold findL
  rw [List.find?_append, List.find?_append, h1, h2, Option.or_none, Option.none_or]
  cases m with
  | none => rfl
  | some i => simp [mid]
theorem up_parts {l : List EntL} (h : Up l) (n : Nm) : ∃ m, l = lo l n ++ mid n m ++ hi l n := by
  induction l with
  | nil => exact ⟨none, rfl⟩
  | cons a r ih =>
    obtain ⟨h1, h2⟩ := List.pairwise_cons.1 h
    by_cases ha : a.1 < n
    · obtain ⟨m, hm⟩ := ih h2
      refine ⟨m, ?_⟩
      have e1 : lo (a :: r) n = a :: lo r n := by simp [lo, ha]
      have e2 : hi (a :: r) n = hi r n := by simp [hi, lt_as ha]
      rw [e1, e2, List.cons_append, List.cons_append, ← hm]
    · have hr : ∀ e ∈ r, n < e.1 := fun e he => le_lt ha (h1 e he)
      have e3 : lo r n = [] := List.filter_eq_nil_iff.2 fun e he => by simpa using lt_as (hr e he)
      have e4 : hi r n = r := List.filter_eq_self.2 fun e he => by simpa using hr e he
      have e1 : lo (a :: r) n = [] := by
        have : lo (a :: r) n = lo r n := by simp [lo, ha]
        rw [this, e3]
      by_cases hb : n < a.1
      · refine ⟨none, ?_⟩
        have e2 : hi (a :: r) n = a :: r := by
          have : hi (a :: r) n = a :: hi r n := by simp [hi, hb]
          rw [this, e4]
        rw [e1, e2]
        rfl
      · obtain ⟨x, i⟩ := a
        obtain rfl : x = n := lt_eq ha hb
        refine ⟨some i, ?_⟩
        have e2 : hi ((x, i) :: r) x = r := by
          have : hi ((x, i) :: r) x = hi r x := by simp [hi]
          rw [this, e4]
        rw [e1, e2]
        rfl
/-- A list that rises: what is below, the entry of that name if there is one, what is above. -/
theorem eparts {l : List EntL} (h : Up l) (n : Nm) : l = lo l n ++ mid n (findL l n) ++ hi l n := by
  obtain ⟨m, hm⟩ := up_parts h n
  have := find_parts (lo l n) (hi l n) n m (fun e he => lt_ne (mem_lo.1 he).2) fun e he => (lt_ne (mem_hi.1 he).2).symm
  rw [← hm] at this
  rw [this]
  exact hm
theorem drop_parts {l : List EntL} (h : Up l) (n : Nm) : dropL l n = lo l n ++ hi l n := by
  have h0 := eparts h n
  have e1 : (lo l n).filter (fun e => !(e.1 == n)) = lo l n := List.filter_eq_self.2 fun e he => by simpa using lt_ne (mem_lo.1 he).2
  have e2 : (hi l n).filter (fun e => !(e.1 == n)) = hi l n := List.filter_eq_self.2 fun e he => by simpa using (lt_ne (mem_hi.1 he).2).symm
  have e3 : (mid n (findL l n)).filter (fun e => !(e.1 == n)) = [] := List.filter_eq_nil_iff.2 fun e he => by simp [mid_name he]
  have : dropL l n = (lo l n ++ mid n (findL l n) ++ hi l n).filter (fun e => !(e.1 == n)) := by
    unfold dropL
    exact congrArg _ h0
  rw [this, List.filter_append, List.filter_append, e1, e2, e3, List.append_nil]
theorem put_mid (l : List EntL) (n : Nm) (i : Int) : putL l (n, i) = lo l n ++ mid n (some i) ++ hi l n := by simp [putL, mid]
theorem up_put {l : List EntL} (h : Up l) (e : EntL) : Up (putL l e) := by
  refine List.pairwise_append.2 ⟨h.sublist List.filter_sublist, List.pairwise_cons.2 ⟨fun b hb => (mem_hi.1 hb).2, h.sublist List.filter_sublist⟩, fun a ha b hb => ?_⟩
  have h1 := (mem_lo.1 ha).2
  rcases List.mem_cons.1 hb with rfl | hb
  · exact h1
  · exact lt_tr h1 (mem_hi.1 hb).2
theorem sorted_put {l : List EntL} (h : SortedP l) (e : EntL) (he : legalL e.1 = 0) : SortedP (putL l e) := by
  refine ⟨fun a ha => ?_, up_put h.2 e⟩
  rcases List.mem_append.1 ha with ha | ha
  · exact h.1 a (mem_lo.1 ha).1
  · rcases List.mem_cons.1 ha with rfl | ha
    · exact he
    · exact h.1 a (mem_hi.1 ha).1
theorem sorted_drop {l : List EntL} (h : SortedP l) (n : Nm) : SortedP (dropL l n) := h.sub List.filter_sublist
theorem find_put (l : List EntL) (n : Nm) (i : Int) : findL (putL l (n, i)) n = some i := by
  rw [put_mid]
  exact find_parts _ _ _ _ (fun e he => lt_ne (mem_lo.1 he).2) fun e he => (lt_ne (mem_hi.1 he).2).symm
theorem find_put_other {l : List EntL} (h : Up l) (n o : Nm) (i : Int) (ho : o ≠ n) : findL (putL l (n, i)) o = findL l o := by
  rw [put_mid, find_skip _ _ _ _ fun e he => by rw [mid_name he]; exact ho.symm]
  have := find_skip (lo l n) (mid n (findL l n)) (hi l n) o fun e he => by rw [mid_name he]; exact ho.symm
  rw [← eparts h n] at this
  exact this.symm
theorem drop_put {l : List EntL} (h : Up l) (n : Nm) (i : Int) : dropL (putL l (n, i)) n = dropL l n := by
  have e1 : (lo l n).filter (fun e => !(e.1 == n)) = lo l n := List.filter_eq_self.2 fun e he => by simpa using lt_ne (mem_lo.1 he).2
  have e2 : (hi l n).filter (fun e => !(e.1 == n)) = hi l n := List.filter_eq_self.2 fun e he => by simpa using (lt_ne (mem_hi.1 he).2).symm
  rw [drop_parts h]
  show (putL l (n, i)).filter _ = _
  rw [put_mid, List.filter_append, List.filter_append, e1, e2]
  simp [mid]
theorem find_drop (l : List EntL) (n : Nm) : findL (dropL l n) n = none := by
  unfold findL
  rw [Option.map_eq_none_iff, List.find?_eq_none]
  intro e he
  have := (List.mem_filter.1 he).2
  simpa using this
theorem len_put {l : List EntL} (h : Up l) (e : EntL) : (putL l e).length = (dropL l e.1).length + 1 := by
  rw [drop_parts h]
  simp [putL]
  omega
theorem len_drop {l : List EntL} (h : Up l) (n : Nm) : (dropL l n).length + (if (findL l n).isSome then 1 else 0) = l.length := by
  have h0 := congrArg List.length (eparts h n)
  rw [drop_parts h]
  rw [List.length_append, List.length_append] at h0
  rw [List.length_append, h0]
  cases findL l n with
  | none => simp [mid]
  | some i => simp [mid]; omega
theorem filter_two (l : List EntL) (p q r : EntL → Bool) (h : ∀ e, (p e && q e) = r e) : (l.filter p).filter q = l.filter r := by
  rw [List.filter_filter]
  exact List.filter_congr fun e _ => by rw [Bool.and_comm]; exact h e
theorem put_lt (l : List EntL) (x y : EntL) (h : x.1 < y.1) : putL (putL l x) y = lo l x.1 ++ x :: ((lo (hi l x.1) y.1) ++ y :: hi l y.1) := by
  have e1 : lo (putL l x) y.1 = lo l x.1 ++ x :: lo (hi l x.1) y.1 := by
    have : lo (lo l x.1) y.1 = lo l x.1 := List.filter_eq_self.2 fun e he => by simpa using lt_tr (mem_lo.1 he).2 h
    show (lo l x.1 ++ x :: hi l x.1).filter _ = _
    rw [List.filter_append]
    rw [show (lo l x.1).filter (fun e => decide (e.1 < y.1)) = lo l x.1 from this]
    rw [List.filter_cons_of_pos (by simpa using h)]
    rfl
  have e2 : hi (putL l x) y.1 = hi l y.1 := by
    show (lo l x.1 ++ x :: hi l x.1).filter _ = _
    rw [List.filter_append, List.filter_eq_nil_iff.2 (fun e he => by simpa using lt_as (lt_tr (mem_lo.1 he).2 h)), List.filter_cons_of_neg (by simpa using lt_as h), List.nil_append]
    refine filter_two _ _ _ _ fun e => ?_
    by_cases he : y.1 < e.1
    · simp [he, lt_tr h he]
    · simp [he]
  show lo (putL l x) y.1 ++ y :: hi (putL l x) y.1 = _
  rw [e1, e2, List.append_assoc, List.cons_append]
theorem put_gt (l : List EntL) (x y : EntL) (h : x.1 < y.1) : putL (putL l y) x = lo l x.1 ++ x :: ((lo (hi l x.1) y.1) ++ y :: hi l y.1) := by
  have e1 : lo (putL l y) x.1 = lo l x.1 := by
    show (lo l y.1 ++ y :: hi l y.1).filter _ = _
    rw [List.filter_append, List.filter_cons_of_neg (by simpa using lt_as h), show (hi l y.1).filter (fun e => decide (e.1 < x.1)) = [] from List.filter_eq_nil_iff.2 (fun e he => by simpa using lt_as (lt_tr h (mem_hi.1 he).2)), List.append_nil]
    refine filter_two _ _ _ _ fun e => ?_
    by_cases he : e.1 < x.1
    · simp [he, lt_tr he h]
    · simp [he]
  have e2 : hi (putL l y) x.1 = lo (hi l x.1) y.1 ++ y :: hi l y.1 := by
    show (lo l y.1 ++ y :: hi l y.1).filter _ = _
    rw [List.filter_append, List.filter_cons_of_pos (by simpa using h), show (hi l y.1).filter (fun e => decide (x.1 < e.1)) = hi l y.1 from List.filter_eq_self.2 (fun e he => by simpa using lt_tr h (mem_hi.1 he).2)]
    congr 1
    show (List.filter _ _).filter _ = (List.filter _ _).filter _
    rw [List.filter_filter, List.filter_filter]
    exact List.filter_congr fun e _ => Bool.and_comm _ _
  show lo (putL l y) x.1 ++ x :: hi (putL l y) x.1 = _
  rw [e1, e2]
theorem put_put (l : List EntL) (x y : EntL) (h : x.1 ≠ y.1) : putL (putL l x) y = putL (putL l y) x := by
  by_cases h1 : x.1 < y.1
  · rw [put_lt l x y h1, put_gt l x y h1]
  · by_cases h2 : y.1 < x.1
    · rw [put_lt l y x h2, put_gt l y x h2]
    · exact absurd (lt_eq h1 h2) h
theorem put_again (l : List EntL) (x y : EntL) (h : x.1 = y.1) : putL (putL l x) y = putL l y := by
  have e1 : lo (putL l x) y.1 = lo l y.1 := by
    rw [← h]
    show (lo l x.1 ++ x :: hi l x.1).filter _ = _
    rw [List.filter_append, List.filter_cons_of_neg (by simp), show (hi l x.1).filter (fun e => decide (e.1 < x.1)) = [] from List.filter_eq_nil_iff.2 (fun e he => by simpa using lt_as (mem_hi.1 he).2), List.append_nil]
    exact List.filter_eq_self.2 fun e he => by simpa using (mem_lo.1 he).2
  have e2 : hi (putL l x) y.1 = hi l y.1 := by
    rw [← h]
    show (lo l x.1 ++ x :: hi l x.1).filter _ = _
    rw [List.filter_append, List.filter_cons_of_neg (by simp), show (lo l x.1).filter (fun e => decide (x.1 < e.1)) = [] from List.filter_eq_nil_iff.2 (fun e he => by simpa using lt_as (mem_lo.1 he).2), List.nil_append]
    exact List.filter_eq_self.2 fun e he => by simpa using (mem_hi.1 he).2
  show lo (putL l x) y.1 ++ y :: hi (putL l x) y.1 = _
  rw [e1, e2]
  rfl
theorem put_put_len (l : List EntL) (x y : EntL) (h : x.1 ≠ y.1) : 2 ≤ (putL (putL l x) y).length := by
  by_cases h1 : x.1 < y.1
  · rw [put_lt l x y h1]; simp; omega
  · by_cases h2 : y.1 < x.1
    · rw [put_put l x y h, put_lt l y x h2]; simp; omega
    · exact absurd (lt_eq h1 h2) h
theorem put_len (l : List EntL) (e : EntL) : (putL l e).length ≤ l.length + l.length + 1 := by
  have h1 := List.length_filter_le (fun a : EntL => decide (a.1 < e.1)) l
  have h2 := List.length_filter_le (fun a : EntL => decide (e.1 < a.1)) l
  simp only [putL, lo, hi, List.length_append, List.length_cons]
  omega
theorem put_len_up {l : List EntL} (h : Up l) (e : EntL) : (putL l e).length ≤ l.length + 1 := by
  have h1 := len_put h e
  have h2 := len_drop h e.1
  omega
theorem find_at {l : List EntL} (h : Up l) (k : Nat) (hk : k < l.length) : findL l l[k].1 = some l[k].2 := by
  have hm : l[k] ∈ l := List.getElem_mem hk
  generalize l[k] = x at *
  obtain ⟨n, i⟩ := x
  rw [eparts h n] at hm
  rcases List.mem_append.1 hm with hm | hm
  · rcases List.mem_append.1 hm with hm | hm
    · exact absurd (mem_lo.1 hm).2 (lt_irr n)
    · cases hf : findL l n with
      | none => rw [hf] at hm; cases hm
      | some j =>
        rw [hf] at hm
        have := List.mem_singleton.1 hm
        injection this with _ e
        show some j = some i
        rw [e]
  · exact absurd (mem_hi.1 hm).2 (lt_irr n)
theorem find_isSome (l : List EntL) (n : Nm) : (findL l n).isSome = l.any fun e => e.1 == n := by
  unfold findL
  rw [Option.isSome_map, Bool.eq_iff_iff, List.find?_isSome, List.any_eq_true]
/-- The document's putting, part by part. -/
theorem put_lo (l : List EntL) (n : Nm) : (dropL l n).filter (fun e => decide (e.1 < n)) = lo l n := by
  refine filter_two _ _ _ _ fun e => ?_
  by_cases h : e.1 < n
  · simp [h, lt_ne h]
  · simp [h]
theorem put_hi (l : List EntL) (n : Nm) : (dropL l n).filter (fun e => decide (n < e.1)) = hi l n := by
  refine filter_two _ _ _ _ fun e => ?_
  by_cases h : n < e.1
  · simp [h, (lt_ne h).symm]
  · simp [h]

/-- How many are below a name, counted by places. -/
theorem count_at (q : EntL → Bool) (l : List EntL) (d : EntL) : (List.range l.length).countP (fun i => q (l.getD i d)) = (l.filter q).length := by
  have : (List.range l.length).map (fun i => l.getD i d) = l := by
    apply List.ext_getElem
    · simp
    · intro i h1 h2
      simp [h2]
  rw [← List.countP_eq_length_filter]
  conv => rhs; rw [← this]
  rw [List.countP_map]
  rfl
theorem up_le {l : List EntL} (h : Up l) {a b : Nat} (hab : a ≤ b) (hb : b < l.length) (n : Nm) (d : EntL) (hn : ¬ (l.getD a d).1 < n) : ¬ (l.getD b d).1 < n := by
  have ha : a < l.length := by omega
  rw [List.getD_eq_getElem?_getD, List.getElem?_eq_getElem ha] at hn
  rw [List.getD_eq_getElem?_getD, List.getElem?_eq_getElem hb]
  simp only [Option.getD_some] at hn ⊢
  rcases Nat.lt_or_eq_of_le hab with hlt | rfl
  · have := List.pairwise_iff_getElem.1 h a b ha hb hlt
    intro hx
    exact hn (lt_tr this hx)
  · exact hn
/-- The entry behind those that are below a name. -/
theorem at_lo {l : List EntL} (h : Up l) (n : Nm) (hk : (lo l n).length < l.length) : (∃ i, findL l n = some i ∧ l[(lo l n).length] = (n, i)) ∨ (findL l n = none ∧ l[(lo l n).length].1 ≠ n) := by
  have h0 := eparts h n
  cases hf : findL l n with
  | some i =>
    refine .inl ⟨i, rfl, ?_⟩
    have : l[(lo l n).length]? = some (n, i) := by
      rw [hf] at h0
      have : ∀ a c : List EntL, (a ++ [(n, i)] ++ c)[a.length]? = some (n, i) := fun a c => by simp
      have := this (lo l n) (hi l n)
      rwa [show lo l n ++ [(n, i)] ++ hi l n = l from h0.symm] at this
    rw [List.getElem?_eq_getElem hk] at this
    exact Option.some.inj this
  | none =>
    refine .inr ⟨rfl, ?_⟩
    have hm : l[(lo l n).length] ∈ hi l n := by
      have h1 : l[(lo l n).length]? = (hi l n)[0]? := by
        rw [hf] at h0
        have h2 : l = lo l n ++ hi l n := by simpa [mid] using h0
        have : ∀ a c : List EntL, (a ++ c)[a.length]? = c[0]? := fun a c => by rw [List.getElem?_append_right (Nat.le_refl _), Nat.sub_self]
        rw [← this (lo l n) (hi l n), ← h2]
      rw [List.getElem?_eq_getElem hk] at h1
      exact List.mem_of_getElem? h1.symm
    exact (lt_ne (mem_hi.1 hm).2).symm
theorem lo_len (l : List EntL) (n : Nm) : (lo l n).length ≤ l.length := List.length_filter_le _ _
theorem take_lo {l : List EntL} (h : Up l) (n : Nm) : l.take (lo l n).length = lo l n := by
  have h0 := eparts h n
  have : ∀ a c d : List EntL, (a ++ c ++ d).take a.length = a := fun a c d => by simp
  have := this (lo l n) (mid n (findL l n)) (hi l n)
  rwa [← h0] at this
theorem drop_hi {l : List EntL} (h : Up l) (n : Nm) : l.drop ((lo l n).length + (mid n (findL l n)).length) = hi l n := by
  have h0 := eparts h n
  have : ∀ a c d : List EntL, (a ++ c ++ d).drop (a.length + c.length) = d := fun a c d => by simp
  have := this (lo l n) (mid n (findL l n)) (hi l n)
  rwa [← h0] at this
theorem end_le {l : List EntL} (h : Up l) (n : Nm) : (lo l n).length + (mid n (findL l n)).length ≤ l.length := by
  have h0 := congrArg List.length (eparts h n)
  rw [List.length_append, List.length_append] at h0
  omega
theorem mid_len (n : Nm) (m : Option Int) : (mid n m).length = if m.isSome then 1 else 0 := by cases m <;> rfl

theorem any_take_succ (l : List EntL) (p : EntL → Bool) (k : Nat) (h : k < l.length) : (l.take (k + 1)).any p = ((l.take k).any p || p l[k]) := by
  rw [List.take_succ_eq_append_getElem h, List.any_append]
  simp
theorem filter_take_yes (l : List EntL) (p : EntL → Bool) (k : Nat) (h : k < l.length) (hp : p l[k] = true) : (l.take (k + 1)).filter p = (l.take k).filter p ++ [l[k]] := by
  rw [List.take_succ_eq_append_getElem h, List.filter_append, List.filter_cons_of_pos hp]; rfl
theorem filter_take_no (l : List EntL) (p : EntL → Bool) (k : Nat) (h : k < l.length) (hp : p l[k] = false) : (l.take (k + 1)).filter p = (l.take k).filter p := by
  rw [List.take_succ_eq_append_getElem h, List.filter_append, List.filter_cons_of_neg (by simp [hp]), List.filter_nil, List.append_nil]
end Go.Proofs.Ythpcldmhamjnbaa
namespace Go.Proofs.Ythpcldmhamjnbaa

/-- How many blanks a text ends with. -/
def xs (l : List UInt8) : Nat := (l.reverse.takeWhile (fun c => c == 88)).length
theorem xs_nil : xs [] = 0 := rfl
theorem xs_yes (l : List UInt8) : xs (l ++ [88]) = xs l + 1 := by simp [xs]
theorem xs_no (l : List UInt8) (c : UInt8) (h : c ≠ 88) : xs (l ++ [c]) = 0 := by simp [xs, h]
theorem xs_le (l : List UInt8) : xs l ≤ l.length := by
  have := (List.takeWhile_sublist (fun c : UInt8 => c == 88) (l := l.reverse)).length_le
  simpa [xs] using this
theorem takeWhile_at (p : UInt8 → Bool) (r : List UInt8) (n : Nat) (h : n < r.length) (hn : n ≤ (r.takeWhile p).length) : p r[n] = true ↔ n < (r.takeWhile p).length := by
  induction r generalizing n with
  | nil => simp at h
  | cons c r ih =>
    by_cases hc : p c = true
    · rw [List.takeWhile_cons_of_pos hc] at hn ⊢
      cases n with
      | zero => simp [hc]
      | succ n =>
        simp only [List.length_cons, List.getElem_cons_succ] at h hn ⊢
        have := ih n (by omega) (by omega)
        rw [this]; omega
    · rw [List.takeWhile_cons_of_neg hc] at hn ⊢
      have : n = 0 := by simpa using hn
      subst this
      simpa using hc
theorem xs_at (l : List UInt8) (n : Nat) (h : l.length - 1 - n < l.length) (h0 : n < l.length) (hn : n ≤ xs l) : l[l.length - 1 - n] = 88 ↔ n < xs l := by
  have := takeWhile_at (fun c => c == 88) l.reverse n (by simpa using h0) hn
  rw [List.getElem_reverse] at this
  simpa [xs] using this
theorem xs_app (l r : List UInt8) (hr : r ≠ []) (h : ∀ c ∈ r, 128 ≤ c.toNat) : xs (l ++ r) = 0 := by
  obtain ⟨q, c, rfl⟩ : ∃ q c, r = q ++ [c] := by
    rcases List.eq_nil_or_concat r with h0 | ⟨q, c, h0⟩
    · exact absurd h0 hr
    · exact ⟨q, c, by simpa using h0⟩
  rw [← List.append_assoc]
  refine xs_no _ c fun e => ?_
  have := h c (by simp)
  rw [e] at this
  exact absurd this (by decide)
theorem xs_drop (l : List UInt8) : l.drop (l.length - xs l) = List.replicate (xs l) 88 := by
  apply List.eq_replicate_iff.2
  refine ⟨by have := xs_le l; simp; omega, fun b hb => ?_⟩
  have e : l.drop (l.length - xs l) = (l.reverse.takeWhile (fun c => c == 88)).reverse := by
    have h1 : l.reverse.takeWhile (fun c => c == 88) = l.reverse.take (xs l) := by
      unfold xs
      have := List.takeWhile_prefix (fun c : UInt8 => c == 88) (l := l.reverse)
      exact List.prefix_iff_eq_take.1 this
    rw [h1, List.reverse_take, List.reverse_reverse, List.length_reverse]
  rw [e, List.mem_reverse] at hb
  have := List.all_eq_true.1 (List.all_takeWhile (p := fun c : UInt8 => c == 88) (l := l.reverse)) b hb
  simpa using this

/-- The letters. -/
def lettL : List UInt8 := [97, 98, 99, 100, 101, 102, 103, 104, 105, 106, 107, 108, 109, 110, 111, 112, 113, 114, 115, 116, 117, 118, 119, 120, 121, 122, 48, 49, 50, 51, 52, 53, 54, 55, 56, 57]
def lett (n : Int) : UInt8 := lettL.getD (n % 36).toNat 0
def isLett (c : UInt8) : Bool := lettL.contains c
theorem lett_is (n : Int) : isLett (lett n) = true := by
  unfold isLett lett
  have h : (n % 36).toNat < 36 := by omega
  generalize (n % 36).toNat = k at *
  revert k
  decide
theorem lett_ascii : ∀ k, k < 36 → (lettL.getD k 0).toNat < 128 := by decide
theorem lett_inj : ∀ a, a < 36 → ∀ b, b < 36 → lettL.getD a 0 = lettL.getD b 0 → a = b := by decide
theorem lett_eq (a b : Int) : lett a = lett b ↔ a % 36 = b % 36 := by
  constructor
  · intro h
    have := lett_inj (a % 36).toNat (by omega) (b % 36).toNat (by omega) h
    omega
  · intro h; unfold lett; rw [h]
theorem lett_place (c : UInt8) (h : isLett c = true) : ∃ k, k < 36 ∧ lettL.getD k 0 = c := by
  unfold isLett at h
  have h' : c ∈ lettL := by simpa using h
  obtain ⟨k, hk, e⟩ := List.mem_iff_getElem.1 h'
  exact ⟨k, hk, by rw [List.getD_eq_getElem?_getD, List.getElem?_eq_getElem hk, e]; rfl⟩
theorem lett_not (c : UInt8) (h : 128 ≤ c.toNat) : isLett c = false := by
  cases hl : isLett c with
  | false => rfl
  | true =>
    obtain ⟨k, hk, rfl⟩ := lett_place c hl
    have := lett_ascii k hk
    omega
theorem lett_x : isLett 88 = false := by decide

/-- What is made. -/
def makeL (l : List UInt8) (ds : List Int) : List UInt8 := l.take (l.length - xs l) ++ (List.range (xs l)).map fun i => lett (ds.getD i 0)
/-- Whether a name fits. -/
def fitsB (l m : List UInt8) : Bool := decide (m.length = l.length) && (decide (m.take (l.length - xs l) = l.take (l.length - xs l)) && (m.drop (l.length - xs l)).all isLett)

/-! ### Signs -/
theorem get_list (s : ByteArray) (i : Nat) (h : i < s.data.toList.length) : s.get! i = s.data.toList[i] := by
  have h' : i < s.size := by simpa using h
  have := get_at s i h'
  simp only [Nat.add_zero] at this
  rw [this]; rfl
theorem dec_low (s : ByteArray) (pos : Nat) (h : pos < s.size) (ha : (s[pos]'h).toNat < 128) : Utf8.decode s pos = ((s[pos]'h).toNat, 1) := decode_ascii s pos h ha
/-- A sign that does not begin with a byte of its own spans bytes that are none. -/
theorem dec_high (s : ByteArray) (pos : Nat) (h : pos < s.size) (ha : 128 ≤ (s[pos]'h).toNat) :
    pos + (Utf8.decode s pos).2 ≤ s.size ∧ ∀ j, j < (Utf8.decode s pos).2 → 128 ≤ (s.get! (pos + j)).toNat := by
  have h0 := get_at s pos h
  have hn : ¬ (s[pos]'h).toNat < 128 := by omega
  have ha0 : 128 ≤ (s.get! (pos + 0)).toNat := by rw [h0]; exact ha
  simp only [Utf8.decode, h0, hn, if_false]
  repeat' split
  all_goals (simp only [Bool.and_eq_true, decide_eq_true_eq, beq_iff_eq] at *)
  all_goals (refine ⟨by omega, fun j hj => ?_⟩)
  all_goals (have hj' : j = 0 ∨ j = 1 ∨ j = 2 ∨ j = 3 := by omega)
  all_goals (rcases hj' with rfl | rfl | rfl | rfl <;> omega)
theorem dec_list (s : ByteArray) (pos : Nat) (h : pos < s.size) (ha : 128 ≤ (s[pos]'h).toNat) :
    ∃ r : List UInt8, r ≠ [] ∧ (∀ c ∈ r, 128 ≤ c.toNat) ∧ s.data.toList.take (pos + (Utf8.decode s pos).2) = s.data.toList.take pos ++ r := by
  obtain ⟨h1, h2⟩ := dec_high s pos h ha
  have h3 := (decode_high s pos h ha).2
  have hl : s.data.toList.length = s.size := by simp
  refine ⟨(s.data.toList.drop pos).take (Utf8.decode s pos).2, ?_, ?_, ?_⟩
  · intro e
    have := congrArg List.length e
    simp only [List.length_take, List.length_drop, hl, List.length_nil] at this
    omega
  · intro c hc
    obtain ⟨j, hj, rfl⟩ := List.mem_iff_getElem.1 hc
    simp only [List.length_take, List.length_drop, hl] at hj
    have := h2 j (by omega)
    rw [get_list s (pos + j) (by rw [hl]; omega)] at this
    simpa using this
  · rw [List.take_add]
end Go.Proofs.Ythpcldmhamjnbaa
namespace Go.Proofs.Ythpcldmhamjnbaa
open Go.RowKit Go.Shelf

theorem below_iter (w : World) (s : ByteArray) (p : Nat) : Below w.heap.size w (w.iter s p) := (Below.refl _ w).alloc (Nat.le_refl _) _
end Go.Proofs.Ythpcldmhamjnbaa
namespace Go.Proofs.Ythpcldmhamjnbaa
open Go.RowKit Go.Shelf

abbrev barS : ByteArray := ⟨#[47, 0]⟩
theorem barS_plain : ∀ j (h : j < barS.size), (barS[j]'h).toNat < 128 := by
  intro j h
  have hj : j = 0 ∨ j = 1 := by have : barS.size = 2 := rfl; omega
  rcases hj with rfl | rfl
  · show (47 : UInt8).toNat < 128; decide
  · show (0 : UInt8).toNat < 128; decide
/-- Where a sign stands among the two. -/
def barAt (r : Nat) : Int := if r = 47 then 0 else if r = 0 then 1 else -1
theorem barAt_byte (c : UInt8) : Lib.indexByte barS.data.toList ((c.toNat : Int).toNat.toUInt8) = barAt c.toNat := by
  have h : (c.toNat : Int).toNat.toUInt8 = c := by simp
  rw [h]
  show (if (47 : UInt8) == c then (0 : Int) else if (if (0 : UInt8) == c then (0 : Int) else if (-1 : Int) == -1 then -1 else -1 + 1) == -1 then -1 else (if (0 : UInt8) == c then (0 : Int) else if (-1 : Int) == -1 then -1 else -1 + 1) + 1) = _
  unfold barAt
  by_cases h1 : c = 47
  · subst h1; rfl
  · by_cases h0 : c = 0
    · subst h0; rfl
    · have e1 : ((47 : UInt8) == c) = false := by rw [beq_eq_false_iff_ne]; exact fun e => h1 e.symm
      have e0 : ((0 : UInt8) == c) = false := by rw [beq_eq_false_iff_ne]; exact fun e => h0 e.symm
      have n1 : c.toNat ≠ 47 := fun e => h1 (UInt8.toNat_inj.1 e)
      have n0 : c.toNat ≠ 0 := fun e => h0 (UInt8.toNat_inj.1 e)
      simp [e1, e0, n1, n0]
theorem barred_nat (c : UInt8) : barredL c = true ↔ c.toNat = 47 ∨ c.toNat = 0 := by
  unfold barredL
  rw [Bool.or_eq_true, beq_iff_eq, beq_iff_eq]
  constructor
  · rintro (rfl | rfl)
    · exact .inl rfl
    · exact .inr rfl
  · rintro (h | h)
    · exact .inl (UInt8.toNat_inj.1 h)
    · exact .inr (UInt8.toNat_inj.1 h)
theorem take_one (s : ByteArray) (pos : Nat) (h : pos < s.size) : s.data.toList.take (pos + 1) = s.data.toList.take pos ++ [s[pos]'h] := by
  rw [List.take_succ_eq_append_getElem (by rw [data_len]; exact h)]
  rfl
/-- The next sign: one of the two, or neither it nor its bytes. -/
theorem dec_bar (s : ByteArray) (pos : Nat) (h : pos < s.size) (hn : (s.data.toList.take pos).any barredL = false) :
    (barAt (Utf8.decode s pos).1 = -1 ∧ (s.data.toList.take (pos + (Utf8.decode s pos).2)).any barredL = false ∧ pos + (Utf8.decode s pos).2 ≤ s.size ∧ 1 ≤ (Utf8.decode s pos).2) ∨
    (0 ≤ barAt (Utf8.decode s pos).1 ∧ s.data.toList.any barredL = true) := by
  rcases Nat.lt_or_ge (s[pos]'h).toNat 128 with ha | ha
  · rw [dec_low s pos h ha]
    dsimp only
    by_cases hb : barredL (s[pos]'h) = true
    · refine .inr ⟨?_, List.any_eq_true.2 ⟨s[pos]'h, by exact Array.getElem_mem_toList (xs := s.data) h, hb⟩⟩
      unfold barAt
      rcases (barred_nat _).1 hb with e | e
      · rw [if_pos e]; exact Int.le_refl _
      · rw [if_neg (by omega), if_pos e]; decide
    · have hb' : barredL (s[pos]'h) = false := by simpa using hb
      refine .inl ⟨?_, by rw [take_one s pos h, List.any_append, hn]; simp [hb'], by omega, Nat.le_refl _⟩
      have hx : ¬ ((s[pos]'h).toNat = 47 ∨ (s[pos]'h).toNat = 0) := fun e => hb ((barred_nat _).2 e)
      unfold barAt
      rw [if_neg (fun e => hx (.inl e)), if_neg (fun e => hx (.inr e))]
  · obtain ⟨h1, h2⟩ := decode_high s pos h ha
    have h3 := (dec_high s pos h ha).1
    obtain ⟨r, _, r2, r3⟩ := dec_list s pos h ha
    refine .inl ⟨by unfold barAt; rw [if_neg (by omega), if_neg (by omega)], ?_, h3, h2⟩
    rw [r3, List.any_append, hn, Bool.false_or, List.any_eq_false]
    intro c hc hx
    have := r2 c hc
    rcases (barred_nat c).1 hx with e | e <;> omega

theorem iter_below {w w' : World} {k : Nat} {s : ByteArray} {pos : Nat} (h : w.heap[k]? = some (.stringIter s pos)) (hb : Below w.heap.size w w') : w'.heap[k]? = some (.stringIter s pos) :=
  (hb.block k (Array.getElem?_eq_some_iff.1 h).1).trans h
def AnyIs (l : List UInt8) (e : Ending) (w w' : World) : Prop := ∃ k : Int, e = .returned (.int .i64 k) ∧ decide (0 ≤ k) = l.any barredL ∧ Below w.heap.size w w'
theorem bar_in (c : UInt8) : barS.data.toList.contains c = barredL c := by
  show List.contains [47, 0] c = _
  unfold barredL
  rw [Bool.eq_iff_iff]
  simp
end Go.Proofs.Ythpcldmhamjnbaa
namespace Go.Proofs.Ythpcldmhamjnbaa
open Go.RowKit Go.Shelf

theorem legal_err {s : Nm} (h : s = [] ∨ s = [46] ∨ s = [46, 46] ∨ s.any barredL = true) : legalL s = 1 := if_pos h
theorem legal_long {s : Nm} (h : ¬ (s = [] ∨ s = [46] ∨ s = [46, 46] ∨ s.any barredL = true)) (hl : 12 < s.length) : legalL s = 9 := by unfold legalL; rw [if_neg h, if_pos hl]
theorem legal_ok {s : Nm} (h : ¬ (s = [] ∨ s = [46] ∨ s = [46, 46] ∨ s.any barredL = true)) (hl : ¬ 12 < s.length) : legalL s = 0 := by unfold legalL; rw [if_neg h, if_neg hl]
theorem empty_false {s : Nm} (h : s ≠ []) : s.isEmpty = false := by cases s with | nil => exact absurd rfl h | cons a l => rfl
theorem beq_list_false {a b : Nm} (h : a ≠ b) : (a == b) = false := by rw [beq_eq_false_iff_ne]; exact h

theorem any_take8 (s : Nm) (p : UInt8 → Bool) (k : Nat) (h : k < s.length) : (s.take (k + 1)).any p = ((s.take k).any p || p s[k]) := by
  rw [List.take_succ_eq_append_getElem h, List.any_append]
  simp
end Go.Proofs.Ythpcldmhamjnbaa
namespace Go.Proofs.Ythpcldmhamjnbaa
open Go.RowKit Go.Shelf
attribute [local go_sem ↓] Go.wp_at_zero Go.wp_at_succ

/-- Entries in a row of cells. -/
def ents (l : List EntL) : List Value := l.flatMap fun e => [.string (bs e.1), .int .i64 e.2]
theorem ents_len (l : List EntL) : (ents l).length = l.length * 2 := by
  induction l with
  | nil => rfl
  | cons e l ih => simp [ents] at ih ⊢; omega
theorem ents_app (a b : List EntL) : ents (a ++ b) = ents a ++ ents b := by simp [ents]
theorem ents_at0 (l : List EntL) (k : Nat) (h : k < l.length) : (ents l)[k * 2]? = some (.string (bs (l[k]).1)) := by
  induction l generalizing k with
  | nil => simp at h
  | cons f l ih =>
    cases k with
    | zero => rfl
    | succ k =>
      have := ih k (by simpa using h)
      rw [show (k + 1) * 2 = k * 2 + 2 by omega]
      simpa [ents] using this
theorem ents_at1 (l : List EntL) (k : Nat) (h : k < l.length) : (ents l)[k * 2 + 1]? = some (.int .i64 (l[k]).2) := by
  induction l generalizing k with
  | nil => simp at h
  | cons f l ih =>
    cases k with
    | zero => rfl
    | succ k =>
      have := ih k (by simpa using h)
      rw [show (k + 1) * 2 + 1 = k * 2 + 1 + 2 by omega]
      simpa [ents] using this
theorem ents_one (l : List EntL) : ∀ u ∈ ents l, u.oneCell' = true := by
  intro u hu
  obtain ⟨e, _, h⟩ := List.mem_flatMap.1 hu
  simp only [List.mem_cons, List.not_mem_nil, or_false] at h
  rcases h with rfl | rfl <;> rfl
/-- Names that fit in memory. -/
def Fit (l : List EntL) : Prop := ∀ e ∈ l, e.1.length ≤ maxLen
theorem bless (a b : Nm) : Op.bytesLess a b = decide (a < b) := by
  induction a generalizing b with
  | nil => cases b <;> simp [Op.bytesLess]
  | cons x a ih =>
    cases b with
    | nil => simp [Op.bytesLess]
    | cons y b =>
      rw [Op.bytesLess, ih, Bool.eq_iff_iff, decide_eq_true_iff, List.cons_lt_cons_iff]
      simp
theorem bless_yes {a b : Nm} (h : a < b) : Op.bytesLess a b = true := by rw [bless]; simpa using h
theorem bless_no {a b : Nm} (h : ¬ a < b) : Op.bytesLess a b = false := by rw [bless]; simpa using h
theorem leq_ways {a b : Nm} (h : ¬ b < a) : (Op.bytesLess a b = true ∧ (a == b) = false) ∨ (Op.bytesLess a b = false ∧ (a == b) = true) := by
  by_cases e : a < b
  · exact .inl ⟨bless_yes e, beq_list_false (lt_ne e)⟩
  · refine .inr ⟨bless_no e, ?_⟩
    rw [lt_eq e h]; simp

def SortIs (l : List EntL) (e : Ending) (w w' : World) : Prop := e = .returned (.bool (decide (SortedP l))) ∧ Below w.heap.size w w'
theorem not_legal {l : List EntL} {k : Nat} (h : k < l.length) (hl : legalL l[k].1 ≠ 0) : decide (SortedP l) = false := by
  rw [decide_eq_false_iff_not]
  exact fun hs => hl (hs.1 _ (List.getElem_mem h))
theorem not_order {l : List EntL} {j : Nat} (h : j + 1 < l.length) (hl : ¬ (l[j]'(by omega)).1 < l[j + 1].1) : decide (SortedP l) = false := by
  rw [decide_eq_false_iff_not]
  exact fun hs => hl (sorted_order hs h rfl)
end Go.Proofs.Ythpcldmhamjnbaa
namespace Go.Proofs.Ythpcldmhamjnbaa
open Go.RowKit Go.Shelf
attribute [local go_sem ↓] Go.wp_at_zero Go.wp_at_succ

theorem infoREnt : (Try.prog.info? 76).map (fun i => (i.zero, i.size, i.bytes)) = some (some (.agg #[.string ⟨#[]⟩, .int .i64 0]), 2, 24) := by kernel_rfl
theorem eqEnt (x y : EntL) (w : World) : (Op.equalIn 10000 76 (.agg #[.string (bs x.1), .int .i64 x.2]) (.agg #[.string (bs y.1), .int .i64 y.2])).run Try.prog w = .ok (decide (x = y)) w := by
  have u3 := Try.underlying3
  have u9 := Try.underlying9
  have a3 := Try.isAgg3
  have a9 := Try.isAgg9
  have hS : Try.prog.underlying 76 = some (.struct (Try.prog.fieldsOf 76)) := by kernel_rfl
  rw [show (10000 : Nat) = 9998 + 1 + 1 from rfl, run_equalIn_agg w (9998 + 1) 76 _ _ hS (by kernel_rfl)]
  simp only [Program.fieldsOf, Try.underlying76]
  go_simp
  obtain ⟨x1, x2⟩ := x
  obtain ⟨y1, y2⟩ := y
  by_cases h1 : x1 = y1 <;> by_cases h2 : x2 = y2 <;> simp [h1, h2]
theorem entGuard : Try.prog.eqGuardType Try.prog.depth 76 = false := by kernel_rfl
/-- Are the first k the same? -/
def sameTo {α : Type} [DecidableEq α] (a b : List α) (k : Nat) : Prop := a.take k = b.take k
theorem sameTo_succ {α : Type} [DecidableEq α] {a b : List α} {k : Nat} (h : sameTo a b k) (ha : k < a.length) (hb : k < b.length) (e : a[k] = b[k]) : sameTo a b (k + 1) := by
  unfold sameTo at h ⊢
  rw [List.take_succ_eq_append_getElem ha, List.take_succ_eq_append_getElem hb, h, e]
set_option maxRecDepth 100000 in
set_option maxHeartbeats 1000000 in
theorem same_any (B : Nat) (va vb : Value) (a b : List EntL) (w : World) (hva : Rd B 2 va a.length (ents a) w) (hvb : Rd B 2 vb b.length (ents b) w) (ha : a.length ≤ 10000000) (hb : b.length ≤ 10000000) :
    Calls Try.prog 39 #[va, vb] w fun e w' => e = .returned (.bool (decide (a = b))) ∧ ∃ n, w' = w.drewN n := by
  obtain ⟨aoa, capa, rfl, _, _⟩ := hva.form
  obtain ⟨aob, capb, rfl, _, _⟩ := hvb.form
  have HVA := Lib.hid hva
  have HVB := Lib.hid hvb
  clear hva hvb
  by_cases hl : a.length = b.length
  · have hI : ((a.length : Int) != (b.length : Int)) = false := by rw [hl]; simp
    have HL := Lib.hid hl
    have hle1 : a.length ≤ b.length := by omega
    have hle2 : b.length ≤ a.length := by omega
    clear hl
    go_enter Try.func39, Try.ntmps39
    go_wp2_with fail
    go_loopw [5] (fun i wr => ∃ k n : Nat, i = .int .i64 k ∧ k ≤ a.length ∧ Hid (sameTo a b k) ∧ wr = w.drewN n) (fun i _ => a.length - (intOf i).toNat)
    case atStart => exact ⟨0, 0, rfl, Nat.zero_le _, Lib.hid rfl, rfl⟩
    case round =>
      obtain ⟨k, n, rfl, hk, hs, rfl⟩ := hrel
      by_cases hlt : k < a.length
      · have hltb : k < b.length := by omega
        obtain ⟨ba, offa, capa', ea, _, _, _, _, hca⟩ := HVA.out.at (by omega)
        obtain ⟨bb, offb, capb', eb, _, _, _, _, hcb⟩ := HVB.out.at (by omega)
        injection ea with ea1 _ ea2
        injection eb with eb1 _ eb2
        subst ea1 ea2 eb1 eb2
        have hc0 := hca _ _ (ents_at0 a k hlt)
        have hc1 := hcb _ _ (ents_at0 b k hltb)
        have hc2 : w.cell? ⟨ba, offa + k * 2 + 1, none⟩ = _ := hca (k * 2 + 1) _ (ents_at1 a k hlt)
        have hc3 : w.cell? ⟨bb, offb + k * 2 + 1, none⟩ = _ := hcb (k * 2 + 1) _ (ents_at1 b k hltb)
        have k0 : (0 : Int) ≤ (k : Int) := by omega
        have k1 : (k : Int) < (a.length : Int) := by omega
        have k2 : (k : Int) < (b.length : Int) := by omega
        clear hca hcb
        have heq := eqEnt a[k] b[k]
        have hgd := entGuard
        by_cases hq : a[k] = b[k]
        · have hs' := Lib.hid (sameTo_succ hs.out hlt hltb hq)
          have hI2 : decide (a[k] = b[k]) = true := by simpa using hq
          rw [hI2] at heq
          clear hq hI2
          go_wp2_with fail
          go_quiet (fail)
          go_wp2_with fail
          go_roundw
          case rel => exact ⟨k + 1, n + nq, by go_num, hlt, hs', by first | rfl | exact drewN_two w n nq⟩
          case measure => simp [intOf]; omega
        · have H : Hid (decide (a = b) = false) := Lib.hid (by rw [decide_eq_false_iff_not]; intro e; subst e; exact hq rfl)
          have hI2 : decide (a[k] = b[k]) = false := by simpa using hq
          rw [hI2] at heq
          clear hq hI2
          go_wp2_with fail
          go_quiet (fail)
          go_wp2_with fail
          go_ret
          exact ⟨ret_bool H.out.symm, n + nq, by first | rfl | exact drewN_two w n nq⟩
      · have hke : k = a.length := by omega
        have H : Hid (decide (a = b) = true) := Lib.hid (by
          rw [decide_eq_true_iff]
          have := hs.out
          unfold sameTo at this
          rwa [hke, List.take_length, HL.out, List.take_length] at this)
        have hI2 : decide (k < a.length) = false := by simp; omega
        clear hke hlt
        go_wp2_with fail
        go_ret
        exact ⟨ret_bool H.out.symm, n, rfl⟩
  · have hI : ((a.length : Int) != (b.length : Int)) = true := by rw [bne_iff_ne]; omega
    have H : Hid (decide (a = b) = false) := Lib.hid (by rw [decide_eq_false_iff_not]; intro e; exact hl (by rw [e]))
    clear hl
    go_enter Try.func39, Try.ntmps39
    go_wp2_with fail
    go_ret
    exact ⟨ret_bool H.out.symm, 0, rfl⟩
end Go.Proofs.Ythpcldmhamjnbaa
namespace Go.Proofs.Ythpcldmhamjnbaa
open Go.RowKit Go.Shelf
attribute [local go_sem ↓] Go.wp_at_zero Go.wp_at_succ

end Go.Proofs.Ythpcldmhamjnbaa
