/-
  Names of a directory, plainly: which names may be; what is found, put and dropped.
-/
import Derived.Lib.Strings
namespace Go.Proofs.Ytknjmdgnbhohdaa

abbrev Nm := List UInt8
abbrev EntL := Nm × Int

theorem lt_irr (a : Nm) : ¬ a < a := List.lt_irrefl a
theorem lt_tr {a b c : Nm} (h : a < b) (g : b < c) : a < c := List.lt_trans h g
theorem lt_as {a b : Nm} (h : a < b) : ¬ b < a := List.lt_asymm h
theorem lt_eq {a b : Nm} (h : ¬ a < b) (g : ¬ b < a) : a = b := List.le_antisymm (List.not_lt.1 g) (List.not_lt.1 h)
theorem lt_ne {a b : Nm} (h : a < b) : a ≠ b := fun e => by subst e; exact lt_irr _ h
theorem le_lt {a b c : Nm} (h : ¬ b < a) (g : b < c) : a < c := by
  by_cases e : a < b
  · exact lt_tr e g
  · obtain rfl := lt_eq e h
    exact g
theorem lt_le {a b c : Nm} (h : a < b) (g : ¬ c < b) : a < c := by
  by_cases e : b < c
  · exact lt_tr h e
  · obtain rfl := lt_eq e g
    exact h

/-- The bytes that no name has. -/
def barredL (c : UInt8) : Bool := c == 47 || c == 0
def legalL (s : Nm) : Int := if s = [] ∨ s = [46] ∨ s = [46, 46] ∨ s.any barredL = true then 1 else if 12 < s.length then 9 else 0
theorem legal_len {s : Nm} (h : legalL s = 0) : s.length ≤ 12 := by
  unfold legalL at h
  split at h
  · cases h
  · split at h
    · cases h
    · omega

def Up (l : List EntL) : Prop := l.Pairwise fun a b => a.1 < b.1
def SortedP (l : List EntL) : Prop := (∀ e ∈ l, legalL e.1 = 0) ∧ Up l
instance (l : List EntL) : Decidable (SortedP l) := by unfold SortedP Up; infer_instance

theorem SortedP.sub {l m : List EntL} (h : SortedP l) (hs : List.Sublist m l) : SortedP m :=
  ⟨fun e he => h.1 e (hs.subset he), h.2.sublist hs⟩
theorem sorted_nil : SortedP [] := ⟨fun _ h => (by cases h), List.Pairwise.nil⟩
/-- One entry more of the beginning of a list. -/
theorem sorted_succ {l : List EntL} {k : Nat} (h : k < l.length) (hs : SortedP (l.take k)) (hl : legalL l[k].1 = 0) (ho : ∀ j (hj : j < l.length), k = j + 1 → l[j].1 < l[k].1) : SortedP (l.take (k + 1)) := by
  rw [List.take_succ_eq_append_getElem h]
  refine ⟨fun e he => ?_, ?_⟩
  · rcases List.mem_append.1 he with he | he
    · exact hs.1 e he
    · obtain rfl := List.mem_singleton.1 he
      exact hl
  · refine List.pairwise_append.2 ⟨hs.2, List.pairwise_singleton _ _, fun a ha b hb => ?_⟩
    obtain rfl := List.mem_singleton.1 hb
    obtain ⟨i, hi, rfl⟩ := List.mem_iff_getElem.1 ha
    rw [List.length_take] at hi
    have hik : i < k := by omega
    obtain ⟨j, rfl⟩ : ∃ j, k = j + 1 := ⟨k - 1, by omega⟩
    have h1 := ho j (by omega) rfl
    rw [List.getElem_take]
    rcases Nat.lt_or_ge i j with h2 | h2
    · have := List.pairwise_iff_getElem.1 hs.2 i j (by rw [List.length_take]; omega) (by rw [List.length_take]; omega) h2
      rw [List.getElem_take, List.getElem_take] at this
      exact lt_tr this h1
    · obtain rfl : i = j := by omega
      exact h1
theorem sorted_order {l : List EntL} (hs : SortedP l) {j k : Nat} (hk : k < l.length) (h : k = j + 1) : (l[j]'(by omega)).1 < l[k].1 :=
  List.pairwise_iff_getElem.1 hs.2 j k (by omega) hk (by omega)

/-- What is below a name, and what is above it. -/
def lo (l : List EntL) (n : Nm) : List EntL := l.filter fun e => decide (e.1 < n)
def hi (l : List EntL) (n : Nm) : List EntL := l.filter fun e => decide (n < e.1)
def mid (n : Nm) : Option Int → List EntL
  | none => []
  | some i => [(n, i)]
def findL (l : List EntL) (n : Nm) : Option Int := (l.find? fun e => e.1 == n).map (·.2)
def dropL (l : List EntL) (n : Nm) : List EntL := l.filter fun e => !(e.1 == n)
def putL (l : List EntL) (e : EntL) : List EntL := lo l e.1 ++ e :: hi l e.1

theorem mem_lo {l : List EntL} {n : Nm} {e : EntL} : e ∈ lo l n ↔ e ∈ l ∧ e.1 < n := by simp [lo]
theorem mem_hi {l : List EntL} {n : Nm} {e : EntL} : e ∈ hi l n ↔ e ∈ l ∧ n < e.1 := by simp [hi]
theorem mid_name {n : Nm} {m : Option Int} {e : EntL} (h : e ∈ mid n m) : e.1 = n := by
  cases m with
  | none => cases h
  | some i => obtain rfl := List.mem_singleton.1 h; rfl
theorem find_skip (a m c : List EntL) (o : Nm) (hm : ∀ e ∈ m, e.1 ≠ o) : findL (a ++ m ++ c) o = findL (a ++ c) o := by
  have : m.find? (fun e => e.1 == o) = none := List.find?_eq_none.2 fun e he => by simpa using hm e he
  unfold findL
  rw [List.find?_append, List.find?_append, List.find?_append, this, Option.or_none]
theorem find_parts (a c : List EntL) (n : Nm) (m : Option Int) (ha : ∀ e ∈ a, e.1 ≠ n) (hc : ∀ e ∈ c, e.1 ≠ n) : findL (a ++ mid n m ++ c) n = m := by
  have h1 : a.find? (fun e => e.1 == n) = none := List.find?_eq_none.2 fun e he => by simpa using ha e he
  have h2 : c.find? (fun e => e.1 == n) = none := List.find?_eq_none.2 fun e he => by simpa using hc e he
  unfold findL
  rw [List.find?_append, List.find?_append, h1, h2, Option.or_none, Option.none_or]
  cases m with
  | none => rfl
  | some i => simp [mid]
theorem up_parts {l : List EntL} (h : Up l) (n : Nm) : ∃ m, l = lo l n ++ mid n m ++ hi l n := by
  induction l with
  | nil => exact ⟨none, rfl⟩
  | cons a r ih =>
    obtain ⟨h1, h2⟩ := List.pairwise_cons.1 h
    by_cases ha : a.1 < n
    · obtain ⟨m, hm⟩ := ih h2
      refine ⟨m, ?_⟩
      have e1 : lo (a :: r) n = a :: lo r n := by simp [lo, ha]
      have e2 : hi (a :: r) n = hi r n := by simp [hi, lt_as ha]
      rw [e1, e2, List.cons_append, List.cons_append, ← hm]
    · have hr : ∀ e ∈ r, n < e.1 := fun e he => le_lt ha (h1 e he)
      have e3 : lo r n = [] := List.filter_eq_nil_iff.2 fun e he => by simpa using lt_as (hr e he)
      have e4 : hi r n = r := List.filter_eq_self.2 fun e he => by simpa using hr e he
      have e1 : lo (a :: r) n = [] := by
        have : lo (a :: r) n = lo r n := by simp [lo, ha]
        rw [this, e3]
      by_cases hb : n < a.1
      · refine ⟨none, ?_⟩
        have e2 : hi (a :: r) n = a :: r := by
          have : hi (a :: r) n = a :: hi r n := by simp [hi, hb]
          rw [this, e4]
        rw [e1, e2]
        rfl
      · obtain ⟨x, i⟩ := a
        obtain rfl : x = n := lt_eq ha hb
        refine ⟨some i, ?_⟩
        have e2 : hi ((x, i) :: r) x = r := by
          have : hi ((x, i) :: r) x = hi r x := by simp [hi]
          rw [this, e4]
        rw [e1, e2]
        rfl
/-- A list that rises: what is below, the entry of that name if there is one, what is above. -/
theorem parts {l : List EntL} (h : Up l) (n : Nm) : l = lo l n ++ mid n (findL l n) ++ hi l n := by
  obtain ⟨m, hm⟩ := up_parts h n
  have := find_parts (lo l n) (hi l n) n m (fun e he => lt_ne (mem_lo.1 he).2) fun e he => (lt_ne (mem_hi.1 he).2).symm
  rw [← hm] at this
  rw [this]
  exact hm
theorem drop_parts {l : List EntL} (h : Up l) (n : Nm) : dropL l n = lo l n ++ hi l n := by
  have h0 := parts h n
  have e1 : (lo l n).filter (fun e => !(e.1 == n)) = lo l n := List.filter_eq_self.2 fun e he => by simpa using lt_ne (mem_lo.1 he).2
  have e2 : (hi l n).filter (fun e => !(e.1 == n)) = hi l n := List.filter_eq_self.2 fun e he => by simpa using (lt_ne (mem_hi.1 he).2).symm
  have e3 : (mid n (findL l n)).filter (fun e => !(e.1 == n)) = [] := List.filter_eq_nil_iff.2 fun e he => by simp [mid_name he]
  have : dropL l n = (lo l n ++ mid n (findL l n) ++ hi l n).filter (fun e => !(e.1 == n)) := by
    unfold dropL
    exact congrArg _ h0
  rw [this, List.filter_append, List.filter_append, e1, e2, e3, List.append_nil]
theorem put_mid (l : List EntL) (n : Nm) (i : Int) : putL l (n, i) = lo l n ++ mid n (some i) ++ hi l n := by simp [putL, mid]
theorem up_put {l : List EntL} (h : Up l) (e : EntL) : Up (putL l e) := by
  refine List.pairwise_append.2 ⟨h.sublist List.filter_sublist, List.pairwise_cons.2 ⟨fun b hb => (mem_hi.1 hb).2, h.sublist List.filter_sublist⟩, fun a ha b hb => ?_⟩
  have h1 := (mem_lo.1 ha).2
  rcases List.mem_cons.1 hb with rfl | hb
  · exact h1
  · exact lt_tr h1 (mem_hi.1 hb).2
theorem sorted_put {l : List EntL} (h : SortedP l) (e : EntL) (he : legalL e.1 = 0) : SortedP (putL l e) := by
  refine ⟨fun a ha => ?_, up_put h.2 e⟩
  rcases List.mem_append.1 ha with ha | ha
  · exact h.1 a (mem_lo.1 ha).1
  · rcases List.mem_cons.1 ha with rfl | ha
    · exact he
    · exact h.1 a (mem_hi.1 ha).1
theorem sorted_drop {l : List EntL} (h : SortedP l) (n : Nm) : SortedP (dropL l n) := h.sub List.filter_sublist
theorem find_put (l : List EntL) (n : Nm) (i : Int) : findL (putL l (n, i)) n = some i := by
  rw [put_mid]
  exact find_parts _ _ _ _ (fun e he => lt_ne (mem_lo.1 he).2) fun e he => (lt_ne (mem_hi.1 he).2).symm
theorem find_put_other {l : List EntL} (h : Up l) (n o : Nm) (i : Int) (ho : o ≠ n) : findL (putL l (n, i)) o = findL l o := by
  rw [put_mid, find_skip _ _ _ _ fun e he => by rw [mid_name he]; exact ho.symm]
  have := find_skip (lo l n) (mid n (findL l n)) (hi l n) o fun e he => by rw [mid_name he]; exact ho.symm
  rw [← parts h n] at this
  exact this.symm
theorem drop_put {l : List EntL} (h : Up l) (n : Nm) (i : Int) : dropL (putL l (n, i)) n = dropL l n := by
  have e1 : (lo l n).filter (fun e => !(e.1 == n)) = lo l n := List.filter_eq_self.2 fun e he => by simpa using lt_ne (mem_lo.1 he).2
  have e2 : (hi l n).filter (fun e => !(e.1 == n)) = hi l n := List.filter_eq_self.2 fun e he => by simpa using (lt_ne (mem_hi.1 he).2).symm
  rw [drop_parts h]
  show (putL l (n, i)).filter _ = _
  rw [put_mid, List.filter_append, List.filter_append, e1, e2]
  simp [mid]
theorem find_drop (l : List EntL) (n : Nm) : findL (dropL l n) n = none := by
  unfold findL
  rw [Option.map_eq_none_iff, List.find?_eq_none]
  intro e he
  have := (List.mem_filter.1 he).2
  simpa using this
theorem len_put {l : List EntL} (h : Up l) (e : EntL) : (putL l e).length = (dropL l e.1).length + 1 := by
  rw [drop_parts h]
  simp [putL]
  omega
theorem len_drop {l : List EntL} (h : Up l) (n : Nm) : (dropL l n).length + (if (findL l n).isSome then 1 else 0) = l.length := by
  have h0 := congrArg List.length (parts h n)
  rw [drop_parts h]
  rw [List.length_append, List.length_append] at h0
  rw [List.length_append, h0]
  cases findL l n with
  | none => simp [mid]
  | some i => simp [mid]; omega
theorem filter_two (l : List EntL) (p q r : EntL → Bool) (h : ∀ e, (p e && q e) = r e) : (l.filter p).filter q = l.filter r := by
  rw [List.filter_filter]
  exact List.filter_congr fun e _ => by rw [Bool.and_comm]; exact h e
theorem put_lt (l : List EntL) (x y : EntL) (h : x.1 < y.1) : putL (putL l x) y = lo l x.1 ++ x :: ((lo (hi l x.1) y.1) ++ y :: hi l y.1) := by
  have e1 : lo (putL l x) y.1 = lo l x.1 ++ x :: lo (hi l x.1) y.1 := by
    have : lo (lo l x.1) y.1 = lo l x.1 := List.filter_eq_self.2 fun e he => by simpa using lt_tr (mem_lo.1 he).2 h
    show (lo l x.1 ++ x :: hi l x.1).filter _ = _
    rw [List.filter_append]
    rw [show (lo l x.1).filter (fun e => decide (e.1 < y.1)) = lo l x.1 from this]
    rw [List.filter_cons_of_pos (by simpa using h)]
    rfl
  have e2 : hi (putL l x) y.1 = hi l y.1 := by
    show (lo l x.1 ++ x :: hi l x.1).filter _ = _
    rw [List.filter_append, List.filter_eq_nil_iff.2 (fun e he => by simpa using lt_as (lt_tr (mem_lo.1 he).2 h)), List.filter_cons_of_neg (by simpa using lt_as h), List.nil_append]
    refine filter_two _ _ _ _ fun e => ?_
    by_cases he : y.1 < e.1
    · simp [he, lt_tr h he]
    · simp [he]
  show lo (putL l x) y.1 ++ y :: hi (putL l x) y.1 = _
  rw [e1, e2, List.append_assoc, List.cons_append]
theorem put_gt (l : List EntL) (x y : EntL) (h : x.1 < y.1) : putL (putL l y) x = lo l x.1 ++ x :: ((lo (hi l x.1) y.1) ++ y :: hi l y.1) := by
  have e1 : lo (putL l y) x.1 = lo l x.1 := by
    show (lo l y.1 ++ y :: hi l y.1).filter _ = _
    rw [List.filter_append, List.filter_cons_of_neg (by simpa using lt_as h), show (hi l y.1).filter (fun e => decide (e.1 < x.1)) = [] from List.filter_eq_nil_iff.2 (fun e he => by simpa using lt_as (lt_tr h (mem_hi.1 he).2)), List.append_nil]
    refine filter_two _ _ _ _ fun e => ?_
    by_cases he : e.1 < x.1
    · simp [he, lt_tr he h]
    · simp [he]
  have e2 : hi (putL l y) x.1 = lo (hi l x.1) y.1 ++ y :: hi l y.1 := by
    show (lo l y.1 ++ y :: hi l y.1).filter _ = _
    rw [List.filter_append, List.filter_cons_of_pos (by simpa using h), show (hi l y.1).filter (fun e => decide (x.1 < e.1)) = hi l y.1 from List.filter_eq_self.2 (fun e he => by simpa using lt_tr h (mem_hi.1 he).2)]
    congr 1
    show (List.filter _ _).filter _ = (List.filter _ _).filter _
    rw [List.filter_filter, List.filter_filter]
    exact List.filter_congr fun e _ => Bool.and_comm _ _
  show lo (putL l y) x.1 ++ x :: hi (putL l y) x.1 = _
  rw [e1, e2]
theorem put_put (l : List EntL) (x y : EntL) (h : x.1 ≠ y.1) : putL (putL l x) y = putL (putL l y) x := by
  by_cases h1 : x.1 < y.1
  · rw [put_lt l x y h1, put_gt l x y h1]
  · by_cases h2 : y.1 < x.1
    · rw [put_lt l y x h2, put_gt l y x h2]
    · exact absurd (lt_eq h1 h2) h
theorem put_again (l : List EntL) (x y : EntL) (h : x.1 = y.1) : putL (putL l x) y = putL l y := by
  have e1 : lo (putL l x) y.1 = lo l y.1 := by
    rw [← h]
    show (lo l x.1 ++ x :: hi l x.1).filter _ = _
    rw [List.filter_append, List.filter_cons_of_neg (by simp), show (hi l x.1).filter (fun e => decide (e.1 < x.1)) = [] from List.filter_eq_nil_iff.2 (fun e he => by simpa using lt_as (mem_hi.1 he).2), List.append_nil]
    exact List.filter_eq_self.2 fun e he => by simpa using (mem_lo.1 he).2
  have e2 : hi (putL l x) y.1 = hi l y.1 := by
    rw [← h]
    show (lo l x.1 ++ x :: hi l x.1).filter _ = _
    rw [List.filter_append, List.filter_cons_of_neg (by simp), show (lo l x.1).filter (fun e => decide (x.1 < e.1)) = [] from List.filter_eq_nil_iff.2 (fun e he => by simpa using lt_as (mem_lo.1 he).2), List.nil_append]
    exact List.filter_eq_self.2 fun e he => by simpa using (mem_hi.1 he).2
  show lo (putL l x) y.1 ++ y :: hi (putL l x) y.1 = _
  rw [e1, e2]
  rfl
theorem put_put_len (l : List EntL) (x y : EntL) (h : x.1 ≠ y.1) : 2 ≤ (putL (putL l x) y).length := by
  by_cases h1 : x.1 < y.1
  · rw [put_lt l x y h1]; simp; omega
  · by_cases h2 : y.1 < x.1
    · rw [put_put l x y h, put_lt l y x h2]; simp; omega
    · exact absurd (lt_eq h1 h2) h
theorem put_len (l : List EntL) (e : EntL) : (putL l e).length ≤ l.length + l.length + 1 := by
  have h1 := List.length_filter_le (fun a : EntL => decide (a.1 < e.1)) l
  have h2 := List.length_filter_le (fun a : EntL => decide (e.1 < a.1)) l
  simp only [putL, lo, hi, List.length_append, List.length_cons]
  omega
theorem put_len_up {l : List EntL} (h : Up l) (e : EntL) : (putL l e).length ≤ l.length + 1 := by
  have h1 := len_put h e
  have h2 := len_drop h e.1
  omega
theorem find_at {l : List EntL} (h : Up l) (k : Nat) (hk : k < l.length) : findL l l[k].1 = some l[k].2 := by
  have hm : l[k] ∈ l := List.getElem_mem hk
  generalize l[k] = x at *
  obtain ⟨n, i⟩ := x
  rw [parts h n] at hm
  rcases List.mem_append.1 hm with hm | hm
  · rcases List.mem_append.1 hm with hm | hm
    · exact absurd (mem_lo.1 hm).2 (lt_irr n)
    · cases hf : findL l n with
      | none => rw [hf] at hm; cases hm
      | some j =>
        rw [hf] at hm
        have := List.mem_singleton.1 hm
        injection this with _ e
        show some j = some i
        rw [e]
  · exact absurd (mem_hi.1 hm).2 (lt_irr n)
theorem find_isSome (l : List EntL) (n : Nm) : (findL l n).isSome = l.any fun e => e.1 == n := by
  unfold findL
  rw [Option.isSome_map, Bool.eq_iff_iff, List.find?_isSome, List.any_eq_true]
/-- The document's putting, part by part. -/
theorem put_lo (l : List EntL) (n : Nm) : (dropL l n).filter (fun e => decide (e.1 < n)) = lo l n := by
  refine filter_two _ _ _ _ fun e => ?_
  by_cases h : e.1 < n
  · simp [h, lt_ne h]
  · simp [h]
theorem put_hi (l : List EntL) (n : Nm) : (dropL l n).filter (fun e => decide (n < e.1)) = hi l n := by
  refine filter_two _ _ _ _ fun e => ?_
  by_cases h : n < e.1
  · simp [h, (lt_ne h).symm]
  · simp [h]

/-- How many are below a name, counted by places. -/
theorem count_at (q : EntL → Bool) (l : List EntL) (d : EntL) : (List.range l.length).countP (fun i => q (l.getD i d)) = (l.filter q).length := by
  have : (List.range l.length).map (fun i => l.getD i d) = l := by
    apply List.ext_getElem
    · simp
    · intro i h1 h2
      simp [h2]
  rw [← List.countP_eq_length_filter]
  conv => rhs; rw [← this]
  rw [List.countP_map]
  rfl
theorem up_le {l : List EntL} (h : Up l) {a b : Nat} (hab : a ≤ b) (hb : b < l.length) (n : Nm) (d : EntL) (hn : ¬ (l.getD a d).1 < n) : ¬ (l.getD b d).1 < n := by
  have ha : a < l.length := by omega
  rw [List.getD_eq_getElem?_getD, List.getElem?_eq_getElem ha] at hn
  rw [List.getD_eq_getElem?_getD, List.getElem?_eq_getElem hb]
  simp only [Option.getD_some] at hn ⊢
  rcases Nat.lt_or_eq_of_le hab with hlt | rfl
  · have := List.pairwise_iff_getElem.1 h a b ha hb hlt
    intro hx
    exact hn (lt_tr this hx)
  · exact hn
/-- The entry behind those that are below a name. -/
theorem at_lo {l : List EntL} (h : Up l) (n : Nm) (hk : (lo l n).length < l.length) : (∃ i, findL l n = some i ∧ l[(lo l n).length] = (n, i)) ∨ (findL l n = none ∧ l[(lo l n).length].1 ≠ n) := by
  have h0 := parts h n
  cases hf : findL l n with
  | some i =>
    refine .inl ⟨i, rfl, ?_⟩
    have : l[(lo l n).length]? = some (n, i) := by
      rw [hf] at h0
      have : ∀ a c : List EntL, (a ++ [(n, i)] ++ c)[a.length]? = some (n, i) := fun a c => by simp
      have := this (lo l n) (hi l n)
      rwa [show lo l n ++ [(n, i)] ++ hi l n = l from h0.symm] at this
    rw [List.getElem?_eq_getElem hk] at this
    exact Option.some.inj this
  | none =>
    refine .inr ⟨rfl, ?_⟩
    have hm : l[(lo l n).length] ∈ hi l n := by
      have h1 : l[(lo l n).length]? = (hi l n)[0]? := by
        rw [hf] at h0
        have h2 : l = lo l n ++ hi l n := by simpa [mid] using h0
        have : ∀ a c : List EntL, (a ++ c)[a.length]? = c[0]? := fun a c => by rw [List.getElem?_append_right (Nat.le_refl _), Nat.sub_self]
        rw [← this (lo l n) (hi l n), ← h2]
      rw [List.getElem?_eq_getElem hk] at h1
      exact List.mem_of_getElem? h1.symm
    exact (lt_ne (mem_hi.1 hm).2).symm
theorem lo_len (l : List EntL) (n : Nm) : (lo l n).length ≤ l.length := List.length_filter_le _ _
theorem take_lo {l : List EntL} (h : Up l) (n : Nm) : l.take (lo l n).length = lo l n := by
  have h0 := parts h n
  have : ∀ a c d : List EntL, (a ++ c ++ d).take a.length = a := fun a c d => by simp
  have := this (lo l n) (mid n (findL l n)) (hi l n)
  rwa [← h0] at this
theorem drop_hi {l : List EntL} (h : Up l) (n : Nm) : l.drop ((lo l n).length + (mid n (findL l n)).length) = hi l n := by
  have h0 := parts h n
  have : ∀ a c d : List EntL, (a ++ c ++ d).drop (a.length + c.length) = d := fun a c d => by simp
  have := this (lo l n) (mid n (findL l n)) (hi l n)
  rwa [← h0] at this
theorem end_le {l : List EntL} (h : Up l) (n : Nm) : (lo l n).length + (mid n (findL l n)).length ≤ l.length := by
  have h0 := congrArg List.length (parts h n)
  rw [List.length_append, List.length_append] at h0
  omega
theorem mid_len (n : Nm) (m : Option Int) : (mid n m).length = if m.isSome then 1 else 0 := by cases m <;> rfl

theorem any_take_succ (l : List EntL) (p : EntL → Bool) (k : Nat) (h : k < l.length) : (l.take (k + 1)).any p = ((l.take k).any p || p l[k]) := by
  rw [List.take_succ_eq_append_getElem h, List.any_append]
  simp
theorem filter_take_yes (l : List EntL) (p : EntL → Bool) (k : Nat) (h : k < l.length) (hp : p l[k] = true) : (l.take (k + 1)).filter p = (l.take k).filter p ++ [l[k]] := by
  rw [List.take_succ_eq_append_getElem h, List.filter_append, List.filter_cons_of_pos hp]; rfl
theorem filter_take_no (l : List EntL) (p : EntL → Bool) (k : Nat) (h : k < l.length) (hp : p l[k] = false) : (l.take (k + 1)).filter p = (l.take k).filter p := by
  rw [List.take_succ_eq_append_getElem h, List.filter_append, List.filter_cons_of_neg (by simp [hp]), List.filter_nil, List.append_nil]
end Go.Proofs.Ytknjmdgnbhohdaa
