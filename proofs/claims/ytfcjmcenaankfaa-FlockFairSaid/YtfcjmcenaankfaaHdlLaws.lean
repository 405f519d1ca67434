/-
  What follows of opening, doubling, closing, setting: the laws of the statements on tables, plainly.
-/
import Derived.Test.YtfcjmcenaankfaaHdlPlain
namespace Go.Proofs.Ytfcjmcenaankfaa

/-- A table of so many descriptions at most, of 20 rows of 20 at most. -/
def SizeM (m : Nat) (t : TabL) : Prop := t.ds.length ≤ m ∧ t.fs.length ≤ 20 ∧ ∀ r ∈ t.fs, r.length ≤ 20
theorem size_putF {fs : List (List Int)} (h : ∀ r ∈ fs, r.length ≤ 20) (p k : Nat) (v : Int) : ∀ r ∈ putF fs p k v, r.length ≤ 20 := by
  intro r hr
  unfold putF at hr
  rcases List.mem_or_eq_of_mem_set hr with hr | rfl
  · exact h r hr
  · rw [List.length_set]
    rcases Nat.lt_or_ge p fs.length with hp | hp
    · rw [getD_at hp]; exact h _ (List.getElem_mem _)
    · rw [List.getD_eq_getElem?_getD, List.getElem?_eq_none hp]; exact Nat.zero_le _
theorem size_open {m : Nat} {t : TabL} (h : SizeM m t) (p : Int) (x : DescL) : SizeM (m + 1) (openT t p x).1 := by
  have h' : SizeM (m + 1) t := ⟨Nat.le_succ_of_le h.1, h.2⟩
  unfold openT
  split
  · exact h'
  · split
    · exact h'
    · refine ⟨?_, by show (putF _ _ _ _).length ≤ 20; rw [putF_len]; exact h.2.1, size_putF h.2.2 _ _ _⟩
      show (putD1 _ _ _).length ≤ _
      rw [putD1_len]
      have := h.1
      split <;> omega
theorem size_dup {m : Nat} {t : TabL} (h : SizeM m t) (p fd : Int) : SizeM m (dupT t p fd).1 := by
  unfold dupT
  split
  · exact h
  · split
    · exact h
    · exact ⟨by show (List.set _ _ _).length ≤ m; rw [List.length_set]; exact h.1, by show (putF _ _ _ _).length ≤ 20; rw [putF_len]; exact h.2.1, size_putF h.2.2 _ _ _⟩
theorem size_close {m : Nat} {t : TabL} (h : SizeM m t) (p fd : Int) : SizeM m (closeT t p fd).1 := by
  unfold closeT
  split
  · exact h
  · exact ⟨by show (List.set _ _ _).length ≤ m; rw [List.length_set]; exact h.1, by show (putF _ _ _ _).length ≤ 20; rw [putF_len]; exact h.2.1, size_putF h.2.2 _ _ _⟩
theorem size_setT {m : Nat} {t : TabL} (h : SizeM m t) (i : Int) (x : DescL) : SizeM m (setT t i x) := by
  unfold setT
  split
  · exact h
  · exact ⟨by show (List.set _ _ _).length ≤ m; rw [List.length_set]; exact h.1, h.2⟩

/-! ### Rows of a table that is changed -/
theorem in_nat {t : TabL} {k : Nat} (h : k < t.fs.length) : inT t (k : Int) = true := by
  unfold inT
  rw [decide_eq_true (show (0 : Int) ≤ (k : Int) by omega), decide_eq_true (show (k : Int) < (t.fs.length : Int) by omega)]
  rfl
theorem row_same {t : TabL} {ds' : List DescL} {a k : Nat} {v : Int} (ha : a < t.fs.length) : rowT ⟨ds', putF t.fs a k v⟩ (a : Int) = (rowT t a).set k v := by
  unfold rowT putF
  rw [Int.toNat_natCast, getD_at (by rw [List.length_set]; exact ha), List.getElem_set_self]
theorem row_other {t : TabL} {ds' : List DescL} {a b k : Nat} {v : Int} (hne : a ≠ b) : rowT ⟨ds', putF t.fs a k v⟩ (b : Int) = rowT t b := by
  unfold rowT putF
  rw [Int.toNat_natCast, List.getD_eq_getElem?_getD, List.getElem?_set_ne hne, ← List.getD_eq_getElem?_getD]
theorem in_put {t : TabL} {ds' : List DescL} {a k : Nat} {v p : Int} : inT ⟨ds', putF t.fs a k v⟩ p = inT t p := by
  unfold inT
  rw [show (TabL.mk ds' (putF t.fs a k v)).fs.length = t.fs.length from putF_len _ _ _ _]
theorem has_nat {t : TabL} {a m : Nat} (ha : a < t.fs.length) (hm : m < (rowT t a).length) (h0 : 0 ≤ (rowT t a)[m]) : hasT t (a : Int) (m : Int) = true := by
  unfold hasT
  rw [in_nat ha, at_R hm, decide_eq_true h0, decide_eq_true (show (0 : Int) ≤ (m : Int) by omega), decide_eq_true (show (m : Int) < ((rowT t a).length : Int) by omega)]
  rfl
theorem has_not {t : TabL} {a m : Nat} (hm : m < (rowT t a).length) (h0 : (rowT t a)[m] < 0) : hasT t (a : Int) (m : Int) = false := by
  unfold hasT
  rw [at_R hm, decide_eq_false (show ¬ 0 ≤ (rowT t a)[m] by omega), Bool.and_false]
theorem get_nat {t : TabL} {a m : Nat} (h : hasT t (a : Int) (m : Int) = true) (hm : m < (rowT t a).length) : placeT t a m = (rowT t a)[m] ∧ foundT t a m = descT t (rowT t a)[m] := by
  unfold placeT foundT
  rw [if_pos h, if_pos h, at_R hm]
  exact ⟨rfl, rfl⟩
theorem set_back {r : List Int} {k : Nat} {v w : Int} (hk : k < r.length) (h : r[k] = w) : (r.set k v).set k w = r := by
  rw [List.set_set, ← h, List.set_getElem_self]
theorem put_back {fs : List (List Int)} {a k : Nat} {v w : Int} (ha : a < fs.length) (hk : k < fs[a].length) (h : fs[a][k] = w) : putF (putF fs a k v) a k w = fs := by
  unfold putF
  rw [getD_at (show a < (fs.set a ((fs.getD a []).set k v)).length by rw [List.length_set]; exact ha), List.getElem_set_self, getD_at ha, set_back hk h, List.set_set, List.set_getElem_self]
theorem neg_one {t : TabL} (hr : RightT t) {a k : Nat} (ha : a < t.fs.length) (hk : k < (rowT t a).length) (h : (rowT t a)[k] < 0) : (rowT t a)[k] = -1 := by
  have := ((row_right hr ha).2 _ (List.getElem_mem hk)).1
  omega
/-- Who opens: the way it goes. -/
theorem open_ok {t : TabL} {p : Int} {x : DescL} (h : (openT t p x).2.2 = 0) : ∃ a : Nat, p = a ∧ a < t.fs.length ∧ firstR (rowT t a) < (rowT t a).length ∧ openT t p x = ((⟨putD1 t.ds (freeD t.ds) { x with refs := 1 }, putF t.fs a (firstR (rowT t a)) (freeD t.ds : Nat)⟩ : TabL), ((firstR (rowT t a) : Nat) : Int), (0 : Int)) := by
  unfold openT at h ⊢
  split at h
  · cases h
  · rename_i h1
    rw [if_neg h1]
    obtain ⟨a, rfl, ha⟩ := in_T (by simpa using h1)
    split at h
    · cases h
    · rename_i h2
      rw [if_neg h2, Int.toNat_natCast]
      exact ⟨a, rfl, ha, by omega, rfl⟩
theorem count_put (r : List Int) (k : Nat) (v : Int) (hk : k < r.length) (h1 : r[k] < 0) (h2 : 0 ≤ v) : countR (r.set k v) = countR r + 1 := by
  unfold countR
  induction r generalizing k with
  | nil => cases hk
  | cons a r ih =>
    cases k with
    | zero =>
      simp only [List.getElem_cons_zero] at h1
      rw [List.set_cons_zero, List.countP_cons_of_pos (by simpa using h2), List.countP_cons_of_neg (by simpa using h1)]
    | succ k =>
      have := ih k (by simpa using hk) (by simpa using h1)
      rw [List.set_cons_succ, List.countP_cons, List.countP_cons, this]
      omega
theorem desc_put {t : TabL} {fs' : List (List Int)} {x : DescL} : descT ⟨putD1 t.ds (freeD t.ds) x, fs'⟩ (freeD t.ds : Nat) = x := by
  unfold descT
  rw [Int.toNat_natCast, List.getD_eq_getElem?_getD, putD1_at _ _ _ (free_le _), if_pos rfl]
  rfl
/-- What was opened is had; closed again, all is as it was, but perhaps for a description more. -/
theorem back_open {t : TabL} (hr : RightT t) {p : Int} {x : DescL} (h : (openT t p x).2.2 = 0) :
    hasT (openT t p x).1 p (openT t p x).2.1 = true ∧ placeT (openT t p x).1 p (openT t p x).2.1 = (freeD t.ds : Nat) ∧ foundT (openT t p x).1 p (openT t p x).2.1 = { x with refs := 1 }
      ∧ closeT (openT t p x).1 p (openT t p x).2.1 = ((⟨if freeD t.ds = t.ds.length then t.ds ++ [zeroD] else t.ds, t.fs⟩ : TabL), ({ x with refs := 0 } : DescL), (0 : Int)) ∧ countT (openT t p x).1 p = countT t p + 1 := by
  obtain ⟨a, rfl, ha, hf, e⟩ := open_ok h
  have hneg := first_lt hf
  have hro : rowT (openT t (a : Int) x).1 (a : Int) = (rowT t a).set (firstR (rowT t a)) (freeD t.ds : Nat) := by rw [e]; exact row_same ha
  have hlen : (openT t (a : Int) x).1.fs.length = t.fs.length := by rw [e]; exact putF_len _ _ _ _
  have hl2 : firstR (rowT t a) < (rowT (openT t (a : Int) x).1 (a : Int)).length := by rw [hro, List.length_set]; exact hf
  have hat : (rowT (openT t (a : Int) x).1 (a : Int))[firstR (rowT t a)] = (freeD t.ds : Nat) := by
    have : ∀ (r : List Int) (h : firstR (rowT t a) < r.length), r = (rowT t a).set (firstR (rowT t a)) (freeD t.ds : Nat) → r[firstR (rowT t a)] = (freeD t.ds : Nat) := fun r h e => by subst e; exact List.getElem_set_self _
    exact this _ hl2 hro
  have e21 : (openT t (a : Int) x).2.1 = (firstR (rowT t a) : Nat) := by rw [e]
  rw [e21]
  have hh := has_nat (t := (openT t (a : Int) x).1) (a := a) (m := firstR (rowT t a)) (by omega) hl2 (by rw [hat]; omega)
  obtain ⟨g1, g2⟩ := get_nat hh hl2
  rw [hat] at g1 g2
  have g3 : foundT (openT t (a : Int) x).1 a (firstR (rowT t a) : Nat) = { x with refs := 1 } := by rw [g2, e]; exact desc_put
  refine ⟨hh, g1, g3, ?_, ?_⟩
  · unfold closeT
    rw [if_neg (by rw [hh]; decide), g1, g3, Int.toNat_natCast, Int.toNat_natCast, Int.toNat_natCast]
    have hz : (lessD { x with refs := 1 }).refs = 0 := by show (1 : Int) - 1 = 0; omega
    rw [if_pos hz]
    have hds : ((openT t (a : Int) x).1.ds.set (freeD t.ds) zeroD) = if freeD t.ds = t.ds.length then t.ds ++ [zeroD] else t.ds := by
      rw [e]
      show (putD1 _ _ _).set _ _ = _
      apply List.ext_getElem?
      intro j
      rw [List.getElem?_set, putD1_at _ _ _ (free_le _), putD1_len]
      have hfl := free_le t.ds
      have hfz := free_zero hr
      by_cases h1 : freeD t.ds = t.ds.length
      · rw [if_pos h1, if_pos h1]
        by_cases h2 : freeD t.ds = j
        · rw [if_pos h2, if_pos (by omega), List.getElem?_append_right (by omega), show j - t.ds.length = 0 by omega]; rfl
        · rw [if_neg h2, if_neg (Ne.symm h2), List.getElem?_append]
          split
          · rfl
          · rw [List.getElem?_eq_none (by omega), List.getElem?_eq_none (by rw [List.length_singleton]; omega)]
      · rw [if_neg h1, if_neg h1]
        by_cases h2 : freeD t.ds = j
        · subst h2
          rw [if_pos rfl, if_pos (by omega), List.getElem?_eq_getElem (by omega), hfz.2 (by omega)]
        · rw [if_neg h2, if_neg (Ne.symm h2)]
    have hfs : putF (openT t (a : Int) x).1.fs a (firstR (rowT t a)) (-1) = t.fs := by
      rw [e]
      have hn := neg_one hr ha hf hneg
      exact put_back ha (by have := congrArg List.length (row_at ha); omega) (by rw [← hn]; exact getE_of (row_at ha).symm _ _)
    rw [hds, hfs]
    rfl
  · unfold countT
    rw [in_nat ha, in_nat (by rw [hlen]; exact ha)]
    simp only [↓reduceIte]
    rw [hro, count_put _ _ _ hf hneg (by omega)]
/-- Who doubles: the way it goes. -/
theorem dup_ok {t : TabL} {p fd : Int} (h : (dupT t p fd).2.2 = 0) : hasT t p fd = true ∧ ∃ a : Nat, p = a ∧ a < t.fs.length ∧ firstR (rowT t a) < (rowT t a).length ∧ dupT t p fd = ((⟨t.ds.set (placeT t p fd).toNat { foundT t p fd with refs := (foundT t p fd).refs + 1 }, putF t.fs a (firstR (rowT t a)) (placeT t p fd)⟩ : TabL), ((firstR (rowT t a) : Nat) : Int), (0 : Int)) := by
  unfold dupT at h ⊢
  split at h
  · cases h
  · rename_i h1
    rw [if_neg h1]
    have h1' : hasT t p fd = true := by simpa using h1
    obtain ⟨a, m, rfl, rfl, ha, hm, h0⟩ := has_T h1'
    split at h
    · cases h
    · rename_i h2
      rw [if_neg h2, Int.toNat_natCast]
      exact ⟨h1', a, rfl, ha, by omega, rfl⟩
theorem back_dup {t : TabL} (hr : RightT t) {p fd : Int} (h : (dupT t p fd).2.2 = 0) :
    hasT t p fd = true ∧ hasT (dupT t p fd).1 p (dupT t p fd).2.1 = true ∧ placeT (dupT t p fd).1 p (dupT t p fd).2.1 = placeT t p fd ∧ (foundT (dupT t p fd).1 p (dupT t p fd).2.1).refs = (foundT t p fd).refs + 1
      ∧ (closeT (dupT t p fd).1 p (dupT t p fd).2.1).1 = t ∧ (closeT (dupT t p fd).1 p (dupT t p fd).2.1).2.2 = 0 := by
  obtain ⟨hh, a, rfl, ha, hf, e⟩ := dup_ok h
  obtain ⟨a', m, ea, rfl, _, hm, h0⟩ := has_T hh
  obtain rfl : a = a' := by omega
  obtain ⟨i, hi, hil, hrf⟩ := place_T hr ha hm h0
  obtain ⟨g1, g2⟩ := found_at hh hi hil
  have hneg := first_lt hf
  rw [g1, g2, Int.toNat_natCast] at e
  have hro : rowT (dupT t (a : Int) (m : Int)).1 (a : Int) = (rowT t a).set (firstR (rowT t a)) (i : Int) := by rw [e]; exact row_same ha
  have hlen : (dupT t (a : Int) (m : Int)).1.fs.length = t.fs.length := by rw [e]; exact putF_len _ _ _ _
  have hl2 : firstR (rowT t a) < (rowT (dupT t (a : Int) (m : Int)).1 (a : Int)).length := by rw [hro, List.length_set]; exact hf
  have hat : (rowT (dupT t (a : Int) (m : Int)).1 (a : Int))[firstR (rowT t a)] = (i : Int) := by
    have : ∀ (r : List Int) (h : firstR (rowT t a) < r.length), r = (rowT t a).set (firstR (rowT t a)) (i : Int) → r[firstR (rowT t a)] = (i : Int) := fun r h e => by subst e; exact List.getElem_set_self _
    exact this _ hl2 hro
  have e21 : (dupT t (a : Int) (m : Int)).2.1 = (firstR (rowT t a) : Nat) := by rw [e]
  rw [e21]
  have hh2 := has_nat (t := (dupT t (a : Int) (m : Int)).1) (a := a) (m := firstR (rowT t a)) (by omega) hl2 (by rw [hat]; omega)
  obtain ⟨k1, k2⟩ := get_nat hh2 hl2
  rw [hat] at k1 k2
  have k3 : foundT (dupT t (a : Int) (m : Int)).1 a (firstR (rowT t a) : Nat) = { t.ds[i] with refs := t.ds[i].refs + 1 } := by
    rw [k2, e]
    unfold descT
    rw [Int.toNat_natCast, getD_at (by rw [List.length_set]; exact hil), List.getElem_set_self]
  have hr1 := (desc_right hr hil).1
  refine ⟨hh, hh2, by rw [k1, g1], by rw [k3, g2], ?_, ?_⟩
  · unfold closeT
    rw [if_neg (by rw [hh2]; decide), k1, k3, Int.toNat_natCast, Int.toNat_natCast, Int.toNat_natCast]
    have hz : lessD { t.ds[i] with refs := t.ds[i].refs + 1 } = t.ds[i] := desc_ext rfl rfl rfl rfl (by show t.ds[i].refs + 1 - 1 = _; omega) rfl
    rw [hz, if_neg (by omega)]
    have hds : (dupT t (a : Int) (m : Int)).1.ds.set i t.ds[i] = t.ds := by rw [e]; show (t.ds.set i _).set i _ = _; rw [List.set_set, List.set_getElem_self]
    have hfs : putF (dupT t (a : Int) (m : Int)).1.fs a (firstR (rowT t a)) (-1) = t.fs := by
      rw [e]
      have hn := neg_one hr ha hf hneg
      exact put_back ha (by have := congrArg List.length (row_at ha); omega) (by rw [← hn]; exact getE_of (row_at ha).symm _ _)
    rw [hds, hfs]
  · unfold closeT
    rw [if_neg (by rw [hh2]; decide)]
/-- What one process does, no other one sees. -/
theorem other_put {t : TabL} {ds' : List DescL} {a k : Nat} {v q m : Int} (ha : (a : Int) ≠ q) : hasT ⟨ds', putF t.fs a k v⟩ q m = hasT t q m ∧ placeT ⟨ds', putF t.fs a k v⟩ q m = placeT t q m := by
  by_cases hq : inT t q = true
  · obtain ⟨b, rfl, hb⟩ := in_T hq
    have hro : rowT ⟨ds', putF t.fs a k v⟩ (b : Int) = rowT t b := row_other (by omega)
    have h1 : hasT ⟨ds', putF t.fs a k v⟩ (b : Int) m = hasT t b m := by unfold hasT; rw [in_put, hro]
    refine ⟨h1, ?_⟩
    unfold placeT
    rw [h1, hro]
  · have h1 : hasT t q m = false := by unfold hasT; rw [Bool.eq_false_iff.2 hq]; rfl
    have h2 : hasT ⟨ds', putF t.fs a k v⟩ q m = false := by unfold hasT; rw [in_put, Bool.eq_false_iff.2 hq]; rfl
    refine ⟨h2.trans h1.symm, ?_⟩
    unfold placeT
    rw [h1, h2]
    rfl
theorem found_eq {t : TabL} {q m : Int} : foundT t q m = if hasT t q m then descT t (placeT t q m) else zeroD := by
  unfold foundT placeT
  split <;> rfl
theorem other_open {t : TabL} (hr : RightT t) {p q : Int} (hne : p ≠ q) (x : DescL) (m : Int) :
    hasT (openT t p x).1 q m = hasT t q m ∧ placeT (openT t p x).1 q m = placeT t q m ∧ foundT (openT t p x).1 q m = foundT t q m := by
  by_cases h : (openT t p x).2.2 = 0
  · obtain ⟨a, rfl, ha, hf, e⟩ := open_ok h
    obtain ⟨h1, h2⟩ := other_put (t := t) (ds' := putD1 t.ds (freeD t.ds) { x with refs := 1 }) (k := firstR (rowT t a)) (v := (freeD t.ds : Nat)) (m := m) hne
    rw [e]
    refine ⟨h1, h2, ?_⟩
    rw [found_eq, found_eq, h1, h2]
    cases hh : hasT t q m with
    | false => rfl
    | true =>
      obtain ⟨b, k, rfl, rfl, hb, hk, h0⟩ := has_T hh
      obtain ⟨i, hi, hil, hrf⟩ := place_T hr hb hk h0
      have hp : placeT t b k = i := (found_at hh hi hil).1
      rw [hp]
      show descT _ _ = descT _ _
      unfold descT
      rw [Int.toNat_natCast, List.getD_eq_getElem?_getD, putD1_at _ _ _ (free_le _), if_neg (fun e => by have := (free_zero hr).1; rw [← e] at this; omega), ← List.getD_eq_getElem?_getD]
  · have : (openT t p x).1 = t := by
      unfold openT at h ⊢
      split
      · rfl
      · rename_i h1
        rw [if_neg h1] at h
        split
        · rfl
        · rename_i h2; rw [if_neg h2] at h; exact absurd rfl h
    rw [this]
    exact ⟨rfl, rfl, rfl⟩
theorem other_close {t : TabL} (hr : RightT t) {p q : Int} (hne : p ≠ q) (fd m : Int) :
    hasT (closeT t p fd).1 q m = hasT t q m ∧ placeT (closeT t p fd).1 q m = placeT t q m ∧ (foundT (closeT t p fd).1 q m).ino = (foundT t q m).ino ∧ (foundT (closeT t p fd).1 q m).pos = (foundT t q m).pos := by
  by_cases hp : hasT t p fd = true
  · obtain ⟨a, n, rfl, rfl, ha, hn, hn0⟩ := has_T hp
    obtain ⟨i, hi, hil, hrf⟩ := place_T hr ha hn hn0
    obtain ⟨g1, g2⟩ := found_at hp hi hil
    have e : (closeT t (a : Int) (n : Int)).1 = ⟨t.ds.set i (if (lessD t.ds[i]).refs = 0 then zeroD else lessD t.ds[i]), putF t.fs a n (-1)⟩ := by
      unfold closeT
      rw [if_neg (by rw [hp]; decide), g1, g2, Int.toNat_natCast, Int.toNat_natCast, Int.toNat_natCast]
    rw [e]
    obtain ⟨h1, h2⟩ := other_put (t := t) (ds' := t.ds.set i (if (lessD t.ds[i]).refs = 0 then zeroD else lessD t.ds[i])) (k := n) (v := -1) (m := m) hne
    refine ⟨h1, h2, ?_⟩
    rw [found_eq, found_eq, h1, h2]
    cases hh : hasT t q m with
    | false => exact ⟨rfl, rfl⟩
    | true =>
      obtain ⟨b, k, rfl, rfl, hb, hk, h0⟩ := has_T hh
      obtain ⟨j, hj, hjl, hjf⟩ := place_T hr hb hk h0
      have hpj : placeT t b k = j := (found_at hh hj hjl).1
      rw [hpj]
      show (descT _ _).ino = (descT _ _).ino ∧ (descT _ _).pos = (descT _ _).pos
      unfold descT
      rw [Int.toNat_natCast, getD_at (by rw [List.length_set]; exact hjl), getD_at hjl]
      by_cases ej : i = j
      · subst ej
        rw [List.getElem_set_self]
        have h3 : 2 ≤ refsOf t.fs (i : Int) := by
          have hn' : n < t.fs[a].length := by rw [row_at ha] at hn; exact hn
          have hk' : k < t.fs[b].length := by rw [row_at hb] at hk; exact hk
          have e1 : t.fs[a][n] = (i : Int) := by rw [← hi, at_R hn]; exact getE_of (row_at ha).symm _ _
          have e2 : t.fs[b][k] = (i : Int) := by rw [← hj, at_R hk]; exact getE_of (row_at hb).symm _ _
          have := refs_two t.fs a b n k ha hn' hb hk' (by omega) (e1.trans e2.symm)
          rwa [e1] at this
        have h4 := (desc_right hr hil).1
        rw [if_neg (show ¬ (lessD t.ds[i]).refs = 0 by show ¬ t.ds[i].refs - 1 = 0; omega)]
        exact ⟨rfl, rfl⟩
      · rw [List.getElem_set_ne ej]
        exact ⟨rfl, rfl⟩
  · have : (closeT t p fd).1 = t := by unfold closeT; rw [if_pos (by simpa using hp)]
    rw [this]
    exact ⟨rfl, rfl, rfl, rfl⟩
/-- What is set is had by all that refer to it. -/
theorem sets_get {t : TabL} (hr : RightT t) (i : Int) (x : DescL) (p m : Int) :
    hasT (setT t i x) p m = hasT t p m ∧ placeT (setT t i x) p m = placeT t p m ∧ foundT (setT t i x) p m = (if hasT t p m = true ∧ placeT t p m = i then { x with refs := (foundT t p m).refs } else foundT t p m) ∧ (setT t i x).ds.length = t.ds.length := by
  have hfs : (setT t i x).fs = t.fs := by unfold setT; split <;> rfl
  have hro : rowT (setT t i x) p = rowT t p := by unfold rowT; rw [hfs]
  have hin : inT (setT t i x) p = inT t p := by unfold inT; rw [hfs]
  have h1 : hasT (setT t i x) p m = hasT t p m := by unfold hasT; rw [hin, hro]
  have h2 : placeT (setT t i x) p m = placeT t p m := by unfold placeT; rw [h1, hro]
  refine ⟨h1, h2, ?_, by unfold setT; split; rfl; exact List.length_set⟩
  rw [found_eq, h1, h2]
  cases hh : hasT t p m with
  | false => rw [if_neg (by simp), if_neg (by simp), found_eq, hh]; rfl
  | true =>
    obtain ⟨a, n, rfl, rfl, ha, hn, hn0⟩ := has_T hh
    obtain ⟨j, hj, hjl, hjf⟩ := place_T hr ha hn hn0
    obtain ⟨g1, g2⟩ := found_at hh hj hjl
    have hrj := (desc_right hr hjl).1
    rw [if_pos rfl, g1, g2]
    by_cases ei : (j : Int) = i
    · subst ei
      rw [if_pos ⟨rfl, rfl⟩]
      unfold setT
      rw [desc_at hjl, if_neg (by omega), Int.toNat_natCast]
      unfold descT
      rw [Int.toNat_natCast, getD_at (by rw [List.length_set]; exact hjl), List.getElem_set_self]
    · rw [if_neg (fun h => ei h.2)]
      unfold setT
      split
      · exact desc_at hjl
      · rename_i h3
        unfold descT
        rw [Int.toNat_natCast, List.getD_eq_getElem?_getD, List.getElem?_set_ne (by omega), List.getElem?_eq_getElem hjl]
        rfl
/-- Opening one after another. -/
theorem full_open {t : TabL} (hr : RightT t) {a : Nat} (ha : a < t.fs.length) (x : DescL) {n : Nat} (hn : n = countT t a) {last : Int} (hl : last < (firstR (rowT t a) : Nat)) :
    ((openT t a x).2.2 ≠ 0 → (openT t a x).2.2 = 13 ∧ n = 8) ∧ ((openT t a x).2.2 = 0 → ∃ f : Nat, (openT t a x).2.1 = (f : Int) ∧ f = firstR (rowT t a) ∧ hasT t a f = false ∧ last < (f : Int) ∧ f ≤ 7 ∧ n < 8 ∧ (∀ j : Nat, j < f → hasT t a j = true) ∧ n + 1 = countT (openT t a x).1 a ∧ (f : Int) < (firstR (rowT (openT t a x).1 a) : Nat) ∧ (openT t a x).1.fs.length = t.fs.length) := by
  have h8 := (row_right hr ha).1
  have hc : countT t a = countR (rowT t a) := by unfold countT; rw [in_nat ha]; rfl
  refine ⟨fun h => ?_, fun h => ?_⟩
  · unfold openT at h ⊢
    rw [if_neg (by rw [in_nat ha]; decide)] at h ⊢
    split at h
    · rename_i h1
      rw [if_pos h1]
      refine ⟨rfl, ?_⟩
      rw [hn, hc]
      unfold countR
      rw [List.countP_eq_length.2 (fun v hv => by
        obtain ⟨k, hk, rfl⟩ := List.getElem_of_mem hv
        obtain ⟨_, h2⟩ := first_min (r := rowT t a) (k := k) (by omega)
        exact decide_eq_true h2), h8]
    · exact absurd rfl h
  · obtain ⟨a', ea, _, hf, e⟩ := open_ok h
    obtain rfl : a = a' := by omega
    have hneg := first_lt hf
    have hb := back_open hr h
    refine ⟨firstR (rowT t a), by rw [e], rfl, has_not hf hneg, hl, by omega, ?_, fun j hj => ?_, by rw [hn]; exact hb.2.2.2.2.symm, ?_, by rw [e]; exact putF_len _ _ _ _⟩
    · rw [hn, hc]
      have h1 : countR (rowT t a) ≤ (rowT t a).length := List.countP_le_length
      rcases Nat.lt_or_ge (countR (rowT t a)) 8 with h2 | h2
      · exact h2
      · have h3 : countR (rowT t a) = (rowT t a).length := by omega
        have := List.countP_eq_length.1 h3 _ (List.getElem_mem hf)
        simp only [decide_eq_true_eq] at this
        omega
    · obtain ⟨hjl, h2⟩ := first_min hj
      exact has_nat ha hjl h2
    · have hro : rowT (openT t (a : Int) x).1 (a : Int) = (rowT t a).set (firstR (rowT t a)) (freeD t.ds : Nat) := by rw [e]; exact row_same ha
      rw [hro]
      rcases Nat.lt_or_ge (firstR (rowT t a)) (firstR ((rowT t a).set (firstR (rowT t a)) (freeD t.ds : Nat))) with h2 | h2
      · omega
      · exfalso
        have hlt : firstR ((rowT t a).set (firstR (rowT t a)) (freeD t.ds : Nat)) < ((rowT t a).set (firstR (rowT t a)) (freeD t.ds : Nat)).length := by rw [List.length_set]; omega
        have h3 := first_lt hlt
        rw [List.getElem_set] at h3
        split at h3
        · omega
        · obtain ⟨_, h4⟩ := first_min (r := rowT t a) (k := firstR ((rowT t a).set (firstR (rowT t a)) (freeD t.ds : Nat))) (by omega)
          omega
end Go.Proofs.Ytfcjmcenaankfaa
