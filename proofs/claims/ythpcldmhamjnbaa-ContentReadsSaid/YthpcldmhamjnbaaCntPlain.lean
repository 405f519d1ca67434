/-
  What is in a file, plainly: the document's words on lists of nodes; what follows of them.
-/
import Derived.Test.YthpcldmhamjnbaaAddDef
import Derived.Test.YthpcldmhamjnbaaDskG
namespace Go.Proofs.Ythpcldmhamjnbaa

def fileE (l : List NodeL) (i : Int) : Int := if gotB l i = false then 2 else if (getL l i).kind = 2 then 5 else if (getL l i).kind ≠ 1 then 1 else 0
def restD (d : Nm) (i : Int) : Nm := if (d.length : Int) < i then [] else d.drop i.toNat
def headD (d : Nm) (n : Int) : Nm := if n < (d.length : Int) then d.take n.toNat else d
def partD (d : Nm) (i n : Int) : Nm := headD (restD d i) n
def readL (l : List NodeL) (i a n : Int) : Nm × Int := if fileE l i ≠ 0 then ([], fileE l i) else if a < 0 ∨ n < 0 then ([], 1) else (partD (getL l i).data a n, 0)
def sizeL (l : List NodeL) (i : Int) : Int × Int := if fileE l i ≠ 0 then (0, fileE l i) else ((getL l i).data.length, 0)
def padD (d : Nm) (n : Int) : Nm := d ++ List.replicate (n - d.length).toNat 0
def putD (d s : Nm) (a : Int) : Nm := (padD d a).take a.toNat ++ s ++ (padD d a).drop (a.toNat + s.length)
def dataN (n : NodeL) (d : Nm) : NodeL := { n with data := d }
abbrev CntL := List NodeL × Int
def keptL (l : List NodeL) (room i : Int) (d : Nm) : CntL := if (getL l i).data.length < d.length ∧ room < (bytesL l : Int) + d.length - (getL l i).data.length then (l, 10) else (setL l i (dataN (getL l i) d), 0)
def writeL (l : List NodeL) (room i a : Int) (s : Nm) : CntL :=
  if fileE l i ≠ 0 then (l, fileE l i) else if a < 0 then (l, 1) else if s = [] then (l, 0) else if 1000 < a then (l, 10) else keptL l room i (putD (getL l i).data s a)
def cutL (l : List NodeL) (room i n : Int) : CntL :=
  if fileE l i ≠ 0 then (l, fileE l i) else if n < 0 then (l, 1) else if n ≤ ((getL l i).data.length : Int) then keptL l room i ((getL l i).data.take n.toNat) else if 1000 < n then (l, 10) else keptL l room i (padD (getL l i).data n)

/-! ### Texts -/
theorem pad_len (d : Nm) (a : Nat) : (padD d a).length = max d.length a := by
  unfold padD
  rw [List.length_append, List.length_replicate]
  omega
theorem pad_get (d : Nm) (a k : Nat) : (padD d a)[k]? = if k < d.length then d[k]? else if k < a then some 0 else none := by
  unfold padD
  rw [List.getElem?_append]
  split
  · rfl
  · rename_i h
    rw [List.getElem?_replicate]
    by_cases h2 : k < a
    · rw [if_pos (by omega), if_pos h2]
    · rw [if_neg (by omega), if_neg h2]
theorem putD_get (d s : Nm) (a k : Nat) : (putD d s a)[k]? = if k < a then (padD d a)[k]? else if k < a + s.length then s[k - a]? else (padD d a)[k]? := by
  have h1 := pad_len d a
  have hl : ((padD d a).take a).length = a := by rw [List.length_take]; omega
  unfold putD
  rw [Int.toNat_natCast]
  rw [List.getElem?_append, List.getElem?_append, List.length_append, hl]
  by_cases h : k < a
  · have h3 : k < a + s.length := by omega
    simp only [h, h3, ↓reduceIte, List.getElem?_take]
  · by_cases h2 : k < a + s.length
    · simp only [h, h2, ↓reduceIte]
    · simp only [h, h2, ↓reduceIte, List.getElem?_drop]
      congr 1
      omega
theorem putD_len (d s : Nm) (a : Nat) : (putD d s a).length = max d.length (a + s.length) := by
  have h1 := pad_len d a
  unfold putD
  rw [Int.toNat_natCast, List.length_append, List.length_append, List.length_take, List.length_drop]
  omega
theorem part_get (d : Nm) (i n k : Nat) : (partD d i n)[k]? = if k < n then d[i + k]? else none := by
  unfold partD headD restD
  by_cases h : (d.length : Int) < i
  · rw [if_pos h]
    simp only [List.length_nil]
    have e : d[i + k]? = none := List.getElem?_eq_none (by omega)
    rw [e]
    split <;> split <;> simp
  · rw [if_neg h, Int.toNat_natCast]
    by_cases h2 : (n : Int) < ((d.drop i).length : Int)
    · rw [if_pos h2, Int.toNat_natCast, List.getElem?_take, List.getElem?_drop]
    · rw [if_neg h2, List.getElem?_drop]
      split
      · rfl
      · rw [List.length_drop] at h2
        exact List.getElem?_eq_none (by omega)
/-- What was written is read where it was written. -/
theorem part_put (d s : Nm) (a : Nat) : partD (putD d s a) a s.length = s := by
  apply List.ext_getElem?
  intro k
  rw [part_get, putD_get]
  have h1 : ¬ a + k < a := by omega
  by_cases h : k < s.length
  · have h2 : a + k < a + s.length := by omega
    have h3 : a + k - a = k := by omega
    simp only [h, h1, h2, h3, ↓reduceIte]
  · simp only [h, ↓reduceIte]
    exact (List.getElem?_eq_none (by omega)).symm
/-- What is ahead of it stays. -/
theorem part_ahead (d s : Nm) (a f n : Nat) (h : f + n ≤ a) : (partD d f n).length ≤ (partD (putD d s a) f n).length ∧ (partD (putD d s a) f n).take (partD d f n).length = partD d f n := by
  have hk : ∀ k, k < (partD d f n).length → (partD (putD d s a) f n)[k]? = (partD d f n)[k]? := fun k hk => by
    have h1 : (partD d f n)[k]? ≠ none := by rw [List.getElem?_eq_getElem hk]; simp
    rw [part_get] at h1 ⊢
    rw [part_get]
    by_cases hn : k < n
    · rw [if_pos hn] at h1 ⊢
      have h2 : f + k < a := by omega
      rw [if_pos hn, putD_get, if_pos h2, pad_get]
      by_cases hd : f + k < d.length
      · rw [if_pos hd]
      · exact absurd (List.getElem?_eq_none (by omega)) h1
    · rw [if_neg hn] at h1; exact absurd rfl h1
  have hl : (partD d f n).length ≤ (partD (putD d s a) f n).length := by
    refine Nat.le_of_not_lt fun hlt => ?_
    have h1 := hk _ hlt
    rw [List.getElem?_eq_none (Nat.le_refl _), List.getElem?_eq_getElem hlt] at h1
    cases h1
  refine ⟨hl, List.ext_getElem? fun k => ?_⟩
  rw [List.getElem?_take]
  split
  · rename_i h1; exact hk k h1
  · rename_i h1; rw [List.getElem?_eq_none (by omega)]
/-- What is behind it stays. -/
theorem part_behind (d s : Nm) (a f n : Nat) (hs : s ≠ []) (h : a + s.length ≤ f) : partD (putD d s a) f n = partD d f n := by
  have hpos : 0 < s.length := List.length_pos_iff.2 hs
  apply List.ext_getElem?
  intro k
  rw [part_get, part_get, putD_get, pad_get]
  have h1 : ¬ f + k < a := by omega
  have h2 : ¬ f + k < a + s.length := by omega
  by_cases h3 : k < n
  · by_cases h4 : f + k < d.length
    · simp only [h1, h2, h3, h4, ↓reduceIte]
    · simp only [h1, h2, h3, h4, ↓reduceIte]
      exact (List.getElem?_eq_none (by omega)).symm
  · simp only [h3, ↓reduceIte]
/-- Two parts are one. -/
theorem part_two (d : Nm) (i k n : Nat) : partD d i (k + n : Nat) = partD d i k ++ partD d (i + k : Nat) n := by
  apply List.ext_getElem?
  intro j
  have hlen : (partD d i k).length = min k (d.length - i) := by
    have h1 : ∀ m, m < (partD d i k).length ↔ m < min k (d.length - i) := fun m => by
      have h2 : (partD d i k)[m]? ≠ none ↔ m < (partD d i k).length := by rw [ne_eq, List.getElem?_eq_none_iff]; omega
      rw [← h2, part_get]
      split
      · rw [ne_eq, List.getElem?_eq_none_iff]; omega
      · simp; omega
    have h2 := h1 (partD d i k).length
    have h3 := h1 (min k (d.length - i))
    omega
  rw [List.getElem?_append, hlen, part_get, part_get, part_get]
  by_cases h : j < min k (d.length - i)
  · rw [if_pos h, if_pos (by omega), if_pos (by omega)]
  · rw [if_neg h]
    by_cases h2 : j < k + n
    · rw [if_pos h2]
      by_cases h3 : j < k
      · have e : d[i + j]? = none := List.getElem?_eq_none (by omega)
        rw [e]
        split
        · exact (List.getElem?_eq_none (by omega)).symm
        · rfl
      · by_cases h4 : k ≤ d.length - i
        · rw [if_pos (by omega)]
          congr 1
          omega
        · have e : d[i + j]? = none := List.getElem?_eq_none (by omega)
          rw [e]
          split
          · exact (List.getElem?_eq_none (by omega)).symm
          · rfl
    · rw [if_neg h2]
      split
      · exact (List.getElem?_eq_none (by omega)).symm
      · rfl
/-- Two writes, one behind the other, are one. -/
theorem put_two (d s t : Nm) (a : Nat) : putD (putD d s a) t (a + s.length : Nat) = putD d (s ++ t) a := by
  apply List.ext_getElem?
  intro k
  have hp : ∀ j, (padD (putD d s a) (a + s.length : Nat))[j]? = (putD d s a)[j]? := fun j => by
    rw [pad_get, putD_len]
    by_cases h : j < max d.length (a + s.length)
    · rw [if_pos h]
    · rw [if_neg h, if_neg (by omega)]
      exact (List.getElem?_eq_none (by rw [putD_len]; omega)).symm
  rw [putD_get, hp, putD_get, putD_get, List.length_append]
  by_cases h1 : k < a
  · have h2 : k < a + s.length := by omega
    simp only [h1, h2, ↓reduceIte]
  · by_cases h2 : k < a + s.length
    · have h3 : k < a + (s.length + t.length) := by omega
      simp only [h1, h2, h3, ↓reduceIte]
      exact (List.getElem?_append_left (by omega)).symm
    · by_cases h3 : k < a + s.length + t.length
      · have h4 : k < a + (s.length + t.length) := by omega
        simp only [h1, h2, h3, h4, ↓reduceIte]
        rw [List.getElem?_append_right (by omega)]
        congr 1
        omega
      · have h4 : ¬ k < a + (s.length + t.length) := by omega
        simp only [h1, h2, h3, h4, ↓reduceIte]

/-! ### Disks -/
theorem got_in {l : List NodeL} {i : Int} (h : gotB l i = true) : ∃ k : Nat, i = k ∧ k < l.length := by
  unfold gotB inL at h
  simp only [Bool.and_eq_true, decide_eq_true_iff] at h
  obtain ⟨k, rfl⟩ := Int.eq_ofNat_of_zero_le h.1.1
  exact ⟨k, rfl, by omega⟩
theorem file_got {l : List NodeL} {i : Int} (h : fileE l i = 0) : gotB l i = true ∧ (getL l i).kind = 1 := by
  unfold fileE at h
  split at h
  · cases h
  · rename_i hg
    split at h
    · cases h
    · split at h
      · cases h
      · rename_i h2
        exact ⟨by simpa using hg, by simpa using h2⟩
theorem getL_pos {l : List NodeL} {i : Int} (h : gotB l i = true) : getL l i = atI l i := by unfold getL; rw [if_pos h]
theorem set_data {l : List NodeL} {i : Int} (h : fileE l i = 0) (d : Nm) : (setL l i (dataN (getL l i) d)).length = l.length ∧ gotB (setL l i (dataN (getL l i) d)) i = true ∧ getL (setL l i (dataN (getL l i) d)) i = dataN (getL l i) d
    ∧ fileE (setL l i (dataN (getL l i) d)) i = 0 ∧ (bytesL (setL l i (dataN (getL l i) d)) + (getL l i).data.length = bytesL l + d.length) ∧ ∀ k : Nat, (k : Int) ≠ i → (setL l i (dataN (getL l i) d))[k]? = l[k]? := by
  obtain ⟨hg, hk⟩ := file_got h
  obtain ⟨k, rfl, hlt⟩ := got_in hg
  have hin : inL l (k : Int) = true := by
    unfold gotB at hg
    rw [Bool.and_eq_true] at hg
    exact hg.1
  have e : setL l (k : Int) (dataN (getL l k) d) = l.set k (dataN (getL l k) d) := by unfold setL; rw [if_pos hin, Int.toNat_natCast]
  have hgl : getL l (k : Int) = l[k] := by
    unfold getL atI
    rw [if_pos hg, Int.toNat_natCast, List.getD_eq_getElem?_getD, List.getElem?_eq_getElem hlt]
    rfl
  rw [e]
  have hat : atI (l.set k (dataN (getL l k) d)) (k : Int) = dataN (getL l k) d := by
    unfold atI
    rw [Int.toNat_natCast, List.getD_eq_getElem?_getD, List.getElem?_set_self hlt]
    rfl
  have hg2 : gotB (l.set k (dataN (getL l k) d)) (k : Int) = true := by
    unfold gotB inL
    rw [hat, List.length_set]
    simp only [Bool.and_eq_true, decide_eq_true_iff, Bool.not_eq_true', decide_eq_false_iff_not]
    refine ⟨⟨by omega, by omega⟩, ?_⟩
    show (getL l k).kind ≠ 0
    rw [hk]
    decide
  have hget : getL (l.set k (dataN (getL l k) d)) (k : Int) = dataN (getL l k) d := (getL_pos hg2).trans hat
  refine ⟨List.length_set, hg2, hget, ?_, ?_, fun j hj => List.getElem?_set_ne (by omega)⟩
  · unfold fileE
    rw [hg2, hget]
    have : (dataN (getL l k) d).kind = 1 := hk
    rw [this]
    decide
  · have hw : ∀ (l : List NodeL) (k : Nat) (hk : k < l.length) (m : NodeL), bytesL (l.set k m) + weightL l[k] = bytesL l + weightL m := by
      intro l
      induction l with
      | nil => intro k hk; cases hk
      | cons a l ih =>
        intro k hk m
        cases k with
        | zero => simp [bytesL]; omega
        | succ k =>
          have := ih k (by simpa using hk) m
          simp only [bytesL, List.set_cons_succ, List.map_cons, List.sum_cons, List.getElem_cons_succ] at this ⊢
          omega
    have h1 := hw l k hlt (dataN (getL l k) d)
    have w1 : weightL l[k] = (getL l k).data.length := by rw [← hgl]; unfold weightL; rw [if_pos (.inl hk)]
    have w2 : weightL (dataN (getL l k) d) = d.length := by unfold weightL; rw [if_pos (.inl hk)]; rfl
    rw [w1, w2] at h1
    exact h1
theorem kept_ok {l : List NodeL} {room i : Int} {d : Nm} (h : (keptL l room i d).2 = 0) : (keptL l room i d).1 = setL l i (dataN (getL l i) d) ∧ ¬ ((getL l i).data.length < d.length ∧ room < (bytesL l : Int) + d.length - (getL l i).data.length) := by
  unfold keptL at h ⊢
  split at h
  · cases h
  · rename_i hc; rw [if_neg hc]; exact ⟨rfl, hc⟩
theorem kept_bad {l : List NodeL} {room i : Int} {d : Nm} (h : (keptL l room i d).2 ≠ 0) : (keptL l room i d).1 = l := by
  unfold keptL at h ⊢
  split at h
  · rename_i hc; rw [if_pos hc]
  · exact absurd rfl h
theorem write_bad {l : List NodeL} {room i a : Int} {s : Nm} (h : (writeL l room i a s).2 ≠ 0) : (writeL l room i a s).1 = l := by
  unfold writeL at h ⊢
  repeat' split
  all_goals first | rfl | skip
  rename_i h1 h2 h3 h4
  rw [if_neg h1, if_neg h2, if_neg h3, if_neg h4] at h
  exact kept_bad h
theorem cut_bad {l : List NodeL} {room i n : Int} (h : (cutL l room i n).2 ≠ 0) : (cutL l room i n).1 = l := by
  unfold cutL at h ⊢
  split
  · rfl
  · rename_i h1
    rw [if_neg h1] at h
    split
    · rfl
    · rename_i h2
      rw [if_neg h2] at h
      split
      · rename_i h3; rw [if_pos h3] at h; exact kept_bad h
      · rename_i h3
        rw [if_neg h3] at h
        split
        · rfl
        · rename_i h4; rw [if_neg h4] at h; exact kept_bad h
/-- What was written: the file, its place, its new data. -/
theorem write_ok {l : List NodeL} {room i a : Int} {s : Nm} (h : (writeL l room i a s).2 = 0) : fileE l i = 0 ∧ 0 ≤ a ∧ ((s = [] ∧ (writeL l room i a s).1 = l) ∨ (s ≠ [] ∧ a ≤ 1000 ∧ (writeL l room i a s).1 = setL l i (dataN (getL l i) (putD (getL l i).data s a))
    ∧ ¬ ((getL l i).data.length < (putD (getL l i).data s a).length ∧ room < (bytesL l : Int) + (putD (getL l i).data s a).length - (getL l i).data.length))) := by
  unfold writeL at h ⊢
  split at h
  · rename_i h1; exact absurd h h1
  · rename_i h1
    rw [if_neg h1]
    split at h
    · cases h
    · rename_i h2
      rw [if_neg h2]
      split at h
      · rename_i h3; rw [if_pos h3]; exact ⟨Decidable.not_not.1 h1, by omega, .inl ⟨h3, rfl⟩⟩
      · rename_i h3
        rw [if_neg h3]
        split at h
        · cases h
        · rename_i h4
          rw [if_neg h4]
          obtain ⟨k1, k2⟩ := kept_ok h
          exact ⟨Decidable.not_not.1 h1, by omega, .inr ⟨h3, by omega, k1, k2⟩⟩
end Go.Proofs.Ythpcldmhamjnbaa
