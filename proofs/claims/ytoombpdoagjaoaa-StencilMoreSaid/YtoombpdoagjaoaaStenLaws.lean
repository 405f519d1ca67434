/-
  Plain laws on what is made of a stencil.
-/
import Derived.Test.YtoombpdoagjaoaaStenPlain
namespace Go.Proofs.Ytoombpdoagjaoaa

theorem makeL_len (l : List UInt8) (ds : List Int) : (makeL l ds).length = l.length := by
  have := xs_le l
  simp only [makeL, List.length_append, List.length_take, List.length_map, List.length_range]
  omega
theorem makeL_take (l : List UInt8) (ds : List Int) : (makeL l ds).take (l.length - xs l) = l.take (l.length - xs l) := by
  unfold makeL
  rw [List.take_append_of_le_length (by rw [List.length_take]; omega), List.take_of_length_le (by rw [List.length_take]; omega)]
theorem makeL_drop (l : List UInt8) (ds : List Int) : (makeL l ds).drop (l.length - xs l) = (List.range (xs l)).map fun i => lett (ds.getD i 0) := by
  unfold makeL
  rw [List.drop_append_of_le_length (by rw [List.length_take]; omega), List.drop_of_length_le (by rw [List.length_take]; omega)]
  rfl
theorem makeL_fits (l : List UInt8) (ds : List Int) : fitsB l (makeL l ds) = true := by
  unfold fitsB
  rw [makeL_len, makeL_take, makeL_drop]
  simp [lett_is]
theorem makeL_xs (l : List UInt8) (ds : List Int) (h : xs l ≠ 0) : xs (makeL l ds) = 0 := by
  obtain ⟨n, hn⟩ : ∃ n, xs l = n + 1 := ⟨xs l - 1, by omega⟩
  have e : makeL l ds = (l.take (l.length - xs l) ++ (List.range n).map fun i => lett (ds.getD i 0)) ++ [lett (ds.getD n 0)] := by
    unfold makeL
    rw [hn, List.range_succ]
    simp
  rw [e]
  refine xs_no _ _ fun h88 => ?_
  have := lett_is (ds.getD n 0)
  rw [h88] at this
  cases this
theorem map_range_inj (n : Nat) (f g : Nat → UInt8) : (List.range n).map f = (List.range n).map g ↔ ∀ i, i < n → f i = g i := by
  rw [List.map_inj_left]
  simp
theorem makeL_eq (l : List UInt8) (a b : List Int) : makeL l a = makeL l b ↔ ∀ i, i < xs l → a.getD i 0 % 36 = b.getD i 0 % 36 := by
  unfold makeL
  rw [List.append_cancel_left_eq, map_range_inj]
  simp only [lett_eq]
theorem makeL_more (l : List UInt8) (a b : List Int) (h : ∀ i, i < xs l → a.getD i 0 = b.getD i 0) : makeL l a = makeL l b :=
  (makeL_eq l a b).2 fun i hi => by rw [h i hi]
/-- A name that fits is made by the places of its letters. -/
theorem makeL_own (l m : List UInt8) (ds : List Int) (hf : fitsB l m = true) (hd : ∀ i, i < xs l → lett (ds.getD i 0) = m.getD (l.length - xs l + i) 0) : makeL l ds = m := by
  unfold fitsB at hf
  simp only [Bool.and_eq_true, decide_eq_true_eq] at hf
  obtain ⟨h1, h2, _⟩ := hf
  have hx := xs_le l
  apply List.ext_getElem (by rw [makeL_len, h1])
  intro i hi1 hi2
  by_cases hlt : i < l.length - xs l
  · have e1 : (makeL l ds)[i] = ((makeL l ds).take (l.length - xs l))[i]'(by rw [List.length_take, makeL_len]; omega) := by rw [List.getElem_take]
    have e2 : m[i] = (m.take (l.length - xs l))[i]'(by rw [List.length_take]; omega) := by rw [List.getElem_take]
    rw [e1, e2]
    simp only [makeL_take, h2]
  · obtain ⟨j, hj⟩ : ∃ j, i = l.length - xs l + j := ⟨i - (l.length - xs l), by omega⟩
    subst hj
    have hjx : j < xs l := by rw [makeL_len] at hi1; omega
    have e1 : (makeL l ds)[l.length - xs l + j] = ((makeL l ds).drop (l.length - xs l))[j]'(by rw [List.length_drop, makeL_len]; omega) := by rw [List.getElem_drop]
    rw [e1]
    simp only [makeL_drop, List.getElem_map, List.getElem_range]
    rw [hd j hjx, List.getD_eq_getElem?_getD, List.getElem?_eq_getElem hi2]
    rfl
theorem fits_letter {l m : List UInt8} (hf : fitsB l m = true) (i : Nat) (h1 : l.length - xs l ≤ i) (h2 : i < m.length) : isLett m[i] = true := by
  unfold fitsB at hf
  simp only [Bool.and_eq_true, decide_eq_true_eq] at hf
  refine List.all_eq_true.1 hf.2.2 _ ?_
  refine List.mem_drop_iff_getElem.2 ⟨i - (l.length - xs l), by omega, ?_⟩
  simp only [show l.length - xs l + (i - (l.length - xs l)) = i from by omega]
theorem fits_len {l m : List UInt8} (hf : fitsB l m = true) : m.length = l.length := by
  unfold fitsB at hf
  simp only [Bool.and_eq_true, decide_eq_true_eq] at hf
  exact hf.1
theorem lett_nat (k : Nat) (hk : k < 36) : lett (k : Int) = lettL.getD k 0 := by
  unfold lett
  rw [show ((k : Int) % 36).toNat = k from by omega]
end Go.Proofs.Ytoombpdoagjaoaa
