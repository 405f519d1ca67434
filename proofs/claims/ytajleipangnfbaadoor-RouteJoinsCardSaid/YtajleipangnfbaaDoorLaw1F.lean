/-
  The walk of RouteJoins.
-/
import Derived.Test.YtajleipangnfbaaDoorLaw1E
import Derived.Test.YtajleipangnfbaaDoorKitB
namespace Go.Proofs.YtajleipangnfbaaDoor
open Go.RowKit Go.Shelf

theorem suf_form {l : List UInt8} (h : Lib.hasSuffix l [47] = true) : ∃ m, l = m ++ [47] := by
  have hl : l ≠ [] := by rintro rfl; cases h
  rw [suf_eq _ hl, beq_iff_eq] at h
  exact ⟨l.dropLast, by rw [← h]; exact (List.dropLast_concat_getLast hl).symm⟩
theorem join_root {p q : List UInt8} (h : Lib.hasPrefix q [47] = true) : joinL p q = q := by unfold joinL; rw [if_pos (.inr h)]
theorem join_parts {p q : List UInt8} (h : Lib.hasPrefix q [47] = false) : parts (joinL p q) = parts p ++ parts q ∧ Lib.hasPrefix (joinL p q) [47] = Lib.hasPrefix p [47] := by
  by_cases hp : p = []
  · subst hp
    unfold joinL; rw [if_pos (.inl rfl), parts_nil]; exact ⟨rfl, h⟩
  · have hn : ¬ (p = [] ∨ Lib.hasPrefix q [47] = true) := by rintro (h1 | h1); exact hp h1; rw [h] at h1; cases h1
    by_cases hq : q = []
    · subst hq
      unfold joinL; rw [if_neg hn, if_pos rfl, parts_nil]; exact ⟨by simp, rfl⟩
    · by_cases hs : Lib.hasSuffix p [47] = true
      · unfold joinL; rw [if_neg hn, if_neg hq, if_pos hs]
        obtain ⟨m, rfl⟩ := suf_form hs
        refine ⟨?_, hasPrefix_app hp⟩
        rw [List.append_assoc, List.singleton_append, parts_app, parts_snoc]
      · unfold joinL; rw [if_neg hn, if_neg hq, if_neg hs]
        refine ⟨?_, by rw [List.append_assoc]; exact hasPrefix_app hp⟩
        rw [List.append_assoc, List.singleton_append, parts_app]
theorem strs_app (a b : List (List UInt8)) : strs a ++ strs b = strs (a ++ b) := by simp [strs]
theorem strs_one (a : List (List UInt8)) : ∀ u ∈ strs a, u.oneCell' = true := by
  intro u hu
  obtain ⟨x, _, rfl⟩ := List.mem_map.1 hu
  rfl
theorem strs_len (a : List (List UInt8)) : (strs a).length = a.length := by simp [strs]

set_option maxRecDepth 100000 in
set_option maxHeartbeats 1000000 in
theorem joins_root (p q : ByteArray) (hp : p.size ≤ 100) (hq : q.size ≤ 100) (hr : Lib.hasPrefix q.data.toList [47] = true) (w : World) : Calls Tryd.prog 8 #[.string p, .string q] w fun e W' => e = .returned (.bool true) ∧ Below w.heap.size w W' := by
  have h1 : decide ((100 : Int) < (p.size : Int)) = false := by simp; omega
  have h2 : decide ((100 : Int) < (q.size : Int)) = false := by simp; omega
  have hp' : p.size ≤ 65000 := by omega
  have hq' : q.size ≤ 65000 := by omega
  have hln : (parts q.data.toList).length ≤ 65000 := by have := spans_len q.data.toList; rw [data_len] at this; simp only [parts, List.length_map]; omega
  have hj : joinL p.data.toList q.data.toList = q.data.toList := join_root hr
  go_enter Tryd.func8, Tryd.ntmps8
  go_wp2_with fail
  refine (shown_any _).mono ?_
  rintro e w1 ⟨rfl, hb1⟩
  go_wp2_with fail
  refine (split_any _ hp' _).mono ?_
  rintro e w2 ⟨v2, rfl, ho2, hb2⟩
  go_wp2_with fail
  refine (split_any _ hq' _).mono ?_
  rintro e w3 ⟨v3, rfl, ho3, hb3⟩
  rw [hr]
  go_wp2_with fail
  refine (join_any _ _ hp' hq' _).mono ?_
  rintro e w4 ⟨rfl, rfl⟩
  rw [hj]
  go_wp2_with fail
  refine (split_list _ (by rw [data_len]; exact hq') _).mono ?_
  rintro e w5 ⟨v5, rfl, ho5, hb5⟩
  rw [hr]
  have ho3' := ownsRow_below ho3 hb5
  go_wp2_with fail
  refine (texts_any _ _ hln _ _ _ _ _ ho3' ho5).mono ?_
  rintro e w6 ⟨rfl, j6, rfl⟩
  go_wp2_with fail
  go_ret
  refine ⟨by simp, ?_⟩
  have s1 := hb1.size
  have s2 := hb2.size
  have s3 := hb3.size
  exact hb1.trans ((hb2.mono s1).trans ((hb3.mono (by omega)).trans (below_drewN (hb5.mono (by omega)) j6)))

set_option maxRecDepth 100000 in
set_option maxHeartbeats 1000000 in
theorem joins_more (p q : ByteArray) (hp : p.size ≤ 100) (hq : q.size ≤ 100) (hr : Lib.hasPrefix q.data.toList [47] = false) (w : World) : Calls Tryd.prog 8 #[.string p, .string q] w fun e W' => e = .returned (.bool true) ∧ Below w.heap.size w W' := by
  have h1 : decide ((100 : Int) < (p.size : Int)) = false := by simp; omega
  have h2 : decide ((100 : Int) < (q.size : Int)) = false := by simp; omega
  have hp' : p.size ≤ 65000 := by omega
  have hq' : q.size ≤ 65000 := by omega
  have hlp : (parts p.data.toList).length ≤ 100 := by have := spans_len p.data.toList; rw [data_len] at this; simp only [parts, List.length_map]; omega
  have hlq : (parts q.data.toList).length ≤ 100 := by have := spans_len q.data.toList; rw [data_len] at this; simp only [parts, List.length_map]; omega
  obtain ⟨i0, hi, hz0, hz1, hz2⟩ := info_parts infoStr
  obtain ⟨g1, g2⟩ := join_parts (p := p.data.toList) hr
  obtain ⟨j, hj⟩ : ∃ j, j = joinL p.data.toList q.data.toList := ⟨_, rfl⟩
  have hjl : j.length ≤ 65000 := by have := joinL_len p.data.toList q.data.toList; rw [← hj, data_len, data_len] at this; omega
  rw [← hj] at g1 g2
  have G1 := Lib.hid g1
  have G2 := Lib.hid g2
  have HJ := Lib.hid hj
  clear g1 g2 hj
  go_enter Tryd.func8, Tryd.ntmps8
  go_wp2_with fail
  refine (shown_any _).mono ?_
  rintro e w1 ⟨rfl, hb1⟩
  go_wp2_with fail
  refine (split_any _ hp' _).mono ?_
  rintro e w2 ⟨v2, rfl, ho2, hb2⟩
  go_wp2_with fail
  refine (split_any _ hq' _).mono ?_
  rintro e w3 ⟨v3, rfl, ho3, hb3⟩
  rw [hr]
  go_wp2_with fail
  refine (join_any _ _ hp' hq' _).mono ?_
  rintro e w4 ⟨rfl, rfl⟩
  rw [← HJ.out]
  go_wp2_with fail
  refine (split_list _ hjl _).mono ?_
  rintro e w5 ⟨v5, rfl, ho5, hb5⟩
  rw [G1.out] at ho5
  rw [G2.out]
  have ho2' := ownsRow_below (ownsRow_below ho2 hb3) hb5
  have ho3' := ownsRow_below ho3 hb5
  have hB5 : Below w.heap.size w w5 := by
    have s1 := hb1.size
    have s2 := hb2.size
    have s3 := hb3.size
    exact hb1.trans ((hb2.mono s1).trans ((hb3.mono (by omega)).trans (hb5.mono (by omega))))
  clear hb1 hb2 hb3 hb5 ho2 ho3
  have hlit := World.ownsRow_lit (base := w5.heap.size) (e := 9) (size := 1) w5 #[] 0 (Nat.le_refl _) (Nat.zero_le _) rfl
  have hA1 : Below w5.heap.size w5 (w5.alloc (.cells #[] 9)) := (Below.refl _ _).alloc (Nat.le_refl _) _
  have ho2a := ownsRow_below ho2' hA1
  go_wp2_with (first | (at_builtin; refine wpList_append_row rfl (.tmp 54) (.tmp 55) 23 rfl w5.heap.size 9 i0 (.string ByteArray.empty) 1 16 Tryd.underlying23 hi hz0 hz1 hz2 rfl (by decide) _ _ _ rfl hlit _ _ _ _ rfl ho2a (strs_one _) (by unfold maxLen; omega) (by omega) (by simp) ?_; intro v6 w6 ho6 hg6; simp only [Nat.zero_add, List.nil_append] at ho6; have hB6 := below_grown (Nat.le_refl _) hA1 hlit hg6; have ho3b := ownsRow_below ho3' hB6) | (at_builtin; refine wpList_append_row rfl (.tmp 56) (.tmp 57) 23 rfl w5.heap.size 9 i0 (.string ByteArray.empty) 1 16 Tryd.underlying23 hi hz0 hz1 hz2 rfl (by decide) _ _ _ rfl ho6 _ _ _ _ rfl ho3b (strs_one _) (by unfold maxLen; omega) (by omega) hB6.size ?_; intro v7 w7 ho7 hg7; have hB7 := below_grown (Nat.le_refl _) hB6 ho6 hg7; have ho5b := ownsRow_below ho5 hB7) | (go_at_call 12; rw [strs_app, ← List.length_append] at ho7; refine (texts_any _ _ (by simp; omega) _ _ _ _ _ ho7 ho5b).mono ?_; rintro e w8 ⟨rfl, j8, rfl⟩))
  go_ret
  refine ⟨by simp, hB5.trans (below_drewN (hB7.mono hB5.size) j8)⟩

theorem joins_walk (p q : ByteArray) (_ : p.size ≤ 9223372036854775807) (_ : q.size ≤ 9223372036854775807) (w : World) : Calls Tryd.prog 8 #[.string p, .string q] w fun e W' => e = .returned (.bool true) ∧ Below w.heap.size w W' := by
  by_cases hp : 100 < p.size
  · have h1 : decide ((100 : Int) < (p.size : Int)) = true := by simp; omega
    clear hp
    go_enter Tryd.func8, Tryd.ntmps8
    go_wp2_with (go_at_call 9; refine (shown_any _).mono ?_; rintro e w1 ⟨rfl, hb1⟩)
    go_ret
    exact ⟨rfl, hb1⟩
  · have h1 : decide ((100 : Int) < (p.size : Int)) = false := by simp; omega
    by_cases hq : 100 < q.size
    · have h2 : decide ((100 : Int) < (q.size : Int)) = true := by simp; omega
      clear hp hq
      go_enter Tryd.func8, Tryd.ntmps8
      go_wp2_with (go_at_call 9; refine (shown_any _).mono ?_; rintro e w1 ⟨rfl, hb1⟩)
      go_ret
      exact ⟨rfl, hb1⟩
    · cases hr : Lib.hasPrefix q.data.toList [47] with
      | true => exact joins_root p q (by omega) (by omega) hr w
      | false => exact joins_more p q (by omega) (by omega) hr w
end Go.Proofs.YtajleipangnfbaaDoor
