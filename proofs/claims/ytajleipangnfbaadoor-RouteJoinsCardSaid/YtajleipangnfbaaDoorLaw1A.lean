/-
  What is shown in each statement on paths: the example.
-/
import Derived.Test.YtajleipangnfbaaDoorRefF
namespace Go.Proofs.YtajleipangnfbaaDoor
open Go.RowKit Go.Shelf

theorem lt_of_cell {W : World} {g k : Nat} {v : Value} (h : W.cell? ⟨g, k, none⟩ = some v) : g < W.heap.size := by
  unfold World.cell? at h
  rcases Nat.lt_or_ge g W.heap.size with h1 | h1
  · exact h1
  · rw [Array.getElem?_eq_none h1] at h; simp at h
abbrev exP : ByteArray := ⟨#[47, 97, 47, 47, 98, 47]⟩
theorem parts_ex : parts exP.data.toList = [[97], [98]] := by decide
theorem ups_ex : ups exP.data.toList = [[47, 97], [47, 97, 47, 47, 98]] := by decide

theorem split_ex (w : World) : Calls Tryd.prog 10 #[.string exP] w fun e W' => ∃ g cap, e = .returned (.tuple #[.slice (some ⟨g, 0, none⟩) 2 cap, .bool true, .bool true]) ∧
    W'.cell? ⟨g, 1, none⟩ = some (.string ⟨#[98]⟩) ∧ g < W'.heap.size ∧ Below w.heap.size w W' := by
  refine (split_any exP (by decide) w).mono fun e W' ⟨v, he, hown, hB⟩ => ?_
  rw [parts_ex] at hown
  obtain ⟨ao, cap, rfl, hf⟩ := ownsRow_form hown
  obtain ⟨g, rfl⟩ := hf (by decide)
  have hc := hown.cells (g := g) rfl 1 _ rfl
  rw [addr_add] at hc
  exact ⟨g, cap, he, hc, lt_of_cell hc, hB⟩
theorem ups_ex' (w : World) : Calls Tryd.prog 15 #[.string exP] w fun e W' => ∃ g cap, e = .returned (.slice (some ⟨g, 0, none⟩) 2 cap) ∧
    W'.cell? ⟨g, 1, none⟩ = some (.string ⟨#[47, 97, 47, 47, 98]⟩) ∧ g < W'.heap.size ∧ Below w.heap.size w W' := by
  refine (ups_any exP (by decide) w).mono fun e W' ⟨v, he, hown, hB⟩ => ?_
  rw [ups_ex] at hown
  obtain ⟨ao, cap, rfl, hf⟩ := ownsRow_form hown
  obtain ⟨g, rfl⟩ := hf (by decide)
  have hc := hown.cells (g := g) rfl 1 _ rfl
  rw [addr_add] at hc
  exact ⟨g, cap, he, hc, lt_of_cell hc, hB⟩
theorem base_ex (w : World) : Calls Tryd.prog 17 #[.string exP] w fun e W' => e = .returned (.string ⟨#[98]⟩) ∧ Below w.heap.size w W' :=
  (base_any exP (by decide) w).mono fun e W' ⟨he, hB⟩ => ⟨by rw [he, show baseL exP.data.toList = [98] from by decide], hB⟩
theorem dir_ex (w : World) : Calls Tryd.prog 19 #[.string exP] w fun e W' => e = .returned (.string ⟨#[47, 97]⟩) ∧ Below w.heap.size w W' :=
  (dir_any exP (by decide) w).mono fun e W' ⟨he, hB⟩ => ⟨by rw [he, show dirL exP.data.toList = [47, 97] from by decide], hB⟩
theorem join_ex (w : World) : Calls Tryd.prog 21 #[.string ⟨#[97]⟩, .string ⟨#[98]⟩] w fun e W' => e = .returned (.string ⟨#[97, 47, 98]⟩) ∧ W' = w :=
  (join_any ⟨#[97]⟩ ⟨#[98]⟩ (by decide) (by decide) w).mono fun e W' ⟨he, hB⟩ => ⟨by rw [he, show joinL (⟨#[97]⟩ : ByteArray).data.toList (⟨#[98]⟩ : ByteArray).data.toList = [97, 47, 98] from by decide], hB⟩
theorem check_ex0 (w : World) : Calls Tryd.prog 13 #[.string ⟨#[]⟩] w fun e W' => e = .returned (.int .i64 2) ∧ Below w.heap.size w W' :=
  (check_any ⟨#[]⟩ (by decide) w).mono fun e W' ⟨he, hB⟩ => ⟨by rw [he, show checkE (⟨#[]⟩ : ByteArray).data.toList = 2 from by decide], hB⟩
theorem check_ex1 (w : World) : Calls Tryd.prog 13 #[.string ⟨#[97]⟩] w fun e W' => e = .returned (.int .i64 0) ∧ Below w.heap.size w W' :=
  (check_any ⟨#[97]⟩ (by decide) w).mono fun e W' ⟨he, hB⟩ => ⟨by rw [he, show checkE (⟨#[97]⟩ : ByteArray).data.toList = 0 from by decide], hB⟩

set_option maxRecDepth 100000 in
set_option maxHeartbeats 1000000 in
theorem shown_any (w : World) : Calls Tryd.prog 9 #[] w fun e W' => e = .returned (.bool true) ∧ Below w.heap.size w W' := by
  go_enter Tryd.func9, Tryd.ntmps9
  go_wp2_with fail
  refine (split_ex _).mono ?_
  rintro e w1 ⟨g1, c1, rfl, hc1, hg1, hb1⟩
  go_wp2_with fail
  refine (ups_ex' _).mono ?_
  rintro e w2 ⟨g2, c2, rfl, hc2, hg2, hb2⟩
  have hd1 : w2.cell? ⟨g1, 1, none⟩ = some (.string ⟨#[98]⟩) := (hb2.cell (p := ⟨g1, 1, none⟩) hg1).trans hc1
  clear hc1
  go_wp2_with fail
  refine (base_ex _).mono ?_
  rintro e w3 ⟨rfl, hb3⟩
  go_wp2_with fail
  refine (dir_ex _).mono ?_
  rintro e w4 ⟨rfl, hb4⟩
  go_wp2_with fail
  refine (join_ex _).mono ?_
  rintro e w5 ⟨rfl, rfl⟩
  have hd2 : w5.cell? ⟨g2, 1, none⟩ = some (.string ⟨#[47, 97, 47, 47, 98]⟩) :=
    (hb4.cell (p := ⟨g2, 1, none⟩) (Nat.lt_of_lt_of_le hg2 hb3.size)).trans ((hb3.cell (p := ⟨g2, 1, none⟩) hg2).trans hc2)
  go_wp2_with fail
  refine (check_ex0 _).mono ?_
  rintro e w6 ⟨rfl, hb6⟩
  go_wp2_with fail
  refine (check_ex1 _).mono ?_
  rintro e w7 ⟨rfl, hb7⟩
  go_wp2_with fail
  go_ret
  exact ⟨rfl, hb1.trans ((hb2.mono hb1.size).trans ((hb3.mono (Nat.le_trans hb1.size hb2.size)).trans ((hb4.mono (Nat.le_trans hb1.size (Nat.le_trans hb2.size hb3.size))).trans
    ((hb6.mono (Nat.le_trans hb1.size (Nat.le_trans hb2.size (Nat.le_trans hb3.size hb4.size)))).trans (hb7.mono (Nat.le_trans hb1.size (Nat.le_trans hb2.size (Nat.le_trans hb3.size (Nat.le_trans hb4.size hb6.size)))))))))⟩
end Go.Proofs.YtajleipangnfbaaDoor
