/-
  The program's zero, plain, rooted, allNamable, links.
-/
import Derived.Test.YtknjmdgnbhohdaaDskM
import Derived.ChangeKeysEq
namespace Go.Proofs.Ytknjmdgnbhohdaa
open Go.RowKit Go.Shelf
attribute [local go_sem ↓] Go.wp_at_zero Go.wp_at_succ

def sixB (n : NodeL) : Bool := decide (n.kind = 0 ∧ n.mode = 0 ∧ n.owner = 0 ∧ n.links = 0 ∧ n.opn = 0 ∧ n.up = 0)
theorem eqSix (n : NodeL) (w : World) : (Op.equalIn 10000 80 (.agg #[.int .i64 n.kind, .int .i64 n.mode, .int .i64 n.owner, .int .i64 n.links, .int .i64 n.opn, .int .i64 n.up]) (.agg #[.int .i64 0, .int .i64 0, .int .i64 0, .int .i64 0, .int .i64 0, .int .i64 0])).run Try.prog w = .ok (sixB n) w := by
  have u3 := Try.underlying3
  have a3 := Try.isAgg3
  obtain ⟨i, hi⟩ : ∃ i, Try.prog.info? 3 = some i := ⟨_, rfl⟩
  have hc : Try.prog.cellsOf 3 = 1 := by kernel_rfl
  rw [show (10000 : Nat) = 9998 + 1 + 1 from rfl, run_equalIn_array w (9998 + 1) _ _ Try.underlying80 hi, hc, show List.range 6 = [0, 1, 2, 3, 4, 5] from rfl]
  simp only [Op.eqItems]
  go_simp
  unfold sixB
  by_cases h0 : n.kind = 0 <;> by_cases h1 : n.mode = 0 <;> by_cases h2 : n.owner = 0 <;> by_cases h3 : n.links = 0 <;> by_cases h4 : n.opn = 0 <;> by_cases h5 : n.up = 0 <;> simp [h0, h1, h2, h3, h4, h5]
theorem zero_split (n : NodeL) : decide (n = zeroN) = (sixB n && (List.isEmpty n.data && (n.names.length : Int) == 0)) := by
  rw [Bool.eq_iff_iff, decide_eq_true_iff]
  unfold sixB
  simp only [Bool.and_eq_true, decide_eq_true_iff, List.isEmpty_iff, beq_iff_eq]
  constructor
  · intro h
    subst h
    simp [zeroN]
  · rintro ⟨⟨h0, h1, h2, h3, h4, h5⟩, h6, h7⟩
    exact node_ext h0 h1 h2 h3 h4 h5 h6 (List.eq_nil_of_length_eq_zero (by omega))
set_option maxRecDepth 100000 in
set_option maxHeartbeats 1000000 in
theorem zero_any (n : NodeL) (ao : Option Addr) (cap : Nat) (w : World) : Calls Try.prog 43 #[nval n (.slice ao n.names.length cap)] w fun e w' => e = .returned (.bool (decide (n = zeroN))) ∧ Below w.heap.size w w' := by
  have hE := eqSix n
  rw [zero_split]
  cases h1 : sixB n with
  | false =>
    rw [h1] at hE
    go_enter Try.func43, Try.ntmps43
    go_wp2_with fail
    go_ret
    exact ⟨rfl, ((Below.refl _ w).alloc (Nat.le_refl _) _).alloc (by simp) _⟩
  | true =>
    rw [h1] at hE
    cases h2 : List.isEmpty n.data with
    | false =>
      go_enter Try.func43, Try.ntmps43
      go_wp2_with fail
      go_ret
      exact ⟨rfl, ((Below.refl _ w).alloc (Nat.le_refl _) _).alloc (by simp) _⟩
    | true =>
      go_enter Try.func43, Try.ntmps43
      go_wp2_with fail
      go_ret
      exact ⟨rfl, ((Below.refl _ w).alloc (Nat.le_refl _) _).alloc (by simp) _⟩
set_option maxRecDepth 100000 in
set_option maxHeartbeats 1000000 in
theorem plain_any (n : NodeL) (v : Value) (w : World) : Calls Try.prog 32 #[nval n v] w fun e w' => e = .returned (.bool (plainB n)) ∧ Below w.heap.size w w' := by
  have hs : plainB n = (withinB n.kind 1 3 && (withinB n.mode 0 63 && decide (0 ≤ n.opn))) := by unfold plainB withinB; simp only [Bool.and_assoc]
  rw [hs]
  clear hs
  cases h1 : withinB n.kind 1 3 with
  | false =>
    have H1 := Lib.hid h1
    clear h1
    go_enter Try.func32, Try.ntmps32
    go_wp2_with fail
    refine (within_any _ _ _ _).mono ?_
    rintro e w1 ⟨rfl, rfl⟩
    rw [H1.out]
    go_wp2_with fail
    go_ret
    exact ⟨rfl, (Below.refl _ w).alloc (Nat.le_refl _) _⟩
  | true =>
    cases h2 : withinB n.mode 0 63 with
    | false =>
      have H1 := Lib.hid h1
      have H2 := Lib.hid h2
      clear h1 h2
      go_enter Try.func32, Try.ntmps32
      go_wp2_with fail
      refine (within_any _ _ _ _).mono ?_
      rintro e w1 ⟨rfl, rfl⟩
      rw [H1.out]
      go_wp2_with fail
      refine (within_any _ _ _ _).mono ?_
      rintro e w1 ⟨rfl, rfl⟩
      rw [H2.out]
      go_wp2_with fail
      go_ret
      exact ⟨rfl, (Below.refl _ w).alloc (Nat.le_refl _) _⟩
    | true =>
      have H1 := Lib.hid h1
      have H2 := Lib.hid h2
      clear h1 h2
      go_enter Try.func32, Try.ntmps32
      go_wp2_with fail
      refine (within_any _ _ _ _).mono ?_
      rintro e w1 ⟨rfl, rfl⟩
      rw [H1.out]
      go_wp2_with fail
      refine (within_any _ _ _ _).mono ?_
      rintro e w1 ⟨rfl, rfl⟩
      rw [H2.out]
      go_wp2_with fail
      go_ret
      exact ⟨rfl, (Below.refl _ w).alloc (Nat.le_refl _) _⟩
set_option maxRecDepth 100000 in
set_option maxHeartbeats 1000000 in
theorem links_any (s : Nat × Int) (i : Int) (w : World) (hs : s.1 ≤ 100000) : Calls Try.prog 39 #[.agg #[.int .i64 s.1, .int .i64 s.2], .int .i64 i] w fun e w' => e = .returned (.int .i64 (linksC i s)) ∧ Below w.heap.size w w' := by
  unfold linksC
  by_cases h : i = 0
  · have hI : (i == 0) = true := by simpa using h
    rw [if_pos h]
    clear h
    go_enter Try.func39, Try.ntmps39
    go_wp2_with fail
    go_ret
    exact ⟨ret_int (by rfl), (Below.refl _ w).alloc (Nat.le_refl _) _⟩
  · have hI : (i == 0) = false := by simpa using h
    rw [if_neg h]
    clear h
    go_enter Try.func39, Try.ntmps39
    go_wp2_with fail
    go_ret
    exact ⟨ret_int (by rfl), (Below.refl _ w).alloc (Nat.le_refl _) _⟩
end Go.Proofs.Ytknjmdgnbhohdaa
