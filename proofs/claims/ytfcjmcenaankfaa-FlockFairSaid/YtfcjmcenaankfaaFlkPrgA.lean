/-
  The program's isKind, isOpen, clash, and the closures that count is handed.
-/
import Derived.Test.YtfcjmcenaankfaaFlkRefB
namespace Go.Proofs.Ytfcjmcenaankfaa
open Go.RowKit Go.Shelf
attribute [local go_sem ↓] Go.wp_at_zero Go.wp_at_succ

set_option maxRecDepth 100000 in
set_option maxHeartbeats 4000000 in
theorem pkind_c (kind : Int) (w : World) :
    Calls Try.prog 20 #[.int .i64 kind] w fun e w' => e = .returned (.bool (kindB kind)) ∧ Below w.heap.size w w' := by
  have HB := Lib.hid (Below.refl w.heap.size w)
  go_enter Try.func20, Try.ntmps20
  by_cases h1 : 0 ≤ kind
  · have i1 : decide (0 ≤ kind) = true := decide_eq_true h1
    by_cases h2 : kind ≤ 2
    · have i2 : decide (kind ≤ 2) = true := decide_eq_true h2
      have HK : Hid (kindB kind = true) := Lib.hid (by unfold kindB; rw [i1, i2]; rfl)
      clear h1 h2
      go_wp2_with fail
      go_ret
      exact ⟨by rw [HK.out]; rfl, HB.out⟩
    · have i2 : decide (kind ≤ 2) = false := decide_eq_false h2
      have HK : Hid (kindB kind = false) := Lib.hid (by unfold kindB; rw [i1, i2]; rfl)
      clear h1 h2
      go_wp2_with fail
      go_ret
      exact ⟨by rw [HK.out]; rfl, HB.out⟩
  · have i1 : decide (0 ≤ kind) = false := decide_eq_false h1
    have HK : Hid (kindB kind = false) := Lib.hid (by unfold kindB; rw [i1]; rfl)
    clear h1
    go_wp2_with fail
    go_ret
    exact ⟨by rw [HK.out]; rfl, HB.out⟩
set_option maxRecDepth 100000 in
set_option maxHeartbeats 4000000 in
theorem popen1_c (d : DescL) (w : World) :
    Calls Try.prog 21 #[dvalD d] w fun e w' => e = .returned (.bool (decide (0 < d.refs))) ∧ Below w.heap.size w w' := by
  have S0 := Lib.hid (Sf.start (w := w) (X := fun _ => False) (G := []) (fun _ h => h.elim) (fun _ h => by cases h))
  go_enter Try.func21, Try.ntmps21
  go_upto_region 1 with (fail)
  refine code_fresh1 ?_
  intro W1 hb hA0 hs
  have S1 := Lib.hid (S0.out.new1 hb hA0)
  clear hb hA0 hs
  obtain ⟨-, -, -, -, x4, -⟩ := cells6 (S1.out.at 0 rfl)
  by_cases h1 : 0 < d.refs
  · have i1 : decide (0 < d.refs) = true := decide_eq_true h1
    have HK : Hid (decide (0 < d.refs) = true) := Lib.hid i1
    clear h1
    go_wp2_with fail
    go_ret
    exact ⟨by rw [HK.out]; rfl, S1.out.bel⟩
  · have i1 : decide (0 < d.refs) = false := decide_eq_false h1
    have HK : Hid (decide (0 < d.refs) = false) := Lib.hid i1
    clear h1
    go_wp2_with fail
    go_ret
    exact ⟨by rw [HK.out]; rfl, S1.out.bel⟩
/-- Does a lock of this kind, asked, bar that one, held? -/
def clashL (kind lock : Int) : Bool := if kind = 2 then decide (lock ≠ 0) else if kind = 1 then decide (lock = 2) else false
theorem clash_bars (kind : Int) (y : DescL) : clashL kind y.lock = barsB kind y := by
  unfold clashL barsB
  by_cases h1 : kind = 2
  · rw [if_pos h1, decide_eq_true h1, decide_eq_false (show ¬ kind = 1 by omega)]; simp
  · rw [if_neg h1, decide_eq_false h1]
    by_cases h2 : kind = 1
    · rw [if_pos h2, decide_eq_true h2]; simp
    · rw [if_neg h2, decide_eq_false h2]; simp
set_option maxRecDepth 100000 in
set_option maxHeartbeats 4000000 in
theorem pclash_c (kind lock : Int) (w : World) :
    Calls Try.prog 24 #[.int .i64 kind, .int .i64 lock] w fun e w' => e = .returned (.bool (clashL kind lock)) ∧ Below w.heap.size w w' := by
  have HB := Lib.hid (Below.refl w.heap.size w)
  go_enter Try.func24, Try.ntmps24
  by_cases h1 : kind = 2
  · have i11 : (kind == 2) = true := by simpa using h1
    have i12 : decide (kind = 2) = true := decide_eq_true h1
    have i13 : (kind != 2) = false := by simpa using h1
    by_cases h2 : lock = 0
    · have i21 : (lock == 0) = true := by simpa using h2
      have i22 : decide (lock = 0) = true := decide_eq_true h2
      have i23 : (lock != 0) = false := by simpa using h2
      have HK : Hid (clashL kind lock = false) := Lib.hid (by unfold clashL; rw [if_pos h1, decide_eq_false (show ¬ lock ≠ 0 from fun h => h h2)])
      clear h1 h2
      go_wp2_with fail
      go_ret
      exact ⟨by rw [HK.out]; rfl, HB.out⟩
    · have i21 : (lock == 0) = false := by simpa using h2
      have i22 : decide (lock = 0) = false := decide_eq_false h2
      have i23 : (lock != 0) = true := by simpa using h2
      have HK : Hid (clashL kind lock = true) := Lib.hid (by unfold clashL; rw [if_pos h1, decide_eq_true (show lock ≠ 0 from h2)])
      clear h1 h2
      go_wp2_with fail
      go_ret
      exact ⟨by rw [HK.out]; rfl, HB.out⟩
  · have i11 : (kind == 2) = false := by simpa using h1
    have i12 : decide (kind = 2) = false := decide_eq_false h1
    have i13 : (kind != 2) = true := by simpa using h1
    by_cases h2 : kind = 1
    · have i31 : (kind == 1) = true := by simpa using h2
      have i32 : decide (kind = 1) = true := decide_eq_true h2
      have i33 : (kind != 1) = false := by simpa using h2
      by_cases h3 : lock = 2
      · have i21 : (lock == 2) = true := by simpa using h3
        have i22 : decide (lock = 2) = true := decide_eq_true h3
        have i23 : (lock != 2) = false := by simpa using h3
        have HK : Hid (clashL kind lock = true) := Lib.hid (by unfold clashL; rw [if_neg h1, if_pos h2, decide_eq_true h3])
        clear h1 h2 h3
        go_wp2_with fail
        go_ret
        exact ⟨by rw [HK.out]; rfl, HB.out⟩
      · have i21 : (lock == 2) = false := by simpa using h3
        have i22 : decide (lock = 2) = false := decide_eq_false h3
        have i23 : (lock != 2) = true := by simpa using h3
        have HK : Hid (clashL kind lock = false) := Lib.hid (by unfold clashL; rw [if_neg h1, if_pos h2, decide_eq_false h3])
        clear h1 h2 h3
        go_wp2_with fail
        go_ret
        exact ⟨by rw [HK.out]; rfl, HB.out⟩
    · have i31 : (kind == 1) = false := by simpa using h2
      have i32 : decide (kind = 1) = false := decide_eq_false h2
      have i33 : (kind != 1) = true := by simpa using h2
      have HK : Hid (clashL kind lock = false) := Lib.hid (by unfold clashL; rw [if_neg h1, if_neg h2])
      clear h1 h2
      go_wp2_with fail
      go_ret
      exact ⟨by rw [HK.out]; rfl, HB.out⟩
set_option maxRecDepth 100000 in
set_option maxHeartbeats 4000000 in
theorem phas1_c (k : Int) (d : DescL) (ino lock : Int) (pN pL : Nat) (w : World) (hN : w.cell? ⟨pN, 0, none⟩ = some (.int .i64 ino)) (hL : w.cell? ⟨pL, 0, none⟩ = some (.int .i64 lock)) :
    Calls Try.prog 28 #[.int .i64 k, dvalD d, .pointer (some ⟨pN, 0, none⟩), .pointer (some ⟨pL, 0, none⟩)] w fun e w' => e = .returned (.bool (decide (d.ino = ino) && decide (d.lock = lock))) ∧ Below w.heap.size w w' := by
  have S0 := Lib.hid (Sf.start (w := w) (X := fun _ => False) (G := []) (fun _ h => h.elim) (fun _ h => by cases h))
  go_enter Try.func28, Try.ntmps28
  go_upto_region 1 with (fail)
  refine code_fresh1 ?_
  intro W1 hb hA0 hs
  have cN := Lib.Below.cellOf hb hN (Nat.le_refl _)
  have cL := Lib.Below.cellOf hb hL (Nat.le_refl _)
  have S1 := Lib.hid (S0.out.new1 hb hA0)
  clear hb hA0 hs hN hL
  obtain ⟨x0, -, -, -, -, x5⟩ := cells6 (S1.out.at 0 rfl)
  by_cases h1 : d.ino = ino
  · have i11 : (d.ino == ino) = true := by simpa using h1
    have i12 : decide (d.ino = ino) = true := decide_eq_true h1
    have i13 : (d.ino != ino) = false := by simpa using h1
    by_cases h2 : d.lock = lock
    · have i21 : (d.lock == lock) = true := by simpa using h2
      have i22 : decide (d.lock = lock) = true := decide_eq_true h2
      have i23 : (d.lock != lock) = false := by simpa using h2
      have HK : Hid ((decide (d.ino = ino) && decide (d.lock = lock)) = true) := Lib.hid (by rw [i12, i22]; rfl)
      clear h1 h2
      go_wp2_with fail
      go_ret
      exact ⟨by rw [HK.out]; rfl, S1.out.bel⟩
    · have i21 : (d.lock == lock) = false := by simpa using h2
      have i22 : decide (d.lock = lock) = false := decide_eq_false h2
      have i23 : (d.lock != lock) = true := by simpa using h2
      have HK : Hid ((decide (d.ino = ino) && decide (d.lock = lock)) = false) := Lib.hid (by rw [i12, i22]; rfl)
      clear h1 h2
      go_wp2_with fail
      go_ret
      exact ⟨by rw [HK.out]; rfl, S1.out.bel⟩
  · have i11 : (d.ino == ino) = false := by simpa using h1
    have i12 : decide (d.ino = ino) = false := decide_eq_false h1
    have i13 : (d.ino != ino) = true := by simpa using h1
    have HK : Hid ((decide (d.ino = ino) && decide (d.lock = lock)) = false) := Lib.hid (by rw [i12]; rfl)
    clear h1
    go_wp2_with fail
    go_ret
    exact ⟨by rw [HK.out]; rfl, S1.out.bel⟩
set_option maxRecDepth 100000 in
set_option maxHeartbeats 4000000 in
theorem pway_c (k i : Nat) (d x : DescL) (kind : Int) (pI pX pK : Nat) (w : World) (hI : w.cell? ⟨pI, 0, none⟩ = some (.int .i64 i)) (hX : w.cell? ⟨pX, 0, none⟩ = some (.int .i64 x.ino)) (hK : w.cell? ⟨pK, 0, none⟩ = some (.int .i64 kind)) :
    Calls Try.prog 23 #[.int .i64 k, dvalD d, .pointer (some ⟨pI, 0, none⟩), .pointer (some ⟨pX, 0, none⟩), .pointer (some ⟨pK, 0, none⟩)] w fun e w' => e = .returned (.bool (decide (k ≠ i) && (decide (d.ino = x.ino) && clashL kind d.lock))) ∧ Below w.heap.size w w' := by
  have S0 := Lib.hid (Sf.start (w := w) (X := fun _ => False) (G := []) (fun _ h => h.elim) (fun _ h => by cases h))
  go_enter Try.func23, Try.ntmps23
  go_upto_region 1 with (fail)
  refine code_fresh1 ?_
  intro W1 hb hA0 hs
  have cI := Lib.Below.cellOf hb hI (Nat.le_refl _)
  have cX := Lib.Below.cellOf hb hX (Nat.le_refl _)
  have cK := Lib.Below.cellOf hb hK (Nat.le_refl _)
  have S1 := Lib.hid (S0.out.new1 hb hA0)
  clear hb hA0 hs hI hX hK
  obtain ⟨x0, -, -, -, -, x5⟩ := cells6 (S1.out.at 0 rfl)
  by_cases h1 : k = i
  · have j1 : decide (k = i) = true := decide_eq_true h1
    have j2 : decide ((k : Int) = (i : Int)) = true := decide_eq_true (by omega)
    have j3 : ((k : Int) == (i : Int)) = true := by rw [h1]; simp
    have j4 : (k == i) = true := by rw [h1]; simp
    have j5 : ((k : Int) != (i : Int)) = false := by rw [h1]; simp
    have j6 : (k != i) = false := by rw [h1]; simp
    have HK : Hid ((decide (k ≠ i) && (decide (d.ino = x.ino) && clashL kind d.lock)) = false) := Lib.hid (by rw [decide_eq_false (show ¬ k ≠ i from fun h => h h1)]; rfl)
    clear h1
    go_wp2_with fail
    go_ret
    exact ⟨by rw [HK.out]; rfl, S1.out.bel⟩
  · have j1 : decide (k = i) = false := decide_eq_false h1
    have j2 : decide ((k : Int) = (i : Int)) = false := decide_eq_false (by omega)
    have j3 : ((k : Int) == (i : Int)) = false := by rw [beq_eq_false_iff_ne]; omega
    have j4 : (k == i) = false := by rw [beq_eq_false_iff_ne]; exact h1
    have j5 : ((k : Int) != (i : Int)) = true := by simp; omega
    have j6 : (k != i) = true := by simpa using h1
    by_cases h2 : d.ino = x.ino
    · have i11 : (d.ino == x.ino) = true := by simpa using h2
      have i12 : decide (d.ino = x.ino) = true := decide_eq_true h2
      have i13 : (d.ino != x.ino) = false := by simpa using h2
      have HK : Hid ((decide (k ≠ i) && (decide (d.ino = x.ino) && clashL kind d.lock)) = clashL kind d.lock) := Lib.hid (by rw [decide_eq_true (show k ≠ i from h1), i12]; rfl)
      clear h1 h2
      go_wp2_with fail
      refine (pclash_c kind d.lock _).mono ?_
      rintro e W2 ⟨rfl, hb⟩
      clear x0 x5
      have S2 := Lib.hid (S1.out.call hb)
      clear hb
      obtain ⟨c, hc⟩ : ∃ c, c = clashL kind d.lock := ⟨_, rfl⟩
      rw [← hc]
      have HC := Lib.hid hc
      clear hc
      go_wp2_with fail
      go_ret
      exact ⟨by rw [HK.out, ← HC.out]; rfl, S2.out.bel⟩
    · have i11 : (d.ino == x.ino) = false := by simpa using h2
      have i12 : decide (d.ino = x.ino) = false := decide_eq_false h2
      have i13 : (d.ino != x.ino) = true := by simpa using h2
      have HK : Hid ((decide (k ≠ i) && (decide (d.ino = x.ino) && clashL kind d.lock)) = false) := Lib.hid (by rw [i12]; simp)
      clear h1 h2
      go_wp2_with fail
      go_ret
      exact ⟨by rw [HK.out]; rfl, S1.out.bel⟩
end Go.Proofs.Ytfcjmcenaankfaa
