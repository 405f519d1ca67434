/-
  mode: digit, May, Mask; the document's May and Mask.
-/
import Derived.Test.YtdenbimepmefpaaKit
import Derived.Test.YtdenbimepmefpaaModePlain
import Derived.Test.YtdenbimepmefpaaProg
namespace Go.Proofs.Ytdenbimepmefpaa
open Go.RowKit

theorem ret_bool {a b : Bool} (h : a = b) : Ending.returned (.bool a) = .returned (.bool b) := by rw [h]
theorem ret_str {a b : ByteArray} (h : a = b) : Ending.returned (.string a) = .returned (.string b) := by rw [h]

theorem digit0_any (m : Int) (w : World) : Calls Try.prog 20 #[.int .i64 m, .int .i64 0] w fun e w' => e = .returned (.int .i64 (m / 8 % 8)) ∧ w = w' := by
  go_enter Try.func20, Try.ntmps20
  go_wp2
  go_ret
  exact ⟨ret_int (i64_and7 _), rfl⟩
theorem digit1_any (m : Int) (w : World) : Calls Try.prog 20 #[.int .i64 m, .int .i64 1] w fun e w' => e = .returned (.int .i64 (m % 8)) ∧ w = w' := by
  go_enter Try.func20, Try.ntmps20
  go_wp2
  go_ret
  exact ⟨ret_int (i64_and7 _), rfl⟩

theorem may_any (m owner who want : Int) (w : World) : Calls Try.prog 12 #[.int .i64 m, .int .i64 owner, .int .i64 who, .int .i64 want] w fun e w' => e = .returned (.bool (mayB m owner who want)) ∧ w = w' := by
  by_cases h0 : who = 0
  · subst h0
    have H : Hid (mayB m owner 0 want = true) := Lib.hid (may_zero _ _ _)
    go_enter Try.func12, Try.ntmps12
    go_wp2
    go_ret
    exact ⟨ret_bool H.out.symm, rfl⟩
  · have h0I : (who == 0) = false := by rw [beq_eq_false_iff_ne]; exact h0
    by_cases ho : owner = who
    · have hoI : (owner == who) = true := by rw [beq_iff_eq]; exact ho
      have H : Hid (mayB m owner who want = subB want (m / 8)) := Lib.hid (by unfold mayB; rw [if_neg h0, if_pos ho])
      clear h0 ho
      go_enter Try.func12, Try.ntmps12
      go_wp2_with fail
      refine (digit1_any _ _).mono ?_
      rintro e w1 ⟨rfl, rfl⟩
      go_wp2_with fail
      refine (digit0_any _ _).mono ?_
      rintro e w1 ⟨rfl, rfl⟩
      go_wp2
      go_ret
      refine ⟨ret_bool ?_, rfl⟩
      rw [H.out, i64_and7, Bool.eq_iff_iff, beq_iff_eq]
      exact sub_andNot _ _
    · have hoI : (owner == who) = false := by rw [beq_eq_false_iff_ne]; exact ho
      have H : Hid (mayB m owner who want = subB want m) := Lib.hid (by unfold mayB; rw [if_neg h0, if_neg ho])
      clear h0 ho
      go_enter Try.func12, Try.ntmps12
      go_wp2_with fail
      refine (digit1_any _ _).mono ?_
      rintro e w1 ⟨rfl, rfl⟩
      go_wp2
      go_ret
      refine ⟨ret_bool ?_, rfl⟩
      rw [H.out, i64_and7, Bool.eq_iff_iff, beq_iff_eq]
      exact sub_andNot _ _

theorem rmay_any (m owner who want : Int) (w : World) : Calls Try.prog 13 #[.int .i64 m, .int .i64 owner, .int .i64 who, .int .i64 want] w fun e w' => e = .returned (.bool (mayB m owner who want)) ∧ w = w' := by
  by_cases h0 : who = 0
  · subst h0
    have H : Hid (mayB m owner 0 want = true) := Lib.hid (may_zero _ _ _)
    go_enter Try.func13, Try.ntmps13
    go_wp2
    go_ret
    exact ⟨ret_bool H.out.symm, rfl⟩
  · have h0I : (who == 0) = false := by rw [beq_eq_false_iff_ne]; exact h0
    by_cases ho : owner = who
    · have hoI : (owner == who) = true := by rw [beq_iff_eq]; exact ho
      have H : Hid (mayB m owner who want = subB want (m / 8)) := Lib.hid (by unfold mayB; rw [if_neg h0, if_pos ho])
      clear h0 ho
      go_enter Try.func13, Try.ntmps13
      go_wp2
      go_ret
      refine ⟨ret_bool ?_, rfl⟩
      rw [H.out, i64_and7, i64_and7, Bool.eq_iff_iff, beq_iff_eq]
      exact sub_and8 _ _
    · have hoI : (owner == who) = false := by rw [beq_eq_false_iff_ne]; exact ho
      have H : Hid (mayB m owner who want = subB want m) := Lib.hid (by unfold mayB; rw [if_neg h0, if_neg ho])
      clear h0 ho
      go_enter Try.func13, Try.ntmps13
      go_wp2
      go_ret
      refine ⟨ret_bool ?_, rfl⟩
      rw [H.out, i64_and7, i64_and7, Bool.eq_iff_iff, beq_iff_eq]
      exact sub_and8 _ _

theorem mask_any (m u : Int) (w : World) : Calls Try.prog 14 #[.int .i64 m, .int .i64 u] w fun e w' => e = .returned (.int .i64 (maskI m u)) ∧ w = w' := by
  go_enter Try.func14, Try.ntmps14
  go_wp2
  go_ret
  exact ⟨ret_int (by unfold maskI; rw [i64_and63]), rfl⟩
theorem rmask_any (m u : Int) (w : World) : Calls Try.prog 15 #[.int .i64 m, .int .i64 u] w fun e w' => e = .returned (.int .i64 (maskI m u)) ∧ w = w' := by
  go_enter Try.func15, Try.ntmps15
  go_wp2
  go_ret
  exact ⟨ret_int (by unfold maskI; rw [i64_and63]), rfl⟩
end Go.Proofs.Ytdenbimepmefpaa
