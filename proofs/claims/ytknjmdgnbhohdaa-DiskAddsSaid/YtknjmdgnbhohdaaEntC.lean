/-
  Which names may be: the program's and the document's.
-/
import Derived.Test.YtknjmdgnbhohdaaEntB
namespace Go.Proofs.Ytknjmdgnbhohdaa
open Go.RowKit Go.Shelf

theorem legal_err {s : Nm} (h : s = [] ∨ s = [46] ∨ s = [46, 46] ∨ s.any barredL = true) : legalL s = 1 := if_pos h
theorem legal_long {s : Nm} (h : ¬ (s = [] ∨ s = [46] ∨ s = [46, 46] ∨ s.any barredL = true)) (hl : 12 < s.length) : legalL s = 9 := by unfold legalL; rw [if_neg h, if_pos hl]
theorem legal_ok {s : Nm} (h : ¬ (s = [] ∨ s = [46] ∨ s = [46, 46] ∨ s.any barredL = true)) (hl : ¬ 12 < s.length) : legalL s = 0 := by unfold legalL; rw [if_neg h, if_neg hl]
theorem empty_false {s : Nm} (h : s ≠ []) : s.isEmpty = false := by cases s with | nil => exact absurd rfl h | cons a l => rfl
theorem beq_list_false {a b : Nm} (h : a ≠ b) : (a == b) = false := by rw [beq_eq_false_iff_ne]; exact h

set_option maxRecDepth 100000 in
set_option maxHeartbeats 1000000 in
theorem legal_any (s : Nm) (hm : s.length ≤ maxLen) (w : World) : Calls Try.prog 51 #[.string (bs s)] w fun e w' => e = .returned (.int .i64 (legalL s)) ∧ Below w.heap.size w w' := by
  by_cases h0 : s = []
  · subst h0
    go_enter Try.func51, Try.ntmps51
    go_wp2_with fail
    go_ret
    exact ⟨ret_int rfl, Below.refl _ _⟩
  by_cases h1 : s = [46]
  · subst h1
    go_enter Try.func51, Try.ntmps51
    go_wp2_with fail
    go_ret
    exact ⟨ret_int rfl, Below.refl _ _⟩
  by_cases h2 : s = [46, 46]
  · subst h2
    go_enter Try.func51, Try.ntmps51
    go_wp2_with fail
    go_ret
    exact ⟨ret_int rfl, Below.refl _ _⟩
  have e0 := empty_false h0
  have e1 := beq_list_false h1
  have e2 := beq_list_false h2
  have hc := fun w => containsAny_any (bs s) (by rw [bs_size]; exact hm) w
  rw [bs_list] at hc
  by_cases hb : s.any barredL = true
  · have H : Hid (legalL s = 1) := Lib.hid (legal_err (.inr (.inr (.inr hb))))
    rw [hb] at hc
    clear h0 h1 h2 hb hm
    go_enter Try.func51, Try.ntmps51
    go_wp2_with fail
    refine (hc _).mono ?_
    rintro e w1 ⟨rfl, hb1⟩
    go_wp2_with fail
    go_ret
    exact ⟨ret_int H.out.symm, hb1⟩
  · have hn : ¬ (s = [] ∨ s = [46] ∨ s = [46, 46] ∨ s.any barredL = true) := by
      rintro (h | h | h | h)
      · exact h0 h
      · exact h1 h
      · exact h2 h
      · exact hb h
    rw [show s.any barredL = false by simpa using hb] at hc
    by_cases hl : 12 < s.length
    · have H : Hid (legalL s = 9) := Lib.hid (legal_long hn hl)
      have hI : decide ((12 : Int) < (s.length : Int)) = true := by simp; omega
      clear h0 h1 h2 hb hm hn hl
      go_enter Try.func51, Try.ntmps51
      go_wp2_with fail
      refine (hc _).mono ?_
      rintro e w1 ⟨rfl, hb1⟩
      go_wp2_with fail
      go_ret
      exact ⟨ret_int H.out.symm, hb1⟩
    · have H : Hid (legalL s = 0) := Lib.hid (legal_ok hn hl)
      have hI : decide ((12 : Int) < (s.length : Int)) = false := by simp; omega
      clear h0 h1 h2 hb hm hn hl
      go_enter Try.func51, Try.ntmps51
      go_wp2_with fail
      refine (hc _).mono ?_
      rintro e w1 ⟨rfl, hb1⟩
      go_wp2_with fail
      go_ret
      exact ⟨ret_int H.out.symm, hb1⟩

theorem any_take8 (s : Nm) (p : UInt8 → Bool) (k : Nat) (h : k < s.length) : (s.take (k + 1)).any p = ((s.take k).any p || p s[k]) := by
  rw [List.take_succ_eq_append_getElem h, List.any_append]
  simp
set_option maxRecDepth 100000 in
set_option maxHeartbeats 1000000 in
theorem rlegal_any (s : Nm) (hm : s.length ≤ maxLen) (w : World) : Calls Try.prog 60 #[.string (bs s)] w fun e w' => e = .returned (.int .i64 (legalL s)) ∧ w = w' := by
  unfold maxLen at hm
  by_cases h0 : s = []
  · subst h0
    go_enter Try.func60, Try.ntmps60
    go_wp2_with fail
    go_ret
    exact ⟨ret_int rfl, rfl⟩
  by_cases h1 : s = [46]
  · subst h1
    go_enter Try.func60, Try.ntmps60
    go_wp2_with fail
    go_ret
    exact ⟨ret_int rfl, rfl⟩
  by_cases h2 : s = [46, 46]
  · subst h2
    go_enter Try.func60, Try.ntmps60
    go_wp2_with fail
    go_ret
    exact ⟨ret_int rfl, rfl⟩
  have e0 := empty_false h0
  have e1 := beq_list_false h1
  have e2 := beq_list_false h2
  have HN : Hid (s.any barredL = false → ¬ (s = [] ∨ s = [46] ∨ s = [46, 46] ∨ s.any barredL = true)) := Lib.hid fun hb => by
    rintro (h | h | h | h)
    · exact h0 h
    · exact h1 h
    · exact h2 h
    · rw [hb] at h; cases h
  clear h0 h1 h2
  go_enter Try.func60, Try.ntmps60
  go_wp2_with fail
  clear e0 e1 e2
  go_loop [3] (fun i => ∃ k : Nat, i = .int .i64 k ∧ k ≤ s.length ∧ Hid ((s.take k).any barredL = false)) (fun i => s.length - (intOf i).toNat)
  case atStart => exact ⟨0, rfl, Nat.zero_le _, Lib.hid rfl⟩
  case round =>
    obtain ⟨k, rfl, hk, hal⟩ := hrel
    by_cases hlt : k < s.length
    · have ht := any_take8 s barredL k hlt
      have hm1 : s[k] ∈ s := List.getElem_mem hlt
      obtain ⟨x, hx⟩ : ∃ x : UInt8, x = s[k] := ⟨s[k], rfl⟩
      have hg : ∀ h, (bs s)[k]'h = x := fun h => by rw [hx]; exact bs_get s k h
      rw [← hx] at ht hm1
      clear hx
      by_cases hq : x = 47
      · have hI : ((x.toNat : Int) == 47) = true := by rw [hq]; rfl
        have H : Hid (legalL s = 1) := Lib.hid (legal_err (.inr (.inr (.inr (List.any_eq_true.2 ⟨x, hm1, by rw [hq]; rfl⟩)))))
        clear ht hm1 hq
        go_wp2_with fail
        go_ret
        exact ⟨ret_int H.out.symm, rfl⟩
      · have hI : ((x.toNat : Int) == 47) = false := by
          rw [beq_eq_false_iff_ne]
          exact fun e => hq (UInt8.toNat_inj.1 (by simp; omega))
        by_cases hz : x = 0
        · have hJ : ((x.toNat : Int) == 0) = true := by rw [hz]; rfl
          have H : Hid (legalL s = 1) := Lib.hid (legal_err (.inr (.inr (.inr (List.any_eq_true.2 ⟨x, hm1, by rw [hz]; rfl⟩)))))
          clear ht hm1 hq hz
          go_wp2_with fail
          go_ret
          exact ⟨ret_int H.out.symm, rfl⟩
        · have hJ : ((x.toNat : Int) == 0) = false := by
            rw [beq_eq_false_iff_ne]
            exact fun e => hz (UInt8.toNat_inj.1 (by simp; omega))
          have HB : Hid ((s.take (k + 1)).any barredL = false) := Lib.hid (by
            rw [ht, hal.out]
            simp [barredL, hq, hz])
          clear ht hm1 hq hz
          go_wp2_with fail
          go_round
          case rel => exact ⟨k + 1, by go_num, hlt, HB⟩
          case measure => simp [intOf]; omega
    · have hke : k = s.length := by omega
      have HB := HN.out (by have := hal.out; rwa [hke, List.take_length] at this)
      have hI2 : decide (k < s.length) = false := by simp; omega
      by_cases hl : 12 < s.length
      · have H : Hid (legalL s = 9) := Lib.hid (legal_long HB hl)
        have hI : decide ((12 : Int) < (s.length : Int)) = true := by simp; omega
        clear hke hlt hl HB
        go_wp2_with fail
        go_ret
        exact ⟨ret_int H.out.symm, rfl⟩
      · have H : Hid (legalL s = 0) := Lib.hid (legal_ok HB hl)
        have hI : decide ((12 : Int) < (s.length : Int)) = false := by simp; omega
        clear hke hlt hl HB
        go_wp2_with fail
        go_ret
        exact ⟨ret_int H.out.symm, rfl⟩
end Go.Proofs.Ytknjmdgnbhohdaa
