/-
  The document's Sorted and Same of entries.
-/
import Derived.Test.YtknjmdgnbhohdaaEntD
namespace Go.Proofs.Ytknjmdgnbhohdaa
open Go.RowKit Go.Shelf
attribute [local go_sem ↓] Go.wp_at_zero Go.wp_at_succ

theorem infoREnt : (Try.prog.info? 78).map (fun i => (i.zero, i.size, i.bytes)) = some (some (.agg #[.string ⟨#[]⟩, .int .i64 0]), 2, 24) := by kernel_rfl
theorem infoStr : (Try.prog.info? 9).map (fun i => (i.zero, i.size, i.bytes)) = some (some (.string ⟨#[]⟩), 1, 16) := by kernel_rfl
theorem eqEnt (x y : EntL) (w : World) : (Op.equalIn 10000 78 (.agg #[.string (bs x.1), .int .i64 x.2]) (.agg #[.string (bs y.1), .int .i64 y.2])).run Try.prog w = .ok (decide (x = y)) w := by
  have u3 := Try.underlying3
  have u9 := Try.underlying9
  have a3 := Try.isAgg3
  have a9 := Try.isAgg9
  have hS : Try.prog.underlying 78 = some (.struct (Try.prog.fieldsOf 78)) := by kernel_rfl
  rw [show (10000 : Nat) = 9998 + 1 + 1 from rfl, run_equalIn_agg w (9998 + 1) 78 _ _ hS (by kernel_rfl)]
  simp only [Program.fieldsOf, Try.underlying78]
  go_simp
  obtain ⟨x1, x2⟩ := x
  obtain ⟨y1, y2⟩ := y
  by_cases h1 : x1 = y1 <;> by_cases h2 : x2 = y2 <;> simp [h1, h2]
theorem entGuard : Try.prog.eqGuardType Try.prog.depth 78 = false := by kernel_rfl
/-- Are the first k the same? -/
def sameTo {α : Type} [DecidableEq α] (a b : List α) (k : Nat) : Prop := a.take k = b.take k
theorem sameTo_succ {α : Type} [DecidableEq α] {a b : List α} {k : Nat} (h : sameTo a b k) (ha : k < a.length) (hb : k < b.length) (e : a[k] = b[k]) : sameTo a b (k + 1) := by
  unfold sameTo at h ⊢
  rw [List.take_succ_eq_append_getElem ha, List.take_succ_eq_append_getElem hb, h, e]
set_option maxRecDepth 100000 in
set_option maxHeartbeats 1000000 in
theorem same_any (B : Nat) (va vb : Value) (a b : List EntL) (w : World) (hva : Rd B 2 va a.length (ents a) w) (hvb : Rd B 2 vb b.length (ents b) w) (ha : a.length ≤ 10000000) (hb : b.length ≤ 10000000) :
    Calls Try.prog 50 #[va, vb] w fun e w' => e = .returned (.bool (decide (a = b))) ∧ ∃ n, w' = w.drewN n := by
  obtain ⟨aoa, capa, rfl, _, _⟩ := hva.form
  obtain ⟨aob, capb, rfl, _, _⟩ := hvb.form
  have HVA := Lib.hid hva
  have HVB := Lib.hid hvb
  clear hva hvb
  by_cases hl : a.length = b.length
  · have hI : ((a.length : Int) != (b.length : Int)) = false := by rw [hl]; simp
    have HL := Lib.hid hl
    have hle1 : a.length ≤ b.length := by omega
    have hle2 : b.length ≤ a.length := by omega
    clear hl
    go_enter Try.func50, Try.ntmps50
    go_wp2_with fail
    go_loopw [5] (fun i wr => ∃ k n : Nat, i = .int .i64 k ∧ k ≤ a.length ∧ Hid (sameTo a b k) ∧ wr = w.drewN n) (fun i _ => a.length - (intOf i).toNat)
    case atStart => exact ⟨0, 0, rfl, Nat.zero_le _, Lib.hid rfl, rfl⟩
    case round =>
      obtain ⟨k, n, rfl, hk, hs, rfl⟩ := hrel
      by_cases hlt : k < a.length
      · have hltb : k < b.length := by omega
        obtain ⟨ba, offa, capa', ea, _, _, _, _, hca⟩ := HVA.out.at (by omega)
        obtain ⟨bb, offb, capb', eb, _, _, _, _, hcb⟩ := HVB.out.at (by omega)
        injection ea with ea1 _ ea2
        injection eb with eb1 _ eb2
        subst ea1 ea2 eb1 eb2
        have hc0 := hca _ _ (ents_at0 a k hlt)
        have hc1 := hcb _ _ (ents_at0 b k hltb)
        have hc2 : w.cell? ⟨ba, offa + k * 2 + 1, none⟩ = _ := hca (k * 2 + 1) _ (ents_at1 a k hlt)
        have hc3 : w.cell? ⟨bb, offb + k * 2 + 1, none⟩ = _ := hcb (k * 2 + 1) _ (ents_at1 b k hltb)
        have k0 : (0 : Int) ≤ (k : Int) := by omega
        have k1 : (k : Int) < (a.length : Int) := by omega
        have k2 : (k : Int) < (b.length : Int) := by omega
        clear hca hcb
        have heq := eqEnt a[k] b[k]
        have hgd := entGuard
        by_cases hq : a[k] = b[k]
        · have hs' := Lib.hid (sameTo_succ hs.out hlt hltb hq)
          have hI2 : decide (a[k] = b[k]) = true := by simpa using hq
          rw [hI2] at heq
          clear hq hI2
          go_wp2_with fail
          go_quiet (fail)
          go_wp2_with fail
          go_roundw
          case rel => exact ⟨k + 1, n + nq, by go_num, hlt, hs', by first | rfl | exact drewN_two w n nq⟩
          case measure => simp [intOf]; omega
        · have H : Hid (decide (a = b) = false) := Lib.hid (by rw [decide_eq_false_iff_not]; intro e; subst e; exact hq rfl)
          have hI2 : decide (a[k] = b[k]) = false := by simpa using hq
          rw [hI2] at heq
          clear hq hI2
          go_wp2_with fail
          go_quiet (fail)
          go_wp2_with fail
          go_ret
          exact ⟨ret_bool H.out.symm, n + nq, by first | rfl | exact drewN_two w n nq⟩
      · have hke : k = a.length := by omega
        have H : Hid (decide (a = b) = true) := Lib.hid (by
          rw [decide_eq_true_iff]
          have := hs.out
          unfold sameTo at this
          rwa [hke, List.take_length, HL.out, List.take_length] at this)
        have hI2 : decide (k < a.length) = false := by simp; omega
        clear hke hlt
        go_wp2_with fail
        go_ret
        exact ⟨ret_bool H.out.symm, n, rfl⟩
  · have hI : ((a.length : Int) != (b.length : Int)) = true := by rw [bne_iff_ne]; omega
    have H : Hid (decide (a = b) = false) := Lib.hid (by rw [decide_eq_false_iff_not]; intro e; exact hl (by rw [e]))
    clear hl
    go_enter Try.func50, Try.ntmps50
    go_wp2_with fail
    go_ret
    exact ⟨ret_bool H.out.symm, 0, rfl⟩
set_option maxRecDepth 100000 in
set_option maxHeartbeats 2000000 in
theorem rsorted_any (B : Nat) (v : Value) (l : List EntL) (w : World) (hv : Rd B 2 v l.length (ents l) w) (hl : l.length ≤ 10000) (hn : Fit l) :
    Calls Try.prog 53 #[v] w fun e w' => e = .returned (.bool (decide (SortedP l))) ∧ ∃ n, w' = w.drewN n := by
  obtain ⟨ao, cap, rfl, _, _⟩ := hv.form
  have HV := Lib.hid hv
  have HN := Lib.hid hn
  clear hv hn
  go_enter Try.func53, Try.ntmps53
  go_wp2_with fail
  go_loopw [3] (fun i wr => ∃ k n : Nat, i = .int .i64 k ∧ k ≤ l.length ∧ Hid (SortedP (l.take k)) ∧ wr = w.drewN n) (fun i _ => l.length - (intOf i).toNat)
  case atStart => exact ⟨0, 0, rfl, Nat.zero_le _, Lib.hid sorted_nil, rfl⟩
  case round =>
    obtain ⟨k, n, rfl, hk, hS, rfl⟩ := hrel
    by_cases hlt : k < l.length
    · obtain ⟨b, off, cap', e, hn, hm, hb, hlen, hc⟩ := HV.out.at (by omega)
      injection e with e1 _ e2
      subst e1
      subst e2
      have hc0 := hc _ _ (ents_at0 l k hlt)
      have hxm := HN.out _ (List.getElem_mem hlt)
      have HC : Hid (∀ j (hj : j < l.length), w.cell? ⟨b, off + j * 2, none⟩ = some (.string (bs (l[j]).1))) := Lib.hid fun j hj => hc _ _ (ents_at0 l j hj)
      obtain ⟨x, hx⟩ : ∃ x, x = (l[k]).1 := ⟨_, rfl⟩
      rw [← hx] at hc0 hxm
      have HL : ∀ w, Calls Try.prog 60 #[.string (bs x)] w fun e w' => e = .returned (.int .i64 (legalL x)) ∧ w' = w := fun w => (rlegal_any x hxm w).mono fun e w' h => ⟨h.1, h.2.symm⟩
      have HX := Lib.hid hx
      have k0 : (0 : Int) ≤ (k : Int) := by omega
      have k1 : (k : Int) < (l.length : Int) := by omega
      clear hc
      by_cases hq : legalL x = 0
      · rw [hq] at HL
        by_cases h0 : k = 0
        · have hnx : Hid (SortedP (l.take (k + 1))) := Lib.hid (sorted_succ hlt hS.out (by rw [← HX.out]; exact hq) fun j _ h => by omega)
          have hI : decide (0 < k) = false := by simp; omega
          clear hx hq h0
          go_wp2_with fail
          go_quiet ((go_at_call 60; exact (HL _).mono fun e w' h => ⟨h.1, _, h.2⟩))
          go_wp2_with fail
          go_roundw
          case rel => exact ⟨k + 1, n + nq, by go_num, hlt, hnx, by first | rfl | exact drewN_two w n nq⟩
          case measure => simp [intOf]; omega
        · obtain ⟨j, hj⟩ : ∃ j, k = j + 1 := ⟨k - 1, by omega⟩
          have hI : decide (0 < k) = true := by simp; omega
          have hk1 : (k : Int) - 1 = (j : Int) := by omega
          have hjl : (j : Int) < (l.length : Int) := by omega
          have hj0 : (0 : Int) ≤ (j : Int) := by omega
          have hcp := HC.out j (by omega)
          obtain ⟨y, hy⟩ : ∃ y, y = (l[j]'(by omega)).1 := ⟨_, rfl⟩
          rw [← hy] at hcp
          by_cases hord : y < x
          · have hJ := bless_no (lt_as hord)
            have hJ2 := beq_list_false (lt_ne hord).symm
            have hnx : Hid (SortedP (l.take (k + 1))) := Lib.hid (sorted_succ hlt hS.out (by rw [← HX.out]; exact hq) fun j' hj' h => by
              obtain rfl : j' = j := by omega
              rw [← hy, ← HX.out]; exact hord)
            clear hx hq h0 hord hj hy
            go_wp2_with fail
            go_quiet ((go_at_call 60; exact (HL _).mono fun e w' h => ⟨h.1, _, h.2⟩))
            go_wp2_with fail
            go_roundw
            case rel => exact ⟨k + 1, n + nq, by go_num, hlt, hnx, by first | rfl | exact drewN_two w n nq⟩
            case measure => simp [intOf]; omega
          · have HF : Hid (decide (SortedP l) = false) := Lib.hid (by
              subst hj
              exact not_order hlt (by rw [← hy, ← HX.out]; exact hord))
            have hlw := leq_ways hord
            clear hx hq h0 hord hj hy
            rcases hlw with ⟨hJ, hJ2⟩ | ⟨hJ, hJ2⟩
            all_goals (
              go_wp2_with fail
              go_quiet ((go_at_call 60; exact (HL _).mono fun e w' h => ⟨h.1, _, h.2⟩))
              go_wp2_with fail
              go_ret
              exact ⟨ret_bool HF.out.symm, n + nq, by first | rfl | exact drewN_two w n nq⟩)
      · have HF : Hid (decide (SortedP l) = false) := Lib.hid (not_legal hlt (by rw [← hx]; exact hq))
        have hI : (legalL x != 0) = true := by rw [bne_iff_ne]; exact hq
        generalize legalL x = q at *
        clear hx hq
        go_wp2_with fail
        go_quiet ((go_at_call 60; exact (HL _).mono fun e w' h => ⟨h.1, _, h.2⟩))
        go_wp2_with fail
        go_ret
        exact ⟨ret_bool HF.out.symm, n + nq, by first | rfl | exact drewN_two w n nq⟩
    · have hke : k = l.length := by omega
      have HF : Hid (decide (SortedP l) = true) := Lib.hid (by have := hS.out; rw [hke, List.take_length] at this; simpa using this)
      have hI2 : decide (k < l.length) = false := by simp; omega
      clear hke hlt
      go_wp2_with fail
      go_ret
      exact ⟨ret_bool HF.out.symm, n, rfl⟩
end Go.Proofs.Ytknjmdgnbhohdaa
