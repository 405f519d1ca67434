/-
  The reference's Same and Texts.
-/
import Derived.Test.YtjgadmodhkdllaaDoorOptE
namespace Go.Proofs.YtjgadmodhkdllaaDoor
open Go.RowKit Go.Shelf
attribute [local go_sem ↓] Go.wp_at_zero Go.wp_at_succ

/-- Are the first k the same? -/
def sameTo {α : Type} [DecidableEq α] (a b : List α) (k : Nat) : Prop := a.take k = b.take k
theorem sameTo_succ {α : Type} [DecidableEq α] {a b : List α} {k : Nat} (h : sameTo a b k) (ha : k < a.length) (hb : k < b.length) (e : a[k] = b[k]) : sameTo a b (k + 1) := by
  unfold sameTo at h ⊢
  rw [List.take_succ_eq_append_getElem ha, List.take_succ_eq_append_getElem hb, h, e]
set_option maxRecDepth 100000 in
set_option maxHeartbeats 1000000 in
theorem texts_any (B : Nat) (va vb : Value) (a b : List Str) (w : World) (hva : Rd B 1 va a.length (strs a) w) (hvb : Rd B 1 vb b.length (strs b) w) (ha : a.length ≤ 10000000) (hb : b.length ≤ 10000000) :
    Calls Tryd.prog 15 #[va, vb] w fun e w' => e = .returned (.bool (decide (a = b))) ∧ ∃ n, w' = w.drewN n := by
  obtain ⟨aoa, capa, rfl, _, _⟩ := hva.form
  obtain ⟨aob, capb, rfl, _, _⟩ := hvb.form
  have HVA := Lib.hid hva
  have HVB := Lib.hid hvb
  clear hva hvb
  by_cases hl : a.length = b.length
  · have hI : ((a.length : Int) != (b.length : Int)) = false := by rw [hl]; simp
    have HL := Lib.hid hl
    have hle1 : a.length ≤ b.length := by omega
    have hle2 : b.length ≤ a.length := by omega
    clear hl
    go_enter Tryd.func15, Tryd.ntmps15
    go_wp2_with fail
    go_loopw [5] (fun i wr => ∃ k n : Nat, i = .int .i64 k ∧ k ≤ a.length ∧ Hid (sameTo a b k) ∧ wr = w.drewN n) (fun i _ => a.length - (intOf i).toNat)
    case atStart => exact ⟨0, 0, rfl, Nat.zero_le _, Lib.hid rfl, rfl⟩
    case round =>
      obtain ⟨k, n, rfl, hk, hs, rfl⟩ := hrel
      by_cases hlt : k < a.length
      · have hltb : k < b.length := by omega
        obtain ⟨ba, offa, capa', ea, _, _, _, _, hca⟩ := HVA.out.at (by omega)
        obtain ⟨bb, offb, capb', eb, _, _, _, _, hcb⟩ := HVB.out.at (by omega)
        injection ea with ea1 _ ea2
        injection eb with eb1 _ eb2
        subst ea1 ea2 eb1 eb2
        have hc0 := hca _ _ (strs_at a k hlt)
        have hc1 := hcb _ _ (strs_at b k hltb)
        have k0 : (0 : Int) ≤ (k : Int) := by omega
        have k1 : (k : Int) < (a.length : Int) := by omega
        have k2 : (k : Int) < (b.length : Int) := by omega
        clear hca hcb
        by_cases hq : a[k] = b[k]
        · have hs' := Lib.hid (sameTo_succ hs.out hlt hltb hq)
          go_wp2_with fail
          go_quiet (fail)
          go_wp2_with fail
          go_roundw
          case rel => exact ⟨k + 1, n + nq, by go_num, hlt, hs', by first | rfl | exact drewN_two w n nq⟩
          case measure => simp [intOf]; omega
        · have hne : (a[k] == b[k]) = false := by simpa using hq
          have H : Hid (decide (a = b) = false) := Lib.hid (by rw [decide_eq_false_iff_not]; intro e; subst e; exact hq rfl)
          clear hq
          go_wp2_with fail
          go_quiet (fail)
          go_wp2_with fail
          go_ret
          exact ⟨ret_bool H.out.symm, n + nq, by first | rfl | exact drewN_two w n nq⟩
      · have hke : k = a.length := by omega
        have H : Hid (decide (a = b) = true) := Lib.hid (by
          rw [decide_eq_true_iff]
          have := hs.out
          unfold sameTo at this
          rwa [hke, List.take_length, HL.out, List.take_length] at this)
        have hI2 : decide (k < a.length) = false := by simp; omega
        clear hke hlt
        go_wp2_with fail
        go_ret
        exact ⟨ret_bool H.out.symm, n, rfl⟩
  · have hI : ((a.length : Int) != (b.length : Int)) = true := by rw [bne_iff_ne]; omega
    have H : Hid (decide (a = b) = false) := Lib.hid (by rw [decide_eq_false_iff_not]; intro e; exact hl (by rw [e]))
    clear hl
    go_enter Tryd.func15, Tryd.ntmps15
    go_wp2_with fail
    go_ret
    exact ⟨ret_bool H.out.symm, 0, rfl⟩

theorem eqFlag (x y : FlagL) (w : World) : (Op.equalIn 10000 43 (.agg #[.int .u8 x.1.toNat, .string (bs x.2)]) (.agg #[.int .u8 y.1.toNat, .string (bs y.2)])).run Tryd.prog w = .ok (decide (x = y)) w := by
  have u5 := Tryd.underlying5
  have u9 := Tryd.underlying9
  have a5 := Tryd.isAgg5
  have a9 := Tryd.isAgg9
  have hS : Tryd.prog.underlying 43 = some (.struct (Tryd.prog.fieldsOf 43)) := by kernel_rfl
  rw [show (10000 : Nat) = 9998 + 1 + 1 from rfl, run_equalIn_agg w (9998 + 1) 43 _ _ hS (by kernel_rfl)]
  simp only [Program.fieldsOf, Tryd.underlying43]
  go_simp
  obtain ⟨x1, x2⟩ := x
  obtain ⟨y1, y2⟩ := y
  have hu : (x1.toNat : Int) = (y1.toNat : Int) ↔ x1 = y1 := ⟨fun h => UInt8.toNat_inj.1 (by omega), fun h => by rw [h]⟩
  by_cases h1 : x1 = y1 <;> by_cases h2 : x2 = y2 <;> simp [h1, h2, hu]
theorem flagGuard : Tryd.prog.eqGuardType Tryd.prog.depth 43 = false := by kernel_rfl
set_option maxRecDepth 100000 in
set_option maxHeartbeats 1000000 in
theorem same_any (B : Nat) (va vb : Value) (a b : List FlagL) (w : World) (hva : Rd B 2 va a.length (flags a) w) (hvb : Rd B 2 vb b.length (flags b) w) (ha : a.length ≤ 10000000) (hb : b.length ≤ 10000000) :
    Calls Tryd.prog 13 #[va, vb] w fun e w' => e = .returned (.bool (decide (a = b))) ∧ ∃ n, w' = w.drewN n := by
  obtain ⟨aoa, capa, rfl, _, _⟩ := hva.form
  obtain ⟨aob, capb, rfl, _, _⟩ := hvb.form
  have HVA := Lib.hid hva
  have HVB := Lib.hid hvb
  clear hva hvb
  by_cases hl : a.length = b.length
  · have hI : ((a.length : Int) != (b.length : Int)) = false := by rw [hl]; simp
    have HL := Lib.hid hl
    have hle1 : a.length ≤ b.length := by omega
    have hle2 : b.length ≤ a.length := by omega
    clear hl
    go_enter Tryd.func13, Tryd.ntmps13
    go_wp2_with fail
    go_loopw [5] (fun i wr => ∃ k n : Nat, i = .int .i64 k ∧ k ≤ a.length ∧ Hid (sameTo a b k) ∧ wr = w.drewN n) (fun i _ => a.length - (intOf i).toNat)
    case atStart => exact ⟨0, 0, rfl, Nat.zero_le _, Lib.hid rfl, rfl⟩
    case round =>
      obtain ⟨k, n, rfl, hk, hs, rfl⟩ := hrel
      by_cases hlt : k < a.length
      · have hltb : k < b.length := by omega
        obtain ⟨ba, offa, capa', ea, _, _, _, _, hca⟩ := HVA.out.at (by omega)
        obtain ⟨bb, offb, capb', eb, _, _, _, _, hcb⟩ := HVB.out.at (by omega)
        injection ea with ea1 _ ea2
        injection eb with eb1 _ eb2
        subst ea1 ea2 eb1 eb2
        have hc0 := hca _ _ (flags_at0 a k hlt)
        have hc1 := hcb _ _ (flags_at0 b k hltb)
        have hc2 : w.cell? ⟨ba, offa + k * 2 + 1, none⟩ = _ := hca (k * 2 + 1) _ (flags_at1 a k hlt)
        have hc3 : w.cell? ⟨bb, offb + k * 2 + 1, none⟩ = _ := hcb (k * 2 + 1) _ (flags_at1 b k hltb)
        have k0 : (0 : Int) ≤ (k : Int) := by omega
        have k1 : (k : Int) < (a.length : Int) := by omega
        have k2 : (k : Int) < (b.length : Int) := by omega
        clear hca hcb
        have heq := eqFlag a[k] b[k]
        have hgd := flagGuard
        by_cases hq : a[k] = b[k]
        · have hs' := Lib.hid (sameTo_succ hs.out hlt hltb hq)
          have hI2 : decide (a[k] = b[k]) = true := by simpa using hq
          rw [hI2] at heq
          clear hq hI2
          go_wp2_with fail
          go_quiet (fail)
          go_wp2_with fail
          go_roundw
          case rel => exact ⟨k + 1, n + nq, by go_num, hlt, hs', by first | rfl | exact drewN_two w n nq⟩
          case measure => simp [intOf]; omega
        · have H : Hid (decide (a = b) = false) := Lib.hid (by rw [decide_eq_false_iff_not]; intro e; subst e; exact hq rfl)
          have hI2 : decide (a[k] = b[k]) = false := by simpa using hq
          rw [hI2] at heq
          clear hq hI2
          go_wp2_with fail
          go_quiet (fail)
          go_wp2_with fail
          go_ret
          exact ⟨ret_bool H.out.symm, n + nq, by first | rfl | exact drewN_two w n nq⟩
      · have hke : k = a.length := by omega
        have H : Hid (decide (a = b) = true) := Lib.hid (by
          rw [decide_eq_true_iff]
          have := hs.out
          unfold sameTo at this
          rwa [hke, List.take_length, HL.out, List.take_length] at this)
        have hI2 : decide (k < a.length) = false := by simp; omega
        clear hke hlt
        go_wp2_with fail
        go_ret
        exact ⟨ret_bool H.out.symm, n, rfl⟩
  · have hI : ((a.length : Int) != (b.length : Int)) = true := by rw [bne_iff_ne]; omega
    have H : Hid (decide (a = b) = false) := Lib.hid (by rw [decide_eq_false_iff_not]; intro e; exact hl (by rw [e]))
    clear hl
    go_enter Tryd.func13, Tryd.ntmps13
    go_wp2_with fail
    go_ret
    exact ⟨ret_bool H.out.symm, 0, rfl⟩
end Go.Proofs.YtjgadmodhkdllaaDoor
