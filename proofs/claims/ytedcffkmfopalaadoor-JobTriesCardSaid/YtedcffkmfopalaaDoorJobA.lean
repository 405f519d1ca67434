/-
  Lists of numbers and of texts compared.
-/
import Derived.Test.YtedcffkmfopalaaDoorJobPlain
import Derived.Test.YtedcffkmfopalaaDoorArm
import Derived.Test.YtedcffkmfopalaaDoorProg
import Derived.WalkMore
import Derived.Deep.DrawnRows
import Derived.Laws.Cover1
import Derived.Lib.Bytealg
import Derived.ProofKit
namespace Go.Proofs.YtedcffkmfopalaaDoor
open Go.RowKit Go.Shelf
attribute [local go_sem ↓] Go.wp_at_zero Go.wp_at_succ

theorem bel_dn {B : Nat} {w W : World} (h : Below B w W) (n : Nat) : Below B w (W.drewN n) := ⟨h.os, h.tape, h.output, h.size, h.block⟩
/-- Are the first k the same? -/
def sameTo {α : Type} [DecidableEq α] (a b : List α) (k : Nat) : Prop := a.take k = b.take k
theorem sameTo_succ {α : Type} [DecidableEq α] {a b : List α} {k : Nat} (h : sameTo a b k) (ha : k < a.length) (hb : k < b.length) (e : a[k] = b[k]) : sameTo a b (k + 1) := by
  unfold sameTo at h ⊢
  rw [List.take_succ_eq_append_getElem ha, List.take_succ_eq_append_getElem hb, h, e]
set_option maxRecDepth 100000 in
set_option maxHeartbeats 1000000 in
theorem texts_any (B : Nat) (va vb : Value) (a b : List Str) (w : World) (hva : Rd B 1 va a.length (strs a) w) (hvb : Rd B 1 vb b.length (strs b) w) (ha : a.length ≤ 10000000) (hb : b.length ≤ 10000000) :
    Calls Tryd.prog 25 #[va, vb] w fun e w' => e = .returned (.bool (decide (a = b))) ∧ ∃ n, w' = w.drewN n := by
  obtain ⟨aoa, capa, rfl, _, _⟩ := hva.form
  obtain ⟨aob, capb, rfl, _, _⟩ := hvb.form
  have HVA := Lib.hid hva
  have HVB := Lib.hid hvb
  clear hva hvb
  by_cases hl : a.length = b.length
  · have hI : ((a.length : Int) != (b.length : Int)) = false := by rw [hl]; simp
    have HL := Lib.hid hl
    have hle1 : a.length ≤ b.length := by omega
    have hle2 : b.length ≤ a.length := by omega
    clear hl
    go_enter Tryd.func25, Tryd.ntmps25
    go_wp2_with fail
    go_loopw [5] (fun i wr => ∃ k n : Nat, i = .int .i64 k ∧ k ≤ a.length ∧ Hid (sameTo a b k) ∧ wr = w.drewN n) (fun i _ => a.length - (intOf i).toNat)
    case atStart => exact ⟨0, 0, rfl, Nat.zero_le _, Lib.hid rfl, rfl⟩
    case round =>
      obtain ⟨k, n, rfl, hk, hs, rfl⟩ := hrel
      by_cases hlt : k < a.length
      · have hltb : k < b.length := by omega
        obtain ⟨ba, offa, capa', ea, _, _, _, _, hca⟩ := HVA.out.at (by omega)
        obtain ⟨bb, offb, capb', eb, _, _, _, _, hcb⟩ := HVB.out.at (by omega)
        injection ea with ea1 _ ea2
        injection eb with eb1 _ eb2
        subst ea1 ea2 eb1 eb2
        have hc0 := hca _ _ (strs_at a k hlt)
        have hc1 := hcb _ _ (strs_at b k hltb)
        have k0 : (0 : Int) ≤ (k : Int) := by omega
        have k1 : (k : Int) < (a.length : Int) := by omega
        have k2 : (k : Int) < (b.length : Int) := by omega
        clear hca hcb
        by_cases hq : a[k] = b[k]
        · have hs' := Lib.hid (sameTo_succ hs.out hlt hltb hq)
          go_wp2_with fail
          go_quiet (fail)
          go_wp2_with fail
          go_roundw
          case rel => exact ⟨k + 1, n + nq, by go_num, hlt, hs', by first | rfl | exact drewN_two w n nq⟩
          case measure => simp [intOf]; omega
        · have hne : (a[k] == b[k]) = false := by simpa using hq
          have H : Hid (decide (a = b) = false) := Lib.hid (by rw [decide_eq_false_iff_not]; intro e; subst e; exact hq rfl)
          clear hq
          go_wp2_with fail
          go_quiet (fail)
          go_wp2_with fail
          go_ret
          exact ⟨ret_bool H.out.symm, n + nq, by first | rfl | exact drewN_two w n nq⟩
      · have hke : k = a.length := by omega
        have H : Hid (decide (a = b) = true) := Lib.hid (by
          rw [decide_eq_true_iff]
          have := hs.out
          unfold sameTo at this
          rwa [hke, List.take_length, HL.out, List.take_length] at this)
        have hI2 : decide (k < a.length) = false := by simp; omega
        clear hke hlt
        go_wp2_with fail
        go_ret
        exact ⟨ret_bool H.out.symm, n, rfl⟩
  · have hI : ((a.length : Int) != (b.length : Int)) = true := by rw [bne_iff_ne]; omega
    have H : Hid (decide (a = b) = false) := Lib.hid (by rw [decide_eq_false_iff_not]; intro e; exact hl (by rw [e]))
    clear hl
    go_enter Tryd.func25, Tryd.ntmps25
    go_wp2_with fail
    go_ret
    exact ⟨ret_bool H.out.symm, 0, rfl⟩

set_option maxRecDepth 100000 in
set_option maxHeartbeats 4000000 in
theorem rInts_c (A B : List Int) (hl : A.length ≤ 20000) (ao bo : Option Addr) (ca cb : Nat) (w : World) (ha : Rd w.heap.size 1 (.slice ao A.length ca) A.length (intsJ A) w) (hb : Rd w.heap.size 1 (.slice bo B.length cb) B.length (intsJ B) w) :
    Calls Tryd.prog 27 #[.slice ao A.length ca, .slice bo B.length cb] w fun e w' => e = .returned (.bool (decide (A = B))) ∧ Below w.heap.size w w' := by
  have HA := Lib.hid ha
  have HB := Lib.hid hb
  clear ha hb
  by_cases hlen : A.length = B.length
  · have e1 : ((A.length : Int) != (B.length : Int)) = false := by simp [hlen]
    have e2 : (A.length != B.length) = false := by simp [hlen]
    have e3 : decide (A.length = B.length) = true := decide_eq_true hlen
    have HL := Lib.hid hlen
    clear hlen
    go_enter Tryd.func27, Tryd.ntmps27
    go_wp2_with fail
    go_loopw [5] (fun i wr => ∃ k : Nat, i = .int .i64 k ∧ k ≤ A.length ∧ Hid (A.take k = B.take k) ∧ Hid (Below w.heap.size w wr)) (fun i _ => A.length - (RowKit.intOf i).toNat)
    case atStart => exact ⟨0, rfl, Nat.zero_le _, Lib.hid rfl, Lib.hid (Below.refl _ _)⟩
    case round =>
      obtain ⟨k, rfl, hk, HT, HW⟩ := hrel
      by_cases hlt : k < A.length
      · have iL : decide (k < A.length) = true := decide_eq_true hlt
        have iL2 : decide ((k : Int) < (A.length : Int)) = true := decide_eq_true (by omega)
        have k0 : (0 : Int) ≤ (k : Int) := by omega
        have k1 : (k : Int) < (A.length : Int) := by omega
        have hltB : k < B.length := by rw [← HL.out]; exact hlt
        have k2 : (k : Int) < (B.length : Int) := by omega
        have w1 : IntKind.i64.wrap ((k : Int) + 1) = (k : Int) + 1 := Go.IntWalk.i64_in _ (by omega)
        obtain ⟨b, off, cap1, eA, _, _, hbw, _, hcA⟩ := Rd.at HA.out (by omega)
        injection eA with eA1 _ eA2
        subst eA1
        subst eA2
        obtain ⟨b2, off2, cap2, eB, _, _, hbw2, _, hcB⟩ := Rd.at HB.out (by omega)
        injection eB with eB1 _ eB2
        subst eB1
        subst eB2
        have c0 := (HW.out.cell (p := ⟨b, off + k, none⟩) hbw).trans (hcA _ _ (intsJ_at A k hlt))
        have x0 := (HW.out.cell (p := ⟨b2, off2 + k, none⟩) hbw2).trans (hcB _ _ (intsJ_at B k hltB))
        clear hcA hcB
        obtain ⟨x, hx⟩ : ∃ x, x = A[k] := ⟨_, rfl⟩
        obtain ⟨y, hy⟩ : ∃ y, y = B[k] := ⟨_, rfl⟩
        rw [← hx] at c0
        rw [← hy] at x0
        by_cases hxy : x = y
        · have e4 : decide (x = y) = true := decide_eq_true hxy
          have e5 : (x != y) = false := by simp [hxy]
          have HT2 := Lib.hid (show A.take (k + 1) = B.take (k + 1) by rw [List.take_succ_eq_append_getElem hlt, List.take_succ_eq_append_getElem hltB, HT.out, ← hx, ← hy, hxy])
          clear hx hy hxy HT
          skip
          go_upto_region 6 with (fail)
          go_quiet (fail)
          go_wp2_with fail
          go_roundw
          case rel => exact ⟨k + 1, by go_num, hlt, HT2, Lib.hid (bel_dn HW.out _)⟩
          case measure => simp [RowKit.intOf]; omega
        · have e4 : decide (x = y) = false := decide_eq_false hxy
          have e5 : (x != y) = true := by simp [hxy]
          have HF := Lib.hid (show decide (A = B) = false from decide_eq_false fun e => hxy (by rw [hx, hy]; subst e; rfl))
          clear hx hy hxy HT
          skip
          go_upto_region 6 with (fail)
          go_quiet (fail)
          go_wp2_with fail
          go_ret
          exact ⟨ret_bool HF.out.symm, bel_dn HW.out _⟩
      · have iL : decide (k < A.length) = false := decide_eq_false hlt
        have iL2 : decide ((k : Int) < (A.length : Int)) = false := decide_eq_false (by omega)
        have hke : k = A.length := by omega
        have HF := Lib.hid (show decide (A = B) = true from decide_eq_true (by have h1 := HT.out; rw [hke, List.take_length, HL.out, List.take_length] at h1; exact h1))
        clear hlt hke HT
        go_wp2_with fail
        go_ret
        exact ⟨ret_bool HF.out.symm, HW.out⟩
  · have e1 : ((A.length : Int) != (B.length : Int)) = true := by simp; omega
    have e2 : (A.length != B.length) = true := by simp [hlen]
    have e3 : decide (A.length = B.length) = false := decide_eq_false hlen
    have HF := Lib.hid (show decide (A = B) = false from decide_eq_false fun e => hlen (by rw [e]))
    clear hlen
    go_enter Tryd.func27, Tryd.ntmps27
    go_wp2_with fail
    go_ret
    exact ⟨ret_bool HF.out.symm, Below.refl _ _⟩
set_option maxRecDepth 100000 in
set_option maxHeartbeats 4000000 in
theorem lInts_c (A B : List Int) (hl : A.length ≤ 20000) (ao bo : Option Addr) (ca cb : Nat) (w : World) (ha : Rd w.heap.size 1 (.slice ao A.length ca) A.length (intsJ A) w) (hb : Rd w.heap.size 1 (.slice bo B.length cb) B.length (intsJ B) w) :
    Calls Tryd.prog 12 #[.slice ao A.length ca, .slice bo B.length cb] w fun e w' => e = .returned (.bool (decide (A = B))) ∧ Below w.heap.size w w' := by
  have HA := Lib.hid ha
  have HB := Lib.hid hb
  clear ha hb
  by_cases hlen : A.length = B.length
  · have e1 : ((A.length : Int) != (B.length : Int)) = false := by simp [hlen]
    have e2 : (A.length != B.length) = false := by simp [hlen]
    have e3 : decide (A.length = B.length) = true := decide_eq_true hlen
    have HL := Lib.hid hlen
    clear hlen
    go_enter Tryd.func12, Tryd.ntmps12
    go_wp2_with fail
    go_loopw [5] (fun i wr => ∃ k : Nat, i = .int .i64 k ∧ k ≤ A.length ∧ Hid (A.take k = B.take k) ∧ Hid (Below w.heap.size w wr)) (fun i _ => A.length - (RowKit.intOf i).toNat)
    case atStart => exact ⟨0, rfl, Nat.zero_le _, Lib.hid rfl, Lib.hid (Below.refl _ _)⟩
    case round =>
      obtain ⟨k, rfl, hk, HT, HW⟩ := hrel
      by_cases hlt : k < A.length
      · have iL : decide (k < A.length) = true := decide_eq_true hlt
        have iL2 : decide ((k : Int) < (A.length : Int)) = true := decide_eq_true (by omega)
        have k0 : (0 : Int) ≤ (k : Int) := by omega
        have k1 : (k : Int) < (A.length : Int) := by omega
        have hltB : k < B.length := by rw [← HL.out]; exact hlt
        have k2 : (k : Int) < (B.length : Int) := by omega
        have w1 : IntKind.i64.wrap ((k : Int) + 1) = (k : Int) + 1 := Go.IntWalk.i64_in _ (by omega)
        obtain ⟨b, off, cap1, eA, _, _, hbw, _, hcA⟩ := Rd.at HA.out (by omega)
        injection eA with eA1 _ eA2
        subst eA1
        subst eA2
        obtain ⟨b2, off2, cap2, eB, _, _, hbw2, _, hcB⟩ := Rd.at HB.out (by omega)
        injection eB with eB1 _ eB2
        subst eB1
        subst eB2
        have c0 := (HW.out.cell (p := ⟨b, off + k, none⟩) hbw).trans (hcA _ _ (intsJ_at A k hlt))
        have x0 := (HW.out.cell (p := ⟨b2, off2 + k, none⟩) hbw2).trans (hcB _ _ (intsJ_at B k hltB))
        clear hcA hcB
        obtain ⟨x, hx⟩ : ∃ x, x = A[k] := ⟨_, rfl⟩
        obtain ⟨y, hy⟩ : ∃ y, y = B[k] := ⟨_, rfl⟩
        rw [← hx] at c0
        rw [← hy] at x0
        by_cases hxy : x = y
        · have e4 : decide (x = y) = true := decide_eq_true hxy
          have e5 : (x != y) = false := by simp [hxy]
          have HT2 := Lib.hid (show A.take (k + 1) = B.take (k + 1) by rw [List.take_succ_eq_append_getElem hlt, List.take_succ_eq_append_getElem hltB, HT.out, ← hx, ← hy, hxy])
          clear hx hy hxy HT
          skip
          go_upto_region 6 with (fail)
          go_quiet (fail)
          go_wp2_with fail
          go_roundw
          case rel => exact ⟨k + 1, by go_num, hlt, HT2, Lib.hid (bel_dn HW.out _)⟩
          case measure => simp [RowKit.intOf]; omega
        · have e4 : decide (x = y) = false := decide_eq_false hxy
          have e5 : (x != y) = true := by simp [hxy]
          have HF := Lib.hid (show decide (A = B) = false from decide_eq_false fun e => hxy (by rw [hx, hy]; subst e; rfl))
          clear hx hy hxy HT
          skip
          go_upto_region 6 with (fail)
          go_quiet (fail)
          go_wp2_with fail
          go_ret
          exact ⟨ret_bool HF.out.symm, bel_dn HW.out _⟩
      · have iL : decide (k < A.length) = false := decide_eq_false hlt
        have iL2 : decide ((k : Int) < (A.length : Int)) = false := decide_eq_false (by omega)
        have hke : k = A.length := by omega
        have HF := Lib.hid (show decide (A = B) = true from decide_eq_true (by have h1 := HT.out; rw [hke, List.take_length, HL.out, List.take_length] at h1; exact h1))
        clear hlt hke HT
        go_wp2_with fail
        go_ret
        exact ⟨ret_bool HF.out.symm, HW.out⟩
  · have e1 : ((A.length : Int) != (B.length : Int)) = true := by simp; omega
    have e2 : (A.length != B.length) = true := by simp [hlen]
    have e3 : decide (A.length = B.length) = false := decide_eq_false hlen
    have HF := Lib.hid (show decide (A = B) = false from decide_eq_false fun e => hlen (by rw [e]))
    clear hlen
    go_enter Tryd.func12, Tryd.ntmps12
    go_wp2_with fail
    go_ret
    exact ⟨ret_bool HF.out.symm, Below.refl _ _⟩
end Go.Proofs.YtedcffkmfopalaaDoor
