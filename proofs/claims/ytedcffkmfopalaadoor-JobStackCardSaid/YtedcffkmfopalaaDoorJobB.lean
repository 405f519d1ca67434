/-
  The document's frames and Same.
-/
import Derived.Test.YtedcffkmfopalaaDoorJobA
import Derived.BigQuiet
import Derived.Deep.QuietTactic
import Derived.Deep.DeepCutAuto
namespace Go.Proofs.YtedcffkmfopalaaDoor
open Go.RowKit Go.Shelf
attribute [local go_sem ↓] Go.wp_at_zero Go.wp_at_succ

set_option maxRecDepth 100000 in
set_option maxHeartbeats 4000000 in
theorem rFrames_c (A B : List FrameL) (hl : A.length ≤ 10000) (hA : ∀ f ∈ A, f.names.length ≤ 10000) (hB : ∀ f ∈ B, f.names.length ≤ 10000) (ao bo : Option Addr) (ca cb : Nat) (w : World) (ha : GivesF A (.slice ao A.length ca) w) (hb : GivesF B (.slice bo B.length cb) w) :
    Calls Tryd.prog 26 #[.slice ao A.length ca, .slice bo B.length cb] w fun e w' => e = .returned (.bool (decide (A = B))) ∧ Below w.heap.size w w' := by
  have HA := Lib.hid ha
  have HB := Lib.hid hb
  have HNA := Lib.hid hA
  have HNB := Lib.hid hB
  clear ha hb hA hB
  by_cases hlen : A.length = B.length
  · have e1 : ((A.length : Int) != (B.length : Int)) = false := by simp [hlen]
    have e2 : (A.length != B.length) = false := by simp [hlen]
    have e3 : decide (A.length = B.length) = true := decide_eq_true hlen
    have HL := Lib.hid hlen
    clear hlen
    go_enter Tryd.func26, Tryd.ntmps26
    go_wp2_with fail
    go_loopw [5] (fun i wr => ∃ k : Nat, i = .int .i64 k ∧ k ≤ A.length ∧ Hid (A.take k = B.take k) ∧ Hid (Below w.heap.size w wr)) (fun i _ => A.length - (RowKit.intOf i).toNat)
    case atStart => exact ⟨0, rfl, Nat.zero_le _, Lib.hid rfl, Lib.hid (Below.refl _ _)⟩
    case round =>
      obtain ⟨k, rfl, hk, HT, HW⟩ := hrel
      by_cases hlt : k < A.length
      · have iL : decide (k < A.length) = true := decide_eq_true hlt
        have iL2 : decide ((k : Int) < (A.length : Int)) = true := decide_eq_true (by omega)
        have k0 : (0 : Int) ≤ (k : Int) := by omega
        have k1 : (k : Int) < (A.length : Int) := by omega
        have hltB : k < B.length := by rw [← HL.out]; exact hlt
        have k2 : (k : Int) < (B.length : Int) := by omega
        have w1 : IntKind.i64.wrap ((k : Int) + 1) = (k : Int) + 1 := Go.IntWalk.i64_in _ (by omega)
        obtain ⟨b, off, an, cn, rfl, -, hRA, c0, c1, c2⟩ := frame_at (HA.out.keep HW.out) k hlt
        obtain ⟨b2, off2, an2, cn2, rfl, -, hRB, d0, d1, d2⟩ := frame_at (HB.out.keep HW.out) k hltB
        have hnA := HNA.out _ (List.getElem_mem hlt)
        have hnB := HNB.out _ (List.getElem_mem hltB)
        have HX := Lib.hid (show A[k] = B[k] → A.take (k + 1) = B.take (k + 1) from fun e => by rw [List.take_succ_eq_append_getElem hlt, List.take_succ_eq_append_getElem hltB, HT.out, e])
        have HY := Lib.hid (show A[k] ≠ B[k] → decide (A = B) = false from fun h => decide_eq_false fun e => h (by subst e; rfl))
        generalize A[k] = x at *
        generalize B[k] = y at *
        clear HT
        have HRA := Lib.hid hRA
        have HRB := Lib.hid hRB
        clear hRA hRB
        go_upto_region 6 with (fail)
        clear iL iL2
        by_cases hq : x.fd = y.fd
        · have x0 : decide (x.fd = y.fd) = true := decide_eq_true hq
          have x1 : (x.fd == y.fd) = true := beq_iff_eq.2 hq
          have x2 : (x.fd != y.fd) = false := by rw [bne, x1]; rfl
          have hf := hq
          clear hq
          by_cases hq : x.name = y.name
          · have x3 : decide (x.name = y.name) = true := decide_eq_true hq
            have x4 : (x.name == y.name) = true := beq_iff_eq.2 hq
            have x5 : (x.name != y.name) = false := by rw [bne, x4]; rfl
            have hn := hq
            clear hq
            have HTX := fun m => texts_any _ _ _ x.names y.names (w := World.drewN _ m) (HRA.out.drewN m) (HRB.out.drewN m) (by omega) (by omega)
            by_cases hq : x.names = y.names
            · have x6 : decide (x.names = y.names) = true := decide_eq_true hq
              have HT2 := Lib.hid (HX.out (frame_ext hf hn hq))
              clear hf hn hq HX HY
              rw [x6] at HTX
              go_quiet ((go_at_call 25; exact Calls.quiet_of (HTX _)))
              go_wp2_with fail
              go_roundw
              case rel => exact ⟨k + 1, by go_num, hlt, HT2, Lib.hid (bel_dn HW.out _)⟩
              case measure => simp [RowKit.intOf]; omega
            · have x6 : decide (x.names = y.names) = false := decide_eq_false hq
              have HF := Lib.hid (HY.out fun e => hq (by rw [e]))
              clear hf hn hq HX HY
              rw [x6] at HTX
              go_quiet ((go_at_call 25; exact Calls.quiet_of (HTX _)))
              go_wp2_with fail
              go_ret
              exact ⟨ret_bool HF.out.symm, bel_dn HW.out _⟩
          · have x3 : decide (x.name = y.name) = false := decide_eq_false hq
            have x4 : (x.name == y.name) = false := beq_eq_false_iff_ne.2 hq
            have x5 : (x.name != y.name) = true := by rw [bne, x4]; rfl
            have HF := Lib.hid (HY.out fun e => hq (by rw [e]))
            clear hf hq HX HY
            go_quiet (fail)
            go_wp2_with fail
            go_ret
            exact ⟨ret_bool HF.out.symm, bel_dn HW.out _⟩
        · have x0 : decide (x.fd = y.fd) = false := decide_eq_false hq
          have x1 : (x.fd == y.fd) = false := beq_eq_false_iff_ne.2 hq
          have x2 : (x.fd != y.fd) = true := by rw [bne, x1]; rfl
          have HF := Lib.hid (HY.out fun e => hq (by rw [e]))
          clear hq HX HY
          go_quiet (fail)
          go_wp2_with fail
          go_ret
          exact ⟨ret_bool HF.out.symm, bel_dn HW.out _⟩
      · have iL : decide (k < A.length) = false := decide_eq_false hlt
        have iL2 : decide ((k : Int) < (A.length : Int)) = false := decide_eq_false (by omega)
        have hke : k = A.length := by omega
        have HF := Lib.hid (show decide (A = B) = true from decide_eq_true (by have h1 := HT.out; rw [hke, List.take_length, HL.out, List.take_length] at h1; exact h1))
        clear hlt hke HT
        go_wp2_with fail
        go_ret
        exact ⟨ret_bool HF.out.symm, HW.out⟩
  · have e1 : ((A.length : Int) != (B.length : Int)) = true := by simp; omega
    have e2 : (A.length != B.length) = true := by simp [hlen]
    have e3 : decide (A.length = B.length) = false := decide_eq_false hlen
    have HF := Lib.hid (show decide (A = B) = false from decide_eq_false fun e => hlen (by rw [e]))
    clear hlen
    go_enter Tryd.func26, Tryd.ntmps26
    go_wp2_with fail
    go_ret
    exact ⟨ret_bool HF.out.symm, Below.refl _ _⟩
end Go.Proofs.YtedcffkmfopalaaDoor
