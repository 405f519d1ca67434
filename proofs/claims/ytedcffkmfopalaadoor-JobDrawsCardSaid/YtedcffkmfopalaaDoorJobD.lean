/-
  The statements' bound on jobs.
-/
import Derived.Test.YtedcffkmfopalaaDoorJobC
namespace Go.Proofs.YtedcffkmfopalaaDoor
open Go.RowKit Go.Shelf
attribute [local go_sem ↓] Go.wp_at_zero Go.wp_at_succ

set_option maxRecDepth 100000 in
set_option maxHeartbeats 4000000 in
theorem plain_c (a : JobL)  (vn vs vd : Value) (w : World) (ha : GivesJ a vn vs vd w) :
    Calls Tryd.prog 7 #[jval a vn vs vd] w fun e w' => e = .returned (.bool (plainJ a)) ∧ Below w.heap.size w w' := by
  obtain ⟨an, cn, rfl, _, _⟩ := Rd.form ha.nm
  obtain ⟨ax, cs, rfl, _, _⟩ := ha.st.form
  obtain ⟨ad, cd, rfl, _, _⟩ := Rd.form ha.dr
  have HA := Lib.hid ha
  clear ha
  go_enter Tryd.func7, Tryd.ntmps7
  go_upto_region 1 with (fail)
  refine code_fresh1 ?_
  intro W1 hb hA hs
  replace HA := Lib.hid (HA.out.keep hb)
  have BA := Lib.hid (hA)
  have HW := Lib.hid (hb)
  clear hb hA hs
  have HC := Lib.hid (Below.refl W1.heap.size W1)
  go_wp2_with fail
  go_loopw [3] (fun i wr => ∃ k : Nat, i = .int .i64 k ∧ k ≤ a.stack.length ∧ k ≤ 30 ∧ Hid (∀ f ∈ a.stack.take k, f.names.length ≤ 60) ∧ Hid (Below W1.heap.size W1 wr)) (fun i _ => a.stack.length - (RowKit.intOf i).toNat)
  case atStart => exact ⟨0, rfl, Nat.zero_le _, Nat.zero_le _, Lib.hid (fun f hf => by cases hf), HC⟩
  case round =>
    clear HC
    obtain ⟨k, rfl, hk, hk30, HT, HC⟩ := hrel
    have hb := HC.out
    replace BA := Lib.hid ((hb.block _ (lt_some BA.out)).trans BA.out)
    replace HW := Lib.hid (HW.out.trans (hb.mono HW.out.size))
    replace HA := Lib.hid (HA.out.keep hb)
    clear hb
    obtain ⟨-, -, -, -, -, -, -, -, -, -, -, -, -, c13, -, -, -, -, -⟩ := cells19 BA.out
    by_cases hlt : k < a.stack.length
    · have iL : decide (k < a.stack.length) = true := decide_eq_true hlt
      have iL2 : decide ((k : Int) < (a.stack.length : Int)) = true := decide_eq_true (by omega)
      have k0 : (0 : Int) ≤ (k : Int) := by omega
      have k1 : (k : Int) < (a.stack.length : Int) := by omega
      have w1 : IntKind.i64.wrap ((k : Int) + 1) = (k : Int) + 1 := Go.IntWalk.i64_in _ (by omega)
      by_cases h30 : k < 30
      · have jL : decide (k < 30) = true := decide_eq_true h30
        have jL2 : decide ((k : Int) < (30 : Int)) = true := decide_eq_true (by omega)
        obtain ⟨b, off, an2, cn2, rfl, -, -, -, -, f2⟩ := frame_at HA.out.st k hlt
        have HX := Lib.hid (show a.stack[k].names.length ≤ 60 → ∀ f ∈ a.stack.take (k + 1), f.names.length ≤ 60 from fun h f hf => by
          rw [List.take_succ_eq_append_getElem hlt] at hf
          rcases List.mem_append.1 hf with h1 | h1
          · exact HT.out f h1
          · obtain rfl := List.mem_singleton.1 h1
            exact h)
        have HY := Lib.hid (show ¬ a.stack[k].names.length ≤ 60 → plainJ a = false from fun h => by
          have hf : a.stack.all (fun f => decide (f.names.length ≤ 60)) = false := by
            rw [List.all_eq_false]
            exact ⟨_, List.getElem_mem hlt, by simpa using h⟩
          unfold plainJ
          rw [hf]
          simp)
        generalize a.stack[k] = x at *
        clear HT
        by_cases hq : x.names.length ≤ 60
        · have q1 : decide (60 < x.names.length) = false := decide_eq_false (by omega)
          have q2 : decide ((60 : Int) < (x.names.length : Int)) = false := decide_eq_false (by omega)
          have HT := Lib.hid (HX.out hq)
          clear HX HY hq
          go_wp2_with fail
          go_roundw
          case rel => exact ⟨k + 1, by go_num, hlt, h30, HT, HC⟩
          case measure => simp [RowKit.intOf]; omega
        · have q1 : decide (60 < x.names.length) = true := decide_eq_true (by omega)
          have q2 : decide ((60 : Int) < (x.names.length : Int)) = true := decide_eq_true (by omega)
          have HF := Lib.hid (HY.out hq)
          clear HX HY hq
          go_wp2_with fail
          go_ret
          exact ⟨ret_bool HF.out.symm, HW.out⟩
      · have jL : decide (k < 30) = false := decide_eq_false h30
        have jL2 : decide ((k : Int) < (30 : Int)) = false := decide_eq_false (by omega)
        have hq : ¬ a.stack.length ≤ 20 := by omega
        have y0 : decide (a.stack.length ≤ 20) = false := decide_eq_false hq
        have y1 : decide ((a.stack.length : Int) ≤ (20 : Int)) = false := decide_eq_false (by omega)
        have HF := Lib.hid (show plainJ a = false by unfold plainJ; rw [decide_eq_false hq]; simp)
        clear hq HT
        go_wp2_with fail
        go_ret
        exact ⟨ret_bool HF.out.symm, HW.out⟩
    · have iL : decide (k < a.stack.length) = false := decide_eq_false hlt
      have iL2 : decide ((k : Int) < (a.stack.length : Int)) = false := decide_eq_false (by omega)
      have hall : a.stack.all (fun f => decide (f.names.length ≤ 60)) = true := by
        rw [List.all_eq_true]
        intro f hf
        have h1 := HT.out f (by rw [show k = a.stack.length by omega, List.take_length]; exact hf)
        exact decide_eq_true h1
      have HALL := Lib.hid hall
      clear hall HT c13
      obtain ⟨-, -, -, -, -, -, -, c7, -, c9, c10, c11, c12, c13, c14, -, -, -, -⟩ := cells19 BA.out
      by_cases hq : a.stack.length ≤ 20
      case neg =>
        have y0 : decide (a.stack.length ≤ 20) = false := decide_eq_false hq
        have y1 : decide ((a.stack.length : Int) ≤ (20 : Int)) = false := decide_eq_false (by omega)
        have HF := Lib.hid (show plainJ a = false by unfold plainJ; rw [decide_eq_false hq]; simp)
        clear hq
        go_wp2_with fail
        go_ret
        exact ⟨ret_bool HF.out.symm, HW.out⟩
      have y0 : decide (a.stack.length ≤ 20) = true := decide_eq_true hq
      have y1 : decide ((a.stack.length : Int) ≤ (20 : Int)) = true := decide_eq_true (by omega)
      have h0 := Lib.hid hq
      clear hq
      by_cases hq : a.names.length ≤ 120
      case neg =>
        have y2 : decide (a.names.length ≤ 120) = false := decide_eq_false hq
        have y3 : decide ((a.names.length : Int) ≤ (120 : Int)) = false := decide_eq_false (by omega)
        have HF := Lib.hid (show plainJ a = false by unfold plainJ; rw [decide_eq_false hq]; simp)
        clear hq
        go_wp2_with fail
        go_ret
        exact ⟨ret_bool HF.out.symm, HW.out⟩
      have y2 : decide (a.names.length ≤ 120) = true := decide_eq_true hq
      have y3 : decide ((a.names.length : Int) ≤ (120 : Int)) = true := decide_eq_true (by omega)
      have h1 := Lib.hid hq
      clear hq
      by_cases hq : a.draws.length ≤ 200
      case neg =>
        have y4 : decide (a.draws.length ≤ 200) = false := decide_eq_false hq
        have y5 : decide ((a.draws.length : Int) ≤ (200 : Int)) = false := decide_eq_false (by omega)
        have HF := Lib.hid (show plainJ a = false by unfold plainJ; rw [decide_eq_false hq]; simp)
        clear hq
        go_wp2_with fail
        go_ret
        exact ⟨ret_bool HF.out.symm, HW.out⟩
      have y4 : decide (a.draws.length ≤ 200) = true := decide_eq_true hq
      have y5 : decide ((a.draws.length : Int) ≤ (200 : Int)) = true := decide_eq_true (by omega)
      have h2 := Lib.hid hq
      clear hq
      by_cases hq : a.path.length ≤ 400
      case neg =>
        have y6 : decide (a.path.length ≤ 400) = false := decide_eq_false hq
        have y7 : decide ((a.path.length : Int) ≤ (400 : Int)) = false := decide_eq_false (by omega)
        have HF := Lib.hid (show plainJ a = false by unfold plainJ; rw [decide_eq_false hq]; simp)
        clear hq
        go_wp2_with fail
        go_ret
        exact ⟨ret_bool HF.out.symm, HW.out⟩
      have y6 : decide (a.path.length ≤ 400) = true := decide_eq_true hq
      have y7 : decide ((a.path.length : Int) ≤ (400 : Int)) = true := decide_eq_true (by omega)
      have h3 := Lib.hid hq
      clear hq
      by_cases hq : a.path2.length ≤ 400
      case neg =>
        have y8 : decide (a.path2.length ≤ 400) = false := decide_eq_false hq
        have y9 : decide ((a.path2.length : Int) ≤ (400 : Int)) = false := decide_eq_false (by omega)
        have HF := Lib.hid (show plainJ a = false by unfold plainJ; rw [decide_eq_false hq]; simp)
        clear hq
        go_wp2_with fail
        go_ret
        exact ⟨ret_bool HF.out.symm, HW.out⟩
      have y8 : decide (a.path2.length ≤ 400) = true := decide_eq_true hq
      have y9 : decide ((a.path2.length : Int) ≤ (400 : Int)) = true := decide_eq_true (by omega)
      have h4 := Lib.hid hq
      clear hq
      by_cases hq : a.text.length ≤ 400
      case neg =>
        have y10 : decide (a.text.length ≤ 400) = false := decide_eq_false hq
        have y11 : decide ((a.text.length : Int) ≤ (400 : Int)) = false := decide_eq_false (by omega)
        have HF := Lib.hid (show plainJ a = false by unfold plainJ; rw [decide_eq_false hq]; simp)
        clear hq
        go_wp2_with fail
        go_ret
        exact ⟨ret_bool HF.out.symm, HW.out⟩
      have y10 : decide (a.text.length ≤ 400) = true := decide_eq_true hq
      have y11 : decide ((a.text.length : Int) ≤ (400 : Int)) = true := decide_eq_true (by omega)
      have h5 := Lib.hid hq
      clear hq
      by_cases hq : 0 ≤ a.pos
      case neg =>
        have p60 : decide (0 ≤ a.pos) = false := decide_eq_false (by omega)
        have p61 : decide (a.pos ≥ 0) = false := decide_eq_false (by omega)
        have HF := Lib.hid (show plainJ a = false by unfold plainJ; rw [decide_eq_false hq]; simp)
        clear hq
        go_wp2_with fail
        go_ret
        exact ⟨ret_bool HF.out.symm, HW.out⟩
      have p60 : decide (0 ≤ a.pos) = true := decide_eq_true (by omega)
      have p61 : decide (a.pos ≥ 0) = true := decide_eq_true (by omega)
      have h6 := Lib.hid hq
      clear hq
      by_cases hq : a.pos ≤ 1000000
      case neg =>
        have p70 : decide (a.pos ≤ 1000000) = false := decide_eq_false (by omega)
        have HF := Lib.hid (show plainJ a = false by unfold plainJ; rw [decide_eq_false hq]; simp)
        clear hq
        go_wp2_with fail
        go_ret
        exact ⟨ret_bool HF.out.symm, HW.out⟩
      have p70 : decide (a.pos ≤ 1000000) = true := decide_eq_true (by omega)
      have h7 := Lib.hid hq
      clear hq
      have HF := Lib.hid (show plainJ a = true by unfold plainJ; rw [HALL.out, decide_eq_true h0.out, decide_eq_true h1.out, decide_eq_true h2.out, decide_eq_true h3.out, decide_eq_true h4.out, decide_eq_true h5.out, decide_eq_true h6.out, decide_eq_true h7.out]; rfl)
      go_wp2_with fail
      go_ret
      exact ⟨ret_bool HF.out.symm, HW.out⟩
end Go.Proofs.YtedcffkmfopalaaDoor
