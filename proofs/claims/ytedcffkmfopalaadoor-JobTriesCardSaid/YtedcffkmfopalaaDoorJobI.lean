/-
  The program's Same.
-/
import Derived.Test.YtedcffkmfopalaaDoorJobH
namespace Go.Proofs.YtedcffkmfopalaaDoor
open Go.RowKit Go.Shelf
attribute [local go_sem ↓] Go.wp_at_zero Go.wp_at_succ

set_option maxRecDepth 100000 in
set_option maxHeartbeats 4000000 in
theorem pSame_c (a b : JobL) (sa : LightJ a) (sb : LightJ b) (vn vs vd vn2 vs2 vd2 : Value) (w : World) (ha : GivesJ a vn vs vd w) (hb : GivesJ b vn2 vs2 vd2 w) :
    Calls Tryd.prog 16 #[jval a vn vs vd, jval b vn2 vs2 vd2] w fun e w' => e = .returned (.bool (decide (a = b))) ∧ Below w.heap.size w w' := by
  obtain ⟨an, cn, rfl, _, _⟩ := Rd.form ha.nm
  obtain ⟨ax, cs, rfl, _, _⟩ := ha.st.form
  obtain ⟨ad, cd, rfl, _, _⟩ := Rd.form ha.dr
  obtain ⟨bn, cbn, rfl, _, _⟩ := Rd.form hb.nm
  obtain ⟨bt, cbt, rfl, _, _⟩ := hb.st.form
  obtain ⟨bd, cbd, rfl, _, _⟩ := Rd.form hb.dr
  have HA := Lib.hid ha
  have HB := Lib.hid hb
  have SA := Lib.hid sa
  have SB := Lib.hid sb
  clear ha hb sa sb
  go_enter Tryd.func16, Tryd.ntmps16
  go_upto_region 1 with (fail)
  refine code_fresh2 ?_
  intro W1 hb hA hA2 hs
  replace HA := Lib.hid (HA.out.keep hb)
  replace HB := Lib.hid (HB.out.keep hb)
  have BA := Lib.hid (hA)
  have BB := Lib.hid (hA2)
  have HW := Lib.hid (hb)
  clear hb hA hA2 hs
  have hA := BA.out
  have hB := BB.out
  go_wp2_with (first | (refine wpList_load_row rfl 27 _ rfl _ rfl 27 _ (0, 0) _ hA Tryd.underlying27 rfl (by kernel_rfl) ?_) | (refine wpList_load_rowG rfl 27 _ rfl _ rfl 27 _ (0, 0) _ hA Tryd.underlying27 rfl (by kernel_rfl) ?_) | (refine wpList_load_row rfl 27 _ rfl _ rfl 27 _ (0, 0) _ hB Tryd.underlying27 rfl (by kernel_rfl) ?_) | (refine wpList_load_rowG rfl 27 _ rfl _ rfl 27 _ (0, 0) _ hB Tryd.underlying27 rfl (by kernel_rfl) ?_))
  clear hA hB
  refine (pNumbers_c a b SA.out SB.out _ _ _ _ _ _ W1 HA.out HB.out).mono ?_
  rintro e V1 ⟨rfl, hb⟩
  replace BA := Lib.hid ((hb.block _ (lt_some BA.out)).trans BA.out)
  replace BB := Lib.hid ((hb.block _ (lt_some BB.out)).trans BB.out)
  replace HW := Lib.hid (HW.out.trans (hb.mono HW.out.size))
  replace HA := Lib.hid (HA.out.keep hb)
  replace HB := Lib.hid (HB.out.keep hb)
  clear hb
  by_cases hq : a.kind = b.kind ∧ a.p = b.p ∧ a.phase = b.phase ∧ a.fd = b.fd ∧ a.n = b.n ∧ a.mode = b.mode ∧ a.tries = b.tries ∧ a.pos = b.pos ∧ a.flags = b.flags
  case neg =>
    rw [decide_eq_false hq]
    have HF := Lib.hid (show decide (a = b) = false from decide_eq_false fun e => hq (by subst e; exact ⟨rfl, rfl, rfl, rfl, rfl, rfl, rfl, rfl, rfl⟩))
    clear hq
    go_wp2_with fail
    go_ret
    exact ⟨ret_bool HF.out.symm, HW.out⟩
  rw [decide_eq_true hq]
  have q0 := Lib.hid hq
  clear hq
  have hA := BA.out
  have hB := BB.out
  go_wp2_with (first | (refine wpList_load_row rfl 27 _ rfl _ rfl 27 _ (0, 0) _ hA Tryd.underlying27 rfl (by kernel_rfl) ?_) | (refine wpList_load_rowG rfl 27 _ rfl _ rfl 27 _ (0, 0) _ hA Tryd.underlying27 rfl (by kernel_rfl) ?_) | (refine wpList_load_row rfl 27 _ rfl _ rfl 27 _ (0, 0) _ hB Tryd.underlying27 rfl (by kernel_rfl) ?_) | (refine wpList_load_rowG rfl 27 _ rfl _ rfl 27 _ (0, 0) _ hB Tryd.underlying27 rfl (by kernel_rfl) ?_))
  clear hA hB
  refine (pJTexts_c a b SA.out SB.out _ _ _ _ _ _ V1 HA.out HB.out).mono ?_
  rintro e V2 ⟨rfl, hb⟩
  replace BA := Lib.hid ((hb.block _ (lt_some BA.out)).trans BA.out)
  replace BB := Lib.hid ((hb.block _ (lt_some BB.out)).trans BB.out)
  replace HW := Lib.hid (HW.out.trans (hb.mono HW.out.size))
  replace HA := Lib.hid (HA.out.keep hb)
  replace HB := Lib.hid (HB.out.keep hb)
  clear hb
  by_cases hq : a.path = b.path ∧ a.path2 = b.path2 ∧ a.text = b.text ∧ a.names = b.names
  case neg =>
    rw [decide_eq_false hq]
    have HF := Lib.hid (show decide (a = b) = false from decide_eq_false fun e => hq (by subst e; exact ⟨rfl, rfl, rfl, rfl⟩))
    clear hq
    go_wp2_with fail
    go_ret
    exact ⟨ret_bool HF.out.symm, HW.out⟩
  rw [decide_eq_true hq]
  have q1 := Lib.hid hq
  clear hq
  have hA := BA.out
  have hB := BB.out
  go_wp2_with (first | (refine wpList_load_row rfl 27 _ rfl _ rfl 27 _ (0, 0) _ hA Tryd.underlying27 rfl (by kernel_rfl) ?_) | (refine wpList_load_rowG rfl 27 _ rfl _ rfl 27 _ (0, 0) _ hA Tryd.underlying27 rfl (by kernel_rfl) ?_) | (refine wpList_load_row rfl 27 _ rfl _ rfl 27 _ (0, 0) _ hB Tryd.underlying27 rfl (by kernel_rfl) ?_) | (refine wpList_load_rowG rfl 27 _ rfl _ rfl 27 _ (0, 0) _ hB Tryd.underlying27 rfl (by kernel_rfl) ?_))
  clear hA hB
  refine (pEnd_c a b SA.out SB.out _ _ _ _ _ _ V2 HA.out HB.out).mono ?_
  rintro e V3 ⟨rfl, hb⟩
  replace BA := Lib.hid ((hb.block _ (lt_some BA.out)).trans BA.out)
  replace BB := Lib.hid ((hb.block _ (lt_some BB.out)).trans BB.out)
  replace HW := Lib.hid (HW.out.trans (hb.mono HW.out.size))
  replace HA := Lib.hid (HA.out.keep hb)
  replace HB := Lib.hid (HB.out.keep hb)
  clear hb
  by_cases hq : a.done = b.done ∧ a.exit = b.exit ∧ a.out = b.out ∧ a.e = b.e
  case neg =>
    rw [decide_eq_false hq]
    have HF := Lib.hid (show decide (a = b) = false from decide_eq_false fun e => hq (by subst e; exact ⟨rfl, rfl, rfl, rfl⟩))
    clear hq
    go_wp2_with fail
    go_ret
    exact ⟨ret_bool HF.out.symm, HW.out⟩
  rw [decide_eq_true hq]
  have q2 := Lib.hid hq
  clear hq
  obtain ⟨-, -, -, -, -, -, -, -, -, -, -, -, -, c13, -, -, -, -, -⟩ := cells19 BA.out
  obtain ⟨-, -, -, -, -, -, -, -, -, -, -, -, -, d13, -, -, -, -, -⟩ := cells19 BB.out
  go_wp2_with fail
  clear c13 d13
  refine (pFrames_c a.stack b.stack (by have := SA.out.st; omega) (fun f hf => by have := SA.out.fr f hf; omega) (fun f hf => by have := SB.out.fr f hf; omega) _ _ _ _ V3 HA.out.st HB.out.st).mono ?_
  rintro e V4 ⟨rfl, hb⟩
  replace BA := Lib.hid ((hb.block _ (lt_some BA.out)).trans BA.out)
  replace BB := Lib.hid ((hb.block _ (lt_some BB.out)).trans BB.out)
  replace HW := Lib.hid (HW.out.trans (hb.mono HW.out.size))
  replace HA := Lib.hid (HA.out.keep hb)
  replace HB := Lib.hid (HB.out.keep hb)
  clear hb
  by_cases hq : a.stack = b.stack
  case neg =>
    rw [decide_eq_false hq]
    have HF := Lib.hid (show decide (a = b) = false from decide_eq_false fun e => hq (by subst e; rfl))
    clear hq
    go_wp2_with fail
    go_ret
    exact ⟨ret_bool HF.out.symm, HW.out⟩
  rw [decide_eq_true hq]
  have q3 := Lib.hid hq
  clear hq
  obtain ⟨-, -, -, -, -, -, -, -, -, -, -, -, -, -, c14, -, -, -, -⟩ := cells19 BA.out
  obtain ⟨-, -, -, -, -, -, -, -, -, -, -, -, -, -, d14, -, -, -, -⟩ := cells19 BB.out
  go_wp2_with fail
  clear c14 d14
  refine (pInts_c a.draws b.draws (by have := SA.out.dr; omega) _ _ _ _ V4 HA.out.dr HB.out.dr).mono ?_
  rintro e V5 ⟨rfl, hb⟩
  replace BA := Lib.hid ((hb.block _ (lt_some BA.out)).trans BA.out)
  replace BB := Lib.hid ((hb.block _ (lt_some BB.out)).trans BB.out)
  replace HW := Lib.hid (HW.out.trans (hb.mono HW.out.size))
  replace HA := Lib.hid (HA.out.keep hb)
  replace HB := Lib.hid (HB.out.keep hb)
  clear hb
  have HF : Hid (decide (a.draws = b.draws) = decide (a = b)) := Lib.hid (decide_eq_decide.2 ⟨fun h => by
    obtain ⟨h0, h1, h2, h3, h4, h5, h6, h7, h8⟩ := q0.out
    obtain ⟨h9, h10, h11, hn⟩ := q1.out
    obtain ⟨h12, h13, h14, h15⟩ := q2.out
    exact job_ext hn q3.out h h0 h1 h2 h3 h4 h5 h6 h7 h8 h9 h10 h11 h12 h13 h14 h15, fun h => by rw [h]⟩)
  go_wp2_with fail
  go_ret
  exact ⟨ret_bool HF.out, HW.out⟩
end Go.Proofs.YtedcffkmfopalaaDoor
