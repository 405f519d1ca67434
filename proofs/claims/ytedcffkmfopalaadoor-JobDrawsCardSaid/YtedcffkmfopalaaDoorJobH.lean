/-
  Jobs' numbers, texts, ends: the same?
-/
import Derived.Test.YtedcffkmfopalaaDoorJobG
namespace Go.Proofs.YtedcffkmfopalaaDoor
open Go.RowKit Go.Shelf
attribute [local go_sem ↓] Go.wp_at_zero Go.wp_at_succ

set_option maxRecDepth 100000 in
set_option maxHeartbeats 4000000 in
theorem pNumbers_c (a b : JobL) (sa : LightJ a) (sb : LightJ b) (vn vs vd vn2 vs2 vd2 : Value) (w : World) (ha : GivesJ a vn vs vd w) (hb : GivesJ b vn2 vs2 vd2 w) :
    Calls Tryd.prog 29 #[jval a vn vs vd, jval b vn2 vs2 vd2] w fun e w' => e = .returned (.bool (decide (a.kind = b.kind ∧ a.p = b.p ∧ a.phase = b.phase ∧ a.fd = b.fd ∧ a.n = b.n ∧ a.mode = b.mode ∧ a.tries = b.tries ∧ a.pos = b.pos ∧ a.flags = b.flags))) ∧ Below w.heap.size w w' := by
  obtain ⟨an, cn, rfl, _, _⟩ := Rd.form ha.nm
  obtain ⟨ax, cs, rfl, _, _⟩ := ha.st.form
  obtain ⟨ad, cd, rfl, _, _⟩ := Rd.form ha.dr
  obtain ⟨bn, cbn, rfl, _, _⟩ := Rd.form hb.nm
  obtain ⟨bt, cbt, rfl, _, _⟩ := hb.st.form
  obtain ⟨bd, cbd, rfl, _, _⟩ := Rd.form hb.dr
  have HA := Lib.hid ha
  have HB := Lib.hid hb
  have SA := Lib.hid sa
  have SB := Lib.hid sb
  clear ha hb sa sb
  go_enter Tryd.func29, Tryd.ntmps29
  go_upto_region 1 with (fail)
  refine code_fresh2 ?_
  intro W1 hb hA hA2 hs
  replace HA := Lib.hid (HA.out.keep hb)
  replace HB := Lib.hid (HB.out.keep hb)
  have HW := Lib.hid hb
  have BA := Lib.hid hA
  have BB := Lib.hid hA2
  clear hb hA hA2 hs
  obtain ⟨c0, c1, c2, c3, c4, c5, c6, c7, c8, -, -, -, -, -, -, -, -, -, -⟩ := cells19 BA.out
  obtain ⟨d0, d1, d2, d3, d4, d5, d6, d7, d8, -, -, -, -, -, -, -, -, -, -⟩ := cells19 BB.out
  clear BA BB
  by_cases hq : a.kind = b.kind
  case neg =>
    have E1 : decide (a.kind = b.kind) = false := decide_eq_false hq
    have E2 : (a.kind == b.kind) = false := beq_eq_false_iff_ne.2 hq
    have E3 : (a.kind != b.kind) = true := by rw [bne, E2]; rfl
    have HF := Lib.hid (show decide (a.kind = b.kind ∧ a.p = b.p ∧ a.phase = b.phase ∧ a.fd = b.fd ∧ a.n = b.n ∧ a.mode = b.mode ∧ a.tries = b.tries ∧ a.pos = b.pos ∧ a.flags = b.flags) = false from decide_eq_false fun e => hq e.1)
    clear hq
    go_wp2_with fail
    go_ret
    exact ⟨ret_bool HF.out.symm, HW.out⟩
  have x0 : decide (a.kind = b.kind) = true := decide_eq_true hq
  have x1 : (a.kind == b.kind) = true := beq_iff_eq.2 hq
  have x2 : (a.kind != b.kind) = false := by rw [bne, x1]; rfl
  have h0 := Lib.hid hq
  clear hq
  by_cases hq : a.p = b.p
  case neg =>
    have E1 : decide (a.p = b.p) = false := decide_eq_false hq
    have E2 : (a.p == b.p) = false := beq_eq_false_iff_ne.2 hq
    have E3 : (a.p != b.p) = true := by rw [bne, E2]; rfl
    have HF := Lib.hid (show decide (a.kind = b.kind ∧ a.p = b.p ∧ a.phase = b.phase ∧ a.fd = b.fd ∧ a.n = b.n ∧ a.mode = b.mode ∧ a.tries = b.tries ∧ a.pos = b.pos ∧ a.flags = b.flags) = false from decide_eq_false fun e => hq e.2.1)
    clear hq
    go_wp2_with fail
    go_ret
    exact ⟨ret_bool HF.out.symm, HW.out⟩
  have x3 : decide (a.p = b.p) = true := decide_eq_true hq
  have x4 : (a.p == b.p) = true := beq_iff_eq.2 hq
  have x5 : (a.p != b.p) = false := by rw [bne, x4]; rfl
  have h1 := Lib.hid hq
  clear hq
  by_cases hq : a.phase = b.phase
  case neg =>
    have E1 : decide (a.phase = b.phase) = false := decide_eq_false hq
    have E2 : (a.phase == b.phase) = false := beq_eq_false_iff_ne.2 hq
    have E3 : (a.phase != b.phase) = true := by rw [bne, E2]; rfl
    have HF := Lib.hid (show decide (a.kind = b.kind ∧ a.p = b.p ∧ a.phase = b.phase ∧ a.fd = b.fd ∧ a.n = b.n ∧ a.mode = b.mode ∧ a.tries = b.tries ∧ a.pos = b.pos ∧ a.flags = b.flags) = false from decide_eq_false fun e => hq e.2.2.1)
    clear hq
    go_wp2_with fail
    go_ret
    exact ⟨ret_bool HF.out.symm, HW.out⟩
  have x6 : decide (a.phase = b.phase) = true := decide_eq_true hq
  have x7 : (a.phase == b.phase) = true := beq_iff_eq.2 hq
  have x8 : (a.phase != b.phase) = false := by rw [bne, x7]; rfl
  have h2 := Lib.hid hq
  clear hq
  by_cases hq : a.fd = b.fd
  case neg =>
    have E1 : decide (a.fd = b.fd) = false := decide_eq_false hq
    have E2 : (a.fd == b.fd) = false := beq_eq_false_iff_ne.2 hq
    have E3 : (a.fd != b.fd) = true := by rw [bne, E2]; rfl
    have HF := Lib.hid (show decide (a.kind = b.kind ∧ a.p = b.p ∧ a.phase = b.phase ∧ a.fd = b.fd ∧ a.n = b.n ∧ a.mode = b.mode ∧ a.tries = b.tries ∧ a.pos = b.pos ∧ a.flags = b.flags) = false from decide_eq_false fun e => hq e.2.2.2.1)
    clear hq
    go_wp2_with fail
    go_ret
    exact ⟨ret_bool HF.out.symm, HW.out⟩
  have x9 : decide (a.fd = b.fd) = true := decide_eq_true hq
  have x10 : (a.fd == b.fd) = true := beq_iff_eq.2 hq
  have x11 : (a.fd != b.fd) = false := by rw [bne, x10]; rfl
  have h3 := Lib.hid hq
  clear hq
  by_cases hq : a.n = b.n
  case neg =>
    have E1 : decide (a.n = b.n) = false := decide_eq_false hq
    have E2 : (a.n == b.n) = false := beq_eq_false_iff_ne.2 hq
    have E3 : (a.n != b.n) = true := by rw [bne, E2]; rfl
    have HF := Lib.hid (show decide (a.kind = b.kind ∧ a.p = b.p ∧ a.phase = b.phase ∧ a.fd = b.fd ∧ a.n = b.n ∧ a.mode = b.mode ∧ a.tries = b.tries ∧ a.pos = b.pos ∧ a.flags = b.flags) = false from decide_eq_false fun e => hq e.2.2.2.2.1)
    clear hq
    go_wp2_with fail
    go_ret
    exact ⟨ret_bool HF.out.symm, HW.out⟩
  have x12 : decide (a.n = b.n) = true := decide_eq_true hq
  have x13 : (a.n == b.n) = true := beq_iff_eq.2 hq
  have x14 : (a.n != b.n) = false := by rw [bne, x13]; rfl
  have h4 := Lib.hid hq
  clear hq
  by_cases hq : a.mode = b.mode
  case neg =>
    have E1 : decide (a.mode = b.mode) = false := decide_eq_false hq
    have E2 : (a.mode == b.mode) = false := beq_eq_false_iff_ne.2 hq
    have E3 : (a.mode != b.mode) = true := by rw [bne, E2]; rfl
    have HF := Lib.hid (show decide (a.kind = b.kind ∧ a.p = b.p ∧ a.phase = b.phase ∧ a.fd = b.fd ∧ a.n = b.n ∧ a.mode = b.mode ∧ a.tries = b.tries ∧ a.pos = b.pos ∧ a.flags = b.flags) = false from decide_eq_false fun e => hq e.2.2.2.2.2.1)
    clear hq
    go_wp2_with fail
    go_ret
    exact ⟨ret_bool HF.out.symm, HW.out⟩
  have x15 : decide (a.mode = b.mode) = true := decide_eq_true hq
  have x16 : (a.mode == b.mode) = true := beq_iff_eq.2 hq
  have x17 : (a.mode != b.mode) = false := by rw [bne, x16]; rfl
  have h5 := Lib.hid hq
  clear hq
  by_cases hq : a.tries = b.tries
  case neg =>
    have E1 : decide (a.tries = b.tries) = false := decide_eq_false hq
    have E2 : (a.tries == b.tries) = false := beq_eq_false_iff_ne.2 hq
    have E3 : (a.tries != b.tries) = true := by rw [bne, E2]; rfl
    have HF := Lib.hid (show decide (a.kind = b.kind ∧ a.p = b.p ∧ a.phase = b.phase ∧ a.fd = b.fd ∧ a.n = b.n ∧ a.mode = b.mode ∧ a.tries = b.tries ∧ a.pos = b.pos ∧ a.flags = b.flags) = false from decide_eq_false fun e => hq e.2.2.2.2.2.2.1)
    clear hq
    go_wp2_with fail
    go_ret
    exact ⟨ret_bool HF.out.symm, HW.out⟩
  have x18 : decide (a.tries = b.tries) = true := decide_eq_true hq
  have x19 : (a.tries == b.tries) = true := beq_iff_eq.2 hq
  have x20 : (a.tries != b.tries) = false := by rw [bne, x19]; rfl
  have h6 := Lib.hid hq
  clear hq
  by_cases hq : a.pos = b.pos
  case neg =>
    have E1 : decide (a.pos = b.pos) = false := decide_eq_false hq
    have E2 : (a.pos == b.pos) = false := beq_eq_false_iff_ne.2 hq
    have E3 : (a.pos != b.pos) = true := by rw [bne, E2]; rfl
    have HF := Lib.hid (show decide (a.kind = b.kind ∧ a.p = b.p ∧ a.phase = b.phase ∧ a.fd = b.fd ∧ a.n = b.n ∧ a.mode = b.mode ∧ a.tries = b.tries ∧ a.pos = b.pos ∧ a.flags = b.flags) = false from decide_eq_false fun e => hq e.2.2.2.2.2.2.2.1)
    clear hq
    go_wp2_with fail
    go_ret
    exact ⟨ret_bool HF.out.symm, HW.out⟩
  have x21 : decide (a.pos = b.pos) = true := decide_eq_true hq
  have x22 : (a.pos == b.pos) = true := beq_iff_eq.2 hq
  have x23 : (a.pos != b.pos) = false := by rw [bne, x22]; rfl
  have h7 := Lib.hid hq
  clear hq
  by_cases hq : a.flags = b.flags
  case neg =>
    have E1 : decide (a.flags = b.flags) = false := decide_eq_false hq
    have E2 : (a.flags == b.flags) = false := beq_eq_false_iff_ne.2 hq
    have E3 : (a.flags != b.flags) = true := by rw [bne, E2]; rfl
    have HF := Lib.hid (show decide (a.kind = b.kind ∧ a.p = b.p ∧ a.phase = b.phase ∧ a.fd = b.fd ∧ a.n = b.n ∧ a.mode = b.mode ∧ a.tries = b.tries ∧ a.pos = b.pos ∧ a.flags = b.flags) = false from decide_eq_false fun e => hq e.2.2.2.2.2.2.2.2)
    clear hq
    go_wp2_with fail
    go_ret
    exact ⟨ret_bool HF.out.symm, HW.out⟩
  have x24 : decide (a.flags = b.flags) = true := decide_eq_true hq
  have x25 : (a.flags == b.flags) = true := beq_iff_eq.2 hq
  have x26 : (a.flags != b.flags) = false := by rw [bne, x25]; rfl
  have h8 := Lib.hid hq
  clear hq
  go_wp2_with fail
  have HF := Lib.hid (show decide (a.kind = b.kind ∧ a.p = b.p ∧ a.phase = b.phase ∧ a.fd = b.fd ∧ a.n = b.n ∧ a.mode = b.mode ∧ a.tries = b.tries ∧ a.pos = b.pos ∧ a.flags = b.flags) = true from decide_eq_true ⟨h0.out, h1.out, h2.out, h3.out, h4.out, h5.out, h6.out, h7.out, h8.out⟩)
  go_ret
  exact ⟨ret_bool HF.out.symm, HW.out⟩
set_option maxRecDepth 100000 in
set_option maxHeartbeats 4000000 in
theorem pJTexts_c (a b : JobL) (sa : LightJ a) (sb : LightJ b) (vn vs vd vn2 vs2 vd2 : Value) (w : World) (ha : GivesJ a vn vs vd w) (hb : GivesJ b vn2 vs2 vd2 w) :
    Calls Tryd.prog 30 #[jval a vn vs vd, jval b vn2 vs2 vd2] w fun e w' => e = .returned (.bool (decide (a.path = b.path ∧ a.path2 = b.path2 ∧ a.text = b.text ∧ a.names = b.names))) ∧ Below w.heap.size w w' := by
  obtain ⟨an, cn, rfl, _, _⟩ := Rd.form ha.nm
  obtain ⟨ax, cs, rfl, _, _⟩ := ha.st.form
  obtain ⟨ad, cd, rfl, _, _⟩ := Rd.form ha.dr
  obtain ⟨bn, cbn, rfl, _, _⟩ := Rd.form hb.nm
  obtain ⟨bt, cbt, rfl, _, _⟩ := hb.st.form
  obtain ⟨bd, cbd, rfl, _, _⟩ := Rd.form hb.dr
  have HA := Lib.hid ha
  have HB := Lib.hid hb
  have SA := Lib.hid sa
  have SB := Lib.hid sb
  clear ha hb sa sb
  go_enter Tryd.func30, Tryd.ntmps30
  go_upto_region 1 with (fail)
  refine code_fresh2 ?_
  intro W1 hb hA hA2 hs
  replace HA := Lib.hid (HA.out.keep hb)
  replace HB := Lib.hid (HB.out.keep hb)
  have HW := Lib.hid hb
  have BA := Lib.hid hA
  have BB := Lib.hid hA2
  clear hb hA hA2 hs
  obtain ⟨-, -, -, -, -, -, -, -, -, c9, c10, c11, c12, -, -, -, -, -, -⟩ := cells19 BA.out
  obtain ⟨-, -, -, -, -, -, -, -, -, d9, d10, d11, d12, -, -, -, -, -, -⟩ := cells19 BB.out
  clear BA BB
  by_cases hq : a.path = b.path
  case neg =>
    have E1 : decide (a.path = b.path) = false := decide_eq_false hq
    have E2 : (a.path == b.path) = false := beq_eq_false_iff_ne.2 hq
    have E3 : (a.path != b.path) = true := by rw [bne, E2]; rfl
    have HF := Lib.hid (show decide (a.path = b.path ∧ a.path2 = b.path2 ∧ a.text = b.text ∧ a.names = b.names) = false from decide_eq_false fun e => hq e.1)
    clear hq
    go_wp2_with fail
    go_ret
    exact ⟨ret_bool HF.out.symm, HW.out⟩
  have x0 : decide (a.path = b.path) = true := decide_eq_true hq
  have x1 : (a.path == b.path) = true := beq_iff_eq.2 hq
  have x2 : (a.path != b.path) = false := by rw [bne, x1]; rfl
  have h0 := Lib.hid hq
  clear hq
  by_cases hq : a.path2 = b.path2
  case neg =>
    have E1 : decide (a.path2 = b.path2) = false := decide_eq_false hq
    have E2 : (a.path2 == b.path2) = false := beq_eq_false_iff_ne.2 hq
    have E3 : (a.path2 != b.path2) = true := by rw [bne, E2]; rfl
    have HF := Lib.hid (show decide (a.path = b.path ∧ a.path2 = b.path2 ∧ a.text = b.text ∧ a.names = b.names) = false from decide_eq_false fun e => hq e.2.1)
    clear hq
    go_wp2_with fail
    go_ret
    exact ⟨ret_bool HF.out.symm, HW.out⟩
  have x3 : decide (a.path2 = b.path2) = true := decide_eq_true hq
  have x4 : (a.path2 == b.path2) = true := beq_iff_eq.2 hq
  have x5 : (a.path2 != b.path2) = false := by rw [bne, x4]; rfl
  have h1 := Lib.hid hq
  clear hq
  by_cases hq : a.text = b.text
  case neg =>
    have E1 : decide (a.text = b.text) = false := decide_eq_false hq
    have E2 : (a.text == b.text) = false := beq_eq_false_iff_ne.2 hq
    have E3 : (a.text != b.text) = true := by rw [bne, E2]; rfl
    have HF := Lib.hid (show decide (a.path = b.path ∧ a.path2 = b.path2 ∧ a.text = b.text ∧ a.names = b.names) = false from decide_eq_false fun e => hq e.2.2.1)
    clear hq
    go_wp2_with fail
    go_ret
    exact ⟨ret_bool HF.out.symm, HW.out⟩
  have x6 : decide (a.text = b.text) = true := decide_eq_true hq
  have x7 : (a.text == b.text) = true := beq_iff_eq.2 hq
  have x8 : (a.text != b.text) = false := by rw [bne, x7]; rfl
  have h2 := Lib.hid hq
  clear hq
  go_wp2_with fail
  refine (pTexts_c a.names b.names (by have := SA.out.nm; omega) _ _ _ _ W1 HA.out.nm HB.out.nm).mono ?_
  rintro e V1 ⟨rfl, hb⟩
  replace HW := Lib.hid (HW.out.trans (hb.mono HW.out.size))
  clear hb
  have HF : Hid (decide (a.names = b.names) = decide (a.path = b.path ∧ a.path2 = b.path2 ∧ a.text = b.text ∧ a.names = b.names)) := Lib.hid (decide_eq_decide.2 ⟨fun h => ⟨h0.out, h1.out, h2.out, h⟩, fun h => h.2.2.2⟩)
  go_wp2_with fail
  go_ret
  exact ⟨ret_bool HF.out, HW.out⟩
set_option maxRecDepth 100000 in
set_option maxHeartbeats 4000000 in
theorem pEnd_c (a b : JobL) (sa : LightJ a) (sb : LightJ b) (vn vs vd vn2 vs2 vd2 : Value) (w : World) (ha : GivesJ a vn vs vd w) (hb : GivesJ b vn2 vs2 vd2 w) :
    Calls Tryd.prog 31 #[jval a vn vs vd, jval b vn2 vs2 vd2] w fun e w' => e = .returned (.bool (decide (a.done = b.done ∧ a.exit = b.exit ∧ a.out = b.out ∧ a.e = b.e))) ∧ Below w.heap.size w w' := by
  obtain ⟨an, cn, rfl, _, _⟩ := Rd.form ha.nm
  obtain ⟨ax, cs, rfl, _, _⟩ := ha.st.form
  obtain ⟨ad, cd, rfl, _, _⟩ := Rd.form ha.dr
  obtain ⟨bn, cbn, rfl, _, _⟩ := Rd.form hb.nm
  obtain ⟨bt, cbt, rfl, _, _⟩ := hb.st.form
  obtain ⟨bd, cbd, rfl, _, _⟩ := Rd.form hb.dr
  have HA := Lib.hid ha
  have HB := Lib.hid hb
  have SA := Lib.hid sa
  have SB := Lib.hid sb
  clear ha hb sa sb
  go_enter Tryd.func31, Tryd.ntmps31
  go_upto_region 1 with (fail)
  refine code_fresh2 ?_
  intro W1 hb hA hA2 hs
  replace HA := Lib.hid (HA.out.keep hb)
  replace HB := Lib.hid (HB.out.keep hb)
  have HW := Lib.hid hb
  have BA := Lib.hid hA
  have BB := Lib.hid hA2
  clear hb hA hA2 hs
  obtain ⟨-, -, -, -, -, -, -, -, -, -, -, -, -, -, -, c15, c16, c17, c18⟩ := cells19 BA.out
  obtain ⟨-, -, -, -, -, -, -, -, -, -, -, -, -, -, -, d15, d16, d17, d18⟩ := cells19 BB.out
  clear BA BB
  by_cases hq : a.done = b.done
  case neg =>
    have E1 : decide (a.done = b.done) = false := decide_eq_false hq
    have E2 : (a.done == b.done) = false := beq_eq_false_iff_ne.2 hq
    have E3 : (a.done != b.done) = true := by rw [bne, E2]; rfl
    have HF := Lib.hid (show decide (a.done = b.done ∧ a.exit = b.exit ∧ a.out = b.out ∧ a.e = b.e) = false from decide_eq_false fun e => hq e.1)
    clear hq
    go_wp2_with fail
    go_ret
    exact ⟨ret_bool HF.out.symm, HW.out⟩
  have x0 : decide (a.done = b.done) = true := decide_eq_true hq
  have x1 : (a.done == b.done) = true := beq_iff_eq.2 hq
  have x2 : (a.done != b.done) = false := by rw [bne, x1]; rfl
  have h0 := Lib.hid hq
  clear hq
  by_cases hq : a.exit = b.exit
  case neg =>
    have E1 : decide (a.exit = b.exit) = false := decide_eq_false hq
    have E2 : (a.exit == b.exit) = false := beq_eq_false_iff_ne.2 hq
    have E3 : (a.exit != b.exit) = true := by rw [bne, E2]; rfl
    have HF := Lib.hid (show decide (a.done = b.done ∧ a.exit = b.exit ∧ a.out = b.out ∧ a.e = b.e) = false from decide_eq_false fun e => hq e.2.1)
    clear hq
    go_wp2_with fail
    go_ret
    exact ⟨ret_bool HF.out.symm, HW.out⟩
  have x3 : decide (a.exit = b.exit) = true := decide_eq_true hq
  have x4 : (a.exit == b.exit) = true := beq_iff_eq.2 hq
  have x5 : (a.exit != b.exit) = false := by rw [bne, x4]; rfl
  have h1 := Lib.hid hq
  clear hq
  by_cases hq : a.out = b.out
  case neg =>
    have E1 : decide (a.out = b.out) = false := decide_eq_false hq
    have E2 : (a.out == b.out) = false := beq_eq_false_iff_ne.2 hq
    have E3 : (a.out != b.out) = true := by rw [bne, E2]; rfl
    have HF := Lib.hid (show decide (a.done = b.done ∧ a.exit = b.exit ∧ a.out = b.out ∧ a.e = b.e) = false from decide_eq_false fun e => hq e.2.2.1)
    clear hq
    go_wp2_with fail
    go_ret
    exact ⟨ret_bool HF.out.symm, HW.out⟩
  have x6 : decide (a.out = b.out) = true := decide_eq_true hq
  have x7 : (a.out == b.out) = true := beq_iff_eq.2 hq
  have x8 : (a.out != b.out) = false := by rw [bne, x7]; rfl
  have h2 := Lib.hid hq
  clear hq
  by_cases hq : a.e = b.e
  case neg =>
    have E1 : decide (a.e = b.e) = false := decide_eq_false hq
    have E2 : (a.e == b.e) = false := beq_eq_false_iff_ne.2 hq
    have E3 : (a.e != b.e) = true := by rw [bne, E2]; rfl
    have HF := Lib.hid (show decide (a.done = b.done ∧ a.exit = b.exit ∧ a.out = b.out ∧ a.e = b.e) = false from decide_eq_false fun e => hq e.2.2.2)
    clear hq
    go_wp2_with fail
    go_ret
    exact ⟨ret_bool HF.out.symm, HW.out⟩
  have x9 : decide (a.e = b.e) = true := decide_eq_true hq
  have x10 : (a.e == b.e) = true := beq_iff_eq.2 hq
  have x11 : (a.e != b.e) = false := by rw [bne, x10]; rfl
  have h3 := Lib.hid hq
  clear hq
  go_wp2_with fail
  have HF := Lib.hid (show decide (a.done = b.done ∧ a.exit = b.exit ∧ a.out = b.out ∧ a.e = b.e) = true from decide_eq_true ⟨h0.out, h1.out, h2.out, h3.out⟩)
  go_ret
  exact ⟨ret_bool HF.out.symm, HW.out⟩
end Go.Proofs.YtedcffkmfopalaaDoor
