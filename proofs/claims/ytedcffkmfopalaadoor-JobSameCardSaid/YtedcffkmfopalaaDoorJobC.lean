/-
  The document's Same.
-/
import Derived.Test.YtedcffkmfopalaaDoorJobB
namespace Go.Proofs.YtedcffkmfopalaaDoor
open Go.RowKit Go.Shelf
attribute [local go_sem ↓] Go.wp_at_zero Go.wp_at_succ

theorem lt_some {W : World} {k : Nat} {o : Obj} (h : W.heap[k]? = some o) : k < W.heap.size := (Array.getElem?_eq_some_iff.1 h).1
theorem cells19 {W : World} {b : Nat} {u0 u1 u2 u3 u4 u5 u6 u7 u8 u9 u10 u11 u12 u13 u14 u15 u16 u17 u18 : Value} {t : TypeId} {f : Nat × Nat} (h : W.heap[b]? = some (.cells #[u0, u1, u2, u3, u4, u5, u6, u7, u8, u9, u10, u11, u12, u13, u14, u15, u16, u17, u18] t f)) :
    W.cell? ⟨b, 0, none⟩ = some u0 ∧ W.cell? ⟨b, 1, none⟩ = some u1 ∧ W.cell? ⟨b, 2, none⟩ = some u2 ∧ W.cell? ⟨b, 3, none⟩ = some u3 ∧ W.cell? ⟨b, 4, none⟩ = some u4 ∧ W.cell? ⟨b, 5, none⟩ = some u5 ∧ W.cell? ⟨b, 6, none⟩ = some u6 ∧ W.cell? ⟨b, 7, none⟩ = some u7 ∧ W.cell? ⟨b, 8, none⟩ = some u8 ∧ W.cell? ⟨b, 9, none⟩ = some u9 ∧ W.cell? ⟨b, 10, none⟩ = some u10 ∧ W.cell? ⟨b, 11, none⟩ = some u11 ∧ W.cell? ⟨b, 12, none⟩ = some u12 ∧ W.cell? ⟨b, 13, none⟩ = some u13 ∧ W.cell? ⟨b, 14, none⟩ = some u14 ∧ W.cell? ⟨b, 15, none⟩ = some u15 ∧ W.cell? ⟨b, 16, none⟩ = some u16 ∧ W.cell? ⟨b, 17, none⟩ = some u17 ∧ W.cell? ⟨b, 18, none⟩ = some u18 := by
  refine ⟨?_, ?_, ?_, ?_, ?_, ?_, ?_, ?_, ?_, ?_, ?_, ?_, ?_, ?_, ?_, ?_, ?_, ?_, ?_⟩ <;> (rw [Lib.cell_of_heap h]; rfl)
set_option maxRecDepth 100000 in
set_option maxHeartbeats 4000000 in
theorem rSame_c (a b : JobL) (sa : LightJ a) (sb : LightJ b) (vn vs vd vn2 vs2 vd2 : Value) (w : World) (ha : GivesJ a vn vs vd w) (hb : GivesJ b vn2 vs2 vd2 w) :
    Calls Tryd.prog 13 #[jval a vn vs vd, jval b vn2 vs2 vd2] w fun e w' => e = .returned (.bool (decide (a = b))) ∧ Below w.heap.size w w' := by
  obtain ⟨an, cn, rfl, _, _⟩ := Rd.form ha.nm
  obtain ⟨ax, cs, rfl, _, _⟩ := ha.st.form
  obtain ⟨ad, cd, rfl, _, _⟩ := Rd.form ha.dr
  obtain ⟨bn, cbn, rfl, _, _⟩ := Rd.form hb.nm
  obtain ⟨bt, cbt, rfl, _, _⟩ := hb.st.form
  obtain ⟨bd, cbd, rfl, _, _⟩ := Rd.form hb.dr
  have HA := Lib.hid ha
  have HB := Lib.hid hb
  have SA := Lib.hid sa
  have SB := Lib.hid sb
  clear ha hb sa sb
  go_enter Tryd.func13, Tryd.ntmps13
  go_upto_region 1 with (fail)
  refine code_fresh2 ?_
  intro W1 hb hA hA2 hs
  replace HA := Lib.hid (HA.out.keep hb)
  replace HB := Lib.hid (HB.out.keep hb)
  have BA := Lib.hid (hA)
  have BB := Lib.hid (hA2)
  have HW := Lib.hid (hb)
  clear hb hA hA2 hs
  obtain ⟨-, -, -, -, -, -, -, -, -, -, -, -, c12, -, -, -, -, -, -⟩ := cells19 BA.out
  obtain ⟨-, -, -, -, -, -, -, -, -, -, -, -, d12, -, -, -, -, -, -⟩ := cells19 BB.out
  go_wp2_with fail
  clear c12 d12
  refine (texts_any _ _ _ a.names b.names W1 HA.out.nm HB.out.nm (by have := SA.out.nm; omega) (by have := SB.out.nm; omega)).mono ?_
  rintro e _ ⟨rfl, n, rfl⟩
  have hb := bel_dn (Below.refl W1.heap.size W1) n
  generalize W1.drewN n = V1 at *
  replace BA := Lib.hid ((hb.block _ (lt_some BA.out)).trans BA.out)
  replace BB := Lib.hid ((hb.block _ (lt_some BB.out)).trans BB.out)
  replace HW := Lib.hid (HW.out.trans (hb.mono HW.out.size))
  replace HA := Lib.hid (HA.out.keep hb)
  replace HB := Lib.hid (HB.out.keep hb)
  clear hb
  by_cases hq : a.names = b.names
  case neg =>
    rw [decide_eq_false hq]
    have HF := Lib.hid (show decide (a = b) = false from decide_eq_false fun e => hq (by rw [e]))
    clear hq
    go_wp2_with fail
    go_ret
    exact ⟨ret_bool HF.out.symm, HW.out⟩
  rw [decide_eq_true hq]
  have g0 := Lib.hid hq
  clear hq
  obtain ⟨-, -, -, -, -, -, -, -, -, -, -, -, -, c13, -, -, -, -, -⟩ := cells19 BA.out
  obtain ⟨-, -, -, -, -, -, -, -, -, -, -, -, -, d13, -, -, -, -, -⟩ := cells19 BB.out
  go_wp2_with fail
  clear c13 d13
  refine (rFrames_c a.stack b.stack (by have := SA.out.st; omega) (fun f hf => by have := SA.out.fr f hf; omega) (fun f hf => by have := SB.out.fr f hf; omega) _ _ _ _ V1 HA.out.st HB.out.st).mono ?_
  rintro e V2 ⟨rfl, hb⟩
  replace BA := Lib.hid ((hb.block _ (lt_some BA.out)).trans BA.out)
  replace BB := Lib.hid ((hb.block _ (lt_some BB.out)).trans BB.out)
  replace HW := Lib.hid (HW.out.trans (hb.mono HW.out.size))
  replace HA := Lib.hid (HA.out.keep hb)
  replace HB := Lib.hid (HB.out.keep hb)
  clear hb
  by_cases hq : a.stack = b.stack
  case neg =>
    rw [decide_eq_false hq]
    have HF := Lib.hid (show decide (a = b) = false from decide_eq_false fun e => hq (by rw [e]))
    clear hq
    go_wp2_with fail
    go_ret
    exact ⟨ret_bool HF.out.symm, HW.out⟩
  rw [decide_eq_true hq]
  have g1 := Lib.hid hq
  clear hq
  obtain ⟨-, -, -, -, -, -, -, -, -, -, -, -, -, -, c14, -, -, -, -⟩ := cells19 BA.out
  obtain ⟨-, -, -, -, -, -, -, -, -, -, -, -, -, -, d14, -, -, -, -⟩ := cells19 BB.out
  go_wp2_with fail
  clear c14 d14
  refine (rInts_c a.draws b.draws (by have := SA.out.dr; omega) _ _ _ _ V2 HA.out.dr HB.out.dr).mono ?_
  rintro e V3 ⟨rfl, hb⟩
  replace BA := Lib.hid ((hb.block _ (lt_some BA.out)).trans BA.out)
  replace BB := Lib.hid ((hb.block _ (lt_some BB.out)).trans BB.out)
  replace HW := Lib.hid (HW.out.trans (hb.mono HW.out.size))
  replace HA := Lib.hid (HA.out.keep hb)
  replace HB := Lib.hid (HB.out.keep hb)
  clear hb
  by_cases hq : a.draws = b.draws
  case neg =>
    rw [decide_eq_false hq]
    have HF := Lib.hid (show decide (a = b) = false from decide_eq_false fun e => hq (by rw [e]))
    clear hq
    go_wp2_with fail
    go_ret
    exact ⟨ret_bool HF.out.symm, HW.out⟩
  rw [decide_eq_true hq]
  have g2 := Lib.hid hq
  clear hq
  obtain ⟨c0, c1, c2, c3, c4, c5, c6, c7, c8, c9, c10, c11, -, -, -, c15, c16, c17, c18⟩ := cells19 BA.out
  obtain ⟨d0, d1, d2, d3, d4, d5, d6, d7, d8, d9, d10, d11, -, -, -, d15, d16, d17, d18⟩ := cells19 BB.out
  go_upto_region 3 with (fail)
  by_cases hq : a.kind = b.kind
  case neg =>
    have E1 : decide (a.kind = b.kind) = false := decide_eq_false hq
    have E2 : (a.kind == b.kind) = false := beq_eq_false_iff_ne.2 hq
    have E3 : (a.kind != b.kind) = true := by rw [bne, E2]; rfl
    have HF := Lib.hid (show decide (a = b) = false from decide_eq_false fun e => hq (by rw [e]))
    clear hq
    go_wp2_with fail
    go_ret
    exact ⟨ret_bool HF.out.symm, HW.out⟩
  have x0 : decide (a.kind = b.kind) = true := decide_eq_true hq
  have x1 : (a.kind == b.kind) = true := beq_iff_eq.2 hq
  have x2 : (a.kind != b.kind) = false := by rw [bne, x1]; rfl
  have h0 := Lib.hid hq
  clear hq
  by_cases hq : a.p = b.p
  case neg =>
    have E1 : decide (a.p = b.p) = false := decide_eq_false hq
    have E2 : (a.p == b.p) = false := beq_eq_false_iff_ne.2 hq
    have E3 : (a.p != b.p) = true := by rw [bne, E2]; rfl
    have HF := Lib.hid (show decide (a = b) = false from decide_eq_false fun e => hq (by rw [e]))
    clear hq
    go_wp2_with fail
    go_ret
    exact ⟨ret_bool HF.out.symm, HW.out⟩
  have x3 : decide (a.p = b.p) = true := decide_eq_true hq
  have x4 : (a.p == b.p) = true := beq_iff_eq.2 hq
  have x5 : (a.p != b.p) = false := by rw [bne, x4]; rfl
  have h1 := Lib.hid hq
  clear hq
  by_cases hq : a.phase = b.phase
  case neg =>
    have E1 : decide (a.phase = b.phase) = false := decide_eq_false hq
    have E2 : (a.phase == b.phase) = false := beq_eq_false_iff_ne.2 hq
    have E3 : (a.phase != b.phase) = true := by rw [bne, E2]; rfl
    have HF := Lib.hid (show decide (a = b) = false from decide_eq_false fun e => hq (by rw [e]))
    clear hq
    go_wp2_with fail
    go_ret
    exact ⟨ret_bool HF.out.symm, HW.out⟩
  have x6 : decide (a.phase = b.phase) = true := decide_eq_true hq
  have x7 : (a.phase == b.phase) = true := beq_iff_eq.2 hq
  have x8 : (a.phase != b.phase) = false := by rw [bne, x7]; rfl
  have h2 := Lib.hid hq
  clear hq
  by_cases hq : a.fd = b.fd
  case neg =>
    have E1 : decide (a.fd = b.fd) = false := decide_eq_false hq
    have E2 : (a.fd == b.fd) = false := beq_eq_false_iff_ne.2 hq
    have E3 : (a.fd != b.fd) = true := by rw [bne, E2]; rfl
    have HF := Lib.hid (show decide (a = b) = false from decide_eq_false fun e => hq (by rw [e]))
    clear hq
    go_wp2_with fail
    go_ret
    exact ⟨ret_bool HF.out.symm, HW.out⟩
  have x9 : decide (a.fd = b.fd) = true := decide_eq_true hq
  have x10 : (a.fd == b.fd) = true := beq_iff_eq.2 hq
  have x11 : (a.fd != b.fd) = false := by rw [bne, x10]; rfl
  have h3 := Lib.hid hq
  clear hq
  by_cases hq : a.n = b.n
  case neg =>
    have E1 : decide (a.n = b.n) = false := decide_eq_false hq
    have E2 : (a.n == b.n) = false := beq_eq_false_iff_ne.2 hq
    have E3 : (a.n != b.n) = true := by rw [bne, E2]; rfl
    have HF := Lib.hid (show decide (a = b) = false from decide_eq_false fun e => hq (by rw [e]))
    clear hq
    go_wp2_with fail
    go_ret
    exact ⟨ret_bool HF.out.symm, HW.out⟩
  have x12 : decide (a.n = b.n) = true := decide_eq_true hq
  have x13 : (a.n == b.n) = true := beq_iff_eq.2 hq
  have x14 : (a.n != b.n) = false := by rw [bne, x13]; rfl
  have h4 := Lib.hid hq
  clear hq
  by_cases hq : a.mode = b.mode
  case neg =>
    have E1 : decide (a.mode = b.mode) = false := decide_eq_false hq
    have E2 : (a.mode == b.mode) = false := beq_eq_false_iff_ne.2 hq
    have E3 : (a.mode != b.mode) = true := by rw [bne, E2]; rfl
    have HF := Lib.hid (show decide (a = b) = false from decide_eq_false fun e => hq (by rw [e]))
    clear hq
    go_wp2_with fail
    go_ret
    exact ⟨ret_bool HF.out.symm, HW.out⟩
  have x15 : decide (a.mode = b.mode) = true := decide_eq_true hq
  have x16 : (a.mode == b.mode) = true := beq_iff_eq.2 hq
  have x17 : (a.mode != b.mode) = false := by rw [bne, x16]; rfl
  have h5 := Lib.hid hq
  clear hq
  by_cases hq : a.tries = b.tries
  case neg =>
    have E1 : decide (a.tries = b.tries) = false := decide_eq_false hq
    have E2 : (a.tries == b.tries) = false := beq_eq_false_iff_ne.2 hq
    have E3 : (a.tries != b.tries) = true := by rw [bne, E2]; rfl
    have HF := Lib.hid (show decide (a = b) = false from decide_eq_false fun e => hq (by rw [e]))
    clear hq
    go_wp2_with fail
    go_ret
    exact ⟨ret_bool HF.out.symm, HW.out⟩
  have x18 : decide (a.tries = b.tries) = true := decide_eq_true hq
  have x19 : (a.tries == b.tries) = true := beq_iff_eq.2 hq
  have x20 : (a.tries != b.tries) = false := by rw [bne, x19]; rfl
  have h6 := Lib.hid hq
  clear hq
  by_cases hq : a.pos = b.pos
  case neg =>
    have E1 : decide (a.pos = b.pos) = false := decide_eq_false hq
    have E2 : (a.pos == b.pos) = false := beq_eq_false_iff_ne.2 hq
    have E3 : (a.pos != b.pos) = true := by rw [bne, E2]; rfl
    have HF := Lib.hid (show decide (a = b) = false from decide_eq_false fun e => hq (by rw [e]))
    clear hq
    go_wp2_with fail
    go_ret
    exact ⟨ret_bool HF.out.symm, HW.out⟩
  have x21 : decide (a.pos = b.pos) = true := decide_eq_true hq
  have x22 : (a.pos == b.pos) = true := beq_iff_eq.2 hq
  have x23 : (a.pos != b.pos) = false := by rw [bne, x22]; rfl
  have h7 := Lib.hid hq
  clear hq
  by_cases hq : a.flags = b.flags
  case neg =>
    have E1 : decide (a.flags = b.flags) = false := decide_eq_false hq
    have E2 : (a.flags == b.flags) = false := beq_eq_false_iff_ne.2 hq
    have E3 : (a.flags != b.flags) = true := by rw [bne, E2]; rfl
    have HF := Lib.hid (show decide (a = b) = false from decide_eq_false fun e => hq (by rw [e]))
    clear hq
    go_wp2_with fail
    go_ret
    exact ⟨ret_bool HF.out.symm, HW.out⟩
  have x24 : decide (a.flags = b.flags) = true := decide_eq_true hq
  have x25 : (a.flags == b.flags) = true := beq_iff_eq.2 hq
  have x26 : (a.flags != b.flags) = false := by rw [bne, x25]; rfl
  have h8 := Lib.hid hq
  clear hq
  by_cases hq : a.path = b.path
  case neg =>
    have E1 : decide (a.path = b.path) = false := decide_eq_false hq
    have E2 : (a.path == b.path) = false := beq_eq_false_iff_ne.2 hq
    have E3 : (a.path != b.path) = true := by rw [bne, E2]; rfl
    have HF := Lib.hid (show decide (a = b) = false from decide_eq_false fun e => hq (by rw [e]))
    clear hq
    go_wp2_with fail
    go_ret
    exact ⟨ret_bool HF.out.symm, HW.out⟩
  have x27 : decide (a.path = b.path) = true := decide_eq_true hq
  have x28 : (a.path == b.path) = true := beq_iff_eq.2 hq
  have x29 : (a.path != b.path) = false := by rw [bne, x28]; rfl
  have h9 := Lib.hid hq
  clear hq
  by_cases hq : a.path2 = b.path2
  case neg =>
    have E1 : decide (a.path2 = b.path2) = false := decide_eq_false hq
    have E2 : (a.path2 == b.path2) = false := beq_eq_false_iff_ne.2 hq
    have E3 : (a.path2 != b.path2) = true := by rw [bne, E2]; rfl
    have HF := Lib.hid (show decide (a = b) = false from decide_eq_false fun e => hq (by rw [e]))
    clear hq
    go_wp2_with fail
    go_ret
    exact ⟨ret_bool HF.out.symm, HW.out⟩
  have x30 : decide (a.path2 = b.path2) = true := decide_eq_true hq
  have x31 : (a.path2 == b.path2) = true := beq_iff_eq.2 hq
  have x32 : (a.path2 != b.path2) = false := by rw [bne, x31]; rfl
  have h10 := Lib.hid hq
  clear hq
  by_cases hq : a.text = b.text
  case neg =>
    have E1 : decide (a.text = b.text) = false := decide_eq_false hq
    have E2 : (a.text == b.text) = false := beq_eq_false_iff_ne.2 hq
    have E3 : (a.text != b.text) = true := by rw [bne, E2]; rfl
    have HF := Lib.hid (show decide (a = b) = false from decide_eq_false fun e => hq (by rw [e]))
    clear hq
    go_wp2_with fail
    go_ret
    exact ⟨ret_bool HF.out.symm, HW.out⟩
  have x33 : decide (a.text = b.text) = true := decide_eq_true hq
  have x34 : (a.text == b.text) = true := beq_iff_eq.2 hq
  have x35 : (a.text != b.text) = false := by rw [bne, x34]; rfl
  have h11 := Lib.hid hq
  clear hq
  by_cases hq : a.done = b.done
  case neg =>
    have E1 : decide (a.done = b.done) = false := decide_eq_false hq
    have E2 : (a.done == b.done) = false := beq_eq_false_iff_ne.2 hq
    have E3 : (a.done != b.done) = true := by rw [bne, E2]; rfl
    have HF := Lib.hid (show decide (a = b) = false from decide_eq_false fun e => hq (by rw [e]))
    clear hq
    go_wp2_with fail
    go_ret
    exact ⟨ret_bool HF.out.symm, HW.out⟩
  have x36 : decide (a.done = b.done) = true := decide_eq_true hq
  have x37 : (a.done == b.done) = true := beq_iff_eq.2 hq
  have x38 : (a.done != b.done) = false := by rw [bne, x37]; rfl
  have h12 := Lib.hid hq
  clear hq
  by_cases hq : a.exit = b.exit
  case neg =>
    have E1 : decide (a.exit = b.exit) = false := decide_eq_false hq
    have E2 : (a.exit == b.exit) = false := beq_eq_false_iff_ne.2 hq
    have E3 : (a.exit != b.exit) = true := by rw [bne, E2]; rfl
    have HF := Lib.hid (show decide (a = b) = false from decide_eq_false fun e => hq (by rw [e]))
    clear hq
    go_wp2_with fail
    go_ret
    exact ⟨ret_bool HF.out.symm, HW.out⟩
  have x39 : decide (a.exit = b.exit) = true := decide_eq_true hq
  have x40 : (a.exit == b.exit) = true := beq_iff_eq.2 hq
  have x41 : (a.exit != b.exit) = false := by rw [bne, x40]; rfl
  have h13 := Lib.hid hq
  clear hq
  by_cases hq : a.out = b.out
  case neg =>
    have E1 : decide (a.out = b.out) = false := decide_eq_false hq
    have E2 : (a.out == b.out) = false := beq_eq_false_iff_ne.2 hq
    have E3 : (a.out != b.out) = true := by rw [bne, E2]; rfl
    have HF := Lib.hid (show decide (a = b) = false from decide_eq_false fun e => hq (by rw [e]))
    clear hq
    go_wp2_with fail
    go_ret
    exact ⟨ret_bool HF.out.symm, HW.out⟩
  have x42 : decide (a.out = b.out) = true := decide_eq_true hq
  have x43 : (a.out == b.out) = true := beq_iff_eq.2 hq
  have x44 : (a.out != b.out) = false := by rw [bne, x43]; rfl
  have h14 := Lib.hid hq
  clear hq
  by_cases hq : a.e = b.e
  case neg =>
    have E1 : decide (a.e = b.e) = false := decide_eq_false hq
    have E2 : (a.e == b.e) = false := beq_eq_false_iff_ne.2 hq
    have E3 : (a.e != b.e) = true := by rw [bne, E2]; rfl
    have HF := Lib.hid (show decide (a = b) = false from decide_eq_false fun e => hq (by rw [e]))
    clear hq
    go_wp2_with fail
    go_ret
    exact ⟨ret_bool HF.out.symm, HW.out⟩
  have x45 : decide (a.e = b.e) = true := decide_eq_true hq
  have x46 : (a.e == b.e) = true := beq_iff_eq.2 hq
  have x47 : (a.e != b.e) = false := by rw [bne, x46]; rfl
  have h15 := Lib.hid hq
  clear hq
  have HF := Lib.hid (show decide (a = b) = true from decide_eq_true (job_ext g0.out g1.out g2.out h0.out h1.out h2.out h3.out h4.out h5.out h6.out h7.out h8.out h9.out h10.out h11.out h12.out h13.out h14.out h15.out))
  go_wp2_with fail
  go_ret
  exact ⟨ret_bool HF.out.symm, HW.out⟩
end Go.Proofs.YtedcffkmfopalaaDoor
