import Derived.Test.YtilhiafmljmljaaR23
import Derived.Test.YtilhiafmljmljaaR25
import Derived.Test.YtilhiafmljmljaaR14
import Derived.Test.YtilhiafmljmljaaR20
import Derived.Test.YtilhiafmljmljaaR13
namespace Go.Proofs.Ytilhiafmljmljaa
open Go.RowKit Go.Shelf
attribute [local go_sem ↓] Go.wp_at_zero Go.wp_at_succ
theorem bel_dn {B : Nat} {w W : World} (h : Below B w W) (n : Nat) : Below B w (W.drewN n) := ⟨h.os, h.tape, h.output, h.size, h.block⟩
abbrev lineV (x : LineL) : Value := .agg #[.string (bs x.path), .int .i64 x.kind, .int .i64 x.mode, .string (bs x.data)]
theorem eqLineP (x y : LineL) (w : World) : (Op.equalIn 10000 56 (lineV x) (lineV y)).run Try.prog w = .ok (decide (x = y)) w := by
  have u3 := Try.underlying3
  have u9 := Try.underlying9
  have a3 := Try.isAgg3
  have a9 := Try.isAgg9
  have hS : Try.prog.underlying 56 = some (.struct (Try.prog.fieldsOf 56)) := by kernel_rfl
  rw [show (10000 : Nat) = 9998 + 1 + 1 from rfl, run_equalIn_agg w (9998 + 1) 56 _ _ hS (by kernel_rfl)]
  simp only [Program.fieldsOf, Try.underlying56]
  go_simp
  obtain ⟨x1, x2, x3, x4⟩ := x
  obtain ⟨y1, y2, y3, y4⟩ := y
  by_cases h1 : x1 = y1 <;> by_cases h2 : x2 = y2 <;> by_cases h3 : x3 = y3 <;> by_cases h4 : x4 = y4 <;> simp [h1, h2, h3, h4]
theorem eqLineP_guard : Try.prog.eqGuardType Try.prog.depth 56 = false := by kernel_rfl
theorem eqLineR (x y : LineL) (w : World) : (Op.equalIn 10000 67 (lineV x) (lineV y)).run Try.prog w = .ok (decide (x = y)) w := by
  have u3 := Try.underlying3
  have u9 := Try.underlying9
  have a3 := Try.isAgg3
  have a9 := Try.isAgg9
  have hS : Try.prog.underlying 67 = some (.struct (Try.prog.fieldsOf 67)) := by kernel_rfl
  rw [show (10000 : Nat) = 9998 + 1 + 1 from rfl, run_equalIn_agg w (9998 + 1) 67 _ _ hS (by kernel_rfl)]
  simp only [Program.fieldsOf, Try.underlying67]
  go_simp
  obtain ⟨x1, x2, x3, x4⟩ := x
  obtain ⟨y1, y2, y3, y4⟩ := y
  by_cases h1 : x1 = y1 <;> by_cases h2 : x2 = y2 <;> by_cases h3 : x3 = y3 <;> by_cases h4 : x4 = y4 <;> simp [h1, h2, h3, h4]
theorem eqLineR_guard : Try.prog.eqGuardType Try.prog.depth 67 = false := by kernel_rfl
structure TreeD (l : List NodeL) (most room : Int) : Prop where
  ok : TreeOk l
  small : Small l
  fit : FitD l
  right : rightR l most room = true
set_option maxRecDepth 100000 in
set_option maxHeartbeats 4000000 in
theorem rList_c {ao : Option Addr} {cap : Nat} {ms : List NodeM} (most room i : Int) (w : World) (h : TreeD (pl ms) most room) (hv : RdM w.heap.size (.slice ao ms.length cap) ms w) :
    Calls Try.prog 12 #[.agg #[.slice ao ms.length cap, .int .i64 most, .int .i64 room], .int .i64 i] w fun e w' => ∃ v, e = .returned v ∧ w'.ownsRow w.heap.size 67 4 v (listT (pl ms) i).length (linesC (listT (pl ms) i)) ∧ Below w.heap.size w w' := by
  go_enter Try.func12, Try.ntmps12
  go_upto_region 1 with (fail)
  refine code_fresh1 ?_
  intro W1 hb1 hA1 hs1
  obtain ⟨d0, d1, d2⟩ := cells3 hA1
  go_wp2_with fail
  refine (rright_any _ ms most room W1 (rdm_keep hv hb1) h.small h.fit).mono ?_
  rintro e W2 ⟨rfl, hb2⟩
  rw [h.right]
  have hA2 := (hb2.block _ (by omega)).trans hA1
  have hB2 := ret_tr hb1 hb2
  clear d0 d1 d2
  obtain ⟨d0, d1, d2⟩ := cells3 hA2
  go_wp2_with fail
  refine (rlist_c most room h.ok ((pl ms).length + 1) i W2 (enough_full h.ok.rig i (Nat.le_refl _)) (rdm_keep hv hB2)).mono ?_
  rintro e W3 ⟨v, rfl, ho, hb3⟩
  obtain ⟨ao3, cp3, rfl⟩ := own_form ho
  go_wp2_with fail
  go_ret
  exact ⟨_, rfl, own_mono ho hB2.size, ret_tr hB2 hb3⟩
set_option maxRecDepth 100000 in
set_option maxHeartbeats 4000000 in
theorem rInside_c {ao : Option Addr} {cap : Nat} {ms : List NodeM} (most room i : Int) (w : World) (h : TreeD (pl ms) most room) (hv : RdM w.heap.size (.slice ao ms.length cap) ms w) :
    Calls Try.prog 16 #[.agg #[.slice ao ms.length cap, .int .i64 most, .int .i64 room], .int .i64 i] w fun e w' => ∃ v, e = .returned v ∧ w'.ownsRow w.heap.size 3 1 v (insideT (pl ms) i).length (intsC (insideT (pl ms) i)) ∧ Below w.heap.size w w' := by
  go_enter Try.func16, Try.ntmps16
  go_upto_region 1 with (fail)
  refine code_fresh1 ?_
  intro W1 hb1 hA1 hs1
  obtain ⟨d0, d1, d2⟩ := cells3 hA1
  go_wp2_with fail
  refine (rright_any _ ms most room W1 (rdm_keep hv hb1) h.small h.fit).mono ?_
  rintro e W2 ⟨rfl, hb2⟩
  rw [h.right]
  have hA2 := (hb2.block _ (by omega)).trans hA1
  have hB2 := ret_tr hb1 hb2
  clear d0 d1 d2
  obtain ⟨d0, d1, d2⟩ := cells3 hA2
  go_wp2_with fail
  refine (rinside_c most room h.ok ((pl ms).length + 1) i W2 (enough_full h.ok.rig i (Nat.le_refl _)) (rdm_keep hv hB2)).mono ?_
  rintro e W3 ⟨v, rfl, ho, hb3⟩
  obtain ⟨ao3, cp3, rfl⟩ := own_form ho
  go_wp2_with fail
  go_ret
  exact ⟨_, rfl, own_mono ho hB2.size, ret_tr hB2 hb3⟩
set_option maxRecDepth 100000 in
set_option maxHeartbeats 4000000 in
theorem rDepth_c {ao : Option Addr} {cap : Nat} {ms : List NodeM} (most room i : Int) (w : World) (h : TreeD (pl ms) most room) (hv : RdM w.heap.size (.slice ao ms.length cap) ms w) :
    Calls Try.prog 18 #[.agg #[.slice ao ms.length cap, .int .i64 most, .int .i64 room], .int .i64 i] w fun e w' => e = .returned (.int .i64 (depthT (pl ms) i)) ∧ Below w.heap.size w w' := by
  go_enter Try.func18, Try.ntmps18
  go_upto_region 1 with (fail)
  refine code_fresh1 ?_
  intro W1 hb1 hA1 hs1
  obtain ⟨d0, d1, d2⟩ := cells3 hA1
  go_wp2_with fail
  refine (rright_any _ ms most room W1 (rdm_keep hv hb1) h.small h.fit).mono ?_
  rintro e W2 ⟨rfl, hb2⟩
  rw [h.right]
  have hA2 := (hb2.block _ (by omega)).trans hA1
  have hB2 := ret_tr hb1 hb2
  clear d0 d1 d2
  obtain ⟨d0, d1, d2⟩ := cells3 hA2
  go_wp2_with fail
  refine (rdepth_c most room h.ok ((pl ms).length + 1) i W2 (enough_full h.ok.rig i (Nat.le_refl _)) (rdm_keep hv hB2)).mono ?_
  rintro e W3 ⟨rfl, hb3⟩
  go_wp2_with fail
  go_ret
  exact ⟨rfl, ret_tr hB2 hb3⟩
theorem ints_at (A : List Int) (k : Nat) (h : k < A.length) : (intsC A)[k]? = some (.int .i64 A[k]) := by simp [intsC, h]
set_option maxRecDepth 100000 in
set_option maxHeartbeats 4000000 in
theorem rLines_c (A B : List LineL) (hl : A.length ≤ 20000) (ao bo : Option Addr) (ca cb : Nat) (w : World) (ha : Rd w.heap.size 4 (.slice ao A.length ca) A.length (linesC A) w) (hb : Rd w.heap.size 4 (.slice bo B.length cb) B.length (linesC B) w) :
    Calls Try.prog 10 #[.slice ao A.length ca, .slice bo B.length cb] w fun e w' => e = .returned (.bool (decide (A = B))) ∧ Below w.heap.size w w' := by
  have HA := Lib.hid ha
  have HB := Lib.hid hb
  clear ha hb
  by_cases hlen : A.length = B.length
  · have e1 : ((A.length : Int) != (B.length : Int)) = false := by simp [hlen]
    have e2 : (A.length != B.length) = false := by simp [hlen]
    have e3 : decide (A.length = B.length) = true := decide_eq_true hlen
    have HL := Lib.hid hlen
    clear hlen
    go_enter Try.func10, Try.ntmps10
    go_wp2_with fail
    go_loopw [5] (fun i wr => ∃ k : Nat, i = .int .i64 k ∧ k ≤ A.length ∧ Hid (A.take k = B.take k) ∧ Hid (Below w.heap.size w wr)) (fun i _ => A.length - (RowKit.intOf i).toNat)
    case atStart => exact ⟨0, rfl, Nat.zero_le _, Lib.hid rfl, Lib.hid (Below.refl _ _)⟩
    case round =>
      obtain ⟨k, rfl, hk, HT, HW⟩ := hrel
      by_cases hlt : k < A.length
      · have iL : decide (k < A.length) = true := decide_eq_true hlt
        have iL2 : decide ((k : Int) < (A.length : Int)) = true := decide_eq_true (by omega)
        have k0 : (0 : Int) ≤ (k : Int) := by omega
        have k1 : (k : Int) < (A.length : Int) := by omega
        have hltB : k < B.length := by rw [← HL.out]; exact hlt
        have k2 : (k : Int) < (B.length : Int) := by omega
        have w1 : IntKind.i64.wrap ((k : Int) + 1) = (k : Int) + 1 := Go.IntWalk.i64_in _ (by omega)
        obtain ⟨b, off, rfl, hbw, c0, c1, c2, c3⟩ := line_at HA.out rfl k hlt
        obtain ⟨b2, off2, rfl, hbw2, x0, x1, x2, x3⟩ := line_at HB.out rfl k hltB
        replace c0 := (HW.out.cell (p := ⟨b, off + k * 4, none⟩) hbw).trans c0
        replace x0 := (HW.out.cell (p := ⟨b2, off2 + k * 4, none⟩) hbw2).trans x0
        replace c1 := (HW.out.cell (p := ⟨b, off + k * 4 + 1, none⟩) hbw).trans c1
        replace x1 := (HW.out.cell (p := ⟨b2, off2 + k * 4 + 1, none⟩) hbw2).trans x1
        replace c2 := (HW.out.cell (p := ⟨b, off + k * 4 + 2, none⟩) hbw).trans c2
        replace x2 := (HW.out.cell (p := ⟨b2, off2 + k * 4 + 2, none⟩) hbw2).trans x2
        replace c3 := (HW.out.cell (p := ⟨b, off + k * 4 + 3, none⟩) hbw).trans c3
        replace x3 := (HW.out.cell (p := ⟨b2, off2 + k * 4 + 3, none⟩) hbw2).trans x3
        obtain ⟨x, hx⟩ : ∃ x, x = A[k] := ⟨_, rfl⟩
        obtain ⟨y, hy⟩ : ∃ y, y = B[k] := ⟨_, rfl⟩
        rw [← hx] at c0 c1 c2 c3
        rw [← hy] at x0 x1 x2 x3
        have hq := eqLineR x y
        have hgd := eqLineR_guard
        by_cases hxy : x = y
        · have e4 : decide (x = y) = true := decide_eq_true hxy
          skip
          have HT2 := Lib.hid (show A.take (k + 1) = B.take (k + 1) by rw [List.take_succ_eq_append_getElem hlt, List.take_succ_eq_append_getElem hltB, HT.out, ← hx, ← hy, hxy])
          clear hx hy hxy HT
          try rw [e4] at hq
          go_upto_region 6 with (fail)
          go_quiet (fail)
          go_wp2_with fail
          go_roundw
          case rel => exact ⟨k + 1, by go_num, hlt, HT2, Lib.hid (bel_dn HW.out _)⟩
          case measure => simp [RowKit.intOf]; omega
        · have e4 : decide (x = y) = false := decide_eq_false hxy
          skip
          have HF := Lib.hid (show decide (A = B) = false from decide_eq_false fun e => hxy (by rw [hx, hy]; subst e; rfl))
          clear hx hy hxy HT
          try rw [e4] at hq
          go_upto_region 6 with (fail)
          go_quiet (fail)
          go_wp2_with fail
          go_ret
          exact ⟨ret_bool HF.out.symm, bel_dn HW.out _⟩
      · have iL : decide (k < A.length) = false := decide_eq_false hlt
        have iL2 : decide ((k : Int) < (A.length : Int)) = false := decide_eq_false (by omega)
        have hke : k = A.length := by omega
        have HF := Lib.hid (show decide (A = B) = true from decide_eq_true (by have h1 := HT.out; rw [hke, List.take_length, HL.out, List.take_length] at h1; exact h1))
        clear hlt hke HT
        go_wp2_with fail
        go_ret
        exact ⟨ret_bool HF.out.symm, HW.out⟩
  · have e1 : ((A.length : Int) != (B.length : Int)) = true := by simp; omega
    have e2 : (A.length != B.length) = true := by simp [hlen]
    have e3 : decide (A.length = B.length) = false := decide_eq_false hlen
    have HF := Lib.hid (show decide (A = B) = false from decide_eq_false fun e => hlen (by rw [e]))
    clear hlen
    go_enter Try.func10, Try.ntmps10
    go_wp2_with fail
    go_ret
    exact ⟨ret_bool HF.out.symm, Below.refl _ _⟩
set_option maxRecDepth 100000 in
set_option maxHeartbeats 4000000 in
theorem equal_c (A B : List LineL) (hl : A.length ≤ 20000) (ao bo : Option Addr) (ca cb : Nat) (w : World) (ha : Rd w.heap.size 4 (.slice ao A.length ca) A.length (linesC A) w) (hb : Rd w.heap.size 4 (.slice bo B.length cb) B.length (linesC B) w) :
    Calls Try.prog 29 #[.slice ao A.length ca, .slice bo B.length cb] w fun e w' => e = .returned (.bool (decide (A = B))) ∧ Below w.heap.size w w' := by
  have HA := Lib.hid ha
  have HB := Lib.hid hb
  clear ha hb
  by_cases hlen : A.length = B.length
  · have e1 : ((A.length : Int) != (B.length : Int)) = false := by simp [hlen]
    have e2 : (A.length != B.length) = false := by simp [hlen]
    have e3 : decide (A.length = B.length) = true := decide_eq_true hlen
    have HL := Lib.hid hlen
    clear hlen
    go_enter Try.func29, Try.ntmps29
    go_wp2_with fail
    go_loopw [13] (fun i wr => ∃ k : Nat, i = .int .i64 k ∧ k ≤ A.length ∧ Hid (A.take k = B.take k) ∧ Hid (Below w.heap.size w wr)) (fun i _ => A.length - (RowKit.intOf i).toNat)
    case atStart => exact ⟨0, rfl, Nat.zero_le _, Lib.hid rfl, Lib.hid (Below.refl _ _)⟩
    case round =>
      obtain ⟨k, rfl, hk, HT, HW⟩ := hrel
      by_cases hlt : k < A.length
      · have iL : decide (k < A.length) = true := decide_eq_true hlt
        have iL2 : decide ((k : Int) < (A.length : Int)) = true := decide_eq_true (by omega)
        have k0 : (0 : Int) ≤ (k : Int) := by omega
        have k1 : (k : Int) < (A.length : Int) := by omega
        have hltB : k < B.length := by rw [← HL.out]; exact hlt
        have k2 : (k : Int) < (B.length : Int) := by omega
        have w1 : IntKind.i64.wrap ((k : Int) + 1) = (k : Int) + 1 := Go.IntWalk.i64_in _ (by omega)
        obtain ⟨b, off, rfl, hbw, c0, c1, c2, c3⟩ := line_at HA.out rfl k hlt
        obtain ⟨b2, off2, rfl, hbw2, x0, x1, x2, x3⟩ := line_at HB.out rfl k hltB
        replace c0 := (HW.out.cell (p := ⟨b, off + k * 4, none⟩) hbw).trans c0
        replace x0 := (HW.out.cell (p := ⟨b2, off2 + k * 4, none⟩) hbw2).trans x0
        replace c1 := (HW.out.cell (p := ⟨b, off + k * 4 + 1, none⟩) hbw).trans c1
        replace x1 := (HW.out.cell (p := ⟨b2, off2 + k * 4 + 1, none⟩) hbw2).trans x1
        replace c2 := (HW.out.cell (p := ⟨b, off + k * 4 + 2, none⟩) hbw).trans c2
        replace x2 := (HW.out.cell (p := ⟨b2, off2 + k * 4 + 2, none⟩) hbw2).trans x2
        replace c3 := (HW.out.cell (p := ⟨b, off + k * 4 + 3, none⟩) hbw).trans c3
        replace x3 := (HW.out.cell (p := ⟨b2, off2 + k * 4 + 3, none⟩) hbw2).trans x3
        obtain ⟨x, hx⟩ : ∃ x, x = A[k] := ⟨_, rfl⟩
        obtain ⟨y, hy⟩ : ∃ y, y = B[k] := ⟨_, rfl⟩
        rw [← hx] at c0 c1 c2 c3
        rw [← hy] at x0 x1 x2 x3
        have hq := eqLineP x y
        have hgd := eqLineP_guard
        by_cases hxy : x = y
        · have e4 : decide (x = y) = true := decide_eq_true hxy
          skip
          have HT2 := Lib.hid (show A.take (k + 1) = B.take (k + 1) by rw [List.take_succ_eq_append_getElem hlt, List.take_succ_eq_append_getElem hltB, HT.out, ← hx, ← hy, hxy])
          clear hx hy hxy HT
          try rw [e4] at hq
          go_upto_region 6 with (fail)
          go_quiet (fail)
          go_wp2_with fail
          go_roundw
          case rel => exact ⟨k + 1, by go_num, hlt, HT2, Lib.hid (bel_dn HW.out _)⟩
          case measure => simp [RowKit.intOf]; omega
        · have e4 : decide (x = y) = false := decide_eq_false hxy
          skip
          have HF := Lib.hid (show decide (A = B) = false from decide_eq_false fun e => hxy (by rw [hx, hy]; subst e; rfl))
          clear hx hy hxy HT
          try rw [e4] at hq
          go_upto_region 6 with (fail)
          go_quiet (fail)
          go_wp2_with fail
          go_ret
          exact ⟨ret_bool HF.out.symm, bel_dn HW.out _⟩
      · have iL : decide (k < A.length) = false := decide_eq_false hlt
        have iL2 : decide ((k : Int) < (A.length : Int)) = false := decide_eq_false (by omega)
        have hke : k = A.length := by omega
        have HF := Lib.hid (show decide (A = B) = true from decide_eq_true (by have h1 := HT.out; rw [hke, List.take_length, HL.out, List.take_length] at h1; exact h1))
        clear hlt hke HT
        go_wp2_with fail
        go_ret
        exact ⟨ret_bool HF.out.symm, HW.out⟩
  · have e1 : ((A.length : Int) != (B.length : Int)) = true := by simp; omega
    have e2 : (A.length != B.length) = true := by simp [hlen]
    have e3 : decide (A.length = B.length) = false := decide_eq_false hlen
    have HF := Lib.hid (show decide (A = B) = false from decide_eq_false fun e => hlen (by rw [e]))
    clear hlen
    go_enter Try.func29, Try.ntmps29
    go_wp2_with fail
    go_ret
    exact ⟨ret_bool HF.out.symm, Below.refl _ _⟩
set_option maxRecDepth 100000 in
set_option maxHeartbeats 4000000 in
theorem ints_c (A B : List Int) (hl : A.length ≤ 20000) (ao bo : Option Addr) (ca cb : Nat) (w : World) (ha : Rd w.heap.size 1 (.slice ao A.length ca) A.length (intsC A) w) (hb : Rd w.heap.size 1 (.slice bo B.length cb) B.length (intsC B) w) :
    Calls Try.prog 14 #[.slice ao A.length ca, .slice bo B.length cb] w fun e w' => e = .returned (.bool (decide (A = B))) ∧ Below w.heap.size w w' := by
  have HA := Lib.hid ha
  have HB := Lib.hid hb
  clear ha hb
  by_cases hlen : A.length = B.length
  · have e1 : ((A.length : Int) != (B.length : Int)) = false := by simp [hlen]
    have e2 : (A.length != B.length) = false := by simp [hlen]
    have e3 : decide (A.length = B.length) = true := decide_eq_true hlen
    have HL := Lib.hid hlen
    clear hlen
    go_enter Try.func14, Try.ntmps14
    go_wp2_with fail
    go_loopw [5] (fun i wr => ∃ k : Nat, i = .int .i64 k ∧ k ≤ A.length ∧ Hid (A.take k = B.take k) ∧ Hid (Below w.heap.size w wr)) (fun i _ => A.length - (RowKit.intOf i).toNat)
    case atStart => exact ⟨0, rfl, Nat.zero_le _, Lib.hid rfl, Lib.hid (Below.refl _ _)⟩
    case round =>
      obtain ⟨k, rfl, hk, HT, HW⟩ := hrel
      by_cases hlt : k < A.length
      · have iL : decide (k < A.length) = true := decide_eq_true hlt
        have iL2 : decide ((k : Int) < (A.length : Int)) = true := decide_eq_true (by omega)
        have k0 : (0 : Int) ≤ (k : Int) := by omega
        have k1 : (k : Int) < (A.length : Int) := by omega
        have hltB : k < B.length := by rw [← HL.out]; exact hlt
        have k2 : (k : Int) < (B.length : Int) := by omega
        have w1 : IntKind.i64.wrap ((k : Int) + 1) = (k : Int) + 1 := Go.IntWalk.i64_in _ (by omega)
        obtain ⟨b, off, cap1, eA, _, _, hbw, _, hcA⟩ := Rd.at HA.out (by omega)
        injection eA with eA1 _ eA2
        subst eA1
        subst eA2
        obtain ⟨b2, off2, cap2, eB, _, _, hbw2, _, hcB⟩ := Rd.at HB.out (by omega)
        injection eB with eB1 _ eB2
        subst eB1
        subst eB2
        have c0 := (HW.out.cell (p := ⟨b, off + k, none⟩) hbw).trans (hcA _ _ (ints_at A k hlt))
        have x0 := (HW.out.cell (p := ⟨b2, off2 + k, none⟩) hbw2).trans (hcB _ _ (ints_at B k hltB))
        clear hcA hcB
        obtain ⟨x, hx⟩ : ∃ x, x = A[k] := ⟨_, rfl⟩
        obtain ⟨y, hy⟩ : ∃ y, y = B[k] := ⟨_, rfl⟩
        rw [← hx] at c0
        rw [← hy] at x0
        by_cases hxy : x = y
        · have e4 : decide (x = y) = true := decide_eq_true hxy
          have e5 : (x != y) = false := by simp [hxy]
          have HT2 := Lib.hid (show A.take (k + 1) = B.take (k + 1) by rw [List.take_succ_eq_append_getElem hlt, List.take_succ_eq_append_getElem hltB, HT.out, ← hx, ← hy, hxy])
          clear hx hy hxy HT
          skip
          go_upto_region 6 with (fail)
          go_quiet (fail)
          go_wp2_with fail
          go_roundw
          case rel => exact ⟨k + 1, by go_num, hlt, HT2, Lib.hid (bel_dn HW.out _)⟩
          case measure => simp [RowKit.intOf]; omega
        · have e4 : decide (x = y) = false := decide_eq_false hxy
          have e5 : (x != y) = true := by simp [hxy]
          have HF := Lib.hid (show decide (A = B) = false from decide_eq_false fun e => hxy (by rw [hx, hy]; subst e; rfl))
          clear hx hy hxy HT
          skip
          go_upto_region 6 with (fail)
          go_quiet (fail)
          go_wp2_with fail
          go_ret
          exact ⟨ret_bool HF.out.symm, bel_dn HW.out _⟩
      · have iL : decide (k < A.length) = false := decide_eq_false hlt
        have iL2 : decide ((k : Int) < (A.length : Int)) = false := decide_eq_false (by omega)
        have hke : k = A.length := by omega
        have HF := Lib.hid (show decide (A = B) = true from decide_eq_true (by have h1 := HT.out; rw [hke, List.take_length, HL.out, List.take_length] at h1; exact h1))
        clear hlt hke HT
        go_wp2_with fail
        go_ret
        exact ⟨ret_bool HF.out.symm, HW.out⟩
  · have e1 : ((A.length : Int) != (B.length : Int)) = true := by simp; omega
    have e2 : (A.length != B.length) = true := by simp [hlen]
    have e3 : decide (A.length = B.length) = false := decide_eq_false hlen
    have HF := Lib.hid (show decide (A = B) = false from decide_eq_false fun e => hlen (by rw [e]))
    clear hlen
    go_enter Try.func14, Try.ntmps14
    go_wp2_with fail
    go_ret
    exact ⟨ret_bool HF.out.symm, Below.refl _ _⟩
set_option maxRecDepth 100000 in
set_option maxHeartbeats 4000000 in
theorem lines_c (A : List LineL) (hl : A.length ≤ 20000) (ao : Option Addr) (ca : Nat) (w : World) (ha : Rd w.heap.size 4 (.slice ao A.length ca) A.length (linesC A) w) :
    Calls Try.prog 11 #[.slice ao A.length ca] w fun e w' => ∃ v, e = .returned v ∧ w'.ownsRow w.heap.size 67 4 v A.length (linesC A) ∧ Below w.heap.size w w' := by
  obtain ⟨iE, hE, hEz, hEs, hEb⟩ := info_parts infoLineR
  have HA := Lib.hid ha
  clear ha
  go_enter Try.func11, Try.ntmps11
  go_upto_region 2 with (fail)
  refine code_fresh1 ?_
  intro W1 hb1 hA1 hs1
  have HO := Lib.hid (own_emptyT (s := 4) hA1)
  have HB := Lib.hid hb1
  clear hb1 hA1 hs1
  go_wp2_with fail
  go_loopw [3, 4] (fun vo i wr => ∃ k : Nat, i = .int .i64 k ∧ k ≤ A.length ∧ Hid (wr.ownsRow w.heap.size 67 4 vo k (linesC (A.take k))) ∧ Hid (Below w.heap.size w wr)) (fun _ i _ => A.length - (RowKit.intOf i).toNat)
  case atStart => exact ⟨0, rfl, Nat.zero_le _, HO, HB⟩
  case round =>
    clear HO HB
    obtain ⟨k, rfl, hk, HO, HB⟩ := hrel
    obtain ⟨aov, capv, ev⟩ := own_form HO.out
    subst ev
    by_cases hlt : k < A.length
    · have iL : decide (k < A.length) = true := decide_eq_true hlt
      have iL2 : decide ((k : Int) < (A.length : Int)) = true := decide_eq_true (by omega)
      have k0 : (0 : Int) ≤ (k : Int) := by omega
      have k1 : (k : Int) < (A.length : Int) := by omega
      have w1 : IntKind.i64.wrap ((k : Int) + 1) = (k : Int) + 1 := Go.IntWalk.i64_in _ (by omega)
      obtain ⟨b, off, rfl, hbw, c0, c1, c2, c3⟩ := line_at HA.out rfl k hlt
      replace c0 := (HB.out.cell (p := ⟨b, off + k * 4, none⟩) hbw).trans c0
      replace c1 := (HB.out.cell (p := ⟨b, off + k * 4 + 1, none⟩) hbw).trans c1
      replace c2 := (HB.out.cell (p := ⟨b, off + k * 4 + 2, none⟩) hbw).trans c2
      replace c3 := (HB.out.cell (p := ⟨b, off + k * 4 + 3, none⟩) hbw).trans c3
      obtain ⟨x, hx⟩ : ∃ x, x = A[k] := ⟨_, rfl⟩
      rw [← hx] at c0 c1 c2 c3
      have HT := Lib.hid (show linesC (A.take (k + 1)) = linesC (A.take k) ++ lineC x by rw [hx, List.take_succ_eq_append_getElem hlt, linesC_app]; simp [linesC])
      clear hx
      go_wp2_with (first
        | (refine wpList_fresh1 ?_; intro W3 hb3 hA3 hs3; have HB3 := Lib.hid (HB.out.trans (hb3.mono HB.out.size)); have HO3 := Lib.hid (ownsRow_below HO.out hb3 (Nat.le_refl _)); have hrd := Lib.hid (Rd.own (own_lit hA3 rfl) (Nat.le_refl _)); clear hb3 hA3 hs3)
        | (at_builtin; refine Hid.out ?_))
      refine Lib.hid ?_
      refine wpList_append_rd rfl (.tmp 12) (.tmp 17) 30 rfl w.heap.size 67 iE _ 4 48 Try.underlying30 hE hEz hEs hEb rfl (by decide) _ k _ rfl HO3.out _ _ 1 _ rfl hrd.out (fun u hu => by simp only [List.mem_cons, List.not_mem_nil, or_false] at hu; rcases hu with rfl | rfl | rfl | rfl <;> rfl) (by unfold maxLen; omega) (by omega) HB3.out.size ?_
      intro v4 W4 ho4 hg4
      have HB4 := Lib.hid (HB3.out.grown hg4 HB3.out.size fun j ej => (HO3.out.lt j ej).1)
      obtain ⟨aov4, capv4, rfl⟩ := own_form ho4
      have HO5 := Lib.hid (show W4.ownsRow w.heap.size 67 4 _ (k + 1) (linesC (A.take (k + 1))) by rw [HT.out]; exact ho4)
      clear ho4 HO3 hg4 hrd c0 c1 c2 c3
      go_wp2_with fail
      go_roundw
      case rel => exact ⟨k + 1, by go_num, hlt, HO5, HB4⟩
      case measure => simp [RowKit.intOf]; omega
    · have iL : decide (k < A.length) = false := decide_eq_false hlt
      have iL2 : decide ((k : Int) < (A.length : Int)) = false := decide_eq_false (by omega)
      have hke : k = A.length := by omega
      subst hke
      clear hlt
      have HO2 := HO.out
      rw [List.take_length] at HO2
      go_wp2_with fail
      go_ret
      exact ⟨_, rfl, HO2, HB.out⟩
end Go.Proofs.Ytilhiafmljmljaa
namespace Go.Proofs.Ytilhiafmljmljaa
open Go.RowKit Go.Shelf
attribute [local go_sem ↓] Go.wp_at_zero Go.wp_at_succ
def smallB (l : List NodeL) : Bool := decide (l.length ≤ 100) && l.all fun n => decide (n.data.length ≤ 300) && decide (n.names.length ≤ 60)
def rightQ (l : List NodeL) (most room : Int) : Bool := smallB l && rightR l most room
theorem small_B {l : List NodeL} (h : smallB l = true) : Small l := by
  unfold smallB at h
  simp only [Bool.and_eq_true, decide_eq_true_iff, List.all_eq_true] at h
  exact ⟨by omega, fun n hn => ⟨(h.2 n hn).1, by have := (h.2 n hn).2; omega⟩⟩
def TinyTo (l : List NodeL) (k : Nat) : Prop := (l.take k).all (fun n => decide (n.data.length ≤ 300) && decide (n.names.length ≤ 60)) = true
theorem tiny_succ {l : List NodeL} {k : Nat} (h : TinyTo l k) (hk : k < l.length) (h1 : l[k].data.length ≤ 300) (h2 : l[k].names.length ≤ 60) : TinyTo l (k + 1) := by
  unfold TinyTo at h ⊢
  rw [List.take_succ_eq_append_getElem hk, List.all_append, h]
  simp [h1, h2]
theorem tiny_bad {l : List NodeL} {k : Nat} (hk : k < l.length) (h : 300 < l[k].data.length ∨ 60 < l[k].names.length) : smallB l = false := by
  unfold smallB
  rw [Bool.and_eq_false_iff]
  refine .inr ?_
  rw [List.all_eq_false]
  refine ⟨l[k], List.getElem_mem hk, ?_⟩
  simp only [Bool.and_eq_true, decide_eq_true_iff]
  omega
theorem tiny_end {l : List NodeL} (h : TinyTo l l.length) (hl : l.length ≤ 100) : smallB l = true := by
  unfold TinyTo at h
  rw [List.take_length] at h
  unfold smallB
  rw [h, decide_eq_true hl]
  rfl
theorem much_bad {l : List NodeL} (hl : 100 < l.length) : smallB l = false := by
  unfold smallB
  rw [decide_eq_false (by omega)]
  rfl
theorem small_names {l : List NodeL} (h : Small l) : ∀ n ∈ l, n.names.length ≤ 10000 := fun n hn => by have := (h.2 n hn).2; omega
set_option maxRecDepth 100000 in
set_option maxHeartbeats 4000000 in
theorem right_q (v : Value) (ms : List NodeM) (most room : Int) (w : World) (hv : RdM w.heap.size v ms w) (hfit : FitD (pl ms)) :
    Calls Try.prog 7 #[.agg #[v, .int .i64 most, .int .i64 room]] w fun e w' => e = .returned (.bool (rightQ (pl ms) most room)) ∧ Below w.heap.size w w' := by
  obtain ⟨ao, cap, rfl, _, _⟩ := rdm_form hv
  have hb0 : Below w.heap.size w (w.alloc (.cells #[.slice ao ms.length cap, .int .i64 most, .int .i64 room] 24)) := (Below.refl _ w).alloc (Nat.le_refl _) _
  have HV := Lib.hid (hv.below hb0)
  have HV0 := Lib.hid hv
  have HFit := Lib.hid hfit
  clear hv hfit
  go_enter Try.func7, Try.ntmps7
  go_wp2_with fail
  go_loop [3] (fun i => ∃ k : Nat, i = .int .i64 k ∧ k ≤ ms.length ∧ k ≤ 110 ∧ Hid (TinyTo (pl ms) k)) (fun i => ms.length - (intOf i).toNat)
  case atStart => exact ⟨0, rfl, Nat.zero_le _, by decide, Lib.hid rfl⟩
  case round =>
    obtain ⟨k, rfl, hk, hk2, hN⟩ := hrel
    by_cases hlt : k < ms.length ∧ k < 110
    · obtain ⟨hlt, h110⟩ := hlt
      obtain ⟨b, off, n, aon, capn, rfl, hb, hn, -, -, c0, c1, c2, c3, c4, c5, c6, c7⟩ := node_at HV.out k hlt
      have hI : decide (k < ms.length) = true := by simpa using hlt
      have hI2 : decide ((k : Int) < 110) = true := by simp; omega
      by_cases hd : 300 < n.data.length
      · have hJ : decide ((300 : Int) < (n.data.length : Int)) = true := by simp; omega
        have HB : Hid (rightQ (pl ms) most room = false) := Lib.hid (by unfold rightQ; rw [tiny_bad (l := pl ms) (k := k) (by rw [pl_len]; exact hlt) (by rw [hn]; exact .inl hd)]; rfl)
        clear hn hd
        go_wp2_with fail
        go_ret
        exact ⟨ret_bool HB.out.symm, hb0⟩
      · have hJ : decide ((300 : Int) < (n.data.length : Int)) = false := by simp; omega
        by_cases hm : 60 < n.names.length
        · have hJ2 : decide ((60 : Int) < (n.names.length : Int)) = true := by simp; omega
          have HB : Hid (rightQ (pl ms) most room = false) := Lib.hid (by unfold rightQ; rw [tiny_bad (l := pl ms) (k := k) (by rw [pl_len]; exact hlt) (by rw [hn]; exact .inr hm)]; rfl)
          clear hn hd hm
          go_wp2_with fail
          go_ret
          exact ⟨ret_bool HB.out.symm, hb0⟩
        · have hJ2 : decide ((60 : Int) < (n.names.length : Int)) = false := by simp; omega
          have HN := Lib.hid (tiny_succ hN.out (by rw [pl_len]; exact hlt) (by rw [hn]; omega) (by rw [hn]; omega))
          clear hn hd hm
          go_wp2_with fail
          go_round
          case rel => exact ⟨k + 1, by go_num, hlt, h110, HN⟩
          case measure => simp [intOf]; omega
    · by_cases hbig : 100 < ms.length
      · have HB : Hid (rightQ (pl ms) most room = false) := Lib.hid (by unfold rightQ; rw [much_bad (by rw [pl_len]; exact hbig)]; rfl)
        have hg : decide ((ms.length : Int) ≤ 100) = false := decide_eq_false (by omega)
        have hx : (decide (k < ms.length) = false) ∨ (decide (k < ms.length) = true ∧ decide ((k : Int) < 110) = false) := by
          by_cases h : k < ms.length
          · exact .inr ⟨by simpa using h, decide_eq_false (by omega)⟩
          · exact .inl (by simpa using h)
        clear hlt hbig
        rcases hx with hI | ⟨hI, hI2⟩
        · go_wp2_with fail
          go_ret
          exact ⟨ret_bool HB.out.symm, hb0⟩
        · go_wp2_with fail
          go_ret
          exact ⟨ret_bool HB.out.symm, hb0⟩
      · have hke : k = ms.length := by omega
        have hsm : smallB (pl ms) = true := tiny_end (by have := hN.out; rwa [hke, ← pl_len] at this) (by rw [pl_len]; omega)
        have HSm := Lib.hid (small_B hsm)
        have HE : Hid (rightQ (pl ms) most room = rightR (pl ms) most room) := Lib.hid (by unfold rightQ; rw [hsm]; rfl)
        have hg : decide ((ms.length : Int) ≤ 100) = true := decide_eq_true (by omega)
        have hI2 : decide (k < ms.length) = false := decide_eq_false (by omega)
        have hl : ms.length ≤ 10000 := by omega
        clear hlt hke hsm
        go_wp2_with fail
        refine calls_fresh1 ?_
        intro W0 hb1 hP hs1
        refine (its_any (.slice ao ms.length cap) ms most room W0 (rdm_keep HV0.out hb1) hl (small_names HSm.out)).mono ?_
        rintro e W2 ⟨v2, rfl, ⟨m2, hm2, hr2⟩, hb2⟩
        have hB2 := ret_tr hb1 hb2
        have hrr := rright_any v2 m2 most room W2 hr2 (by rw [hm2]; exact HSm.out) (by rw [hm2]; exact HFit.out)
        rw [hm2, ← HE.out] at hrr
        have HRR := Lib.hid hrr
        clear hrr hr2 hm2 hb1 hb2 hP
        go_wp2_with fail
        refine HRR.out.mono ?_
        rintro e W3 ⟨rfl, hb3⟩
        go_wp2_with fail
        go_ret
        exact ⟨rfl, ret_tr hB2 hb3⟩
theorem its_g (l : List NodeL) (a b : Int) (hl : l.length ≤ 10000) (hnl : ∀ n ∈ l, n.names.length ≤ 10000) (v : Value) (W : World) (hg : GivesN l v W) :
    Calls Try.prog 13 #[.agg #[v, .int .i64 a, .int .i64 b]] W fun e w' => ∃ v', e = .returned (.agg #[v', .int .i64 a, .int .i64 b]) ∧ GivesN l v' w' ∧ Below W.heap.size W w' := by
  obtain ⟨m, rfl, h⟩ := hg
  exact its_any v m a b W h (by rw [← pl_len]; exact hl) hnl
end Go.Proofs.Ytilhiafmljmljaa
