/-
  The program's comparisons: lists of numbers, of texts, of frames; jobs' numbers, texts, ends.
-/
import Derived.Test.YtedcffkmfopalaaDoorJobD
namespace Go.Proofs.YtedcffkmfopalaaDoor
open Go.RowKit Go.Shelf
attribute [local go_sem ↓] Go.wp_at_zero Go.wp_at_succ

theorem wpList_load_rowG {P : Program} {ops : Array Oper} {rest : List Oper} {o : Oper} {a : Act} {w : World} {Q : Exit → Act → World → Prop} (hw : Region.wanted o (yielded ops a.tmps) = true) (ty : TypeId) (x : Operand) (ho : o.op = .load ty x)
    (g : Nat) (hx : a.eval x = .pointer (some ⟨g, 0, none⟩)) (t : TypeId) (cs : Array Value) (fr : Nat × Nat) (d : TypeDesc) (hg : w.heap[g]? = some (.cells cs t fr))
    (hu : P.underlying ty = some d) (hd : (match d with | .struct _ | .array _ _ => true | _ => false) = true) (hi : (P.info? ty).map (·.size) = some cs.size)
    (h : wpList P ops Q rest (a.put o.dst (.agg cs)) w) : wpList P ops Q (o :: rest) a w :=
  wpList_step fun _ hK => by rw [if_pos hw]; exact wp_load_row ty x ho g hx t cs fr d hg hu hd hi (hK _ _ h)
set_option maxRecDepth 100000 in
set_option maxHeartbeats 4000000 in
theorem pInts_c (A B : List Int) (hl : A.length ≤ 20000) (ao bo : Option Addr) (ca cb : Nat) (w : World) (ha : Rd w.heap.size 1 (.slice ao A.length ca) A.length (intsJ A) w) (hb : Rd w.heap.size 1 (.slice bo B.length cb) B.length (intsJ B) w) :
    Calls Tryd.prog 34 #[.slice ao A.length ca, .slice bo B.length cb] w fun e w' => e = .returned (.bool (decide (A = B))) ∧ Below w.heap.size w w' := by
  have HA := Lib.hid ha
  have HB := Lib.hid hb
  clear ha hb
  by_cases hlen : A.length = B.length
  · have e1 : ((A.length : Int) != (B.length : Int)) = false := by simp [hlen]
    have e2 : (A.length != B.length) = false := by simp [hlen]
    have e3 : decide (A.length = B.length) = true := decide_eq_true hlen
    have HL := Lib.hid hlen
    clear hlen
    go_enter Tryd.func34, Tryd.ntmps34
    go_wp2_with fail
    go_loopw [13] (fun i wr => ∃ k : Nat, i = .int .i64 k ∧ k ≤ A.length ∧ Hid (A.take k = B.take k) ∧ Hid (Below w.heap.size w wr)) (fun i _ => A.length - (RowKit.intOf i).toNat)
    case atStart => exact ⟨0, rfl, Nat.zero_le _, Lib.hid rfl, Lib.hid (Below.refl _ _)⟩
    case round =>
      obtain ⟨k, rfl, hk, HT, HW⟩ := hrel
      by_cases hlt : k < A.length
      · have iL : decide (k < A.length) = true := decide_eq_true hlt
        have iL2 : decide ((k : Int) < (A.length : Int)) = true := decide_eq_true (by omega)
        have k0 : (0 : Int) ≤ (k : Int) := by omega
        have k1 : (k : Int) < (A.length : Int) := by omega
        have hltB : k < B.length := by rw [← HL.out]; exact hlt
        have k2 : (k : Int) < (B.length : Int) := by omega
        have w1 : IntKind.i64.wrap ((k : Int) + 1) = (k : Int) + 1 := Go.IntWalk.i64_in _ (by omega)
        obtain ⟨b, off, cap1, eA, _, _, hbw, _, hcA⟩ := Rd.at HA.out (by omega)
        injection eA with eA1 _ eA2
        subst eA1
        subst eA2
        obtain ⟨b2, off2, cap2, eB, _, _, hbw2, _, hcB⟩ := Rd.at HB.out (by omega)
        injection eB with eB1 _ eB2
        subst eB1
        subst eB2
        have c0 := (HW.out.cell (p := ⟨b, off + k, none⟩) hbw).trans (hcA _ _ (intsJ_at A k hlt))
        have x0 := (HW.out.cell (p := ⟨b2, off2 + k, none⟩) hbw2).trans (hcB _ _ (intsJ_at B k hltB))
        clear hcA hcB
        obtain ⟨x, hx⟩ : ∃ x, x = A[k] := ⟨_, rfl⟩
        obtain ⟨y, hy⟩ : ∃ y, y = B[k] := ⟨_, rfl⟩
        rw [← hx] at c0
        rw [← hy] at x0
        by_cases hxy : x = y
        · have e4 : decide (x = y) = true := decide_eq_true hxy
          have e5 : (x != y) = false := by simp [hxy]
          have HT2 := Lib.hid (show A.take (k + 1) = B.take (k + 1) by rw [List.take_succ_eq_append_getElem hlt, List.take_succ_eq_append_getElem hltB, HT.out, ← hx, ← hy, hxy])
          clear hx hy hxy HT
          skip
          go_upto_region 6 with (fail)
          go_quiet (fail)
          go_wp2_with fail
          go_roundw
          case rel => exact ⟨k + 1, by go_num, hlt, HT2, Lib.hid (bel_dn HW.out _)⟩
          case measure => simp [RowKit.intOf]; omega
        · have e4 : decide (x = y) = false := decide_eq_false hxy
          have e5 : (x != y) = true := by simp [hxy]
          have HF := Lib.hid (show decide (A = B) = false from decide_eq_false fun e => hxy (by rw [hx, hy]; subst e; rfl))
          clear hx hy hxy HT
          skip
          go_upto_region 6 with (fail)
          go_quiet (fail)
          go_wp2_with fail
          go_ret
          exact ⟨ret_bool HF.out.symm, bel_dn HW.out _⟩
      · have iL : decide (k < A.length) = false := decide_eq_false hlt
        have iL2 : decide ((k : Int) < (A.length : Int)) = false := decide_eq_false (by omega)
        have hke : k = A.length := by omega
        have HF := Lib.hid (show decide (A = B) = true from decide_eq_true (by have h1 := HT.out; rw [hke, List.take_length, HL.out, List.take_length] at h1; exact h1))
        clear hlt hke HT
        go_wp2_with fail
        go_ret
        exact ⟨ret_bool HF.out.symm, HW.out⟩
  · have e1 : ((A.length : Int) != (B.length : Int)) = true := by simp; omega
    have e2 : (A.length != B.length) = true := by simp [hlen]
    have e3 : decide (A.length = B.length) = false := decide_eq_false hlen
    have HF := Lib.hid (show decide (A = B) = false from decide_eq_false fun e => hlen (by rw [e]))
    clear hlen
    go_enter Tryd.func34, Tryd.ntmps34
    go_wp2_with fail
    go_ret
    exact ⟨ret_bool HF.out.symm, Below.refl _ _⟩
set_option maxRecDepth 100000 in
set_option maxHeartbeats 4000000 in
theorem pTexts_c (A B : List Str) (hl : A.length ≤ 20000) (ao bo : Option Addr) (ca cb : Nat) (w : World) (ha : Rd w.heap.size 1 (.slice ao A.length ca) A.length (strs A) w) (hb : Rd w.heap.size 1 (.slice bo B.length cb) B.length (strs B) w) :
    Calls Tryd.prog 38 #[.slice ao A.length ca, .slice bo B.length cb] w fun e w' => e = .returned (.bool (decide (A = B))) ∧ Below w.heap.size w w' := by
  have HA := Lib.hid ha
  have HB := Lib.hid hb
  clear ha hb
  by_cases hlen : A.length = B.length
  · have e1 : ((A.length : Int) != (B.length : Int)) = false := by simp [hlen]
    have e2 : (A.length != B.length) = false := by simp [hlen]
    have e3 : decide (A.length = B.length) = true := decide_eq_true hlen
    have HL := Lib.hid hlen
    clear hlen
    go_enter Tryd.func38, Tryd.ntmps38
    go_wp2_with fail
    go_loopw [13] (fun i wr => ∃ k : Nat, i = .int .i64 k ∧ k ≤ A.length ∧ Hid (A.take k = B.take k) ∧ Hid (Below w.heap.size w wr)) (fun i _ => A.length - (RowKit.intOf i).toNat)
    case atStart => exact ⟨0, rfl, Nat.zero_le _, Lib.hid rfl, Lib.hid (Below.refl _ _)⟩
    case round =>
      obtain ⟨k, rfl, hk, HT, HW⟩ := hrel
      by_cases hlt : k < A.length
      · have iL : decide (k < A.length) = true := decide_eq_true hlt
        have iL2 : decide ((k : Int) < (A.length : Int)) = true := decide_eq_true (by omega)
        have k0 : (0 : Int) ≤ (k : Int) := by omega
        have k1 : (k : Int) < (A.length : Int) := by omega
        have hltB : k < B.length := by rw [← HL.out]; exact hlt
        have k2 : (k : Int) < (B.length : Int) := by omega
        have w1 : IntKind.i64.wrap ((k : Int) + 1) = (k : Int) + 1 := Go.IntWalk.i64_in _ (by omega)
        obtain ⟨b, off, cap1, eA, _, _, hbw, _, hcA⟩ := Rd.at HA.out (by omega)
        injection eA with eA1 _ eA2
        subst eA1
        subst eA2
        obtain ⟨b2, off2, cap2, eB, _, _, hbw2, _, hcB⟩ := Rd.at HB.out (by omega)
        injection eB with eB1 _ eB2
        subst eB1
        subst eB2
        have c0 := (HW.out.cell (p := ⟨b, off + k, none⟩) hbw).trans (hcA _ _ (strs_at A k hlt))
        have x0 := (HW.out.cell (p := ⟨b2, off2 + k, none⟩) hbw2).trans (hcB _ _ (strs_at B k hltB))
        clear hcA hcB
        obtain ⟨x, hx⟩ : ∃ x, x = A[k] := ⟨_, rfl⟩
        obtain ⟨y, hy⟩ : ∃ y, y = B[k] := ⟨_, rfl⟩
        rw [← hx] at c0
        rw [← hy] at x0
        by_cases hxy : x = y
        · have e4 : decide (x = y) = true := decide_eq_true hxy
          have e5 : (x != y) = false := by simp [hxy]
          have e6 : (x == y) = true := by simp [hxy]
          have HT2 := Lib.hid (show A.take (k + 1) = B.take (k + 1) by rw [List.take_succ_eq_append_getElem hlt, List.take_succ_eq_append_getElem hltB, HT.out, ← hx, ← hy, hxy])
          clear hx hy hxy HT
          skip
          go_upto_region 6 with (fail)
          go_quiet (fail)
          go_wp2_with fail
          go_roundw
          case rel => exact ⟨k + 1, by go_num, hlt, HT2, Lib.hid (bel_dn HW.out _)⟩
          case measure => simp [RowKit.intOf]; omega
        · have e4 : decide (x = y) = false := decide_eq_false hxy
          have e5 : (x != y) = true := by simp [hxy]
          have e6 : (x == y) = false := by simp [hxy]
          have HF := Lib.hid (show decide (A = B) = false from decide_eq_false fun e => hxy (by rw [hx, hy]; subst e; rfl))
          clear hx hy hxy HT
          skip
          go_upto_region 6 with (fail)
          go_quiet (fail)
          go_wp2_with fail
          go_ret
          exact ⟨ret_bool HF.out.symm, bel_dn HW.out _⟩
      · have iL : decide (k < A.length) = false := decide_eq_false hlt
        have iL2 : decide ((k : Int) < (A.length : Int)) = false := decide_eq_false (by omega)
        have hke : k = A.length := by omega
        have HF := Lib.hid (show decide (A = B) = true from decide_eq_true (by have h1 := HT.out; rw [hke, List.take_length, HL.out, List.take_length] at h1; exact h1))
        clear hlt hke HT
        go_wp2_with fail
        go_ret
        exact ⟨ret_bool HF.out.symm, HW.out⟩
  · have e1 : ((A.length : Int) != (B.length : Int)) = true := by simp; omega
    have e2 : (A.length != B.length) = true := by simp [hlen]
    have e3 : decide (A.length = B.length) = false := decide_eq_false hlen
    have HF := Lib.hid (show decide (A = B) = false from decide_eq_false fun e => hlen (by rw [e]))
    clear hlen
    go_enter Tryd.func38, Tryd.ntmps38
    go_wp2_with fail
    go_ret
    exact ⟨ret_bool HF.out.symm, Below.refl _ _⟩
set_option maxRecDepth 100000 in
set_option maxHeartbeats 4000000 in
theorem pFrame_c (x y : FrameL) (lx : x.names.length ≤ 10000) (_ly : y.names.length ≤ 10000) (vx vy : Value) (w : World) (hx : Rd w.heap.size 1 vx x.names.length (strs x.names) w) (hy : Rd w.heap.size 1 vy y.names.length (strs y.names) w) :
    Calls Tryd.prog 33 #[fval x vx, fval y vy] w fun e w' => e = .returned (.bool (decide (x = y))) ∧ Below w.heap.size w w' := by
  obtain ⟨an, cn, rfl, _, _⟩ := Rd.form hx
  obtain ⟨bn, cbn, rfl, _, _⟩ := Rd.form hy
  have HX := Lib.hid hx
  have HY := Lib.hid hy
  clear hx hy
  go_enter Tryd.func33, Tryd.ntmps33
  go_upto_region 1 with (fail)
  refine code_fresh2 ?_
  intro W1 hb hA hA2 hs
  replace HX := Lib.hid (rd_keep HX.out hb)
  replace HY := Lib.hid (rd_keep HY.out hb)
  have HW := Lib.hid hb
  obtain ⟨c0, c1, c2⟩ := cells3 hA
  obtain ⟨d0, d1, d2⟩ := cells3 hA2
  clear hb hA hA2 hs
  by_cases hq : x.fd = y.fd
  case neg =>
    have E1 : decide (x.fd = y.fd) = false := decide_eq_false hq
    have E2 : (x.fd == y.fd) = false := beq_eq_false_iff_ne.2 hq
    have E3 : (x.fd != y.fd) = true := by rw [bne, E2]; rfl
    have HF := Lib.hid (show decide (x = y) = false from decide_eq_false fun e => hq (by rw [e]))
    clear hq
    go_wp2_with fail
    go_ret
    exact ⟨ret_bool HF.out.symm, HW.out⟩
  have x0 : decide (x.fd = y.fd) = true := decide_eq_true hq
  have x1 : (x.fd == y.fd) = true := beq_iff_eq.2 hq
  have x2 : (x.fd != y.fd) = false := by rw [bne, x1]; rfl
  have h0 := Lib.hid hq
  clear hq
  by_cases hq : x.name = y.name
  case neg =>
    have E1 : decide (x.name = y.name) = false := decide_eq_false hq
    have E2 : (x.name == y.name) = false := beq_eq_false_iff_ne.2 hq
    have E3 : (x.name != y.name) = true := by rw [bne, E2]; rfl
    have HF := Lib.hid (show decide (x = y) = false from decide_eq_false fun e => hq (by rw [e]))
    clear hq
    go_wp2_with fail
    go_ret
    exact ⟨ret_bool HF.out.symm, HW.out⟩
  have x3 : decide (x.name = y.name) = true := decide_eq_true hq
  have x4 : (x.name == y.name) = true := beq_iff_eq.2 hq
  have x5 : (x.name != y.name) = false := by rw [bne, x4]; rfl
  have h1 := Lib.hid hq
  clear hq
  go_wp2_with fail
  refine (pTexts_c x.names y.names (by omega) _ _ _ _ W1 HX.out HY.out).mono ?_
  rintro e V1 ⟨rfl, hb⟩
  replace HW := Lib.hid (HW.out.trans (hb.mono HW.out.size))
  clear hb
  have HF : Hid (decide (x.names = y.names) = decide (x = y)) := Lib.hid (decide_eq_decide.2 ⟨fun h => frame_ext h0.out h1.out h, fun h => by rw [h]⟩)
  go_wp2_with fail
  go_ret
  exact ⟨ret_bool HF.out, HW.out⟩
set_option maxRecDepth 100000 in
set_option maxHeartbeats 4000000 in
theorem pFrames_c (A B : List FrameL) (hl : A.length ≤ 10000) (hA : ∀ f ∈ A, f.names.length ≤ 10000) (hB : ∀ f ∈ B, f.names.length ≤ 10000) (ao bo : Option Addr) (ca cb : Nat) (w : World) (ha : GivesF A (.slice ao A.length ca) w) (hb : GivesF B (.slice bo B.length cb) w) :
    Calls Tryd.prog 32 #[.slice ao A.length ca, .slice bo B.length cb, .func (.func 33) #[] #[]] w fun e w' => e = .returned (.bool (decide (A = B))) ∧ Below w.heap.size w w' := by
  have HA := Lib.hid ha
  have HB := Lib.hid hb
  have HNA := Lib.hid hA
  have HNB := Lib.hid hB
  clear ha hb hA hB
  by_cases hlen : A.length = B.length
  · have e1 : ((A.length : Int) != (B.length : Int)) = false := by simp [hlen]
    have e2 : (A.length != B.length) = false := by simp [hlen]
    have e3 : decide (A.length = B.length) = true := decide_eq_true hlen
    have HL := Lib.hid hlen
    clear hlen
    go_enter Tryd.func32, Tryd.ntmps32
    go_wp2_with fail
    go_loopw [17] (fun i wr => ∃ k : Nat, i = .int .i64 k ∧ k ≤ A.length ∧ Hid (A.take k = B.take k) ∧ Hid (Below w.heap.size w wr)) (fun i _ => A.length - (RowKit.intOf i).toNat)
    case atStart => exact ⟨0, rfl, Nat.zero_le _, Lib.hid rfl, Lib.hid (Below.refl _ _)⟩
    case round =>
      obtain ⟨k, rfl, hk, HT, HW⟩ := hrel
      by_cases hlt : k < A.length
      · have iL : decide (k < A.length) = true := decide_eq_true hlt
        have iL2 : decide ((k : Int) < (A.length : Int)) = true := decide_eq_true (by omega)
        have k0 : (0 : Int) ≤ (k : Int) := by omega
        have k1 : (k : Int) < (A.length : Int) := by omega
        have hltB : k < B.length := by rw [← HL.out]; exact hlt
        have k2 : (k : Int) < (B.length : Int) := by omega
        have w1 : IntKind.i64.wrap ((k : Int) + 1) = (k : Int) + 1 := Go.IntWalk.i64_in _ (by omega)
        obtain ⟨b, off, an, cn, rfl, hbl, hRA, c0, c1, c2⟩ := frame_at (HA.out.keep HW.out) k hlt
        obtain ⟨b2, off2, an2, cn2, rfl, hbl2, hRB, d0, d1, d2⟩ := frame_at (HB.out.keep HW.out) k hltB
        have hnA := HNA.out _ (List.getElem_mem hlt)
        have hnB := HNB.out _ (List.getElem_mem hltB)
        have HX := Lib.hid (show A[k] = B[k] → A.take (k + 1) = B.take (k + 1) from fun e => by rw [List.take_succ_eq_append_getElem hlt, List.take_succ_eq_append_getElem hltB, HT.out, e])
        have HY := Lib.hid (show A[k] ≠ B[k] → decide (A = B) = false from fun h => decide_eq_false fun e => h (by subst e; rfl))
        generalize A[k] = x at *
        generalize B[k] = y at *
        clear HT
        have HRA := Lib.hid hRA
        have HRB := Lib.hid hRB
        clear hRA hRB
        go_upto_region 6 with (first | (refine wpList_fresh1 ?_; intro V1 hb hA1 hs1) | (refine wpList_store_row rfl 46 _ _ rfl _ rfl rfl hA1 rfl (by kernel_rfl) rfl ?_; intro V2 hb2 hg2 hs2 hA2))
        (try simp only [List.getElem_toArray]); (try simp only [List.getElem_cons_succ]); (try simp only [List.getElem_cons_zero]); (try simp only [Act.put]); (try simp only [List.setIfInBounds_toArray]); (try simp only [List.set_cons_succ]); (try simp only [List.set_cons_zero])
        have hb3 : Below wr.heap.size wr V2 := hb.trans (hb2.mono (Nat.le_refl _))
        have hl2 : wr.heap.size < V2.heap.size := by rw [hs2, hs1]; omega
        clear hb hb2 hA1 hs1 hg2 hs2
        replace d0 := (hb3.cell (p := ⟨b2, off2 + k * 3, none⟩) hbl2).trans d0
        replace d1 := (hb3.cell (p := ⟨b2, off2 + k * 3 + 1, none⟩) hbl2).trans d1
        replace d2 := (hb3.cell (p := ⟨b2, off2 + k * 3 + 2, none⟩) hbl2).trans d2
        replace HRA := Lib.hid (rd_keep HRA.out hb3)
        replace HRB := Lib.hid (rd_keep HRB.out hb3)
        replace HW := Lib.hid (HW.out.trans (hb3.mono HW.out.size))
        clear c0 c1 c2 hb3 iL iL2
        go_upto_region 7 with (first | (refine wpList_fresh1 ?_; intro V3 hb hA3 hs3) | (refine wpList_store_row rfl 46 _ _ rfl _ rfl rfl hA3 rfl (by kernel_rfl) rfl ?_; intro V4 hb4 hg4 hs4 hA4))
        (try simp only [List.getElem_toArray]); (try simp only [List.getElem_cons_succ]); (try simp only [List.getElem_cons_zero]); (try simp only [Act.put]); (try simp only [List.setIfInBounds_toArray]); (try simp only [List.set_cons_succ]); (try simp only [List.set_cons_zero])
        have hb5 : Below V2.heap.size V2 V4 := hb.trans (hb4.mono (Nat.le_refl _))
        replace hA2 := (hb5.block _ hl2).trans hA2
        replace HRA := Lib.hid (rd_keep HRA.out hb5)
        replace HRB := Lib.hid (rd_keep HRB.out hb5)
        replace HW := Lib.hid (HW.out.trans (hb5.mono HW.out.size))
        clear hb hb4 hA3 hs3 hg4 hs4 hl2 d0 d1 d2 hb5
        go_wp2_with (first | (refine wpList_load_row rfl 46 _ rfl _ rfl 46 _ (0, 0) _ hA2 Tryd.underlying46 rfl (by kernel_rfl) ?_) | (refine wpList_load_row rfl 46 _ rfl _ rfl 46 _ (0, 0) _ hA4 Tryd.underlying46 rfl (by kernel_rfl) ?_))
        refine (pFrame_c x y hnA hnB _ _ V4 HRA.out HRB.out).mono ?_
        rintro e V5 ⟨rfl, hb⟩
        replace HW := Lib.hid (HW.out.trans (hb.mono HW.out.size))
        clear hb hA2 hA4
        by_cases hq : x = y
        · rw [decide_eq_true hq]
          have HT2 := Lib.hid (HX.out hq)
          clear hq HX HY
          go_wp2_with fail
          go_roundw
          case rel => exact ⟨k + 1, by go_num, hlt, HT2, HW⟩
          case measure => simp [RowKit.intOf]; omega
        · rw [decide_eq_false hq]
          have HF := Lib.hid (HY.out hq)
          clear hq HX HY
          go_wp2_with fail
          go_ret
          exact ⟨ret_bool HF.out.symm, HW.out⟩
      · have iL : decide (k < A.length) = false := decide_eq_false hlt
        have iL2 : decide ((k : Int) < (A.length : Int)) = false := decide_eq_false (by omega)
        have hke : k = A.length := by omega
        have HF := Lib.hid (show decide (A = B) = true from decide_eq_true (by have h1 := HT.out; rw [hke, List.take_length, HL.out, List.take_length] at h1; exact h1))
        clear hlt hke HT
        go_wp2_with fail
        go_ret
        exact ⟨ret_bool HF.out.symm, HW.out⟩
  · have e1 : ((A.length : Int) != (B.length : Int)) = true := by simp; omega
    have e2 : (A.length != B.length) = true := by simp [hlen]
    have e3 : decide (A.length = B.length) = false := decide_eq_false hlen
    have HF := Lib.hid (show decide (A = B) = false from decide_eq_false fun e => hlen (by rw [e]))
    clear hlen
    go_enter Tryd.func32, Tryd.ntmps32
    go_wp2_with fail
    go_ret
    exact ⟨ret_bool HF.out.symm, Below.refl _ _⟩
end Go.Proofs.YtedcffkmfopalaaDoor
