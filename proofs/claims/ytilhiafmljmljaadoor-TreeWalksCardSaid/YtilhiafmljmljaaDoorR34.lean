import Derived.Test.YtilhiafmljmljaaDoorR30
import Derived.Test.YtilhiafmljmljaaDoorR33
import Derived.Deep.DeepCutAuto
namespace Go.Proofs.YtilhiafmljmljaaDoor
open Go.RowKit Go.Shelf
attribute [local go_sem ↓] Go.wp_at_zero Go.wp_at_succ
theorem node_x (l : List NodeL) (hl : ∀ ms, pl ms = l → DskW ms) (a b i x : Int) (p : Str) (hpl : p.length ≤ 100) (hx : wnodeL (walkL l 0 i p false) = (x, 0)) (v : Value) (W : World) (hg : GivesN l v W) (he : ErrG W) :
    Calls Tryd.prog 8 #[.agg #[v, .int .i64 a, .int .i64 b], .int .i64 0, .int .i64 i, .string (bs p), .bool false] W fun e w' => e = .returned (.tuple #[.int .i64 x, .int .i64 0]) ∧ Below W.heap.size W w' := by
  have h := wnode_g l hl a b 0 i p false (by omega) v W hg he
  unfold WNodeIs at h
  rw [hx] at h
  exact h
theorem rnode_x (l : List NodeL) (hl : ∀ ms, pl ms = l → DskW ms) (a b i x : Int) (p : Str) (hpl : p.length ≤ 100) (hx : wnodeL (walkL l 0 i p false) = (x, 0)) (v : Value) (W : World) (hg : GivesN l v W) :
    Calls Tryd.prog 9 #[.agg #[v, .int .i64 a, .int .i64 b], .int .i64 0, .int .i64 i, .string (bs p), .bool false] W fun e w' => e = .returned (.tuple #[.int .i64 x, .int .i64 0]) ∧ Below W.heap.size W w' := by
  have h := rnode_g l hl a b 0 i p false (by omega) v W hg
  unfold WNodeIs at h
  rw [hx] at h
  exact h
set_option maxRecDepth 100000 in
set_option maxHeartbeats 4000000 in
theorem treeWalks_w (ms : List NodeM) (most room : Int) (i : Int) (v : Value) (w : World) (hv : RdM w.heap.size v ms w) (hfit : FitD (pl ms)) (he : ErrG w) :
    Calls Tryd.prog 3 #[.agg #[v, .int .i64 most, .int .i64 room], .int .i64 i] w fun e w' => e = .returned (.bool true) ∧ Below w.heap.size w w' := by
  have HQ := Lib.hid fun W (hb : Below w.heap.size w W) => right_q v ms most room W (rdm_keep hv hb) hfit
  have HG := Lib.hid (show GivesN (pl ms) v w from ⟨ms, rfl, hv⟩)
  have HFit := Lib.hid hfit
  have HE := Lib.hid he
  obtain ⟨ao, cap, rfl, _, _⟩ := rdm_form hv
  have hml : ms.length = (pl ms).length := (pl_len ms).symm
  rw [hml] at HQ HG ⊢
  clear hv hfit hml he
  generalize pl ms = l at *
  go_enter Tryd.func3, Tryd.ntmps3
  go_upto_region 1 with (fail)
  refine code_fresh1 ?_
  intro W1 hb hA hs
  have BD := Lib.hid (hA)
  replace HG := Lib.hid (HG.out.keep hb)
  replace HE := Lib.hid (errG_keep HE.out hb)
  have HB := Lib.hid hb
  clear hb hA hs
  have hA := BD.out
  obtain ⟨d0, d1, d2⟩ := cells3 hA
  go_wp2_with fail
  clear d0 d1 d2 hA
  refine (HQ.out _ HB.out).mono ?_
  rintro e V1 ⟨rfl, hb⟩
  replace BD := Lib.hid ((hb.block _ (lt_some BD.out)).trans BD.out)
  replace HG := Lib.hid (HG.out.keep hb)
  replace HB := Lib.hid (HB.out.trans (hb.mono HB.out.size))
  replace HE := Lib.hid (errG_keep HE.out hb)
  clear hb
  clear HQ
  cases hq : rightQ l most room with
  | false =>
    clear hq
    go_wp2_with fail
    refine (shown_c V1).mono ?_
    rintro e Z ⟨rfl, hb⟩
    go_wp2_with fail
    go_ret
    exact ⟨rfl, ret_tr HB.out hb⟩
  | true =>
    have HD := Lib.hid (tree_d hq HFit.out)
    have HDW := Lib.hid (diskW' hq)
    clear hq HFit
    go_wp2_with fail
    refine (shown_c V1).mono ?_
    rintro e V2 ⟨rfl, hb⟩
    replace BD := Lib.hid ((hb.block _ (lt_some BD.out)).trans BD.out)
    replace HG := Lib.hid (HG.out.keep hb)
    replace HB := Lib.hid (HB.out.trans (hb.mono HB.out.size))
    replace HE := Lib.hid (errG_keep HE.out hb)
    clear hb
    have hA := BD.out
    obtain ⟨d0, d1, d2⟩ := cells3 hA
    go_wp2_with fail
    clear d0 d1 d2 hA
    refine (list_g l most room i HD.out.ok _ V2 HG.out).mono ?_
    rintro e V3 ⟨ao1, cap1, rfl, hr, hb⟩
    replace BD := Lib.hid ((hb.block _ (lt_some BD.out)).trans BD.out)
    replace HG := Lib.hid (HG.out.keep hb)
    replace HB := Lib.hid (HB.out.trans (hb.mono HB.out.size))
    replace HE := Lib.hid (errG_keep HE.out hb)
    clear hb
    have R1 := Lib.hid (hr)
    clear hr
    have hA := BD.out
    obtain ⟨d0, d1, d2⟩ := cells3 hA
    go_wp2_with fail
    clear d0 d1 d2 hA
    refine (inside_g l most room i HD.out.ok _ V3 HG.out).mono ?_
    rintro e V4 ⟨ao2, cap2, rfl, hr, hb⟩
    replace BD := Lib.hid ((hb.block _ (lt_some BD.out)).trans BD.out)
    replace HG := Lib.hid (HG.out.keep hb)
    replace HB := Lib.hid (HB.out.trans (hb.mono HB.out.size))
    replace HE := Lib.hid (errG_keep HE.out hb)
    replace R1 := Lib.hid (rd_keep R1.out hb)
    clear hb
    have R2 := Lib.hid (hr)
    clear hr
    have hmany : (listT l i).length ≤ 9999 := HD.out.ok.many i
    have hli : (insideT l i).length = (listT l i).length := (list_inside HD.out.ok.rig i).symm
    rw [hli]
    have q1 : decide ((10000 : Int) < ((listT l i).length : Int)) = false := decide_eq_false (by omega)
    have q2 : decide (10000 < (listT l i).length) = false := decide_eq_false (by omega)
    have q3 : (((listT l i).length : Int) == ((listT l i).length : Int)) = true := beq_self_eq_true _
    rw [hli] at R2
    go_wp2_with fail
    clear q1 q2 q3
    have HW := Lib.hid (Below.refl V4.heap.size V4)
    go_loopw [7] (fun i0 wr => ∃ a : Nat, i0 = .int .i64 a ∧ a ≤ (listT l i).length ∧ Hid (Below V4.heap.size V4 wr)) (fun i0 _ => (listT l i).length - (RowKit.intOf i0).toNat)
    case atStart => exact ⟨0, rfl, Nat.zero_le _, HW⟩
    case round =>
      clear HW
      obtain ⟨a, rfl, ha, HW⟩ := hrel
      have hb := HW.out
      replace BD := Lib.hid ((hb.block _ (lt_some BD.out)).trans BD.out)
      replace HG := Lib.hid (HG.out.keep hb)
      replace HB := Lib.hid (HB.out.trans (hb.mono HB.out.size))
      replace HE := Lib.hid (errG_keep HE.out hb)
      replace R1 := Lib.hid (rd_keep R1.out hb)
      replace R2 := Lib.hid (rd_keep R2.out hb)
      clear hb
      by_cases hlt : a < (listT l i).length
      · have iL : decide (a < (listT l i).length) = true := decide_eq_true hlt
        have iL2 : decide ((a : Int) < ((listT l i).length : Int)) = true := decide_eq_true (by omega)
        have a0 : (0 : Int) ≤ (a : Int) := by omega
        have a1 : (a : Int) < ((listT l i).length : Int) := by omega
        have wa : IntKind.i64.wrap ((a : Int) + 1) = (a : Int) + 1 := Go.IntWalk.i64_in _ (by omega)
        have hlt2 : a < (insideT l i).length := by omega
        obtain ⟨bI, oI, cI, eI, _, _, hbI, _, hcI⟩ := Rd.at R2.out (by omega)
        injection eI with eI1 _ eI2
        subst eI1
        subst eI2
        obtain ⟨bL, oL, rfl, hbL, cp, _, _, _⟩ := line_at R1.out rfl a hlt
        obtain ⟨x, hx⟩ : ∃ x, x = (insideT l i)[a] := ⟨_, rfl⟩
        have cx := hcI _ _ (ints_at _ a hlt2)
        rw [← hx] at cx
        obtain ⟨p, hp⟩ : ∃ p, p = (listT l i)[a].path := ⟨_, rfl⟩
        rw [← hp] at cp
        have HCX := Lib.hid (show ∀ V : World, Below wr.heap.size wr V → V.cell? ⟨bI, oI + a, none⟩ = some (.int .i64 x) from fun V hb => (hb.cell (p := ⟨bI, oI + a, none⟩) hbI).trans cx)
        have HCP := Lib.hid (show ∀ V : World, Below wr.heap.size wr V → V.cell? ⟨bL, oL + a * 4, none⟩ = some (.string (bs p)) from fun V hb => (hb.cell (p := ⟨bL, oL + a * 4, none⟩) hbL).trans cp)
        by_cases ha0 : a = 0
        · have hlt0 : 0 < (listT l i).length := by omega
          have ht := line_top HD.out.ok.rig (i := i) hlt0
          have hpe : p = [] := by subst ha0; rw [hp]; exact ht.1
          have hxe : x = i := by
            subst ha0
            have h2 := ht.2
            rw [List.getElem?_eq_getElem hlt2, ← hx] at h2
            exact Option.some.inj h2
          have z1 : decide ((a : Int) = 0) = true := decide_eq_true (by omega)
          have z2 : ((a : Int) == 0) = true := beq_iff_eq.2 (by omega)
          have z3 : decide (a = 0) = true := decide_eq_true ha0
          have e1 : p.isEmpty = true := by rw [hpe]; rfl
          have e2 : decide (x = i) = true := decide_eq_true hxe
          have e3 : (x == i) = true := beq_iff_eq.2 hxe
          clear hx hp ht hpe hxe ha0 hcI
          go_wp2_with fail
          go_roundw
          case rel => exact ⟨a + 1, by go_num, hlt, HW⟩
          case measure => simp [RowKit.intOf]; omega
        · have z1 : decide ((a : Int) = 0) = false := decide_eq_false (by omega)
          have z2 : ((a : Int) == 0) = false := beq_eq_false_iff_ne.2 (by omega)
          have z3 : decide (a = 0) = false := decide_eq_false ha0
          by_cases hpl : 100 < p.length
          · have e1 : decide (100 < p.length) = true := decide_eq_true hpl
            have e2 : decide ((100 : Int) < (p.length : Int)) = true := decide_eq_true (by omega)
            clear hx hp hcI
            go_wp2_with fail
            go_roundw
            case rel => exact ⟨a + 1, by go_num, hlt, HW⟩
            case measure => simp [RowKit.intOf]; omega
          · have e1 : decide (100 < p.length) = false := decide_eq_false hpl
            have e2 : decide ((100 : Int) < (p.length : Int)) = false := decide_eq_false (by omega)
            have hpl2 : p.length ≤ 100 := by omega
            have hw : wnodeL (walkL l 0 i p false) = (x, 0) := by rw [hp, hx]; exact law_lines HD.out.ok.rig hlt hlt2 (by rw [← hp]; exact hpl2) (by omega)
            have HWN := Lib.hid hw
            clear hx hp hw hcI hpl
            go_upto_region 14 with (fail)
            clear iL iL2 z1 z2 z3 e1 e2 cx cp
            have HP := Lib.hid (Below.refl wr.heap.size wr)
            refine wp_region_held_drew (S := fun V => V.heap[w.heap.size]? = some (.cells #[.slice ao l.length cap, .int .i64 most, .int .i64 room] 24 (0, 0)) ∧ V.cell? ⟨bL, oL + a * 4, none⟩ = some (.string (bs p)) ∧ True) (by kernel_rfl) ⟨BD.out, HCP.out _ (HP.out.trans (((Below.refl wr.heap.size wr).drew).mono HP.out.size)), trivial⟩ (fun hHeld => ?_)
            have hb := (Below.refl wr.heap.size wr).drew
            generalize wr.drew = V25 at *
            replace BD := Lib.hid ((hb.block _ (lt_some BD.out)).trans BD.out)
            replace HG := Lib.hid (HG.out.keep hb)
            replace HB := Lib.hid (HB.out.trans (hb.mono HB.out.size))
            replace HE := Lib.hid (errG_keep HE.out hb)
            replace R1 := Lib.hid (rd_keep R1.out hb)
            replace R2 := Lib.hid (rd_keep R2.out hb)
            replace HW := Lib.hid (HW.out.trans (hb.mono HW.out.size))
            replace HP := Lib.hid (HP.out.trans (hb.mono HP.out.size))
            clear hb
            refine wpAnyH_take (i := 1) (v := ?v7) rfl (by kernel_rfl) (by kernel_rfl) (by kernel_rfl) (fun _ _ _ h => h) (Or.inl ⟨by rfl, ?hy7⟩) hHeld ?rest7
            case hy7 => (intro w hSw; (try dsimp only at hSw); (try go_split_ands); go_simp; first | done | with_reducible rfl)
            (try simp only [List.getElem_toArray]); (try simp only [List.getElem_cons_succ]); (try simp only [List.getElem_cons_zero]); (try simp only [Act.put]); (try simp only [List.setIfInBounds_toArray]); (try simp only [List.set_cons_succ]); (try simp only [List.set_cons_zero])
            refine wpAnyH_take (i := 2) (v := ?v8) rfl (by kernel_rfl) (by kernel_rfl) (by kernel_rfl) (fun _ _ _ h => h) (Or.inl ⟨by rfl, ?hy8⟩) hHeld ?rest8
            case hy8 => (intro w hSw; (try dsimp only at hSw); (try go_split_ands); go_simp; first | done | with_reducible rfl)
            (try simp only [List.getElem_toArray]); (try simp only [List.getElem_cons_succ]); (try simp only [List.getElem_cons_zero]); (try simp only [Act.put]); (try simp only [List.setIfInBounds_toArray]); (try simp only [List.set_cons_succ]); (try simp only [List.set_cons_zero])
            refine wpAnyH_take (i := 3) (v := ?v9) rfl (by kernel_rfl) (by kernel_rfl) (by kernel_rfl) (fun _ _ _ h => h) (Or.inl ⟨by rfl, ?hy9⟩) hHeld ?rest9
            case hy9 => (intro w hSw; (try dsimp only at hSw); (try go_split_ands); go_simp; first | done | with_reducible rfl)
            (try simp only [List.getElem_toArray]); (try simp only [List.getElem_cons_succ]); (try simp only [List.getElem_cons_zero]); (try simp only [Act.put]); (try simp only [List.setIfInBounds_toArray]); (try simp only [List.set_cons_succ]); (try simp only [List.set_cons_zero])
            refine wpAnyH_take (i := 4) (v := ?v10) rfl (by kernel_rfl) (by kernel_rfl) (by kernel_rfl) (fun _ _ _ h => h) (Or.inl ⟨by rfl, ?hy10⟩) hHeld ?rest10
            case hy10 => (intro w hSw; (try dsimp only at hSw); (try go_split_ands); go_simp; first | done | with_reducible rfl)
            (try simp only [List.getElem_toArray]); (try simp only [List.getElem_cons_succ]); (try simp only [List.getElem_cons_zero]); (try simp only [Act.put]); (try simp only [List.setIfInBounds_toArray]); (try simp only [List.set_cons_succ]); (try simp only [List.set_cons_zero])
            refine wpAnyH_take (i := 5) (v := ?v11) rfl (by kernel_rfl) (by kernel_rfl) (by kernel_rfl) (fun _ _ _ h => h) (Or.inl ⟨by rfl, ?hy11⟩) hHeld ?rest11
            case hy11 => (intro w hSw; (try dsimp only at hSw); (try go_split_ands); go_simp; first | done | with_reducible rfl)
            (try simp only [List.getElem_toArray]); (try simp only [List.getElem_cons_succ]); (try simp only [List.getElem_cons_zero]); (try simp only [Act.put]); (try simp only [List.setIfInBounds_toArray]); (try simp only [List.set_cons_succ]); (try simp only [List.set_cons_zero])
            refine wpAnyH_take (i := 6) (v := ?v12) rfl (by kernel_rfl) (by kernel_rfl) (by kernel_rfl) (fun _ _ _ h => h) (Or.inl ⟨by rfl, ?hy12⟩) hHeld ?rest12
            case hy12 => (intro w hSw; (try dsimp only at hSw); (try go_split_ands); go_simp; first | done | with_reducible rfl)
            (try simp only [List.getElem_toArray]); (try simp only [List.getElem_cons_succ]); (try simp only [List.getElem_cons_zero]); (try simp only [Act.put]); (try simp only [List.setIfInBounds_toArray]); (try simp only [List.set_cons_succ]); (try simp only [List.set_cons_zero])
            refine wpAnyH_take (i := 0) rfl (by kernel_rfl) (by kernel_rfl) (by kernel_rfl) (fun _ _ _ h => h) (yieldsIf_load_row (by rfl) 24 _ rfl _ rfl 24 _ (0, 0) _ (fun _ h => h.1) Tryd.underlying24 rfl (by kernel_rfl)) hHeld ?_
            (try simp only [List.getElem_toArray]); (try simp only [List.getElem_cons_succ]); (try simp only [List.getElem_cons_zero]); (try simp only [Act.put]); (try simp only [List.setIfInBounds_toArray]); (try simp only [List.set_cons_succ]); (try simp only [List.set_cons_zero])
            refine wpAnyH_ready (rs := [7]) (by kernel_rfl) (by simp) ?_
            refine AllReadyH.cons rfl (fun K hK => ?_) AllReadyH.nil
            go_simp
            refine (node_x l HDW.out most room i x p hpl2 HWN.out _ V25 HG.out HE.out).mono ?_
            rintro e V26 ⟨rfl, hb⟩
            replace BD := Lib.hid ((hb.block _ (lt_some BD.out)).trans BD.out)
            replace HG := Lib.hid (HG.out.keep hb)
            replace HB := Lib.hid (HB.out.trans (hb.mono HB.out.size))
            replace HE := Lib.hid (errG_keep HE.out hb)
            replace R1 := Lib.hid (rd_keep R1.out hb)
            replace R2 := Lib.hid (rd_keep R2.out hb)
            replace HW := Lib.hid (HW.out.trans (hb.mono HW.out.size))
            replace HP := Lib.hid (HP.out.trans (hb.mono HP.out.size))
            clear hb hHeld
            go_wp2_with fail
            refine hK.out _ _ ⟨BD.out, HCP.out _ HP.out, trivial⟩ (fun hHeld => ?_)
            clear hK K
            (try simp only [List.getElem_toArray]); (try simp only [List.getElem_cons_succ]); (try simp only [List.getElem_cons_zero]); (try simp only [Act.put]); (try simp only [List.setIfInBounds_toArray]); (try simp only [List.set_cons_succ]); (try simp only [List.set_cons_zero])
            refine wpAnyH_take (i := 8) (v := ?v13) rfl (by kernel_rfl) (by kernel_rfl) (by kernel_rfl) (fun _ _ _ h => h) (Or.inl ⟨by rfl, ?hy13⟩) hHeld ?rest13
            case hy13 => (intro w hSw; (try dsimp only at hSw); (try go_split_ands); go_simp; first | done | with_reducible rfl)
            (try simp only [List.getElem_toArray]); (try simp only [List.getElem_cons_succ]); (try simp only [List.getElem_cons_zero]); (try simp only [Act.put]); (try simp only [List.setIfInBounds_toArray]); (try simp only [List.set_cons_succ]); (try simp only [List.set_cons_zero])
            refine wpAnyH_take (i := 9) (v := ?v14) rfl (by kernel_rfl) (by kernel_rfl) (by kernel_rfl) (fun _ _ _ h => h) (Or.inl ⟨by rfl, ?hy14⟩) hHeld ?rest14
            case hy14 => (intro w hSw; (try dsimp only at hSw); (try go_split_ands); go_simp; first | done | with_reducible rfl)
            (try simp only [List.getElem_toArray]); (try simp only [List.getElem_cons_succ]); (try simp only [List.getElem_cons_zero]); (try simp only [Act.put]); (try simp only [List.setIfInBounds_toArray]); (try simp only [List.set_cons_succ]); (try simp only [List.set_cons_zero])
            refine wpAnyH_take (i := 10) (v := ?v15) rfl (by kernel_rfl) (by kernel_rfl) (by kernel_rfl) (fun _ _ _ h => h) (Or.inl ⟨by rfl, ?hy15⟩) hHeld ?rest15
            case hy15 => (intro w hSw; (try dsimp only at hSw); (try go_split_ands); go_simp; first | done | with_reducible rfl)
            (try simp only [List.getElem_toArray]); (try simp only [List.getElem_cons_succ]); (try simp only [List.getElem_cons_zero]); (try simp only [Act.put]); (try simp only [List.setIfInBounds_toArray]); (try simp only [List.set_cons_succ]); (try simp only [List.set_cons_zero])
            refine wpAnyH_take (i := 11) (v := ?v16) rfl (by kernel_rfl) (by kernel_rfl) (by kernel_rfl) (fun _ _ _ h => h) (Or.inl ⟨by rfl, ?hy16⟩) hHeld ?rest16
            case hy16 => (intro w hSw; (try dsimp only at hSw); (try go_split_ands); go_simp; first | done | with_reducible rfl)
            (try simp only [List.getElem_toArray]); (try simp only [List.getElem_cons_succ]); (try simp only [List.getElem_cons_zero]); (try simp only [Act.put]); (try simp only [List.setIfInBounds_toArray]); (try simp only [List.set_cons_succ]); (try simp only [List.set_cons_zero])
            refine wpAnyH_take (i := 12) (v := ?v17) rfl (by kernel_rfl) (by kernel_rfl) (by kernel_rfl) (fun _ _ _ h => h) (Or.inl ⟨by rfl, ?hy17⟩) hHeld ?rest17
            case hy17 => (intro w hSw; (try dsimp only at hSw); (try go_split_ands); go_simp; first | done | with_reducible rfl)
            (try simp only [List.getElem_toArray]); (try simp only [List.getElem_cons_succ]); (try simp only [List.getElem_cons_zero]); (try simp only [Act.put]); (try simp only [List.setIfInBounds_toArray]); (try simp only [List.set_cons_succ]); (try simp only [List.set_cons_zero])
            refine wpAnyH_done (by kernel_rfl) ?_ _
            go_upto_region 15 with (fail)
            refine wp_region_held_drew (S := fun V => V.heap[w.heap.size]? = some (.cells #[.slice ao l.length cap, .int .i64 most, .int .i64 room] 24 (0, 0)) ∧ V.cell? ⟨bL, oL + a * 4, none⟩ = some (.string (bs p)) ∧ True) (by kernel_rfl) ⟨BD.out, HCP.out _ (HP.out.trans (((Below.refl V26.heap.size V26).drew).mono HP.out.size)), trivial⟩ (fun hHeld => ?_)
            have hb := (Below.refl V26.heap.size V26).drew
            generalize V26.drew = V27 at *
            replace BD := Lib.hid ((hb.block _ (lt_some BD.out)).trans BD.out)
            replace HG := Lib.hid (HG.out.keep hb)
            replace HB := Lib.hid (HB.out.trans (hb.mono HB.out.size))
            replace HE := Lib.hid (errG_keep HE.out hb)
            replace R1 := Lib.hid (rd_keep R1.out hb)
            replace R2 := Lib.hid (rd_keep R2.out hb)
            replace HW := Lib.hid (HW.out.trans (hb.mono HW.out.size))
            replace HP := Lib.hid (HP.out.trans (hb.mono HP.out.size))
            clear hb
            refine wpAnyH_take (i := 2) (v := ?v18) rfl (by kernel_rfl) (by kernel_rfl) (by kernel_rfl) (fun _ _ _ h => h) (Or.inl ⟨by rfl, ?hy18⟩) hHeld ?rest18
            case hy18 => (intro w hSw; (try dsimp only at hSw); (try go_split_ands); go_simp; first | done | with_reducible rfl)
            (try simp only [List.getElem_toArray]); (try simp only [List.getElem_cons_succ]); (try simp only [List.getElem_cons_zero]); (try simp only [Act.put]); (try simp only [List.setIfInBounds_toArray]); (try simp only [List.set_cons_succ]); (try simp only [List.set_cons_zero])
            refine wpAnyH_take (i := 3) (v := ?v19) rfl (by kernel_rfl) (by kernel_rfl) (by kernel_rfl) (fun _ _ _ h => h) (Or.inl ⟨by rfl, ?hy19⟩) hHeld ?rest19
            case hy19 => (intro w hSw; (try dsimp only at hSw); (try go_split_ands); go_simp; first | done | with_reducible rfl)
            (try simp only [List.getElem_toArray]); (try simp only [List.getElem_cons_succ]); (try simp only [List.getElem_cons_zero]); (try simp only [Act.put]); (try simp only [List.setIfInBounds_toArray]); (try simp only [List.set_cons_succ]); (try simp only [List.set_cons_zero])
            refine wpAnyH_take (i := 4) (v := ?v20) rfl (by kernel_rfl) (by kernel_rfl) (by kernel_rfl) (fun _ _ _ h => h) (Or.inl ⟨by rfl, ?hy20⟩) hHeld ?rest20
            case hy20 => (intro w hSw; (try dsimp only at hSw); (try go_split_ands); go_simp; first | done | with_reducible rfl)
            (try simp only [List.getElem_toArray]); (try simp only [List.getElem_cons_succ]); (try simp only [List.getElem_cons_zero]); (try simp only [Act.put]); (try simp only [List.setIfInBounds_toArray]); (try simp only [List.set_cons_succ]); (try simp only [List.set_cons_zero])
            refine wpAnyH_take (i := 5) (v := ?v21) rfl (by kernel_rfl) (by kernel_rfl) (by kernel_rfl) (fun _ _ _ h => h) (Or.inl ⟨by rfl, ?hy21⟩) hHeld ?rest21
            case hy21 => (intro w hSw; (try dsimp only at hSw); (try go_split_ands); go_simp; first | done | with_reducible rfl)
            (try simp only [List.getElem_toArray]); (try simp only [List.getElem_cons_succ]); (try simp only [List.getElem_cons_zero]); (try simp only [Act.put]); (try simp only [List.setIfInBounds_toArray]); (try simp only [List.set_cons_succ]); (try simp only [List.set_cons_zero])
            refine wpAnyH_take (i := 6) (v := ?v22) rfl (by kernel_rfl) (by kernel_rfl) (by kernel_rfl) (fun _ _ _ h => h) (Or.inl ⟨by rfl, ?hy22⟩) hHeld ?rest22
            case hy22 => (intro w hSw; (try dsimp only at hSw); (try go_split_ands); go_simp; first | done | with_reducible rfl)
            (try simp only [List.getElem_toArray]); (try simp only [List.getElem_cons_succ]); (try simp only [List.getElem_cons_zero]); (try simp only [Act.put]); (try simp only [List.setIfInBounds_toArray]); (try simp only [List.set_cons_succ]); (try simp only [List.set_cons_zero])
            refine wpAnyH_take (i := 7) (v := ?v23) rfl (by kernel_rfl) (by kernel_rfl) (by kernel_rfl) (fun _ _ _ h => h) (Or.inl ⟨by rfl, ?hy23⟩) hHeld ?rest23
            case hy23 => (intro w hSw; (try dsimp only at hSw); (try go_split_ands); go_simp; first | done | with_reducible rfl)
            (try simp only [List.getElem_toArray]); (try simp only [List.getElem_cons_succ]); (try simp only [List.getElem_cons_zero]); (try simp only [Act.put]); (try simp only [List.setIfInBounds_toArray]); (try simp only [List.set_cons_succ]); (try simp only [List.set_cons_zero])
            refine wpAnyH_take (i := 0) rfl (by kernel_rfl) (by kernel_rfl) (by kernel_rfl) (fun _ _ _ h => h) (yieldsIf_load_row (by rfl) 24 _ rfl _ rfl 24 _ (0, 0) _ (fun _ h => h.1) Tryd.underlying24 rfl (by kernel_rfl)) hHeld ?_
            (try simp only [List.getElem_toArray]); (try simp only [List.getElem_cons_succ]); (try simp only [List.getElem_cons_zero]); (try simp only [Act.put]); (try simp only [List.setIfInBounds_toArray]); (try simp only [List.set_cons_succ]); (try simp only [List.set_cons_zero])
            refine wpAnyH_ready (rs := [1]) (by kernel_rfl) (by simp) ?_
            refine AllReadyH.cons rfl (fun K hK => ?_) AllReadyH.nil
            go_simp
            refine (its_gn l HD.out.ok most room _ V27 HG.out).mono ?_
            rintro e V28 ⟨aox, capx, rfl, hx1, hb⟩
            replace BD := Lib.hid ((hb.block _ (lt_some BD.out)).trans BD.out)
            replace HG := Lib.hid (HG.out.keep hb)
            replace HB := Lib.hid (HB.out.trans (hb.mono HB.out.size))
            replace HE := Lib.hid (errG_keep HE.out hb)
            replace R1 := Lib.hid (rd_keep R1.out hb)
            replace R2 := Lib.hid (rd_keep R2.out hb)
            replace HW := Lib.hid (HW.out.trans (hb.mono HW.out.size))
            replace HP := Lib.hid (HP.out.trans (hb.mono HP.out.size))
            clear hb hHeld
            have X1 := Lib.hid (hx1)
            clear hx1
            go_wp2_with fail
            refine hK.out _ _ ⟨BD.out, HCP.out _ HP.out, trivial⟩ (fun hHeld => ?_)
            clear hK K
            (try simp only [List.getElem_toArray]); (try simp only [List.getElem_cons_succ]); (try simp only [List.getElem_cons_zero]); (try simp only [Act.put]); (try simp only [List.setIfInBounds_toArray]); (try simp only [List.set_cons_succ]); (try simp only [List.set_cons_zero])
            refine wpAnyH_ready (rs := [8]) (by kernel_rfl) (by simp) ?_
            refine AllReadyH.cons rfl (fun K hK => ?_) AllReadyH.nil
            go_simp
            refine (rnode_x l HDW.out most room i x p hpl2 HWN.out _ V28 X1.out).mono ?_
            rintro e V29 ⟨rfl, hb⟩
            replace BD := Lib.hid ((hb.block _ (lt_some BD.out)).trans BD.out)
            replace HG := Lib.hid (HG.out.keep hb)
            replace HB := Lib.hid (HB.out.trans (hb.mono HB.out.size))
            replace HE := Lib.hid (errG_keep HE.out hb)
            replace R1 := Lib.hid (rd_keep R1.out hb)
            replace R2 := Lib.hid (rd_keep R2.out hb)
            replace HW := Lib.hid (HW.out.trans (hb.mono HW.out.size))
            replace HP := Lib.hid (HP.out.trans (hb.mono HP.out.size))
            replace X1 := Lib.hid (X1.out.keep hb)
            clear hb hHeld
            go_wp2_with fail
            refine hK.out _ _ ⟨BD.out, HCP.out _ HP.out, trivial⟩ (fun hHeld => ?_)
            clear hK K
            (try simp only [List.getElem_toArray]); (try simp only [List.getElem_cons_succ]); (try simp only [List.getElem_cons_zero]); (try simp only [Act.put]); (try simp only [List.setIfInBounds_toArray]); (try simp only [List.set_cons_succ]); (try simp only [List.set_cons_zero])
            refine wpAnyH_take (i := 9) (v := ?v24) rfl (by kernel_rfl) (by kernel_rfl) (by kernel_rfl) (fun _ _ _ h => h) (Or.inl ⟨by rfl, ?hy24⟩) hHeld ?rest24
            case hy24 => (intro w hSw; (try dsimp only at hSw); (try go_split_ands); go_simp; first | done | with_reducible rfl)
            (try simp only [List.getElem_toArray]); (try simp only [List.getElem_cons_succ]); (try simp only [List.getElem_cons_zero]); (try simp only [Act.put]); (try simp only [List.setIfInBounds_toArray]); (try simp only [List.set_cons_succ]); (try simp only [List.set_cons_zero])
            refine wpAnyH_take (i := 10) (v := ?v25) rfl (by kernel_rfl) (by kernel_rfl) (by kernel_rfl) (fun _ _ _ h => h) (Or.inl ⟨by rfl, ?hy25⟩) hHeld ?rest25
            case hy25 => (intro w hSw; (try dsimp only at hSw); (try go_split_ands); go_simp; first | done | with_reducible rfl)
            (try simp only [List.getElem_toArray]); (try simp only [List.getElem_cons_succ]); (try simp only [List.getElem_cons_zero]); (try simp only [Act.put]); (try simp only [List.setIfInBounds_toArray]); (try simp only [List.set_cons_succ]); (try simp only [List.set_cons_zero])
            refine wpAnyH_take (i := 11) (v := ?v26) rfl (by kernel_rfl) (by kernel_rfl) (by kernel_rfl) (fun _ _ _ h => h) (Or.inl ⟨by rfl, ?hy26⟩) hHeld ?rest26
            case hy26 => (intro w hSw; (try dsimp only at hSw); (try go_split_ands); go_simp; first | done | with_reducible rfl)
            (try simp only [List.getElem_toArray]); (try simp only [List.getElem_cons_succ]); (try simp only [List.getElem_cons_zero]); (try simp only [Act.put]); (try simp only [List.setIfInBounds_toArray]); (try simp only [List.set_cons_succ]); (try simp only [List.set_cons_zero])
            refine wpAnyH_take (i := 12) (v := ?v27) rfl (by kernel_rfl) (by kernel_rfl) (by kernel_rfl) (fun _ _ _ h => h) (Or.inl ⟨by rfl, ?hy27⟩) hHeld ?rest27
            case hy27 => (intro w hSw; (try dsimp only at hSw); (try go_split_ands); go_simp; first | done | with_reducible rfl)
            (try simp only [List.getElem_toArray]); (try simp only [List.getElem_cons_succ]); (try simp only [List.getElem_cons_zero]); (try simp only [Act.put]); (try simp only [List.setIfInBounds_toArray]); (try simp only [List.set_cons_succ]); (try simp only [List.set_cons_zero])
            refine wpAnyH_take (i := 13) (v := ?v28) rfl (by kernel_rfl) (by kernel_rfl) (by kernel_rfl) (fun _ _ _ h => h) (Or.inl ⟨by rfl, ?hy28⟩) hHeld ?rest28
            case hy28 => (intro w hSw; (try dsimp only at hSw); (try go_split_ands); go_simp; first | done | with_reducible rfl)
            (try simp only [List.getElem_toArray]); (try simp only [List.getElem_cons_succ]); (try simp only [List.getElem_cons_zero]); (try simp only [Act.put]); (try simp only [List.setIfInBounds_toArray]); (try simp only [List.set_cons_succ]); (try simp only [List.set_cons_zero])
            refine wpAnyH_done (by kernel_rfl) ?_ _
            have cx := HCX.out _ HP.out
            have x1 : (x == x) = true := beq_self_eq_true _
            have x2 : decide (x = x) = true := decide_eq_true rfl
            go_wp2_with fail
            go_roundw
            case rel => exact ⟨a + 1, by go_num, hlt, HW⟩
            case measure => simp [RowKit.intOf]; omega
      · have iL : decide (a < (listT l i).length) = false := decide_eq_false hlt
        have iL2 : decide ((a : Int) < ((listT l i).length : Int)) = false := decide_eq_false (by omega)
        clear hlt
        go_wp2_with fail
        go_ret
        exact ⟨rfl, HB.out⟩
end Go.Proofs.YtilhiafmljmljaaDoor
