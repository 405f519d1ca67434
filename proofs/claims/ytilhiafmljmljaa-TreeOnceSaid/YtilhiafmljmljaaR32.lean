import Derived.Test.YtilhiafmljmljaaR29
import Derived.Deep.DeepCutAuto
namespace Go.Proofs.Ytilhiafmljmljaa
open Go.RowKit Go.Shelf
attribute [local go_sem ↓] Go.wp_at_zero Go.wp_at_succ
theorem rget_gn (l : List NodeL) (h : TreeOk l) (most room i : Int) (v : Value) (w : World) (hg : GivesN l v w) :
    Calls Try.prog 21 #[.agg #[v, .int .i64 most, .int .i64 room], .int .i64 i] w fun e w' => ∃ ao cap, e = .returned (.tuple #[nval (getL l i) (.slice ao (getL l i).names.length cap), .bool (gotB l i)]) ∧ Rd w'.heap.size 2 (.slice ao (getL l i).names.length cap) (getL l i).names.length (ents (getL l i).names) w' ∧ Below w.heap.size w w' := by
  obtain ⟨ms, rfl, hv⟩ := hg
  refine (rget_any v ms most room i w hv (by have := h.len; rw [pl_len] at this; omega)).mono ?_
  rintro e w2 ⟨vn, rfl, hrn, hb⟩
  obtain ⟨aon, capn, ev, _, _⟩ := Rd.form hrn
  dsimp only at ev
  subst ev
  exact ⟨aon, capn, rfl, hrn, hb⟩
theorem rused_gn (l : List NodeL) (h : TreeOk l) (most room : Int) (v : Value) (w : World) (hg : GivesN l v w) :
    Calls Try.prog 22 #[.agg #[v, .int .i64 most, .int .i64 room]] w fun e w' => e = .returned (.int .i64 (usedL l)) ∧ Below w.heap.size w w' := by
  obtain ⟨ms, rfl, hv⟩ := hg
  exact rused_any v ms most room w hv (by have := h.len; rw [pl_len] at this; omega)
set_option maxRecDepth 100000 in
set_option maxHeartbeats 4000000 in
theorem treeOnce_w (ms : List NodeM) (most room : Int) (i : Int) (v : Value) (w : World) (hv : RdM w.heap.size v ms w) (hfit : FitD (pl ms)) :
    Calls Try.prog 5 #[.agg #[v, .int .i64 most, .int .i64 room], .int .i64 i] w fun e w' => e = .returned (.bool true) ∧ Below w.heap.size w w' := by
  have HQ := Lib.hid fun W (hb : Below w.heap.size w W) => right_q v ms most room W (rdm_keep hv hb) hfit
  have HG := Lib.hid (show GivesN (pl ms) v w from ⟨ms, rfl, hv⟩)
  have HFit := Lib.hid hfit
  obtain ⟨ao, cap, rfl, _, _⟩ := rdm_form hv
  have hml : ms.length = (pl ms).length := (pl_len ms).symm
  rw [hml] at HQ HG ⊢
  clear hv hfit hml
  generalize pl ms = l at *
  go_enter Try.func5, Try.ntmps5
  go_upto_region 1 with (fail)
  refine code_fresh1 ?_
  intro W1 hb hA hs
  have BD := Lib.hid (hA)
  replace HG := Lib.hid (HG.out.keep hb)
  have HB := Lib.hid hb
  clear hb hA hs
  have hA := BD.out
  obtain ⟨d0, d1, d2⟩ := cells3 hA
  go_wp2_with fail
  clear d0 d1 d2 hA
  refine (HQ.out _ HB.out).mono ?_
  rintro e V1 ⟨rfl, hb⟩
  replace BD := Lib.hid ((hb.block _ (lt_some BD.out)).trans BD.out)
  replace HG := Lib.hid (HG.out.keep hb)
  replace HB := Lib.hid (HB.out.trans (hb.mono HB.out.size))
  clear hb
  clear HQ
  cases hq : rightQ l most room with
  | false =>
    clear hq
    go_wp2_with fail
    refine (shown_c V1).mono ?_
    rintro e Z ⟨rfl, hb⟩
    go_wp2_with fail
    go_ret
    exact ⟨rfl, ret_tr HB.out hb⟩
  | true =>
    have HD := Lib.hid (tree_d hq HFit.out)
    clear hq HFit
    go_wp2_with fail
    refine (shown_c V1).mono ?_
    rintro e V2 ⟨rfl, hb⟩
    replace BD := Lib.hid ((hb.block _ (lt_some BD.out)).trans BD.out)
    replace HG := Lib.hid (HG.out.keep hb)
    replace HB := Lib.hid (HB.out.trans (hb.mono HB.out.size))
    clear hb
    have hA := BD.out
    obtain ⟨d0, d1, d2⟩ := cells3 hA
    go_wp2_with fail
    clear d0 d1 d2 hA
    refine (inside_g l most room i HD.out.ok _ V2 HG.out).mono ?_
    rintro e V3 ⟨ao1, cap1, rfl, hr, hb⟩
    replace BD := Lib.hid ((hb.block _ (lt_some BD.out)).trans BD.out)
    replace HG := Lib.hid (HG.out.keep hb)
    replace HB := Lib.hid (HB.out.trans (hb.mono HB.out.size))
    clear hb
    have R1 := Lib.hid (hr)
    clear hr
    have hmany : (insideT l i).length ≤ 9999 := by have := HD.out.ok.many i; rwa [list_inside HD.out.ok.rig] at this
    have q1 : decide ((10000 : Int) < ((insideT l i).length : Int)) = false := decide_eq_false (by omega)
    have q2 : decide (10000 < (insideT l i).length) = false := decide_eq_false (by omega)
    go_wp2_with fail
    clear q1 q2
    have HW := Lib.hid (Below.refl V3.heap.size V3)
    go_loopw [6] (fun i0 wr => ∃ a : Nat, i0 = .int .i64 a ∧ a ≤ (insideT l i).length ∧ Hid (Below V3.heap.size V3 wr)) (fun i0 _ => (insideT l i).length - (RowKit.intOf i0).toNat)
    case atStart => exact ⟨0, rfl, Nat.zero_le _, HW⟩
    case round =>
      clear HW
      obtain ⟨a, rfl, ha, HW⟩ := hrel
      have hb := HW.out
      replace BD := Lib.hid ((hb.block _ (lt_some BD.out)).trans BD.out)
      replace HG := Lib.hid (HG.out.keep hb)
      replace HB := Lib.hid (HB.out.trans (hb.mono HB.out.size))
      replace R1 := Lib.hid (rd_keep R1.out hb)
      clear hb
      have hw0 : w.heap.size < wr.heap.size := lt_some BD.out
      by_cases hlt : a < (insideT l i).length
      · have iL : decide (a < (insideT l i).length) = true := decide_eq_true hlt
        have iL2 : decide ((a : Int) < ((insideT l i).length : Int)) = true := decide_eq_true (by omega)
        have a0 : (0 : Int) ≤ (a : Int) := by omega
        have a1 : (a : Int) < ((insideT l i).length : Int) := by omega
        have wa : IntKind.i64.wrap ((a : Int) + 1) = (a : Int) + 1 := Go.IntWalk.i64_in _ (by omega)
        obtain ⟨bI, oI, cI, eI, _, _, hbI, _, hcI⟩ := Rd.at R1.out (by omega)
        injection eI with eI1 _ eI2
        subst eI1
        subst eI2
        obtain ⟨x, hx⟩ : ∃ x, x = (insideT l i)[a] := ⟨_, rfl⟩
        have cx := hcI _ _ (ints_at _ a hlt)
        rw [← hx] at cx
        have hgx : gotB l x = true := by rw [hx]; exact inside_all HD.out.ok.rig _ (List.getElem_mem hlt)
        have HX := Lib.hid hx
        have HGX := Lib.hid hgx
        clear hx hgx hcI
        go_upto_region 9 with (fail)
        clear iL iL2
        go_cut [7, 8] (fun s7 s8 wx => ∃ bn aon capn, s7 = .pointer (some ⟨bn, 0, none⟩) ∧ s8 = .bool true ∧ Hid (wx.heap[bn]? = some (.cells #[.int .i64 (getL l x).kind, .int .i64 (getL l x).mode, .int .i64 (getL l x).owner, .int .i64 (getL l x).links, .int .i64 (getL l x).opn, .int .i64 (getL l x).up, .string (bs (getL l x).data), .slice aon (getL l x).names.length capn] 49 (0, 0))) ∧ Hid (Below wr.heap.size wr wx))
        case first =>
          have HP := Lib.hid (Below.refl wr.heap.size wr)
          have HCX := Lib.hid (show ∀ V : World, Below wr.heap.size wr V → V.cell? ⟨bI, oI + a, none⟩ = some (.int .i64 x) from fun V hb => (hb.cell (p := ⟨bI, oI + a, none⟩) hbI).trans cx)
          refine wp_region_held_drew (S := fun V => V.heap[w.heap.size]? = some (.cells #[.slice ao l.length cap, .int .i64 most, .int .i64 room] 24 (0, 0)) ∧ V.cell? ⟨bI, oI + a, none⟩ = some (.int .i64 x) ∧ True) (by kernel_rfl) ⟨BD.out, (HCX.out _ (Below.refl _ _).drew), trivial⟩ (fun hHeld => ?_)
          have hb := (Below.refl wr.heap.size wr).drew
          generalize wr.drew = V24 at *
          replace BD := Lib.hid ((hb.block _ (lt_some BD.out)).trans BD.out)
          replace HG := Lib.hid (HG.out.keep hb)
          replace HB := Lib.hid (HB.out.trans (hb.mono HB.out.size))
          replace R1 := Lib.hid (rd_keep R1.out hb)
          replace HW := Lib.hid (HW.out.trans (hb.mono HW.out.size))
          replace HP := Lib.hid (HP.out.trans (hb.mono HP.out.size))
          clear hb
          refine wpAnyH_take (i := 2) (v := ?v7) rfl (by kernel_rfl) (by kernel_rfl) (by kernel_rfl) (fun _ _ _ h => h) (Or.inl ⟨by rfl, ?hy7⟩) hHeld ?rest7
          case hy7 => (intro w hSw; (try dsimp only at hSw); (try go_split_ands); go_simp; first | done | with_reducible rfl)
          (try simp only [List.getElem_toArray]); (try simp only [List.getElem_cons_succ]); (try simp only [List.getElem_cons_zero]); (try simp only [Act.put]); (try simp only [List.setIfInBounds_toArray]); (try simp only [List.set_cons_succ]); (try simp only [List.set_cons_zero])
          refine wpAnyH_take (i := 3) (v := ?v8) rfl (by kernel_rfl) (by kernel_rfl) (by kernel_rfl) (fun _ _ _ h => h) (Or.inl ⟨by rfl, ?hy8⟩) hHeld ?rest8
          case hy8 => (intro w hSw; (try dsimp only at hSw); (try go_split_ands); go_simp; first | done | with_reducible rfl)
          (try simp only [List.getElem_toArray]); (try simp only [List.getElem_cons_succ]); (try simp only [List.getElem_cons_zero]); (try simp only [Act.put]); (try simp only [List.setIfInBounds_toArray]); (try simp only [List.set_cons_succ]); (try simp only [List.set_cons_zero])
          refine wpAnyH_take (i := 4) (v := ?v9) rfl (by kernel_rfl) (by kernel_rfl) (by kernel_rfl) (fun _ _ _ h => h) (Or.inl ⟨by rfl, ?hy9⟩) hHeld ?rest9
          case hy9 => (intro w hSw; (try dsimp only at hSw); (try go_split_ands); go_simp; first | done | with_reducible rfl)
          (try simp only [List.getElem_toArray]); (try simp only [List.getElem_cons_succ]); (try simp only [List.getElem_cons_zero]); (try simp only [Act.put]); (try simp only [List.setIfInBounds_toArray]); (try simp only [List.set_cons_succ]); (try simp only [List.set_cons_zero])
          refine wpAnyH_take (i := 5) (v := ?v10) rfl (by kernel_rfl) (by kernel_rfl) (by kernel_rfl) (fun _ _ _ h => h) (Or.inl ⟨by rfl, ?hy10⟩) hHeld ?rest10
          case hy10 => (intro w hSw; (try dsimp only at hSw); (try go_split_ands); go_simp; first | done | with_reducible rfl)
          (try simp only [List.getElem_toArray]); (try simp only [List.getElem_cons_succ]); (try simp only [List.getElem_cons_zero]); (try simp only [Act.put]); (try simp only [List.setIfInBounds_toArray]); (try simp only [List.set_cons_succ]); (try simp only [List.set_cons_zero])
          refine wpAnyH_take (i := 0) rfl (by kernel_rfl) (by kernel_rfl) (by kernel_rfl) (fun _ _ _ h => h) (yieldsIf_load_row (by rfl) 24 _ rfl _ rfl 24 _ (0, 0) _ (fun _ h => h.1) Try.underlying24 rfl (by kernel_rfl)) hHeld ?_
          (try simp only [List.getElem_toArray]); (try simp only [List.getElem_cons_succ]); (try simp only [List.getElem_cons_zero]); (try simp only [Act.put]); (try simp only [List.setIfInBounds_toArray]); (try simp only [List.set_cons_succ]); (try simp only [List.set_cons_zero])
          refine wpAnyH_ready (rs := [1, 10]) (by kernel_rfl) (by simp) ?_
          refine AllReadyH.cons rfl (fun K hK => ?_) (AllReadyH.cons rfl (fun K hK => ?_) AllReadyH.nil)
          · go_simp
            refine (its_gn l HD.out.ok most room _ V24 HG.out).mono ?_
            rintro e V25 ⟨aox, capx, rfl, hx1, hb⟩
            replace BD := Lib.hid ((hb.block _ (lt_some BD.out)).trans BD.out)
            replace HG := Lib.hid (HG.out.keep hb)
            replace HB := Lib.hid (HB.out.trans (hb.mono HB.out.size))
            replace R1 := Lib.hid (rd_keep R1.out hb)
            replace HW := Lib.hid (HW.out.trans (hb.mono HW.out.size))
            replace HP := Lib.hid (HP.out.trans (hb.mono HP.out.size))
            clear hb hHeld
            have X1 := Lib.hid (hx1)
            clear hx1
            go_wp2_with fail
            refine hK.out _ _ ⟨BD.out, HCX.out _ HP.out, trivial⟩ (fun hHeld => ?_)
            clear hK K
            (try simp only [List.getElem_toArray]); (try simp only [List.getElem_cons_succ]); (try simp only [List.getElem_cons_zero]); (try simp only [Act.put]); (try simp only [List.setIfInBounds_toArray]); (try simp only [List.set_cons_succ]); (try simp only [List.set_cons_zero])
            refine wpAnyH_ready (rs := [6, 10]) (by kernel_rfl) (by simp) ?_
            refine AllReadyH.cons rfl (fun K hK => ?_) (AllReadyH.cons rfl (fun K hK => ?_) AllReadyH.nil)
            · go_simp
              refine (rget_gn l HD.out.ok most room x _ V25 X1.out).mono ?_
              rintro e V26 ⟨aon, capn, rfl, hrn, hb⟩
              replace BD := Lib.hid ((hb.block _ (lt_some BD.out)).trans BD.out)
              replace HG := Lib.hid (HG.out.keep hb)
              replace HB := Lib.hid (HB.out.trans (hb.mono HB.out.size))
              replace R1 := Lib.hid (rd_keep R1.out hb)
              replace HW := Lib.hid (HW.out.trans (hb.mono HW.out.size))
              replace HP := Lib.hid (HP.out.trans (hb.mono HP.out.size))
              replace X1 := Lib.hid (X1.out.keep hb)
              clear hb hHeld hrn
              go_wp2_with fail
              refine hK.out _ _ ⟨BD.out, HCX.out _ HP.out, trivial⟩ (fun hHeld => ?_)
              clear hK K
              (try simp only [List.getElem_toArray]); (try simp only [List.getElem_cons_succ]); (try simp only [List.getElem_cons_zero]); (try simp only [Act.put]); (try simp only [List.setIfInBounds_toArray]); (try simp only [List.set_cons_succ]); (try simp only [List.set_cons_zero])
              refine wpAnyH_take (i := 7) (v := ?v11) rfl (by kernel_rfl) (by kernel_rfl) (by kernel_rfl) (fun _ _ _ h => h) (Or.inl ⟨by rfl, ?hy11⟩) hHeld ?rest11
              case hy11 => (intro w hSw; (try dsimp only at hSw); (try go_split_ands); go_simp; first | done | with_reducible rfl)
              (try simp only [List.getElem_toArray]); (try simp only [List.getElem_cons_succ]); (try simp only [List.getElem_cons_zero]); (try simp only [Act.put]); (try simp only [List.setIfInBounds_toArray]); (try simp only [List.set_cons_succ]); (try simp only [List.set_cons_zero])
              refine wpAnyH_take (i := 8) (v := ?v12) rfl (by kernel_rfl) (by kernel_rfl) (by kernel_rfl) (fun _ _ _ h => h) (Or.inl ⟨by rfl, ?hy12⟩) hHeld ?rest12
              case hy12 => (intro w hSw; (try dsimp only at hSw); (try go_split_ands); go_simp; first | done | with_reducible rfl)
              (try simp only [List.getElem_toArray]); (try simp only [List.getElem_cons_succ]); (try simp only [List.getElem_cons_zero]); (try simp only [Act.put]); (try simp only [List.setIfInBounds_toArray]); (try simp only [List.set_cons_succ]); (try simp only [List.set_cons_zero])
              refine wpAnyH_take (i := 9) (v := ?v13) rfl (by kernel_rfl) (by kernel_rfl) (by kernel_rfl) (fun _ _ _ h => h) (Or.inl ⟨by rfl, ?hy13⟩) hHeld ?rest13
              case hy13 => (intro w hSw; (try dsimp only at hSw); (try go_split_ands); go_simp; first | done | with_reducible rfl)
              (try simp only [List.getElem_toArray]); (try simp only [List.getElem_cons_succ]); (try simp only [List.getElem_cons_zero]); (try simp only [Act.put]); (try simp only [List.setIfInBounds_toArray]); (try simp only [List.set_cons_succ]); (try simp only [List.set_cons_zero])
              refine wpAnyH_ready (rs := [10]) (by kernel_rfl) (by simp) ?_
              refine AllReadyH.cons rfl (fun K hK => ?_) AllReadyH.nil
              go_simp
              refine fresh1 (P := fun W => K _ W) ?_
              intro V27 hb hA hs
              have hbn : wr.heap.size ≤ V26.heap.size := HP.out.size
              have hltB : V26.heap.size ≤ V26.heap.size := Nat.le_refl _
              replace BD := Lib.hid ((hb.block _ (lt_some BD.out)).trans BD.out)
              replace HG := Lib.hid (HG.out.keep hb)
              replace HB := Lib.hid (HB.out.trans (hb.mono HB.out.size))
              replace R1 := Lib.hid (rd_keep R1.out hb)
              replace HW := Lib.hid (HW.out.trans (hb.mono HW.out.size))
              replace HP := Lib.hid (HP.out.trans (hb.mono HP.out.size))
              replace X1 := Lib.hid (X1.out.keep hb)
              have NB := Lib.hid hA
              have NB0 := Lib.hid (show wr.heap.size ≤ V26.heap.size from hbn)
              skip
              clear hA hs hb hbn hltB hHeld
              refine hK.out _ _ ⟨BD.out, HCX.out _ HP.out, trivial⟩ (fun hHeld => ?_)
              clear hK K
              (try simp only [List.getElem_toArray]); (try simp only [List.getElem_cons_succ]); (try simp only [List.getElem_cons_zero]); (try simp only [Act.put]); (try simp only [List.setIfInBounds_toArray]); (try simp only [List.set_cons_succ]); (try simp only [List.set_cons_zero])
              refine wpAnyH_ready (rs := [11]) (by kernel_rfl) (by simp) ?_
              refine AllReadyH.cons rfl (fun K hK => ?_) AllReadyH.nil
              rw [if_pos (by rfl)]
              refine wp_store_row 49 _ _ rfl _ rfl rfl NB.out rfl (by kernel_rfl) rfl ?_
              intro V28 hb hg hs hn
              have hbN := NB0.out
              have BD2 := Lib.hid ((hg _ (by omega)).trans BD.out)
              have HP2 := Lib.hid (HP.out.trans (hb.mono hbN))
              have NB2 := Lib.hid hn
              clear hb hg hs hn BD HP NB
              refine hK.out _ _ ⟨BD2.out, HCX.out _ HP2.out, trivial⟩ (fun hHeld => ?_)
              clear hK K
              (try simp only [List.getElem_toArray]); (try simp only [List.getElem_cons_succ]); (try simp only [List.getElem_cons_zero]); (try simp only [Act.put]); (try simp only [List.setIfInBounds_toArray]); (try simp only [List.set_cons_succ]); (try simp only [List.set_cons_zero])
              refine wpAnyH_take (i := 12) (v := ?v14) rfl (by kernel_rfl) (by kernel_rfl) (by kernel_rfl) (fun _ _ _ h => h) (Or.inl ⟨by rfl, ?hy14⟩) hHeld ?rest14
              case hy14 => (intro w hSw; (try dsimp only at hSw); (try go_split_ands); go_simp; first | done | with_reducible rfl)
              (try simp only [List.getElem_toArray]); (try simp only [List.getElem_cons_succ]); (try simp only [List.getElem_cons_zero]); (try simp only [Act.put]); (try simp only [List.setIfInBounds_toArray]); (try simp only [List.set_cons_succ]); (try simp only [List.set_cons_zero])
              refine wpAnyH_done (by kernel_rfl) ?_ _
              go_wp2_with fail
              go_meet
              exact ⟨_, _, _, rfl, by rw [HGX.out], NB2, HP2⟩
            · go_simp
              refine fresh1 (P := fun W => K _ W) ?_
              intro V26 hb hA hs
              have hbn : wr.heap.size ≤ V25.heap.size := HP.out.size
              have hltB : V25.heap.size ≤ V25.heap.size := Nat.le_refl _
              replace BD := Lib.hid ((hb.block _ (lt_some BD.out)).trans BD.out)
              replace HG := Lib.hid (HG.out.keep hb)
              replace HB := Lib.hid (HB.out.trans (hb.mono HB.out.size))
              replace R1 := Lib.hid (rd_keep R1.out hb)
              replace HW := Lib.hid (HW.out.trans (hb.mono HW.out.size))
              replace HP := Lib.hid (HP.out.trans (hb.mono HP.out.size))
              replace X1 := Lib.hid (X1.out.keep hb)
              have NB := Lib.hid hA
              have NB0 := Lib.hid (show wr.heap.size ≤ V25.heap.size from hbn)
              skip
              clear hA hs hb hbn hltB hHeld
              refine hK.out _ _ ⟨BD.out, HCX.out _ HP.out, trivial⟩ (fun hHeld => ?_)
              clear hK K
              (try simp only [List.getElem_toArray]); (try simp only [List.getElem_cons_succ]); (try simp only [List.getElem_cons_zero]); (try simp only [Act.put]); (try simp only [List.setIfInBounds_toArray]); (try simp only [List.set_cons_succ]); (try simp only [List.set_cons_zero])
              refine wpAnyH_ready (rs := [6]) (by kernel_rfl) (by simp) ?_
              refine AllReadyH.cons rfl (fun K hK => ?_) AllReadyH.nil
              go_simp
              refine (rget_gn l HD.out.ok most room x _ V26 X1.out).mono ?_
              rintro e V27 ⟨aon, capn, rfl, hrn, hb⟩
              replace BD := Lib.hid ((hb.block _ (lt_some BD.out)).trans BD.out)
              replace HG := Lib.hid (HG.out.keep hb)
              replace HB := Lib.hid (HB.out.trans (hb.mono HB.out.size))
              replace R1 := Lib.hid (rd_keep R1.out hb)
              replace HW := Lib.hid (HW.out.trans (hb.mono HW.out.size))
              replace HP := Lib.hid (HP.out.trans (hb.mono HP.out.size))
              replace X1 := Lib.hid (X1.out.keep hb)
              replace NB := Lib.hid ((hb.block _ (lt_some NB.out)).trans NB.out)
              clear hb hHeld hrn
              go_wp2_with fail
              refine hK.out _ _ ⟨BD.out, HCX.out _ HP.out, trivial⟩ (fun hHeld => ?_)
              clear hK K
              (try simp only [List.getElem_toArray]); (try simp only [List.getElem_cons_succ]); (try simp only [List.getElem_cons_zero]); (try simp only [Act.put]); (try simp only [List.setIfInBounds_toArray]); (try simp only [List.set_cons_succ]); (try simp only [List.set_cons_zero])
              refine wpAnyH_take (i := 7) (v := ?v15) rfl (by kernel_rfl) (by kernel_rfl) (by kernel_rfl) (fun _ _ _ h => h) (Or.inl ⟨by rfl, ?hy15⟩) hHeld ?rest15
              case hy15 => (intro w hSw; (try dsimp only at hSw); (try go_split_ands); go_simp; first | done | with_reducible rfl)
              (try simp only [List.getElem_toArray]); (try simp only [List.getElem_cons_succ]); (try simp only [List.getElem_cons_zero]); (try simp only [Act.put]); (try simp only [List.setIfInBounds_toArray]); (try simp only [List.set_cons_succ]); (try simp only [List.set_cons_zero])
              refine wpAnyH_take (i := 8) (v := ?v16) rfl (by kernel_rfl) (by kernel_rfl) (by kernel_rfl) (fun _ _ _ h => h) (Or.inl ⟨by rfl, ?hy16⟩) hHeld ?rest16
              case hy16 => (intro w hSw; (try dsimp only at hSw); (try go_split_ands); go_simp; first | done | with_reducible rfl)
              (try simp only [List.getElem_toArray]); (try simp only [List.getElem_cons_succ]); (try simp only [List.getElem_cons_zero]); (try simp only [Act.put]); (try simp only [List.setIfInBounds_toArray]); (try simp only [List.set_cons_succ]); (try simp only [List.set_cons_zero])
              refine wpAnyH_take (i := 9) (v := ?v17) rfl (by kernel_rfl) (by kernel_rfl) (by kernel_rfl) (fun _ _ _ h => h) (Or.inl ⟨by rfl, ?hy17⟩) hHeld ?rest17
              case hy17 => (intro w hSw; (try dsimp only at hSw); (try go_split_ands); go_simp; first | done | with_reducible rfl)
              (try simp only [List.getElem_toArray]); (try simp only [List.getElem_cons_succ]); (try simp only [List.getElem_cons_zero]); (try simp only [Act.put]); (try simp only [List.setIfInBounds_toArray]); (try simp only [List.set_cons_succ]); (try simp only [List.set_cons_zero])
              refine wpAnyH_ready (rs := [11]) (by kernel_rfl) (by simp) ?_
              refine AllReadyH.cons rfl (fun K hK => ?_) AllReadyH.nil
              rw [if_pos (by rfl)]
              refine wp_store_row 49 _ _ rfl _ rfl rfl NB.out rfl (by kernel_rfl) rfl ?_
              intro V28 hb hg hs hn
              have hbN := NB0.out
              have BD2 := Lib.hid ((hg _ (by omega)).trans BD.out)
              have HP2 := Lib.hid (HP.out.trans (hb.mono hbN))
              have NB2 := Lib.hid hn
              clear hb hg hs hn BD HP NB
              refine hK.out _ _ ⟨BD2.out, HCX.out _ HP2.out, trivial⟩ (fun hHeld => ?_)
              clear hK K
              (try simp only [List.getElem_toArray]); (try simp only [List.getElem_cons_succ]); (try simp only [List.getElem_cons_zero]); (try simp only [Act.put]); (try simp only [List.setIfInBounds_toArray]); (try simp only [List.set_cons_succ]); (try simp only [List.set_cons_zero])
              refine wpAnyH_take (i := 12) (v := ?v18) rfl (by kernel_rfl) (by kernel_rfl) (by kernel_rfl) (fun _ _ _ h => h) (Or.inl ⟨by rfl, ?hy18⟩) hHeld ?rest18
              case hy18 => (intro w hSw; (try dsimp only at hSw); (try go_split_ands); go_simp; first | done | with_reducible rfl)
              (try simp only [List.getElem_toArray]); (try simp only [List.getElem_cons_succ]); (try simp only [List.getElem_cons_zero]); (try simp only [Act.put]); (try simp only [List.setIfInBounds_toArray]); (try simp only [List.set_cons_succ]); (try simp only [List.set_cons_zero])
              refine wpAnyH_done (by kernel_rfl) ?_ _
              go_wp2_with fail
              go_meet
              exact ⟨_, _, _, rfl, by rw [HGX.out], NB2, HP2⟩
          · go_simp
            refine fresh1 (P := fun W => K _ W) ?_
            intro V25 hb hA hs
            have hbn : wr.heap.size ≤ V24.heap.size := HP.out.size
            have hltB : V24.heap.size ≤ V24.heap.size := Nat.le_refl _
            replace BD := Lib.hid ((hb.block _ (lt_some BD.out)).trans BD.out)
            replace HG := Lib.hid (HG.out.keep hb)
            replace HB := Lib.hid (HB.out.trans (hb.mono HB.out.size))
            replace R1 := Lib.hid (rd_keep R1.out hb)
            replace HW := Lib.hid (HW.out.trans (hb.mono HW.out.size))
            replace HP := Lib.hid (HP.out.trans (hb.mono HP.out.size))
            have NB := Lib.hid hA
            have NB0 := Lib.hid (show wr.heap.size ≤ V24.heap.size from hbn)
            skip
            clear hA hs hb hbn hltB hHeld
            refine hK.out _ _ ⟨BD.out, HCX.out _ HP.out, trivial⟩ (fun hHeld => ?_)
            clear hK K
            (try simp only [List.getElem_toArray]); (try simp only [List.getElem_cons_succ]); (try simp only [List.getElem_cons_zero]); (try simp only [Act.put]); (try simp only [List.setIfInBounds_toArray]); (try simp only [List.set_cons_succ]); (try simp only [List.set_cons_zero])
            refine wpAnyH_ready (rs := [1]) (by kernel_rfl) (by simp) ?_
            refine AllReadyH.cons rfl (fun K hK => ?_) AllReadyH.nil
            go_simp
            refine (its_gn l HD.out.ok most room _ V25 HG.out).mono ?_
            rintro e V26 ⟨aox, capx, rfl, hx1, hb⟩
            replace BD := Lib.hid ((hb.block _ (lt_some BD.out)).trans BD.out)
            replace HG := Lib.hid (HG.out.keep hb)
            replace HB := Lib.hid (HB.out.trans (hb.mono HB.out.size))
            replace R1 := Lib.hid (rd_keep R1.out hb)
            replace HW := Lib.hid (HW.out.trans (hb.mono HW.out.size))
            replace HP := Lib.hid (HP.out.trans (hb.mono HP.out.size))
            replace NB := Lib.hid ((hb.block _ (lt_some NB.out)).trans NB.out)
            clear hb hHeld
            have X1 := Lib.hid (hx1)
            clear hx1
            go_wp2_with fail
            refine hK.out _ _ ⟨BD.out, HCX.out _ HP.out, trivial⟩ (fun hHeld => ?_)
            clear hK K
            (try simp only [List.getElem_toArray]); (try simp only [List.getElem_cons_succ]); (try simp only [List.getElem_cons_zero]); (try simp only [Act.put]); (try simp only [List.setIfInBounds_toArray]); (try simp only [List.set_cons_succ]); (try simp only [List.set_cons_zero])
            refine wpAnyH_ready (rs := [6]) (by kernel_rfl) (by simp) ?_
            refine AllReadyH.cons rfl (fun K hK => ?_) AllReadyH.nil
            go_simp
            refine (rget_gn l HD.out.ok most room x _ V26 X1.out).mono ?_
            rintro e V27 ⟨aon, capn, rfl, hrn, hb⟩
            replace BD := Lib.hid ((hb.block _ (lt_some BD.out)).trans BD.out)
            replace HG := Lib.hid (HG.out.keep hb)
            replace HB := Lib.hid (HB.out.trans (hb.mono HB.out.size))
            replace R1 := Lib.hid (rd_keep R1.out hb)
            replace HW := Lib.hid (HW.out.trans (hb.mono HW.out.size))
            replace HP := Lib.hid (HP.out.trans (hb.mono HP.out.size))
            replace NB := Lib.hid ((hb.block _ (lt_some NB.out)).trans NB.out)
            replace X1 := Lib.hid (X1.out.keep hb)
            clear hb hHeld hrn
            go_wp2_with fail
            refine hK.out _ _ ⟨BD.out, HCX.out _ HP.out, trivial⟩ (fun hHeld => ?_)
            clear hK K
            (try simp only [List.getElem_toArray]); (try simp only [List.getElem_cons_succ]); (try simp only [List.getElem_cons_zero]); (try simp only [Act.put]); (try simp only [List.setIfInBounds_toArray]); (try simp only [List.set_cons_succ]); (try simp only [List.set_cons_zero])
            refine wpAnyH_take (i := 7) (v := ?v19) rfl (by kernel_rfl) (by kernel_rfl) (by kernel_rfl) (fun _ _ _ h => h) (Or.inl ⟨by rfl, ?hy19⟩) hHeld ?rest19
            case hy19 => (intro w hSw; (try dsimp only at hSw); (try go_split_ands); go_simp; first | done | with_reducible rfl)
            (try simp only [List.getElem_toArray]); (try simp only [List.getElem_cons_succ]); (try simp only [List.getElem_cons_zero]); (try simp only [Act.put]); (try simp only [List.setIfInBounds_toArray]); (try simp only [List.set_cons_succ]); (try simp only [List.set_cons_zero])
            refine wpAnyH_take (i := 8) (v := ?v20) rfl (by kernel_rfl) (by kernel_rfl) (by kernel_rfl) (fun _ _ _ h => h) (Or.inl ⟨by rfl, ?hy20⟩) hHeld ?rest20
            case hy20 => (intro w hSw; (try dsimp only at hSw); (try go_split_ands); go_simp; first | done | with_reducible rfl)
            (try simp only [List.getElem_toArray]); (try simp only [List.getElem_cons_succ]); (try simp only [List.getElem_cons_zero]); (try simp only [Act.put]); (try simp only [List.setIfInBounds_toArray]); (try simp only [List.set_cons_succ]); (try simp only [List.set_cons_zero])
            refine wpAnyH_take (i := 9) (v := ?v21) rfl (by kernel_rfl) (by kernel_rfl) (by kernel_rfl) (fun _ _ _ h => h) (Or.inl ⟨by rfl, ?hy21⟩) hHeld ?rest21
            case hy21 => (intro w hSw; (try dsimp only at hSw); (try go_split_ands); go_simp; first | done | with_reducible rfl)
            (try simp only [List.getElem_toArray]); (try simp only [List.getElem_cons_succ]); (try simp only [List.getElem_cons_zero]); (try simp only [Act.put]); (try simp only [List.setIfInBounds_toArray]); (try simp only [List.set_cons_succ]); (try simp only [List.set_cons_zero])
            refine wpAnyH_ready (rs := [11]) (by kernel_rfl) (by simp) ?_
            refine AllReadyH.cons rfl (fun K hK => ?_) AllReadyH.nil
            rw [if_pos (by rfl)]
            refine wp_store_row 49 _ _ rfl _ rfl rfl NB.out rfl (by kernel_rfl) rfl ?_
            intro V28 hb hg hs hn
            have hbN := NB0.out
            have BD2 := Lib.hid ((hg _ (by omega)).trans BD.out)
            have HP2 := Lib.hid (HP.out.trans (hb.mono hbN))
            have NB2 := Lib.hid hn
            clear hb hg hs hn BD HP NB
            refine hK.out _ _ ⟨BD2.out, HCX.out _ HP2.out, trivial⟩ (fun hHeld => ?_)
            clear hK K
            (try simp only [List.getElem_toArray]); (try simp only [List.getElem_cons_succ]); (try simp only [List.getElem_cons_zero]); (try simp only [Act.put]); (try simp only [List.setIfInBounds_toArray]); (try simp only [List.set_cons_succ]); (try simp only [List.set_cons_zero])
            refine wpAnyH_take (i := 12) (v := ?v22) rfl (by kernel_rfl) (by kernel_rfl) (by kernel_rfl) (fun _ _ _ h => h) (Or.inl ⟨by rfl, ?hy22⟩) hHeld ?rest22
            case hy22 => (intro w hSw; (try dsimp only at hSw); (try go_split_ands); go_simp; first | done | with_reducible rfl)
            (try simp only [List.getElem_toArray]); (try simp only [List.getElem_cons_succ]); (try simp only [List.getElem_cons_zero]); (try simp only [Act.put]); (try simp only [List.setIfInBounds_toArray]); (try simp only [List.set_cons_succ]); (try simp only [List.set_cons_zero])
            refine wpAnyH_done (by kernel_rfl) ?_ _
            go_wp2_with fail
            go_meet
            exact ⟨_, _, _, rfl, by rw [HGX.out], NB2, HP2⟩
        case rest =>
          obtain ⟨bn, aon, capn, rfl, rfl, NB, HP⟩ := hcut
          have hb := HP.out
          replace BD := Lib.hid ((hb.block _ (lt_some BD.out)).trans BD.out)
          replace HG := Lib.hid (HG.out.keep hb)
          replace HB := Lib.hid (HB.out.trans (hb.mono HB.out.size))
          replace R1 := Lib.hid (rd_keep R1.out hb)
          replace HW := Lib.hid (HW.out.trans (hb.mono HW.out.size))
          clear hb
          have HNN := Lib.hid (show nodeL l x = getL l x from rfl)
          generalize getL l x = nn at *
          clear HP
          go_wp2_with fail
          go_loopw [9] (fun k0 wr2 => ∃ b : Nat, k0 = .int .i64 b ∧ b ≤ a ∧ Hid (wr2.heap[bn]? = some (.cells #[.int .i64 nn.kind, .int .i64 nn.mode, .int .i64 nn.owner, .int .i64 nn.links, .int .i64 nn.opn, .int .i64 nn.up, .string (bs nn.data), .slice aon nn.names.length capn] 49 (0, 0))) ∧ Hid (Below V3.heap.size V3 wr2) ∧ Hid (Below wc.heap.size wc wr2)) (fun k0 _ => a - (RowKit.intOf k0).toNat)
          case atStart => exact ⟨0, rfl, Nat.zero_le _, NB, HW, Lib.hid (Below.refl _ _)⟩
          case round =>
            clear NB HW
            obtain ⟨b, rfl, hba, NB, HW, HC⟩ := hrel
            have RR := Lib.hid (rd_keep R1.out HC.out)
            by_cases hlb : b < a
            · have jL : decide (b < a) = true := decide_eq_true hlb
              have jL2 : decide ((b : Int) < (a : Int)) = true := decide_eq_true (by omega)
              have b0 : (0 : Int) ≤ (b : Int) := by omega
              have b1 : (b : Int) < ((insideT l i).length : Int) := by omega
              have hltb : b < (insideT l i).length := by omega
              have wb : IntKind.i64.wrap ((b : Int) + 1) = (b : Int) + 1 := Go.IntWalk.i64_in _ (by omega)
              obtain ⟨b9, o9, c9, e9, _, _, hb9, _, hcI⟩ := Rd.at RR.out (by omega)
              injection e9 with e91 _ _
              injection e91 with e91
              obtain ⟨rfl, rfl⟩ : bI = b9 ∧ oI = o9 := by injection e91 with h1 h2 _; exact ⟨h1, h2⟩
              obtain ⟨y, hy⟩ : ∃ y, y = (insideT l i)[b] := ⟨_, rfl⟩
              have ca := hcI _ _ (ints_at _ a hlt)
              have cb := hcI _ _ (ints_at _ b hltb)
              rw [← HX.out] at ca
              rw [← hy] at cb
              have ck := (cells8 NB.out).1
              have hno : y = x → nn.kind ≠ 2 := fun e => by
                have := once HD.out.ok.rig hlt hltb hlb (by rw [← hy, ← HX.out]; exact e)
                rw [← HX.out, HNN.out] at this
                exact this
              have HNO := Lib.hid hno
              clear hno hy hcI
              by_cases hyx : y = x
              · have e1 : decide (y = x) = true := decide_eq_true hyx
                have e2 : (y == x) = true := beq_iff_eq.2 hyx
                have e3 : decide (nn.kind = 2) = false := decide_eq_false (HNO.out hyx)
                have e4 : (nn.kind == 2) = false := beq_eq_false_iff_ne.2 (HNO.out hyx)
                clear hyx
                go_upto_region 15 with (fail)
                go_quiet (fail)
                go_wp2_with fail
                go_roundw
                case rel => exact ⟨b + 1, by go_num, hlb, NB, Lib.hid (bel_dn HW.out _), Lib.hid (bel_dn HC.out _)⟩
                case measure => simp [RowKit.intOf]; omega
              · have e1 : decide (y = x) = false := decide_eq_false hyx
                have e2 : (y == x) = false := beq_eq_false_iff_ne.2 hyx
                clear hyx
                go_upto_region 15 with (fail)
                go_quiet (fail)
                go_wp2_with fail
                go_roundw
                case rel => exact ⟨b + 1, by go_num, hlb, NB, Lib.hid (bel_dn HW.out _), Lib.hid (bel_dn HC.out _)⟩
                case measure => simp [RowKit.intOf]; omega
            · have jL : decide (b < a) = false := decide_eq_false hlb
              have jL2 : decide ((b : Int) < (a : Int)) = false := decide_eq_false (by omega)
              clear hlb
              go_wp2_with fail
              go_roundw
              case rel => exact ⟨a + 1, by go_num, hlt, HW⟩
              case measure => simp [RowKit.intOf]; omega
      · have iL : decide (a < (insideT l i).length) = false := decide_eq_false hlt
        have iL2 : decide ((a : Int) < ((insideT l i).length : Int)) = false := decide_eq_false (by omega)
        clear hlt
        have hdu := depth_used HD.out.ok.rig i
        have q1 : decide (((depthT l i : Nat) : Int) ≤ ((usedL l : Nat) : Int)) = true := decide_eq_true (by omega)
        have q2 : decide (depthT l i ≤ usedL l) = true := decide_eq_true hdu
        clear hdu
        go_upto_region 17 with (fail)
        refine wp_region_held_drew (S := fun V => V.heap[w.heap.size]? = some (.cells #[.slice ao l.length cap, .int .i64 most, .int .i64 room] 24 (0, 0)) ∧ True) (by kernel_rfl) ⟨BD.out, trivial⟩ (fun hHeld => ?_)
        have hb := (Below.refl wr.heap.size wr).drew
        generalize wr.drew = V24 at *
        replace BD := Lib.hid ((hb.block _ (lt_some BD.out)).trans BD.out)
        replace HG := Lib.hid (HG.out.keep hb)
        replace HB := Lib.hid (HB.out.trans (hb.mono HB.out.size))
        replace R1 := Lib.hid (rd_keep R1.out hb)
        replace HW := Lib.hid (HW.out.trans (hb.mono HW.out.size))
        clear hb
        refine wpAnyH_take (i := 0) rfl (by kernel_rfl) (by kernel_rfl) (by kernel_rfl) (fun _ _ _ h => h) (yieldsIf_load_row (by rfl) 24 _ rfl _ rfl 24 _ (0, 0) _ (fun _ h => h.1) Try.underlying24 rfl (by kernel_rfl)) hHeld ?_
        (try simp only [List.getElem_toArray]); (try simp only [List.getElem_cons_succ]); (try simp only [List.getElem_cons_zero]); (try simp only [Act.put]); (try simp only [List.setIfInBounds_toArray]); (try simp only [List.set_cons_succ]); (try simp only [List.set_cons_zero])
        refine wpAnyH_take (i := 1) (v := ?v23) rfl (by kernel_rfl) (by kernel_rfl) (by kernel_rfl) (fun _ _ _ h => h) (Or.inl ⟨by rfl, ?hy23⟩) hHeld ?rest23
        case hy23 => (intro w hSw; (try dsimp only at hSw); (try go_split_ands); go_simp; first | done | with_reducible rfl)
        (try simp only [List.getElem_toArray]); (try simp only [List.getElem_cons_succ]); (try simp only [List.getElem_cons_zero]); (try simp only [Act.put]); (try simp only [List.setIfInBounds_toArray]); (try simp only [List.set_cons_succ]); (try simp only [List.set_cons_zero])
        refine wpAnyH_take (i := 3) rfl (by kernel_rfl) (by kernel_rfl) (by kernel_rfl) (fun _ _ _ h => h) (yieldsIf_load_row (by rfl) 24 _ rfl _ rfl 24 _ (0, 0) _ (fun _ h => h.1) Try.underlying24 rfl (by kernel_rfl)) hHeld ?_
        (try simp only [List.getElem_toArray]); (try simp only [List.getElem_cons_succ]); (try simp only [List.getElem_cons_zero]); (try simp only [Act.put]); (try simp only [List.setIfInBounds_toArray]); (try simp only [List.set_cons_succ]); (try simp only [List.set_cons_zero])
        refine wpAnyH_ready (rs := [2]) (by kernel_rfl) (by simp) ?_
        refine AllReadyH.cons rfl (fun K hK => ?_) AllReadyH.nil
        go_simp
        refine (depth_g l most room i HD.out.ok _ V24 HG.out).mono ?_
        rintro e V25 ⟨rfl, hb⟩
        replace BD := Lib.hid ((hb.block _ (lt_some BD.out)).trans BD.out)
        replace HG := Lib.hid (HG.out.keep hb)
        replace HB := Lib.hid (HB.out.trans (hb.mono HB.out.size))
        replace R1 := Lib.hid (rd_keep R1.out hb)
        replace HW := Lib.hid (HW.out.trans (hb.mono HW.out.size))
        clear hb hHeld
        go_wp2_with fail
        refine hK.out _ _ ⟨BD.out, trivial⟩ (fun hHeld => ?_)
        clear hK K
        (try simp only [List.getElem_toArray]); (try simp only [List.getElem_cons_succ]); (try simp only [List.getElem_cons_zero]); (try simp only [Act.put]); (try simp only [List.setIfInBounds_toArray]); (try simp only [List.set_cons_succ]); (try simp only [List.set_cons_zero])
        refine wpAnyH_ready (rs := [4]) (by kernel_rfl) (by simp) ?_
        refine AllReadyH.cons rfl (fun K hK => ?_) AllReadyH.nil
        go_simp
        refine (its_gn l HD.out.ok most room _ V25 HG.out).mono ?_
        rintro e V26 ⟨aox, capx, rfl, hx1, hb⟩
        replace BD := Lib.hid ((hb.block _ (lt_some BD.out)).trans BD.out)
        replace HG := Lib.hid (HG.out.keep hb)
        replace HB := Lib.hid (HB.out.trans (hb.mono HB.out.size))
        replace R1 := Lib.hid (rd_keep R1.out hb)
        replace HW := Lib.hid (HW.out.trans (hb.mono HW.out.size))
        clear hb hHeld
        have X1 := Lib.hid (hx1)
        clear hx1
        go_wp2_with fail
        refine hK.out _ _ ⟨BD.out, trivial⟩ (fun hHeld => ?_)
        clear hK K
        (try simp only [List.getElem_toArray]); (try simp only [List.getElem_cons_succ]); (try simp only [List.getElem_cons_zero]); (try simp only [Act.put]); (try simp only [List.setIfInBounds_toArray]); (try simp only [List.set_cons_succ]); (try simp only [List.set_cons_zero])
        refine wpAnyH_ready (rs := [5]) (by kernel_rfl) (by simp) ?_
        refine AllReadyH.cons rfl (fun K hK => ?_) AllReadyH.nil
        go_simp
        refine (rused_gn l HD.out.ok most room _ V26 X1.out).mono ?_
        rintro e V27 ⟨rfl, hb⟩
        replace BD := Lib.hid ((hb.block _ (lt_some BD.out)).trans BD.out)
        replace HG := Lib.hid (HG.out.keep hb)
        replace HB := Lib.hid (HB.out.trans (hb.mono HB.out.size))
        replace R1 := Lib.hid (rd_keep R1.out hb)
        replace HW := Lib.hid (HW.out.trans (hb.mono HW.out.size))
        replace X1 := Lib.hid (X1.out.keep hb)
        clear hb hHeld
        go_wp2_with fail
        refine hK.out _ _ ⟨BD.out, trivial⟩ (fun hHeld => ?_)
        clear hK K
        (try simp only [List.getElem_toArray]); (try simp only [List.getElem_cons_succ]); (try simp only [List.getElem_cons_zero]); (try simp only [Act.put]); (try simp only [List.setIfInBounds_toArray]); (try simp only [List.set_cons_succ]); (try simp only [List.set_cons_zero])
        refine wpAnyH_take (i := 6) (v := ?v24) rfl (by kernel_rfl) (by kernel_rfl) (by kernel_rfl) (fun _ _ _ h => h) (Or.inl ⟨by rfl, ?hy24⟩) hHeld ?rest24
        case hy24 => (intro w hSw; (try dsimp only at hSw); (try go_split_ands); go_simp; first | done | with_reducible rfl)
        (try simp only [List.getElem_toArray]); (try simp only [List.getElem_cons_succ]); (try simp only [List.getElem_cons_zero]); (try simp only [Act.put]); (try simp only [List.setIfInBounds_toArray]); (try simp only [List.set_cons_succ]); (try simp only [List.set_cons_zero])
        refine wpAnyH_take (i := 7) (v := ?v25) rfl (by kernel_rfl) (by kernel_rfl) (by kernel_rfl) (fun _ _ _ h => h) (Or.inl ⟨by rfl, ?hy25⟩) hHeld ?rest25
        case hy25 => (intro w hSw; (try dsimp only at hSw); (try go_split_ands); go_simp; first | done | with_reducible rfl)
        (try simp only [List.getElem_toArray]); (try simp only [List.getElem_cons_succ]); (try simp only [List.getElem_cons_zero]); (try simp only [Act.put]); (try simp only [List.setIfInBounds_toArray]); (try simp only [List.set_cons_succ]); (try simp only [List.set_cons_zero])
        refine wpAnyH_done (by kernel_rfl) ?_ _
        go_wp2_with fail
        go_ret
        exact ⟨rfl, HB.out⟩
end Go.Proofs.Ytilhiafmljmljaa
