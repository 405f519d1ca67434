import Derived.Test.YtilhiafmljmljaaR27
import Derived.Test.YtilhiafmljmljaaR28
namespace Go.Proofs.Ytilhiafmljmljaa
open Go.RowKit Go.Shelf
attribute [local go_sem ↓] Go.wp_at_zero Go.wp_at_succ
set_option maxRecDepth 100000 in
set_option maxHeartbeats 4000000 in
theorem treeLists_w (ms : List NodeM) (most room : Int) (i : Int) (v : Value) (w : World) (hv : RdM w.heap.size v ms w) (hfit : FitD (pl ms)) :
    Calls Try.prog 3 #[.agg #[v, .int .i64 most, .int .i64 room], .int .i64 i] w fun e w' => e = .returned (.bool true) ∧ Below w.heap.size w w' := by
  have HQ := Lib.hid fun W (hb : Below w.heap.size w W) => right_q v ms most room W (rdm_keep hv hb) hfit
  have HG := Lib.hid (show GivesN (pl ms) v w from ⟨ms, rfl, hv⟩)
  have HFit := Lib.hid hfit
  obtain ⟨ao, cap, rfl, _, _⟩ := rdm_form hv
  have hml : ms.length = (pl ms).length := (pl_len ms).symm
  rw [hml] at HQ HG ⊢
  clear hv hfit hml
  generalize pl ms = l at *
  go_enter Try.func3, Try.ntmps3
  go_upto_region 1 with (fail)
  refine code_fresh1 ?_
  intro W1 hb hA hs
  have BD := Lib.hid (hA)
  replace HG := Lib.hid (HG.out.keep hb)
  have HB := Lib.hid hb
  clear hb hA hs
  have hA := BD.out
  obtain ⟨d0, d1, d2⟩ := cells3 hA
  go_wp2_with fail
  clear d0 d1 d2 hA
  refine (HQ.out _ HB.out).mono ?_
  rintro e V1 ⟨rfl, hb⟩
  replace BD := Lib.hid ((hb.block _ (lt_some BD.out)).trans BD.out)
  replace HG := Lib.hid (HG.out.keep hb)
  replace HB := Lib.hid (ret_tr HB.out hb)
  clear hb
  clear HQ
  cases hq : rightQ l most room with
  | false =>
    clear hq
    go_wp2_with fail
    refine (shown_c V1).mono ?_
    rintro e Z ⟨rfl, hb⟩
    go_wp2_with fail
    go_ret
    exact ⟨rfl, ret_tr HB.out hb⟩
  | true =>
    have HD := Lib.hid (tree_d hq HFit.out)
    clear hq HFit
    go_wp2_with fail
    refine (shown_c V1).mono ?_
    rintro e V2 ⟨rfl, hb⟩
    replace BD := Lib.hid ((hb.block _ (lt_some BD.out)).trans BD.out)
    replace HG := Lib.hid (HG.out.keep hb)
    replace HB := Lib.hid (ret_tr HB.out hb)
    clear hb
    have hA := BD.out
    obtain ⟨d0, d1, d2⟩ := cells3 hA
    go_wp2_with fail
    clear d0 d1 d2 hA
    refine (list_g l most room i HD.out.ok _ V2 HG.out).mono ?_
    rintro e V3 ⟨ao1, cap1, rfl, hr, hb⟩
    replace BD := Lib.hid ((hb.block _ (lt_some BD.out)).trans BD.out)
    replace HG := Lib.hid (HG.out.keep hb)
    replace HB := Lib.hid (ret_tr HB.out hb)
    clear hb
    have R1 := Lib.hid (hr)
    clear hr
    have q1 : decide (((listT l i).length : Int) ≤ 10000) = true := decide_eq_true (by have := HD.out.ok.many i; omega)
    have q2 : decide ((listT l i).length ≤ 10000) = true := decide_eq_true (by have := HD.out.ok.many i; omega)
    go_upto_region 4 with (fail)
    refine wp_region_held_drew (S := fun V => V.heap[w.heap.size]? = some (.cells #[.slice ao l.length cap, .int .i64 most, .int .i64 room] 24 (0, 0)) ∧ True) (by kernel_rfl) ⟨BD.out, trivial⟩ (fun hHeld => ?_)
    have hb := (Below.refl V3.heap.size V3).drew
    generalize V3.drew = V4 at *
    replace BD := Lib.hid ((hb.block _ (lt_some BD.out)).trans BD.out)
    replace HG := Lib.hid (HG.out.keep hb)
    replace HB := Lib.hid (ret_tr HB.out hb)
    replace R1 := Lib.hid (rd_keep R1.out hb)
    clear hb
    refine wpAnyH_take (i := 0) (v := ?v7) rfl (by kernel_rfl) (by kernel_rfl) (by kernel_rfl) (fun _ _ _ h => h) (Or.inl ⟨by rfl, ?hy7⟩) hHeld ?rest7
    case hy7 => (intro w hSw; (try dsimp only at hSw); (try go_split_ands); go_simp; first | done | with_reducible rfl)
    (try simp only [List.getElem_toArray]); (try simp only [List.getElem_cons_succ]); (try simp only [List.getElem_cons_zero]); (try simp only [Act.put]); (try simp only [List.setIfInBounds_toArray]); (try simp only [List.set_cons_succ]); (try simp only [List.set_cons_zero])
    refine wpAnyH_take (i := 1) (v := ?v8) rfl (by kernel_rfl) (by kernel_rfl) (by kernel_rfl) (fun _ _ _ h => h) (Or.inl ⟨by rfl, ?hy8⟩) hHeld ?rest8
    case hy8 => (intro w hSw; (try dsimp only at hSw); (try go_split_ands); go_simp; first | done | with_reducible rfl)
    (try simp only [List.getElem_toArray]); (try simp only [List.getElem_cons_succ]); (try simp only [List.getElem_cons_zero]); (try simp only [Act.put]); (try simp only [List.setIfInBounds_toArray]); (try simp only [List.set_cons_succ]); (try simp only [List.set_cons_zero])
    refine wpAnyH_take (i := 2) (v := ?v9) rfl (by kernel_rfl) (by kernel_rfl) (by kernel_rfl) (fun _ _ _ h => h) (Or.inl ⟨by rfl, ?hy9⟩) hHeld ?rest9
    case hy9 => (intro w hSw; (try dsimp only at hSw); (try go_split_ands); go_simp; first | done | with_reducible rfl)
    (try simp only [List.getElem_toArray]); (try simp only [List.getElem_cons_succ]); (try simp only [List.getElem_cons_zero]); (try simp only [Act.put]); (try simp only [List.setIfInBounds_toArray]); (try simp only [List.set_cons_succ]); (try simp only [List.set_cons_zero])
    refine wpAnyH_take (i := 3) (v := ?v10) rfl (by kernel_rfl) (by kernel_rfl) (by kernel_rfl) (fun _ _ _ h => h) (Or.inl ⟨by rfl, ?hy10⟩) hHeld ?rest10
    case hy10 => (intro w hSw; (try dsimp only at hSw); (try go_split_ands); go_simp; first | done | with_reducible rfl)
    (try simp only [List.getElem_toArray]); (try simp only [List.getElem_cons_succ]); (try simp only [List.getElem_cons_zero]); (try simp only [Act.put]); (try simp only [List.setIfInBounds_toArray]); (try simp only [List.set_cons_succ]); (try simp only [List.set_cons_zero])
    refine wpAnyH_take (i := 4) (v := ?v11) rfl (by kernel_rfl) (by kernel_rfl) (by kernel_rfl) (fun _ _ _ h => h) (Or.inl ⟨by rfl, ?hy11⟩) hHeld ?rest11
    case hy11 => (intro w hSw; (try dsimp only at hSw); (try go_split_ands); go_simp; first | done | with_reducible rfl)
    (try simp only [List.getElem_toArray]); (try simp only [List.getElem_cons_succ]); (try simp only [List.getElem_cons_zero]); (try simp only [Act.put]); (try simp only [List.setIfInBounds_toArray]); (try simp only [List.set_cons_succ]); (try simp only [List.set_cons_zero])
    refine wpAnyH_take (i := 6) rfl (by kernel_rfl) (by kernel_rfl) (by kernel_rfl) (fun _ _ _ h => h) (yieldsIf_load_row (by rfl) 24 _ rfl _ rfl 24 _ (0, 0) _ (fun _ h => h.1) Try.underlying24 rfl (by kernel_rfl)) hHeld ?_
    (try simp only [List.getElem_toArray]); (try simp only [List.getElem_cons_succ]); (try simp only [List.getElem_cons_zero]); (try simp only [Act.put]); (try simp only [List.setIfInBounds_toArray]); (try simp only [List.set_cons_succ]); (try simp only [List.set_cons_zero])
    refine wpAnyH_take (i := 8) (v := ?v12) rfl (by kernel_rfl) (by kernel_rfl) (by kernel_rfl) (fun _ _ _ h => h) (Or.inl ⟨by rfl, ?hy12⟩) hHeld ?rest12
    case hy12 => (intro w hSw; (try dsimp only at hSw); (try go_split_ands); go_simp; first | done | with_reducible rfl)
    (try simp only [List.getElem_toArray]); (try simp only [List.getElem_cons_succ]); (try simp only [List.getElem_cons_zero]); (try simp only [Act.put]); (try simp only [List.setIfInBounds_toArray]); (try simp only [List.set_cons_succ]); (try simp only [List.set_cons_zero])
    clear q1 q2
    refine wpAnyH_ready (rs := [5]) (by kernel_rfl) (by simp) ?_
    refine AllReadyH.cons rfl (fun K hK => ?_) AllReadyH.nil
    go_simp
    refine (lines_c (listT l i) (by have := HD.out.ok.many i; omega) ao1 cap1 V4 R1.out).mono ?_
    rintro e V5 ⟨v2, rfl, ho2, hb⟩
    replace BD := Lib.hid ((hb.block _ (lt_some BD.out)).trans BD.out)
    replace HG := Lib.hid (HG.out.keep hb)
    replace HB := Lib.hid (ret_tr HB.out hb)
    replace R1 := Lib.hid (rd_keep R1.out hb)
    clear hb hHeld
    obtain ⟨ao2, cap2, rfl⟩ := own_form ho2
    have hr2 := Rd.own ho2 (Nat.le_refl _)
    clear ho2
    have R2 := Lib.hid (hr2)
    clear hr2
    go_wp2_with fail
    refine hK.out _ _ ⟨BD.out, trivial⟩ (fun hHeld => ?_)
    clear hK K
    (try simp only [List.getElem_toArray]); (try simp only [List.getElem_cons_succ]); (try simp only [List.getElem_cons_zero]); (try simp only [Act.put]); (try simp only [List.setIfInBounds_toArray]); (try simp only [List.set_cons_succ]); (try simp only [List.set_cons_zero])
    refine wpAnyH_ready (rs := [7]) (by kernel_rfl) (by simp) ?_
    refine AllReadyH.cons rfl (fun K hK => ?_) AllReadyH.nil
    go_simp
    refine (its_gn l HD.out.ok most room _ V5 HG.out).mono ?_
    rintro e V6 ⟨aox1, capx1, rfl, hx1, hb⟩
    replace BD := Lib.hid ((hb.block _ (lt_some BD.out)).trans BD.out)
    replace HG := Lib.hid (HG.out.keep hb)
    replace HB := Lib.hid (ret_tr HB.out hb)
    replace R1 := Lib.hid (rd_keep R1.out hb)
    replace R2 := Lib.hid (rd_keep R2.out hb)
    clear hb hHeld
    have X1 := Lib.hid (hx1)
    clear hx1
    go_wp2_with fail
    refine hK.out _ _ ⟨BD.out, trivial⟩ (fun hHeld => ?_)
    clear hK K
    (try simp only [List.getElem_toArray]); (try simp only [List.getElem_cons_succ]); (try simp only [List.getElem_cons_zero]); (try simp only [Act.put]); (try simp only [List.setIfInBounds_toArray]); (try simp only [List.set_cons_succ]); (try simp only [List.set_cons_zero])
    refine wpAnyH_ready (rs := [9]) (by kernel_rfl) (by simp) ?_
    refine AllReadyH.cons rfl (fun K hK => ?_) AllReadyH.nil
    go_simp
    refine (rlist_g l most room i HD.out _ V6 X1.out).mono ?_
    rintro e V7 ⟨ao3, cap3, rfl, hr3, hb⟩
    replace BD := Lib.hid ((hb.block _ (lt_some BD.out)).trans BD.out)
    replace HG := Lib.hid (HG.out.keep hb)
    replace HB := Lib.hid (ret_tr HB.out hb)
    replace R1 := Lib.hid (rd_keep R1.out hb)
    replace R2 := Lib.hid (rd_keep R2.out hb)
    replace X1 := Lib.hid (X1.out.keep hb)
    clear hb hHeld
    have R3 := Lib.hid (hr3)
    clear hr3
    go_wp2_with fail
    refine hK.out _ _ ⟨BD.out, trivial⟩ (fun hHeld => ?_)
    clear hK K
    (try simp only [List.getElem_toArray]); (try simp only [List.getElem_cons_succ]); (try simp only [List.getElem_cons_zero]); (try simp only [Act.put]); (try simp only [List.setIfInBounds_toArray]); (try simp only [List.set_cons_succ]); (try simp only [List.set_cons_zero])
    refine wpAnyH_ready (rs := [10]) (by kernel_rfl) (by simp) ?_
    refine AllReadyH.cons rfl (fun K hK => ?_) AllReadyH.nil
    go_simp
    refine (rLines_c (listT l i) (listT l i) (by have := HD.out.ok.many i; omega) ao2 ao3 cap2 cap3 V7 R2.out R3.out).mono ?_
    rintro e V8 ⟨rfl, hb⟩
    replace BD := Lib.hid ((hb.block _ (lt_some BD.out)).trans BD.out)
    replace HG := Lib.hid (HG.out.keep hb)
    replace HB := Lib.hid (ret_tr HB.out hb)
    replace R1 := Lib.hid (rd_keep R1.out hb)
    replace R2 := Lib.hid (rd_keep R2.out hb)
    replace X1 := Lib.hid (X1.out.keep hb)
    replace R3 := Lib.hid (rd_keep R3.out hb)
    clear hb hHeld
    rw [decide_eq_true (rfl : listT l i = listT l i)]
    go_wp2_with fail
    refine hK.out _ _ ⟨BD.out, trivial⟩ (fun hHeld => ?_)
    clear hK K
    (try simp only [List.getElem_toArray]); (try simp only [List.getElem_cons_succ]); (try simp only [List.getElem_cons_zero]); (try simp only [Act.put]); (try simp only [List.setIfInBounds_toArray]); (try simp only [List.set_cons_succ]); (try simp only [List.set_cons_zero])
    clear R1
    clear R2
    clear R3
    clear X1
    refine wpAnyH_take (i := 11) (v := ?v13) rfl (by kernel_rfl) (by kernel_rfl) (by kernel_rfl) (fun _ _ _ h => h) (Or.inl ⟨by rfl, ?hy13⟩) hHeld ?rest13
    case hy13 => (intro w hSw; (try dsimp only at hSw); (try go_split_ands); go_simp; first | done | with_reducible rfl)
    (try simp only [List.getElem_toArray]); (try simp only [List.getElem_cons_succ]); (try simp only [List.getElem_cons_zero]); (try simp only [Act.put]); (try simp only [List.setIfInBounds_toArray]); (try simp only [List.set_cons_succ]); (try simp only [List.set_cons_zero])
    refine wpAnyH_take (i := 12) (v := ?v14) rfl (by kernel_rfl) (by kernel_rfl) (by kernel_rfl) (fun _ _ _ h => h) (Or.inl ⟨by rfl, ?hy14⟩) hHeld ?rest14
    case hy14 => (intro w hSw; (try dsimp only at hSw); (try go_split_ands); go_simp; first | done | with_reducible rfl)
    (try simp only [List.getElem_toArray]); (try simp only [List.getElem_cons_succ]); (try simp only [List.getElem_cons_zero]); (try simp only [Act.put]); (try simp only [List.setIfInBounds_toArray]); (try simp only [List.set_cons_succ]); (try simp only [List.set_cons_zero])
    refine wpAnyH_take (i := 13) rfl (by kernel_rfl) (by kernel_rfl) (by kernel_rfl) (fun _ _ _ h => h) (yieldsIf_load_row (by rfl) 24 _ rfl _ rfl 24 _ (0, 0) _ (fun _ h => h.1) Try.underlying24 rfl (by kernel_rfl)) hHeld ?_
    (try simp only [List.getElem_toArray]); (try simp only [List.getElem_cons_succ]); (try simp only [List.getElem_cons_zero]); (try simp only [Act.put]); (try simp only [List.setIfInBounds_toArray]); (try simp only [List.set_cons_succ]); (try simp only [List.set_cons_zero])
    refine wpAnyH_take (i := 14) (v := ?v15) rfl (by kernel_rfl) (by kernel_rfl) (by kernel_rfl) (fun _ _ _ h => h) (Or.inl ⟨by rfl, ?hy15⟩) hHeld ?rest15
    case hy15 => (intro w hSw; (try dsimp only at hSw); (try go_split_ands); go_simp; first | done | with_reducible rfl)
    (try simp only [List.getElem_toArray]); (try simp only [List.getElem_cons_succ]); (try simp only [List.getElem_cons_zero]); (try simp only [Act.put]); (try simp only [List.setIfInBounds_toArray]); (try simp only [List.set_cons_succ]); (try simp only [List.set_cons_zero])
    refine wpAnyH_take (i := 16) rfl (by kernel_rfl) (by kernel_rfl) (by kernel_rfl) (fun _ _ _ h => h) (yieldsIf_load_row (by rfl) 24 _ rfl _ rfl 24 _ (0, 0) _ (fun _ h => h.1) Try.underlying24 rfl (by kernel_rfl)) hHeld ?_
    (try simp only [List.getElem_toArray]); (try simp only [List.getElem_cons_succ]); (try simp only [List.getElem_cons_zero]); (try simp only [Act.put]); (try simp only [List.setIfInBounds_toArray]); (try simp only [List.set_cons_succ]); (try simp only [List.set_cons_zero])
    refine wpAnyH_take (i := 18) (v := ?v16) rfl (by kernel_rfl) (by kernel_rfl) (by kernel_rfl) (fun _ _ _ h => h) (Or.inl ⟨by rfl, ?hy16⟩) hHeld ?rest16
    case hy16 => (intro w hSw; (try dsimp only at hSw); (try go_split_ands); go_simp; first | done | with_reducible rfl)
    (try simp only [List.getElem_toArray]); (try simp only [List.getElem_cons_succ]); (try simp only [List.getElem_cons_zero]); (try simp only [Act.put]); (try simp only [List.setIfInBounds_toArray]); (try simp only [List.set_cons_succ]); (try simp only [List.set_cons_zero])
    refine wpAnyH_ready (rs := [15]) (by kernel_rfl) (by simp) ?_
    refine AllReadyH.cons rfl (fun K hK => ?_) AllReadyH.nil
    go_simp
    refine (inside_g l most room i HD.out.ok _ V8 HG.out).mono ?_
    rintro e V9 ⟨ao4, cap4, rfl, hr4, hb⟩
    replace BD := Lib.hid ((hb.block _ (lt_some BD.out)).trans BD.out)
    replace HG := Lib.hid (HG.out.keep hb)
    replace HB := Lib.hid (ret_tr HB.out hb)
    clear hb hHeld
    have R4 := Lib.hid (hr4)
    clear hr4
    go_wp2_with fail
    refine hK.out _ _ ⟨BD.out, trivial⟩ (fun hHeld => ?_)
    clear hK K
    (try simp only [List.getElem_toArray]); (try simp only [List.getElem_cons_succ]); (try simp only [List.getElem_cons_zero]); (try simp only [Act.put]); (try simp only [List.setIfInBounds_toArray]); (try simp only [List.set_cons_succ]); (try simp only [List.set_cons_zero])
    refine wpAnyH_ready (rs := [17]) (by kernel_rfl) (by simp) ?_
    refine AllReadyH.cons rfl (fun K hK => ?_) AllReadyH.nil
    go_simp
    refine (its_gn l HD.out.ok most room _ V9 HG.out).mono ?_
    rintro e V10 ⟨aox2, capx2, rfl, hx2, hb⟩
    replace BD := Lib.hid ((hb.block _ (lt_some BD.out)).trans BD.out)
    replace HG := Lib.hid (HG.out.keep hb)
    replace HB := Lib.hid (ret_tr HB.out hb)
    replace R4 := Lib.hid (rd_keep R4.out hb)
    clear hb hHeld
    have X2 := Lib.hid (hx2)
    clear hx2
    go_wp2_with fail
    refine hK.out _ _ ⟨BD.out, trivial⟩ (fun hHeld => ?_)
    clear hK K
    (try simp only [List.getElem_toArray]); (try simp only [List.getElem_cons_succ]); (try simp only [List.getElem_cons_zero]); (try simp only [Act.put]); (try simp only [List.setIfInBounds_toArray]); (try simp only [List.set_cons_succ]); (try simp only [List.set_cons_zero])
    refine wpAnyH_ready (rs := [19]) (by kernel_rfl) (by simp) ?_
    refine AllReadyH.cons rfl (fun K hK => ?_) AllReadyH.nil
    go_simp
    refine (rinside_g l most room i HD.out _ V10 X2.out).mono ?_
    rintro e V11 ⟨ao5, cap5, rfl, hr5, hb⟩
    replace BD := Lib.hid ((hb.block _ (lt_some BD.out)).trans BD.out)
    replace HG := Lib.hid (HG.out.keep hb)
    replace HB := Lib.hid (ret_tr HB.out hb)
    replace R4 := Lib.hid (rd_keep R4.out hb)
    replace X2 := Lib.hid (X2.out.keep hb)
    clear hb hHeld
    have R5 := Lib.hid (hr5)
    clear hr5
    go_wp2_with fail
    refine hK.out _ _ ⟨BD.out, trivial⟩ (fun hHeld => ?_)
    clear hK K
    (try simp only [List.getElem_toArray]); (try simp only [List.getElem_cons_succ]); (try simp only [List.getElem_cons_zero]); (try simp only [Act.put]); (try simp only [List.setIfInBounds_toArray]); (try simp only [List.set_cons_succ]); (try simp only [List.set_cons_zero])
    refine wpAnyH_ready (rs := [20]) (by kernel_rfl) (by simp) ?_
    refine AllReadyH.cons rfl (fun K hK => ?_) AllReadyH.nil
    go_simp
    refine (ints_c (insideT l i) (insideT l i) (by have := HD.out.ok.many i; rw [list_inside HD.out.ok.rig] at this; omega) ao4 ao5 cap4 cap5 V11 R4.out R5.out).mono ?_
    rintro e V12 ⟨rfl, hb⟩
    replace BD := Lib.hid ((hb.block _ (lt_some BD.out)).trans BD.out)
    replace HG := Lib.hid (HG.out.keep hb)
    replace HB := Lib.hid (ret_tr HB.out hb)
    replace R4 := Lib.hid (rd_keep R4.out hb)
    replace X2 := Lib.hid (X2.out.keep hb)
    replace R5 := Lib.hid (rd_keep R5.out hb)
    clear hb hHeld
    rw [decide_eq_true (rfl : insideT l i = insideT l i)]
    go_wp2_with fail
    refine hK.out _ _ ⟨BD.out, trivial⟩ (fun hHeld => ?_)
    clear hK K
    (try simp only [List.getElem_toArray]); (try simp only [List.getElem_cons_succ]); (try simp only [List.getElem_cons_zero]); (try simp only [Act.put]); (try simp only [List.setIfInBounds_toArray]); (try simp only [List.set_cons_succ]); (try simp only [List.set_cons_zero])
    clear R4
    clear R5
    clear X2
    refine wpAnyH_take (i := 21) (v := ?v17) rfl (by kernel_rfl) (by kernel_rfl) (by kernel_rfl) (fun _ _ _ h => h) (Or.inl ⟨by rfl, ?hy17⟩) hHeld ?rest17
    case hy17 => (intro w hSw; (try dsimp only at hSw); (try go_split_ands); go_simp; first | done | with_reducible rfl)
    (try simp only [List.getElem_toArray]); (try simp only [List.getElem_cons_succ]); (try simp only [List.getElem_cons_zero]); (try simp only [Act.put]); (try simp only [List.setIfInBounds_toArray]); (try simp only [List.set_cons_succ]); (try simp only [List.set_cons_zero])
    refine wpAnyH_take (i := 22) (v := ?v18) rfl (by kernel_rfl) (by kernel_rfl) (by kernel_rfl) (fun _ _ _ h => h) (Or.inl ⟨by rfl, ?hy18⟩) hHeld ?rest18
    case hy18 => (intro w hSw; (try dsimp only at hSw); (try go_split_ands); go_simp; first | done | with_reducible rfl)
    (try simp only [List.getElem_toArray]); (try simp only [List.getElem_cons_succ]); (try simp only [List.getElem_cons_zero]); (try simp only [Act.put]); (try simp only [List.setIfInBounds_toArray]); (try simp only [List.set_cons_succ]); (try simp only [List.set_cons_zero])
    refine wpAnyH_take (i := 23) rfl (by kernel_rfl) (by kernel_rfl) (by kernel_rfl) (fun _ _ _ h => h) (yieldsIf_load_row (by rfl) 24 _ rfl _ rfl 24 _ (0, 0) _ (fun _ h => h.1) Try.underlying24 rfl (by kernel_rfl)) hHeld ?_
    (try simp only [List.getElem_toArray]); (try simp only [List.getElem_cons_succ]); (try simp only [List.getElem_cons_zero]); (try simp only [Act.put]); (try simp only [List.setIfInBounds_toArray]); (try simp only [List.set_cons_succ]); (try simp only [List.set_cons_zero])
    refine wpAnyH_take (i := 24) (v := ?v19) rfl (by kernel_rfl) (by kernel_rfl) (by kernel_rfl) (fun _ _ _ h => h) (Or.inl ⟨by rfl, ?hy19⟩) hHeld ?rest19
    case hy19 => (intro w hSw; (try dsimp only at hSw); (try go_split_ands); go_simp; first | done | with_reducible rfl)
    (try simp only [List.getElem_toArray]); (try simp only [List.getElem_cons_succ]); (try simp only [List.getElem_cons_zero]); (try simp only [Act.put]); (try simp only [List.setIfInBounds_toArray]); (try simp only [List.set_cons_succ]); (try simp only [List.set_cons_zero])
    refine wpAnyH_take (i := 26) rfl (by kernel_rfl) (by kernel_rfl) (by kernel_rfl) (fun _ _ _ h => h) (yieldsIf_load_row (by rfl) 24 _ rfl _ rfl 24 _ (0, 0) _ (fun _ h => h.1) Try.underlying24 rfl (by kernel_rfl)) hHeld ?_
    (try simp only [List.getElem_toArray]); (try simp only [List.getElem_cons_succ]); (try simp only [List.getElem_cons_zero]); (try simp only [Act.put]); (try simp only [List.setIfInBounds_toArray]); (try simp only [List.set_cons_succ]); (try simp only [List.set_cons_zero])
    refine wpAnyH_take (i := 28) (v := ?v20) rfl (by kernel_rfl) (by kernel_rfl) (by kernel_rfl) (fun _ _ _ h => h) (Or.inl ⟨by rfl, ?hy20⟩) hHeld ?rest20
    case hy20 => (intro w hSw; (try dsimp only at hSw); (try go_split_ands); go_simp; first | done | with_reducible rfl)
    (try simp only [List.getElem_toArray]); (try simp only [List.getElem_cons_succ]); (try simp only [List.getElem_cons_zero]); (try simp only [Act.put]); (try simp only [List.setIfInBounds_toArray]); (try simp only [List.set_cons_succ]); (try simp only [List.set_cons_zero])
    refine wpAnyH_ready (rs := [25]) (by kernel_rfl) (by simp) ?_
    refine AllReadyH.cons rfl (fun K hK => ?_) AllReadyH.nil
    go_simp
    refine (depth_g l most room i HD.out.ok _ V12 HG.out).mono ?_
    rintro e V13 ⟨rfl, hb⟩
    replace BD := Lib.hid ((hb.block _ (lt_some BD.out)).trans BD.out)
    replace HG := Lib.hid (HG.out.keep hb)
    replace HB := Lib.hid (ret_tr HB.out hb)
    clear hb hHeld
    go_wp2_with fail
    refine hK.out _ _ ⟨BD.out, trivial⟩ (fun hHeld => ?_)
    clear hK K
    (try simp only [List.getElem_toArray]); (try simp only [List.getElem_cons_succ]); (try simp only [List.getElem_cons_zero]); (try simp only [Act.put]); (try simp only [List.setIfInBounds_toArray]); (try simp only [List.set_cons_succ]); (try simp only [List.set_cons_zero])
    refine wpAnyH_ready (rs := [27]) (by kernel_rfl) (by simp) ?_
    refine AllReadyH.cons rfl (fun K hK => ?_) AllReadyH.nil
    go_simp
    refine (its_gn l HD.out.ok most room _ V13 HG.out).mono ?_
    rintro e V14 ⟨aox3, capx3, rfl, hx3, hb⟩
    replace BD := Lib.hid ((hb.block _ (lt_some BD.out)).trans BD.out)
    replace HG := Lib.hid (HG.out.keep hb)
    replace HB := Lib.hid (ret_tr HB.out hb)
    clear hb hHeld
    have X3 := Lib.hid (hx3)
    clear hx3
    go_wp2_with fail
    refine hK.out _ _ ⟨BD.out, trivial⟩ (fun hHeld => ?_)
    clear hK K
    (try simp only [List.getElem_toArray]); (try simp only [List.getElem_cons_succ]); (try simp only [List.getElem_cons_zero]); (try simp only [Act.put]); (try simp only [List.setIfInBounds_toArray]); (try simp only [List.set_cons_succ]); (try simp only [List.set_cons_zero])
    refine wpAnyH_ready (rs := [29]) (by kernel_rfl) (by simp) ?_
    refine AllReadyH.cons rfl (fun K hK => ?_) AllReadyH.nil
    go_simp
    refine (rdepth_g l most room i HD.out _ V14 X3.out).mono ?_
    rintro e V15 ⟨rfl, hb⟩
    replace BD := Lib.hid ((hb.block _ (lt_some BD.out)).trans BD.out)
    replace HG := Lib.hid (HG.out.keep hb)
    replace HB := Lib.hid (ret_tr HB.out hb)
    replace X3 := Lib.hid (X3.out.keep hb)
    clear hb hHeld
    go_wp2_with fail
    refine hK.out _ _ ⟨BD.out, trivial⟩ (fun hHeld => ?_)
    clear hK K
    (try simp only [List.getElem_toArray]); (try simp only [List.getElem_cons_succ]); (try simp only [List.getElem_cons_zero]); (try simp only [Act.put]); (try simp only [List.setIfInBounds_toArray]); (try simp only [List.set_cons_succ]); (try simp only [List.set_cons_zero])
    refine wpAnyH_take (i := 30) (v := ?v21) rfl (by kernel_rfl) (by kernel_rfl) (by kernel_rfl) (fun _ _ _ h => h) (Or.inl ⟨by rfl, ?hy21⟩) hHeld ?rest21
    case hy21 => (intro w hSw; (try dsimp only at hSw); (try go_split_ands); go_simp; first | done | with_reducible rfl)
    (try simp only [List.getElem_toArray]); (try simp only [List.getElem_cons_succ]); (try simp only [List.getElem_cons_zero]); (try simp only [Act.put]); (try simp only [List.setIfInBounds_toArray]); (try simp only [List.set_cons_succ]); (try simp only [List.set_cons_zero])
    refine wpAnyH_take (i := 31) (v := ?v22) rfl (by kernel_rfl) (by kernel_rfl) (by kernel_rfl) (fun _ _ _ h => h) (Or.inl ⟨by rfl, ?hy22⟩) hHeld ?rest22
    case hy22 => (intro w hSw; (try dsimp only at hSw); (try go_split_ands); go_simp; first | done | with_reducible rfl)
    (try simp only [List.getElem_toArray]); (try simp only [List.getElem_cons_succ]); (try simp only [List.getElem_cons_zero]); (try simp only [Act.put]); (try simp only [List.setIfInBounds_toArray]); (try simp only [List.set_cons_succ]); (try simp only [List.set_cons_zero])
    refine wpAnyH_take (i := 32) (v := ?v23) rfl (by kernel_rfl) (by kernel_rfl) (by kernel_rfl) (fun _ _ _ h => h) (Or.inl ⟨by rfl, ?hy23⟩) hHeld ?rest23
    case hy23 => (intro w hSw; (try dsimp only at hSw); (try go_split_ands); go_simp; first | done | with_reducible rfl)
    (try simp only [List.getElem_toArray]); (try simp only [List.getElem_cons_succ]); (try simp only [List.getElem_cons_zero]); (try simp only [Act.put]); (try simp only [List.setIfInBounds_toArray]); (try simp only [List.set_cons_succ]); (try simp only [List.set_cons_zero])
    refine wpAnyH_done (by kernel_rfl) ?_ _
    go_wp2_with fail
    go_ret
    exact ⟨rfl, HB.out⟩
end Go.Proofs.Ytilhiafmljmljaa
