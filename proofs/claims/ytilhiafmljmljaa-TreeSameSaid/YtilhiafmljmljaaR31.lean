import Derived.Test.YtilhiafmljmljaaR27
import Derived.Test.YtilhiafmljmljaaR28
namespace Go.Proofs.Ytilhiafmljmljaa
open Go.RowKit Go.Shelf
attribute [local go_sem ↓] Go.wp_at_zero Go.wp_at_succ
set_option maxRecDepth 100000 in
set_option maxHeartbeats 4000000 in
theorem treeSame_w (ms ms2 : List NodeM) (most room most2 room2 i j : Int) (v v2 : Value) (w : World) (hv : RdM w.heap.size v ms w) (hfit : FitD (pl ms)) (hv2 : RdM w.heap.size v2 ms2 w) (hfit2 : FitD (pl ms2)) :
    Calls Try.prog 4 #[.agg #[v, .int .i64 most, .int .i64 room], .agg #[v2, .int .i64 most2, .int .i64 room2], .int .i64 i, .int .i64 j] w fun e w' => e = .returned (.bool true) ∧ Below w.heap.size w w' := by
  have HQ := Lib.hid fun W (hb : Below w.heap.size w W) => right_q v ms most room W (rdm_keep hv hb) hfit
  have HQ2 := Lib.hid fun W (hb : Below w.heap.size w W) => right_q v2 ms2 most2 room2 W (rdm_keep hv2 hb) hfit2
  have HG := Lib.hid (show GivesN (pl ms) v w from ⟨ms, rfl, hv⟩)
  have HG2 := Lib.hid (show GivesN (pl ms2) v2 w from ⟨ms2, rfl, hv2⟩)
  have HFit := Lib.hid hfit
  have HFit2 := Lib.hid hfit2
  obtain ⟨ao, cap, rfl, _, _⟩ := rdm_form hv
  obtain ⟨ao2, cap2, rfl, _, _⟩ := rdm_form hv2
  have hml : ms.length = (pl ms).length := (pl_len ms).symm
  have hml2 : ms2.length = (pl ms2).length := (pl_len ms2).symm
  rw [hml] at HQ HG ⊢
  rw [hml2] at HQ2 HG2 ⊢
  clear hv hfit hv2 hfit2 hml hml2
  generalize pl ms = l at *
  generalize pl ms2 = l2 at *
  go_enter Try.func4, Try.ntmps4
  go_upto_region 1 with (fail)
  refine code_fresh2 ?_
  intro W1 hb hA hA2 hs
  have BD := Lib.hid (hA)
  have BE := Lib.hid (hA2)
  replace HG := Lib.hid (HG.out.keep hb)
  replace HG2 := Lib.hid (HG2.out.keep hb)
  have HB := Lib.hid hb
  clear hb hA hA2 hs
  have hAd := BD.out
  obtain ⟨d0, d1, d2⟩ := cells3 hAd
  go_wp2_with fail
  clear d0 d1 d2 hAd
  refine (HQ.out _ HB.out).mono ?_
  rintro e V1 ⟨rfl, hb⟩
  replace BD := Lib.hid ((hb.block _ (lt_some BD.out)).trans BD.out)
  replace BE := Lib.hid ((hb.block _ (lt_some BE.out)).trans BE.out)
  replace HG := Lib.hid (HG.out.keep hb)
  replace HG2 := Lib.hid (HG2.out.keep hb)
  replace HB := Lib.hid (ret_tr HB.out hb)
  clear hb
  clear HQ
  cases hq : rightQ l most room with
  | false =>
    clear hq
    have hAe := BE.out
    obtain ⟨e0, e1, e2⟩ := cells3 hAe
    go_wp2_with fail
    refine (shown_c V1).mono ?_
    rintro e Z ⟨rfl, hb⟩
    go_wp2_with fail
    go_ret
    exact ⟨rfl, ret_tr HB.out hb⟩
  | true =>
    have HD := Lib.hid (tree_d hq HFit.out)
    clear hq HFit
    have hAe := BE.out
    obtain ⟨e0, e1, e2⟩ := cells3 hAe
    go_wp2_with fail
    clear e0 e1 e2 hAe
    refine (HQ2.out _ HB.out).mono ?_
    rintro e V2 ⟨rfl, hb⟩
    replace BD := Lib.hid ((hb.block _ (lt_some BD.out)).trans BD.out)
    replace BE := Lib.hid ((hb.block _ (lt_some BE.out)).trans BE.out)
    replace HG := Lib.hid (HG.out.keep hb)
    replace HG2 := Lib.hid (HG2.out.keep hb)
    replace HB := Lib.hid (ret_tr HB.out hb)
    clear hb
    clear HQ2
    cases hq : rightQ l2 most2 room2 with
    | false =>
      clear hq
      go_wp2_with fail
      refine (shown_c V2).mono ?_
      rintro e Z ⟨rfl, hb⟩
      go_wp2_with fail
      go_ret
      exact ⟨rfl, ret_tr HB.out hb⟩
    | true =>
      have HD2 := Lib.hid (tree_d hq HFit2.out)
      clear hq HFit2
      go_wp2_with fail
      refine (shown_c V2).mono ?_
      rintro e V3 ⟨rfl, hb⟩
      replace BD := Lib.hid ((hb.block _ (lt_some BD.out)).trans BD.out)
      replace BE := Lib.hid ((hb.block _ (lt_some BE.out)).trans BE.out)
      replace HG := Lib.hid (HG.out.keep hb)
      replace HG2 := Lib.hid (HG2.out.keep hb)
      replace HB := Lib.hid (ret_tr HB.out hb)
      clear hb
      go_upto_region 3 with (fail)
      refine wp_region_held_drew (S := fun V => V.heap[w.heap.size]? = some (.cells #[.slice ao l.length cap, .int .i64 most, .int .i64 room] 24 (0, 0)) ∧ V.heap[w.heap.size + 1]? = some (.cells #[.slice ao2 l2.length cap2, .int .i64 most2, .int .i64 room2] 24 (0, 0)) ∧ True) (by kernel_rfl) ⟨BD.out, BE.out, trivial⟩ (fun hHeld => ?_)
      have hb := (Below.refl V3.heap.size V3).drew
      generalize V3.drew = V4 at *
      replace BD := Lib.hid ((hb.block _ (lt_some BD.out)).trans BD.out)
      replace BE := Lib.hid ((hb.block _ (lt_some BE.out)).trans BE.out)
      replace HG := Lib.hid (HG.out.keep hb)
      replace HG2 := Lib.hid (HG2.out.keep hb)
      replace HB := Lib.hid (ret_tr HB.out hb)
      clear hb
      refine wpAnyH_take (i := 0) rfl (by kernel_rfl) (by kernel_rfl) (by kernel_rfl) (fun _ _ _ h => h) (yieldsIf_load_row (by rfl) 24 _ rfl _ rfl 24 _ (0, 0) _ (fun _ h => h.1) Try.underlying24 rfl (by kernel_rfl)) hHeld ?_
      (try simp only [List.getElem_toArray]); (try simp only [List.getElem_cons_succ]); (try simp only [List.getElem_cons_zero]); (try simp only [Act.put]); (try simp only [List.setIfInBounds_toArray]); (try simp only [List.set_cons_succ]); (try simp only [List.set_cons_zero])
      refine wpAnyH_take (i := 1) (v := ?v7) rfl (by kernel_rfl) (by kernel_rfl) (by kernel_rfl) (fun _ _ _ h => h) (Or.inl ⟨by rfl, ?hy7⟩) hHeld ?rest7
      case hy7 => (intro w hSw; (try dsimp only at hSw); (try go_split_ands); go_simp; first | done | with_reducible rfl)
      (try simp only [List.getElem_toArray]); (try simp only [List.getElem_cons_succ]); (try simp only [List.getElem_cons_zero]); (try simp only [Act.put]); (try simp only [List.setIfInBounds_toArray]); (try simp only [List.set_cons_succ]); (try simp only [List.set_cons_zero])
      refine wpAnyH_take (i := 2) rfl (by kernel_rfl) (by kernel_rfl) (by kernel_rfl) (fun _ _ _ h => h) (yieldsIf_load_row (by rfl) 24 _ rfl _ rfl 24 _ (0, 0) _ (fun _ h => h.2.1) Try.underlying24 rfl (by kernel_rfl)) hHeld ?_
      (try simp only [List.getElem_toArray]); (try simp only [List.getElem_cons_succ]); (try simp only [List.getElem_cons_zero]); (try simp only [Act.put]); (try simp only [List.setIfInBounds_toArray]); (try simp only [List.set_cons_succ]); (try simp only [List.set_cons_zero])
      refine wpAnyH_take (i := 3) (v := ?v8) rfl (by kernel_rfl) (by kernel_rfl) (by kernel_rfl) (fun _ _ _ h => h) (Or.inl ⟨by rfl, ?hy8⟩) hHeld ?rest8
      case hy8 => (intro w hSw; (try dsimp only at hSw); (try go_split_ands); go_simp; first | done | with_reducible rfl)
      (try simp only [List.getElem_toArray]); (try simp only [List.getElem_cons_succ]); (try simp only [List.getElem_cons_zero]); (try simp only [Act.put]); (try simp only [List.setIfInBounds_toArray]); (try simp only [List.set_cons_succ]); (try simp only [List.set_cons_zero])
      refine wpAnyH_take (i := 5) rfl (by kernel_rfl) (by kernel_rfl) (by kernel_rfl) (fun _ _ _ h => h) (yieldsIf_load_row (by rfl) 24 _ rfl _ rfl 24 _ (0, 0) _ (fun _ h => h.1) Try.underlying24 rfl (by kernel_rfl)) hHeld ?_
      (try simp only [List.getElem_toArray]); (try simp only [List.getElem_cons_succ]); (try simp only [List.getElem_cons_zero]); (try simp only [Act.put]); (try simp only [List.setIfInBounds_toArray]); (try simp only [List.set_cons_succ]); (try simp only [List.set_cons_zero])
      refine wpAnyH_take (i := 7) (v := ?v9) rfl (by kernel_rfl) (by kernel_rfl) (by kernel_rfl) (fun _ _ _ h => h) (Or.inl ⟨by rfl, ?hy9⟩) hHeld ?rest9
      case hy9 => (intro w hSw; (try dsimp only at hSw); (try go_split_ands); go_simp; first | done | with_reducible rfl)
      (try simp only [List.getElem_toArray]); (try simp only [List.getElem_cons_succ]); (try simp only [List.getElem_cons_zero]); (try simp only [Act.put]); (try simp only [List.setIfInBounds_toArray]); (try simp only [List.set_cons_succ]); (try simp only [List.set_cons_zero])
      refine wpAnyH_take (i := 8) rfl (by kernel_rfl) (by kernel_rfl) (by kernel_rfl) (fun _ _ _ h => h) (yieldsIf_load_row (by rfl) 24 _ rfl _ rfl 24 _ (0, 0) _ (fun _ h => h.2.1) Try.underlying24 rfl (by kernel_rfl)) hHeld ?_
      (try simp only [List.getElem_toArray]); (try simp only [List.getElem_cons_succ]); (try simp only [List.getElem_cons_zero]); (try simp only [Act.put]); (try simp only [List.setIfInBounds_toArray]); (try simp only [List.set_cons_succ]); (try simp only [List.set_cons_zero])
      refine wpAnyH_take (i := 10) (v := ?v10) rfl (by kernel_rfl) (by kernel_rfl) (by kernel_rfl) (fun _ _ _ h => h) (Or.inl ⟨by rfl, ?hy10⟩) hHeld ?rest10
      case hy10 => (intro w hSw; (try dsimp only at hSw); (try go_split_ands); go_simp; first | done | with_reducible rfl)
      (try simp only [List.getElem_toArray]); (try simp only [List.getElem_cons_succ]); (try simp only [List.getElem_cons_zero]); (try simp only [Act.put]); (try simp only [List.setIfInBounds_toArray]); (try simp only [List.set_cons_succ]); (try simp only [List.set_cons_zero])
      refine wpAnyH_ready (rs := [4]) (by kernel_rfl) (by simp) ?_
      refine AllReadyH.cons rfl (fun K hK => ?_) AllReadyH.nil
      go_simp
      refine (same_g l l2 most room most2 room2 i j HD.out.ok HD2.out.ok _ _ V4 HG.out HG2.out).mono ?_
      rintro e V5 ⟨rfl, hb⟩
      replace BD := Lib.hid ((hb.block _ (lt_some BD.out)).trans BD.out)
      replace BE := Lib.hid ((hb.block _ (lt_some BE.out)).trans BE.out)
      replace HG := Lib.hid (HG.out.keep hb)
      replace HG2 := Lib.hid (HG2.out.keep hb)
      replace HB := Lib.hid (ret_tr HB.out hb)
      clear hb hHeld
      go_wp2_with fail
      refine hK.out _ _ ⟨BD.out, BE.out, trivial⟩ (fun hHeld => ?_)
      clear hK K
      (try simp only [List.getElem_toArray]); (try simp only [List.getElem_cons_succ]); (try simp only [List.getElem_cons_zero]); (try simp only [Act.put]); (try simp only [List.setIfInBounds_toArray]); (try simp only [List.set_cons_succ]); (try simp only [List.set_cons_zero])
      refine wpAnyH_ready (rs := [6]) (by kernel_rfl) (by simp) ?_
      refine AllReadyH.cons rfl (fun K hK => ?_) AllReadyH.nil
      go_simp
      refine (its_gn l HD.out.ok most room _ V5 HG.out).mono ?_
      rintro e V6 ⟨aox1, capx1, rfl, hx1, hb⟩
      replace BD := Lib.hid ((hb.block _ (lt_some BD.out)).trans BD.out)
      replace BE := Lib.hid ((hb.block _ (lt_some BE.out)).trans BE.out)
      replace HG := Lib.hid (HG.out.keep hb)
      replace HG2 := Lib.hid (HG2.out.keep hb)
      replace HB := Lib.hid (ret_tr HB.out hb)
      clear hb hHeld
      have X1 := Lib.hid (hx1)
      clear hx1
      go_wp2_with fail
      refine hK.out _ _ ⟨BD.out, BE.out, trivial⟩ (fun hHeld => ?_)
      clear hK K
      (try simp only [List.getElem_toArray]); (try simp only [List.getElem_cons_succ]); (try simp only [List.getElem_cons_zero]); (try simp only [Act.put]); (try simp only [List.setIfInBounds_toArray]); (try simp only [List.set_cons_succ]); (try simp only [List.set_cons_zero])
      refine wpAnyH_ready (rs := [9]) (by kernel_rfl) (by simp) ?_
      refine AllReadyH.cons rfl (fun K hK => ?_) AllReadyH.nil
      go_simp
      refine (its_gn l2 HD2.out.ok most2 room2 _ V6 HG2.out).mono ?_
      rintro e V7 ⟨aox2, capx2, rfl, hx2, hb⟩
      replace BD := Lib.hid ((hb.block _ (lt_some BD.out)).trans BD.out)
      replace BE := Lib.hid ((hb.block _ (lt_some BE.out)).trans BE.out)
      replace HG := Lib.hid (HG.out.keep hb)
      replace HG2 := Lib.hid (HG2.out.keep hb)
      replace HB := Lib.hid (ret_tr HB.out hb)
      replace X1 := Lib.hid (X1.out.keep hb)
      clear hb hHeld
      have X2 := Lib.hid (hx2)
      clear hx2
      go_wp2_with fail
      refine hK.out _ _ ⟨BD.out, BE.out, trivial⟩ (fun hHeld => ?_)
      clear hK K
      (try simp only [List.getElem_toArray]); (try simp only [List.getElem_cons_succ]); (try simp only [List.getElem_cons_zero]); (try simp only [Act.put]); (try simp only [List.setIfInBounds_toArray]); (try simp only [List.set_cons_succ]); (try simp only [List.set_cons_zero])
      refine wpAnyH_ready (rs := [11]) (by kernel_rfl) (by simp) ?_
      refine AllReadyH.cons rfl (fun K hK => ?_) AllReadyH.nil
      go_simp
      refine (rsame_g l l2 most room most2 room2 i j HD.out HD2.out _ _ V7 X1.out X2.out).mono ?_
      rintro e V8 ⟨rfl, hb⟩
      replace BD := Lib.hid ((hb.block _ (lt_some BD.out)).trans BD.out)
      replace BE := Lib.hid ((hb.block _ (lt_some BE.out)).trans BE.out)
      replace HG := Lib.hid (HG.out.keep hb)
      replace HG2 := Lib.hid (HG2.out.keep hb)
      replace HB := Lib.hid (ret_tr HB.out hb)
      replace X1 := Lib.hid (X1.out.keep hb)
      replace X2 := Lib.hid (X2.out.keep hb)
      clear hb hHeld
      go_wp2_with fail
      refine hK.out _ _ ⟨BD.out, BE.out, trivial⟩ (fun hHeld => ?_)
      clear hK K
      (try simp only [List.getElem_toArray]); (try simp only [List.getElem_cons_succ]); (try simp only [List.getElem_cons_zero]); (try simp only [Act.put]); (try simp only [List.setIfInBounds_toArray]); (try simp only [List.set_cons_succ]); (try simp only [List.set_cons_zero])
      clear X1 X2
      refine wpAnyH_take (i := 12) (v := ?v11) rfl (by kernel_rfl) (by kernel_rfl) (by kernel_rfl) (fun _ _ _ h => h) (Or.inl ⟨by rfl, ?hy11⟩) hHeld ?rest11
      case hy11 => (intro w hSw; (try dsimp only at hSw); (try go_split_ands); go_simp; first | done | with_reducible rfl)
      (try simp only [List.getElem_toArray]); (try simp only [List.getElem_cons_succ]); (try simp only [List.getElem_cons_zero]); (try simp only [Act.put]); (try simp only [List.setIfInBounds_toArray]); (try simp only [List.set_cons_succ]); (try simp only [List.set_cons_zero])
      refine wpAnyH_take (i := 13) (v := ?v12) rfl (by kernel_rfl) (by kernel_rfl) (by kernel_rfl) (fun _ _ _ h => h) (Or.inl ⟨by rfl, ?hy12⟩) hHeld ?rest12
      case hy12 => (intro w hSw; (try dsimp only at hSw); (try go_split_ands); go_simp; first | done | with_reducible rfl)
      (try simp only [List.getElem_toArray]); (try simp only [List.getElem_cons_succ]); (try simp only [List.getElem_cons_zero]); (try simp only [Act.put]); (try simp only [List.setIfInBounds_toArray]); (try simp only [List.set_cons_succ]); (try simp only [List.set_cons_zero])
      refine wpAnyH_take (i := 14) rfl (by kernel_rfl) (by kernel_rfl) (by kernel_rfl) (fun _ _ _ h => h) (yieldsIf_load_row (by rfl) 24 _ rfl _ rfl 24 _ (0, 0) _ (fun _ h => h.1) Try.underlying24 rfl (by kernel_rfl)) hHeld ?_
      (try simp only [List.getElem_toArray]); (try simp only [List.getElem_cons_succ]); (try simp only [List.getElem_cons_zero]); (try simp only [Act.put]); (try simp only [List.setIfInBounds_toArray]); (try simp only [List.set_cons_succ]); (try simp only [List.set_cons_zero])
      refine wpAnyH_take (i := 15) (v := ?v13) rfl (by kernel_rfl) (by kernel_rfl) (by kernel_rfl) (fun _ _ _ h => h) (Or.inl ⟨by rfl, ?hy13⟩) hHeld ?rest13
      case hy13 => (intro w hSw; (try dsimp only at hSw); (try go_split_ands); go_simp; first | done | with_reducible rfl)
      (try simp only [List.getElem_toArray]); (try simp only [List.getElem_cons_succ]); (try simp only [List.getElem_cons_zero]); (try simp only [Act.put]); (try simp only [List.setIfInBounds_toArray]); (try simp only [List.set_cons_succ]); (try simp only [List.set_cons_zero])
      refine wpAnyH_take (i := 16) rfl (by kernel_rfl) (by kernel_rfl) (by kernel_rfl) (fun _ _ _ h => h) (yieldsIf_load_row (by rfl) 24 _ rfl _ rfl 24 _ (0, 0) _ (fun _ h => h.1) Try.underlying24 rfl (by kernel_rfl)) hHeld ?_
      (try simp only [List.getElem_toArray]); (try simp only [List.getElem_cons_succ]); (try simp only [List.getElem_cons_zero]); (try simp only [Act.put]); (try simp only [List.setIfInBounds_toArray]); (try simp only [List.set_cons_succ]); (try simp only [List.set_cons_zero])
      refine wpAnyH_take (i := 17) (v := ?v14) rfl (by kernel_rfl) (by kernel_rfl) (by kernel_rfl) (fun _ _ _ h => h) (Or.inl ⟨by rfl, ?hy14⟩) hHeld ?rest14
      case hy14 => (intro w hSw; (try dsimp only at hSw); (try go_split_ands); go_simp; first | done | with_reducible rfl)
      (try simp only [List.getElem_toArray]); (try simp only [List.getElem_cons_succ]); (try simp only [List.getElem_cons_zero]); (try simp only [Act.put]); (try simp only [List.setIfInBounds_toArray]); (try simp only [List.set_cons_succ]); (try simp only [List.set_cons_zero])
      refine wpAnyH_ready (rs := [18]) (by kernel_rfl) (by simp) ?_
      refine AllReadyH.cons rfl (fun K hK => ?_) AllReadyH.nil
      go_simp
      refine (same_g l l most room most room i i HD.out.ok HD.out.ok _ _ V8 HG.out HG.out).mono ?_
      rintro e V9 ⟨rfl, hb⟩
      replace BD := Lib.hid ((hb.block _ (lt_some BD.out)).trans BD.out)
      replace BE := Lib.hid ((hb.block _ (lt_some BE.out)).trans BE.out)
      replace HG := Lib.hid (HG.out.keep hb)
      replace HG2 := Lib.hid (HG2.out.keep hb)
      replace HB := Lib.hid (ret_tr HB.out hb)
      clear hb hHeld
      rw [decide_eq_true (rfl : listT l i = listT l i)]
      go_wp2_with fail
      refine hK.out _ _ ⟨BD.out, BE.out, trivial⟩ (fun hHeld => ?_)
      clear hK K
      (try simp only [List.getElem_toArray]); (try simp only [List.getElem_cons_succ]); (try simp only [List.getElem_cons_zero]); (try simp only [Act.put]); (try simp only [List.setIfInBounds_toArray]); (try simp only [List.set_cons_succ]); (try simp only [List.set_cons_zero])
      refine wpAnyH_take (i := 19) (v := ?v15) rfl (by kernel_rfl) (by kernel_rfl) (by kernel_rfl) (fun _ _ _ h => h) (Or.inl ⟨by rfl, ?hy15⟩) hHeld ?rest15
      case hy15 => (intro w hSw; (try dsimp only at hSw); (try go_split_ands); go_simp; first | done | with_reducible rfl)
      (try simp only [List.getElem_toArray]); (try simp only [List.getElem_cons_succ]); (try simp only [List.getElem_cons_zero]); (try simp only [Act.put]); (try simp only [List.setIfInBounds_toArray]); (try simp only [List.set_cons_succ]); (try simp only [List.set_cons_zero])
      refine wpAnyH_take (i := 20) (v := ?v16) rfl (by kernel_rfl) (by kernel_rfl) (by kernel_rfl) (fun _ _ _ h => h) (Or.inl ⟨by rfl, ?hy16⟩) hHeld ?rest16
      case hy16 => (intro w hSw; (try dsimp only at hSw); (try go_split_ands); go_simp; first | done | with_reducible rfl)
      (try simp only [List.getElem_toArray]); (try simp only [List.getElem_cons_succ]); (try simp only [List.getElem_cons_zero]); (try simp only [Act.put]); (try simp only [List.setIfInBounds_toArray]); (try simp only [List.set_cons_succ]); (try simp only [List.set_cons_zero])
      refine wpAnyH_take (i := 21) rfl (by kernel_rfl) (by kernel_rfl) (by kernel_rfl) (fun _ _ _ h => h) (yieldsIf_load_row (by rfl) 24 _ rfl _ rfl 24 _ (0, 0) _ (fun _ h => h.1) Try.underlying24 rfl (by kernel_rfl)) hHeld ?_
      (try simp only [List.getElem_toArray]); (try simp only [List.getElem_cons_succ]); (try simp only [List.getElem_cons_zero]); (try simp only [Act.put]); (try simp only [List.setIfInBounds_toArray]); (try simp only [List.set_cons_succ]); (try simp only [List.set_cons_zero])
      refine wpAnyH_take (i := 22) (v := ?v17) rfl (by kernel_rfl) (by kernel_rfl) (by kernel_rfl) (fun _ _ _ h => h) (Or.inl ⟨by rfl, ?hy17⟩) hHeld ?rest17
      case hy17 => (intro w hSw; (try dsimp only at hSw); (try go_split_ands); go_simp; first | done | with_reducible rfl)
      (try simp only [List.getElem_toArray]); (try simp only [List.getElem_cons_succ]); (try simp only [List.getElem_cons_zero]); (try simp only [Act.put]); (try simp only [List.setIfInBounds_toArray]); (try simp only [List.set_cons_succ]); (try simp only [List.set_cons_zero])
      refine wpAnyH_take (i := 23) rfl (by kernel_rfl) (by kernel_rfl) (by kernel_rfl) (fun _ _ _ h => h) (yieldsIf_load_row (by rfl) 24 _ rfl _ rfl 24 _ (0, 0) _ (fun _ h => h.2.1) Try.underlying24 rfl (by kernel_rfl)) hHeld ?_
      (try simp only [List.getElem_toArray]); (try simp only [List.getElem_cons_succ]); (try simp only [List.getElem_cons_zero]); (try simp only [Act.put]); (try simp only [List.setIfInBounds_toArray]); (try simp only [List.set_cons_succ]); (try simp only [List.set_cons_zero])
      refine wpAnyH_take (i := 24) (v := ?v18) rfl (by kernel_rfl) (by kernel_rfl) (by kernel_rfl) (fun _ _ _ h => h) (Or.inl ⟨by rfl, ?hy18⟩) hHeld ?rest18
      case hy18 => (intro w hSw; (try dsimp only at hSw); (try go_split_ands); go_simp; first | done | with_reducible rfl)
      (try simp only [List.getElem_toArray]); (try simp only [List.getElem_cons_succ]); (try simp only [List.getElem_cons_zero]); (try simp only [Act.put]); (try simp only [List.setIfInBounds_toArray]); (try simp only [List.set_cons_succ]); (try simp only [List.set_cons_zero])
      refine wpAnyH_take (i := 26) rfl (by kernel_rfl) (by kernel_rfl) (by kernel_rfl) (fun _ _ _ h => h) (yieldsIf_load_row (by rfl) 24 _ rfl _ rfl 24 _ (0, 0) _ (fun _ h => h.2.1) Try.underlying24 rfl (by kernel_rfl)) hHeld ?_
      (try simp only [List.getElem_toArray]); (try simp only [List.getElem_cons_succ]); (try simp only [List.getElem_cons_zero]); (try simp only [Act.put]); (try simp only [List.setIfInBounds_toArray]); (try simp only [List.set_cons_succ]); (try simp only [List.set_cons_zero])
      refine wpAnyH_take (i := 27) (v := ?v19) rfl (by kernel_rfl) (by kernel_rfl) (by kernel_rfl) (fun _ _ _ h => h) (Or.inl ⟨by rfl, ?hy19⟩) hHeld ?rest19
      case hy19 => (intro w hSw; (try dsimp only at hSw); (try go_split_ands); go_simp; first | done | with_reducible rfl)
      (try simp only [List.getElem_toArray]); (try simp only [List.getElem_cons_succ]); (try simp only [List.getElem_cons_zero]); (try simp only [Act.put]); (try simp only [List.setIfInBounds_toArray]); (try simp only [List.set_cons_succ]); (try simp only [List.set_cons_zero])
      refine wpAnyH_take (i := 28) rfl (by kernel_rfl) (by kernel_rfl) (by kernel_rfl) (fun _ _ _ h => h) (yieldsIf_load_row (by rfl) 24 _ rfl _ rfl 24 _ (0, 0) _ (fun _ h => h.1) Try.underlying24 rfl (by kernel_rfl)) hHeld ?_
      (try simp only [List.getElem_toArray]); (try simp only [List.getElem_cons_succ]); (try simp only [List.getElem_cons_zero]); (try simp only [Act.put]); (try simp only [List.setIfInBounds_toArray]); (try simp only [List.set_cons_succ]); (try simp only [List.set_cons_zero])
      refine wpAnyH_take (i := 29) (v := ?v20) rfl (by kernel_rfl) (by kernel_rfl) (by kernel_rfl) (fun _ _ _ h => h) (Or.inl ⟨by rfl, ?hy20⟩) hHeld ?rest20
      case hy20 => (intro w hSw; (try dsimp only at hSw); (try go_split_ands); go_simp; first | done | with_reducible rfl)
      (try simp only [List.getElem_toArray]); (try simp only [List.getElem_cons_succ]); (try simp only [List.getElem_cons_zero]); (try simp only [Act.put]); (try simp only [List.setIfInBounds_toArray]); (try simp only [List.set_cons_succ]); (try simp only [List.set_cons_zero])
      refine wpAnyH_ready (rs := [25]) (by kernel_rfl) (by simp) ?_
      refine AllReadyH.cons rfl (fun K hK => ?_) AllReadyH.nil
      go_simp
      refine (same_g l l2 most room most2 room2 i j HD.out.ok HD2.out.ok _ _ V9 HG.out HG2.out).mono ?_
      rintro e V10 ⟨rfl, hb⟩
      replace BD := Lib.hid ((hb.block _ (lt_some BD.out)).trans BD.out)
      replace BE := Lib.hid ((hb.block _ (lt_some BE.out)).trans BE.out)
      replace HG := Lib.hid (HG.out.keep hb)
      replace HG2 := Lib.hid (HG2.out.keep hb)
      replace HB := Lib.hid (ret_tr HB.out hb)
      clear hb hHeld
      go_wp2_with fail
      refine hK.out _ _ ⟨BD.out, BE.out, trivial⟩ (fun hHeld => ?_)
      clear hK K
      (try simp only [List.getElem_toArray]); (try simp only [List.getElem_cons_succ]); (try simp only [List.getElem_cons_zero]); (try simp only [Act.put]); (try simp only [List.setIfInBounds_toArray]); (try simp only [List.set_cons_succ]); (try simp only [List.set_cons_zero])
      refine wpAnyH_ready (rs := [30]) (by kernel_rfl) (by simp) ?_
      refine AllReadyH.cons rfl (fun K hK => ?_) AllReadyH.nil
      go_simp
      refine (same_g l2 l most2 room2 most room j i HD2.out.ok HD.out.ok _ _ V10 HG2.out HG.out).mono ?_
      rintro e V11 ⟨rfl, hb⟩
      replace BD := Lib.hid ((hb.block _ (lt_some BD.out)).trans BD.out)
      replace BE := Lib.hid ((hb.block _ (lt_some BE.out)).trans BE.out)
      replace HG := Lib.hid (HG.out.keep hb)
      replace HG2 := Lib.hid (HG2.out.keep hb)
      replace HB := Lib.hid (ret_tr HB.out hb)
      clear hb hHeld
      rw [show decide (listT l2 j = listT l i) = decide (listT l i = listT l2 j) from decide_eq_decide.2 eq_comm]
      go_wp2_with fail
      refine hK.out _ _ ⟨BD.out, BE.out, trivial⟩ (fun hHeld => ?_)
      clear hK K
      (try simp only [List.getElem_toArray]); (try simp only [List.getElem_cons_succ]); (try simp only [List.getElem_cons_zero]); (try simp only [Act.put]); (try simp only [List.setIfInBounds_toArray]); (try simp only [List.set_cons_succ]); (try simp only [List.set_cons_zero])
      refine wpAnyH_take (i := 31) (v := ?v21) rfl (by kernel_rfl) (by kernel_rfl) (by kernel_rfl) (fun _ _ _ h => h) (Or.inl ⟨by rfl, ?hy21⟩) hHeld ?rest21
      case hy21 => (intro w hSw; (try dsimp only at hSw); (try go_split_ands); go_simp; first | done | with_reducible rfl)
      (try simp only [List.getElem_toArray]); (try simp only [List.getElem_cons_succ]); (try simp only [List.getElem_cons_zero]); (try simp only [Act.put]); (try simp only [List.setIfInBounds_toArray]); (try simp only [List.set_cons_succ]); (try simp only [List.set_cons_zero])
      refine wpAnyH_take (i := 32) (v := ?v22) rfl (by kernel_rfl) (by kernel_rfl) (by kernel_rfl) (fun _ _ _ h => h) (Or.inl ⟨by rfl, ?hy22⟩) hHeld ?rest22
      case hy22 => (intro w hSw; (try dsimp only at hSw); (try go_split_ands); go_simp; first | done | with_reducible rfl)
      (try simp only [List.getElem_toArray]); (try simp only [List.getElem_cons_succ]); (try simp only [List.getElem_cons_zero]); (try simp only [Act.put]); (try simp only [List.setIfInBounds_toArray]); (try simp only [List.set_cons_succ]); (try simp only [List.set_cons_zero])
      refine wpAnyH_take (i := 33) (v := ?v23) rfl (by kernel_rfl) (by kernel_rfl) (by kernel_rfl) (fun _ _ _ h => h) (Or.inl ⟨by rfl, ?hy23⟩) hHeld ?rest23
      case hy23 => (intro w hSw; (try dsimp only at hSw); (try go_split_ands); go_simp; first | done | with_reducible rfl)
      (try simp only [List.getElem_toArray]); (try simp only [List.getElem_cons_succ]); (try simp only [List.getElem_cons_zero]); (try simp only [Act.put]); (try simp only [List.setIfInBounds_toArray]); (try simp only [List.set_cons_succ]); (try simp only [List.set_cons_zero])
      refine wpAnyH_done (by kernel_rfl) ?_ _
      go_wp2_with fail
      go_ret
      exact ⟨rfl, HB.out⟩
end Go.Proofs.Ytilhiafmljmljaa
