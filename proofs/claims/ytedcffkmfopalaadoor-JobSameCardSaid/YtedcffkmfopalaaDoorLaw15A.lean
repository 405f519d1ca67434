/-
  The walk of JobSame.
-/
import Derived.Test.YtedcffkmfopalaaDoorJobI
import Derived.Test.YtedcffkmfopalaaDoorJobF
import Derived.Test.YtedcffkmfopalaaDoorShown15
namespace Go.Proofs.YtedcffkmfopalaaDoor
open Go.RowKit Go.Shelf
attribute [local go_sem ↓] Go.wp_at_zero Go.wp_at_succ

set_option maxRecDepth 100000 in
set_option maxHeartbeats 4000000 in
theorem jobSame_w (a b : JobL) (vn vs vd vn2 vs2 vd2 : Value) (w : World) (ha : GivesJ a vn vs vd w) (hb : GivesJ b vn2 vs2 vd2 w) :
    Calls Tryd.prog 4 #[jval a vn vs vd, jval b vn2 vs2 vd2] w fun e w' => e = .returned (.bool true) ∧ Below w.heap.size w w' := by
  obtain ⟨an, acn, rfl, _, _⟩ := Rd.form ha.nm
  obtain ⟨ax, acs, rfl, _, _⟩ := ha.st.form
  obtain ⟨ad, acd, rfl, _, _⟩ := Rd.form ha.dr
  obtain ⟨bn, bcn, rfl, _, _⟩ := Rd.form hb.nm
  obtain ⟨bx, bcs, rfl, _, _⟩ := hb.st.form
  obtain ⟨bd, bcd, rfl, _, _⟩ := Rd.form hb.dr
  have HA := Lib.hid ha
  have HB := Lib.hid hb
  clear ha hb
  go_enter Tryd.func4, Tryd.ntmps4
  go_upto_region 1 with (fail)
  refine code_fresh2 ?_
  intro W1 hb hA hA2 hs
  have BA := Lib.hid (hA)
  have BB := Lib.hid (hA2)
  replace HA := Lib.hid (HA.out.keep hb)
  replace HB := Lib.hid (HB.out.keep hb)
  have HW := Lib.hid hb
  clear hb hA hA2 hs
  have hz0 := BA.out
  have hz1 := BB.out
  go_wp2_with (first | (refine wpList_load_row rfl 27 _ rfl _ rfl 27 _ (0, 0) _ hz0 Tryd.underlying27 rfl (by kernel_rfl) ?_) | (refine wpList_load_rowG rfl 27 _ rfl _ rfl 27 _ (0, 0) _ hz0 Tryd.underlying27 rfl (by kernel_rfl) ?_) | (refine wpList_load_row rfl 27 _ rfl _ rfl 27 _ (0, 0) _ hz1 Tryd.underlying27 rfl (by kernel_rfl) ?_) | (refine wpList_load_rowG rfl 27 _ rfl _ rfl 27 _ (0, 0) _ hz1 Tryd.underlying27 rfl (by kernel_rfl) ?_))
  clear hz0 hz1
  refine (plain_c a _ _ _ W1 HA.out).mono ?_
  rintro e V1 ⟨rfl, hb⟩
  replace BA := Lib.hid ((hb.block _ (lt_some BA.out)).trans BA.out)
  replace BB := Lib.hid ((hb.block _ (lt_some BB.out)).trans BB.out)
  replace HA := Lib.hid (HA.out.keep hb)
  replace HB := Lib.hid (HB.out.keep hb)
  replace HW := Lib.hid (HW.out.trans (hb.mono HW.out.size))
  clear hb
  cases hq : plainJ a with
  | false =>
    clear hq
    have hz0 := BA.out
    have hz1 := BB.out
    go_wp2_with (first | (refine wpList_load_row rfl 27 _ rfl _ rfl 27 _ (0, 0) _ hz0 Tryd.underlying27 rfl (by kernel_rfl) ?_) | (refine wpList_load_rowG rfl 27 _ rfl _ rfl 27 _ (0, 0) _ hz0 Tryd.underlying27 rfl (by kernel_rfl) ?_) | (refine wpList_load_row rfl 27 _ rfl _ rfl 27 _ (0, 0) _ hz1 Tryd.underlying27 rfl (by kernel_rfl) ?_) | (refine wpList_load_rowG rfl 27 _ rfl _ rfl 27 _ (0, 0) _ hz1 Tryd.underlying27 rfl (by kernel_rfl) ?_))
    clear hz0 hz1
    refine (shown_c V1).mono ?_
    rintro e Z ⟨rfl, hb⟩
    go_wp2_with fail
    go_ret
    exact ⟨rfl, ret_tr HW.out hb⟩
  | true =>
    have SA := Lib.hid (small_J hq)
    clear hq
    have hz0 := BA.out
    have hz1 := BB.out
    go_wp2_with (first | (refine wpList_load_row rfl 27 _ rfl _ rfl 27 _ (0, 0) _ hz0 Tryd.underlying27 rfl (by kernel_rfl) ?_) | (refine wpList_load_rowG rfl 27 _ rfl _ rfl 27 _ (0, 0) _ hz0 Tryd.underlying27 rfl (by kernel_rfl) ?_) | (refine wpList_load_row rfl 27 _ rfl _ rfl 27 _ (0, 0) _ hz1 Tryd.underlying27 rfl (by kernel_rfl) ?_) | (refine wpList_load_rowG rfl 27 _ rfl _ rfl 27 _ (0, 0) _ hz1 Tryd.underlying27 rfl (by kernel_rfl) ?_))
    clear hz0 hz1
    refine (plain_c b _ _ _ V1 HB.out).mono ?_
    rintro e V2 ⟨rfl, hb⟩
    replace BA := Lib.hid ((hb.block _ (lt_some BA.out)).trans BA.out)
    replace BB := Lib.hid ((hb.block _ (lt_some BB.out)).trans BB.out)
    replace HA := Lib.hid (HA.out.keep hb)
    replace HB := Lib.hid (HB.out.keep hb)
    replace HW := Lib.hid (HW.out.trans (hb.mono HW.out.size))
    clear hb
    cases hq : plainJ b with
    | false =>
      clear hq
      have hz0 := BA.out
      have hz1 := BB.out
      go_wp2_with (first | (refine wpList_load_row rfl 27 _ rfl _ rfl 27 _ (0, 0) _ hz0 Tryd.underlying27 rfl (by kernel_rfl) ?_) | (refine wpList_load_rowG rfl 27 _ rfl _ rfl 27 _ (0, 0) _ hz0 Tryd.underlying27 rfl (by kernel_rfl) ?_) | (refine wpList_load_row rfl 27 _ rfl _ rfl 27 _ (0, 0) _ hz1 Tryd.underlying27 rfl (by kernel_rfl) ?_) | (refine wpList_load_rowG rfl 27 _ rfl _ rfl 27 _ (0, 0) _ hz1 Tryd.underlying27 rfl (by kernel_rfl) ?_))
      clear hz0 hz1
      refine (shown_c V2).mono ?_
      rintro e Z ⟨rfl, hb⟩
      go_wp2_with fail
      go_ret
      exact ⟨rfl, ret_tr HW.out hb⟩
    | true =>
      have SB := Lib.hid (small_J hq)
      clear hq
      have hz0 := BA.out
      have hz1 := BB.out
      go_wp2_with (first | (refine wpList_load_row rfl 27 _ rfl _ rfl 27 _ (0, 0) _ hz0 Tryd.underlying27 rfl (by kernel_rfl) ?_) | (refine wpList_load_rowG rfl 27 _ rfl _ rfl 27 _ (0, 0) _ hz0 Tryd.underlying27 rfl (by kernel_rfl) ?_) | (refine wpList_load_row rfl 27 _ rfl _ rfl 27 _ (0, 0) _ hz1 Tryd.underlying27 rfl (by kernel_rfl) ?_) | (refine wpList_load_rowG rfl 27 _ rfl _ rfl 27 _ (0, 0) _ hz1 Tryd.underlying27 rfl (by kernel_rfl) ?_))
      clear hz0 hz1
      refine (shown_c V2).mono ?_
      rintro e V3 ⟨rfl, hb⟩
      replace BA := Lib.hid ((hb.block _ (lt_some BA.out)).trans BA.out)
      replace BB := Lib.hid ((hb.block _ (lt_some BB.out)).trans BB.out)
      replace HA := Lib.hid (HA.out.keep hb)
      replace HB := Lib.hid (HB.out.keep hb)
      replace HW := Lib.hid (HW.out.trans (hb.mono HW.out.size))
      clear hb
      go_upto_region 3 with (fail)
      refine wp_region_held_drew (S := fun V => V.heap[w.heap.size]? = some (.cells #[.int .i64 a.kind, .int .i64 a.p, .int .i64 a.phase, .int .i64 a.fd, .int .i64 a.n, .int .i64 a.mode, .int .i64 a.tries, .int .i64 a.pos, .int .i64 a.flags, .string (bs a.path), .string (bs a.path2), .string (bs a.text), .slice an a.names.length acn, .slice ax a.stack.length acs, .slice ad a.draws.length acd, .bool a.done, .int .i64 a.exit, .string (bs a.out), .int .i64 a.e] 27 (0, 0)) ∧ V.heap[w.heap.size + 1]? = some (.cells #[.int .i64 b.kind, .int .i64 b.p, .int .i64 b.phase, .int .i64 b.fd, .int .i64 b.n, .int .i64 b.mode, .int .i64 b.tries, .int .i64 b.pos, .int .i64 b.flags, .string (bs b.path), .string (bs b.path2), .string (bs b.text), .slice bn b.names.length bcn, .slice bx b.stack.length bcs, .slice bd b.draws.length bcd, .bool b.done, .int .i64 b.exit, .string (bs b.out), .int .i64 b.e] 27 (0, 0)) ∧ True) (by kernel_rfl) ⟨BA.out, BB.out, trivial⟩ (fun hHeld => ?_)
      have hb := (Below.refl V3.heap.size V3).drew
      generalize V3.drew = V4 at *
      replace BA := Lib.hid ((hb.block _ (lt_some BA.out)).trans BA.out)
      replace BB := Lib.hid ((hb.block _ (lt_some BB.out)).trans BB.out)
      replace HA := Lib.hid (HA.out.keep hb)
      replace HB := Lib.hid (HB.out.keep hb)
      replace HW := Lib.hid (HW.out.trans (hb.mono HW.out.size))
      clear hb
      refine wpAnyH_take (i := 0) rfl (by kernel_rfl) (by kernel_rfl) (by kernel_rfl) (fun _ _ _ h => h) (yieldsIf_load_row (by rfl) 27 _ rfl _ rfl 27 _ (0, 0) _ (fun _ h => h.1) Tryd.underlying27 rfl (by kernel_rfl)) hHeld ?_
      (try simp only [List.getElem_toArray]); (try simp only [List.getElem_cons_succ]); (try simp only [List.getElem_cons_zero]); (try simp only [Act.put]); (try simp only [List.setIfInBounds_toArray]); (try simp only [List.set_cons_succ]); (try simp only [List.set_cons_zero])
      refine wpAnyH_take (i := 1) rfl (by kernel_rfl) (by kernel_rfl) (by kernel_rfl) (fun _ _ _ h => h) (yieldsIf_load_row (by rfl) 27 _ rfl _ rfl 27 _ (0, 0) _ (fun _ h => h.2.1) Tryd.underlying27 rfl (by kernel_rfl)) hHeld ?_
      (try simp only [List.getElem_toArray]); (try simp only [List.getElem_cons_succ]); (try simp only [List.getElem_cons_zero]); (try simp only [Act.put]); (try simp only [List.setIfInBounds_toArray]); (try simp only [List.set_cons_succ]); (try simp only [List.set_cons_zero])
      refine wpAnyH_take (i := 3) rfl (by kernel_rfl) (by kernel_rfl) (by kernel_rfl) (fun _ _ _ h => h) (yieldsIf_load_row (by rfl) 27 _ rfl _ rfl 27 _ (0, 0) _ (fun _ h => h.1) Tryd.underlying27 rfl (by kernel_rfl)) hHeld ?_
      (try simp only [List.getElem_toArray]); (try simp only [List.getElem_cons_succ]); (try simp only [List.getElem_cons_zero]); (try simp only [Act.put]); (try simp only [List.setIfInBounds_toArray]); (try simp only [List.set_cons_succ]); (try simp only [List.set_cons_zero])
      refine wpAnyH_take (i := 5) rfl (by kernel_rfl) (by kernel_rfl) (by kernel_rfl) (fun _ _ _ h => h) (yieldsIf_load_row (by rfl) 27 _ rfl _ rfl 27 _ (0, 0) _ (fun _ h => h.2.1) Tryd.underlying27 rfl (by kernel_rfl)) hHeld ?_
      (try simp only [List.getElem_toArray]); (try simp only [List.getElem_cons_succ]); (try simp only [List.getElem_cons_zero]); (try simp only [Act.put]); (try simp only [List.setIfInBounds_toArray]); (try simp only [List.set_cons_succ]); (try simp only [List.set_cons_zero])
      refine wpAnyH_ready (rs := [2]) (by kernel_rfl) (by simp) ?_
      refine AllReadyH.cons rfl (fun K hK => ?_) AllReadyH.nil
      go_simp
      refine (pSame_c a b SA.out.light SB.out.light _ _ _ _ _ _ V4 HA.out HB.out).mono ?_
      rintro e V5 ⟨rfl, hb⟩
      replace BA := Lib.hid ((hb.block _ (lt_some BA.out)).trans BA.out)
      replace BB := Lib.hid ((hb.block _ (lt_some BB.out)).trans BB.out)
      replace HA := Lib.hid (HA.out.keep hb)
      replace HB := Lib.hid (HB.out.keep hb)
      replace HW := Lib.hid (HW.out.trans (hb.mono HW.out.size))
      clear hb hHeld
      go_wp2_with fail
      refine hK.out _ _ ⟨BA.out, BB.out, trivial⟩ (fun hHeld => ?_)
      clear hK K
      (try simp only [List.getElem_toArray]); (try simp only [List.getElem_cons_succ]); (try simp only [List.getElem_cons_zero]); (try simp only [Act.put]); (try simp only [List.setIfInBounds_toArray]); (try simp only [List.set_cons_succ]); (try simp only [List.set_cons_zero])
      refine wpAnyH_ready (rs := [4]) (by kernel_rfl) (by simp) ?_
      refine AllReadyH.cons rfl (fun K hK => ?_) AllReadyH.nil
      go_simp
      refine (work_c a SA.out.light _ _ _ V5 HA.out).mono ?_
      rintro e V6 ⟨vo1, rfl, hx, hb⟩
      replace BA := Lib.hid ((hb.block _ (lt_some BA.out)).trans BA.out)
      replace BB := Lib.hid ((hb.block _ (lt_some BB.out)).trans BB.out)
      replace HA := Lib.hid (HA.out.keep hb)
      replace HB := Lib.hid (HB.out.keep hb)
      replace HW := Lib.hid (HW.out.trans (hb.mono HW.out.size))
      clear hb hHeld
      have X1 := Lib.hid (hx)
      clear hx
      go_wp2_with fail
      refine hK.out _ _ ⟨BA.out, BB.out, trivial⟩ (fun hHeld => ?_)
      clear hK K
      (try simp only [List.getElem_toArray]); (try simp only [List.getElem_cons_succ]); (try simp only [List.getElem_cons_zero]); (try simp only [Act.put]); (try simp only [List.setIfInBounds_toArray]); (try simp only [List.set_cons_succ]); (try simp only [List.set_cons_zero])
      refine wpAnyH_ready (rs := [6]) (by kernel_rfl) (by simp) ?_
      refine AllReadyH.cons rfl (fun K hK => ?_) AllReadyH.nil
      go_simp
      refine (work_c b SB.out.light _ _ _ V6 HB.out).mono ?_
      rintro e V7 ⟨vo2, rfl, hx, hb⟩
      replace BA := Lib.hid ((hb.block _ (lt_some BA.out)).trans BA.out)
      replace BB := Lib.hid ((hb.block _ (lt_some BB.out)).trans BB.out)
      replace HA := Lib.hid (HA.out.keep hb)
      replace HB := Lib.hid (HB.out.keep hb)
      replace HW := Lib.hid (HW.out.trans (hb.mono HW.out.size))
      replace X1 := Lib.hid (X1.out.keep hb)
      clear hb hHeld
      have X2 := Lib.hid (hx)
      clear hx
      go_wp2_with fail
      refine hK.out _ _ ⟨BA.out, BB.out, trivial⟩ (fun hHeld => ?_)
      clear hK K
      (try simp only [List.getElem_toArray]); (try simp only [List.getElem_cons_succ]); (try simp only [List.getElem_cons_zero]); (try simp only [Act.put]); (try simp only [List.setIfInBounds_toArray]); (try simp only [List.set_cons_succ]); (try simp only [List.set_cons_zero])
      refine wpAnyH_ready (rs := [7]) (by kernel_rfl) (by simp) ?_
      refine AllReadyH.cons rfl (fun K hK => ?_) AllReadyH.nil
      go_simp
      refine (rSame_c a b SA.out.light SB.out.light _ _ _ _ _ _ V7 X1.out X2.out).mono ?_
      rintro e V8 ⟨rfl, hb⟩
      replace BA := Lib.hid ((hb.block _ (lt_some BA.out)).trans BA.out)
      replace BB := Lib.hid ((hb.block _ (lt_some BB.out)).trans BB.out)
      replace HA := Lib.hid (HA.out.keep hb)
      replace HB := Lib.hid (HB.out.keep hb)
      replace HW := Lib.hid (HW.out.trans (hb.mono HW.out.size))
      replace X1 := Lib.hid (X1.out.keep hb)
      replace X2 := Lib.hid (X2.out.keep hb)
      clear hb hHeld
      generalize decide (a = b) = q
      go_wp2_with fail
      refine hK.out _ _ ⟨BA.out, BB.out, trivial⟩ (fun hHeld => ?_)
      clear hK K
      (try simp only [List.getElem_toArray]); (try simp only [List.getElem_cons_succ]); (try simp only [List.getElem_cons_zero]); (try simp only [Act.put]); (try simp only [List.setIfInBounds_toArray]); (try simp only [List.set_cons_succ]); (try simp only [List.set_cons_zero])
      refine wpAnyH_take (i := 8) (v := ?v7) rfl (by kernel_rfl) (by kernel_rfl) (by kernel_rfl) (fun _ _ _ h => h) (Or.inl ⟨by rfl, ?hy7⟩) hHeld ?rest7
      case hy7 => (intro w hSw; (try dsimp only at hSw); (try go_split_ands); go_simp; first | done | with_reducible rfl)
      (try simp only [List.getElem_toArray]); (try simp only [List.getElem_cons_succ]); (try simp only [List.getElem_cons_zero]); (try simp only [Act.put]); (try simp only [List.setIfInBounds_toArray]); (try simp only [List.set_cons_succ]); (try simp only [List.set_cons_zero])
      refine wpAnyH_take (i := 9) (v := ?v8) rfl (by kernel_rfl) (by kernel_rfl) (by kernel_rfl) (fun _ _ _ h => h) (Or.inl ⟨by rfl, ?hy8⟩) hHeld ?rest8
      case hy8 => (intro w hSw; (try dsimp only at hSw); (try go_split_ands); go_simp; first | done | with_reducible rfl)
      (try simp only [List.getElem_toArray]); (try simp only [List.getElem_cons_succ]); (try simp only [List.getElem_cons_zero]); (try simp only [Act.put]); (try simp only [List.setIfInBounds_toArray]); (try simp only [List.set_cons_succ]); (try simp only [List.set_cons_zero])
      refine wpAnyH_take (i := 10) rfl (by kernel_rfl) (by kernel_rfl) (by kernel_rfl) (fun _ _ _ h => h) (yieldsIf_load_row (by rfl) 27 _ rfl _ rfl 27 _ (0, 0) _ (fun _ h => h.1) Tryd.underlying27 rfl (by kernel_rfl)) hHeld ?_
      (try simp only [List.getElem_toArray]); (try simp only [List.getElem_cons_succ]); (try simp only [List.getElem_cons_zero]); (try simp only [Act.put]); (try simp only [List.setIfInBounds_toArray]); (try simp only [List.set_cons_succ]); (try simp only [List.set_cons_zero])
      refine wpAnyH_take (i := 11) rfl (by kernel_rfl) (by kernel_rfl) (by kernel_rfl) (fun _ _ _ h => h) (yieldsIf_load_row (by rfl) 27 _ rfl _ rfl 27 _ (0, 0) _ (fun _ h => h.1) Tryd.underlying27 rfl (by kernel_rfl)) hHeld ?_
      (try simp only [List.getElem_toArray]); (try simp only [List.getElem_cons_succ]); (try simp only [List.getElem_cons_zero]); (try simp only [Act.put]); (try simp only [List.setIfInBounds_toArray]); (try simp only [List.set_cons_succ]); (try simp only [List.set_cons_zero])
      refine wpAnyH_ready (rs := [12]) (by kernel_rfl) (by simp) ?_
      refine AllReadyH.cons rfl (fun K hK => ?_) AllReadyH.nil
      go_simp
      refine (pSame_c a a SA.out.light SA.out.light _ _ _ _ _ _ V8 HA.out HA.out).mono ?_
      rintro e V9 ⟨rfl, hb⟩
      replace BA := Lib.hid ((hb.block _ (lt_some BA.out)).trans BA.out)
      replace BB := Lib.hid ((hb.block _ (lt_some BB.out)).trans BB.out)
      replace HA := Lib.hid (HA.out.keep hb)
      replace HB := Lib.hid (HB.out.keep hb)
      replace HW := Lib.hid (HW.out.trans (hb.mono HW.out.size))
      replace X1 := Lib.hid (X1.out.keep hb)
      replace X2 := Lib.hid (X2.out.keep hb)
      clear hb hHeld
      rw [decide_eq_true (rfl : a = a)]
      go_wp2_with fail
      refine hK.out _ _ ⟨BA.out, BB.out, trivial⟩ (fun hHeld => ?_)
      clear hK K
      (try simp only [List.getElem_toArray]); (try simp only [List.getElem_cons_succ]); (try simp only [List.getElem_cons_zero]); (try simp only [Act.put]); (try simp only [List.setIfInBounds_toArray]); (try simp only [List.set_cons_succ]); (try simp only [List.set_cons_zero])
      refine wpAnyH_take (i := 13) (v := ?v9) rfl (by kernel_rfl) (by kernel_rfl) (by kernel_rfl) (fun _ _ _ h => h) (Or.inl ⟨by rfl, ?hy9⟩) hHeld ?rest9
      case hy9 => (intro w hSw; (try dsimp only at hSw); (try go_split_ands); go_simp; first | done | with_reducible rfl)
      (try simp only [List.getElem_toArray]); (try simp only [List.getElem_cons_succ]); (try simp only [List.getElem_cons_zero]); (try simp only [Act.put]); (try simp only [List.setIfInBounds_toArray]); (try simp only [List.set_cons_succ]); (try simp only [List.set_cons_zero])
      refine wpAnyH_take (i := 14) (v := ?v10) rfl (by kernel_rfl) (by kernel_rfl) (by kernel_rfl) (fun _ _ _ h => h) (Or.inl ⟨by rfl, ?hy10⟩) hHeld ?rest10
      case hy10 => (intro w hSw; (try dsimp only at hSw); (try go_split_ands); go_simp; first | done | with_reducible rfl)
      (try simp only [List.getElem_toArray]); (try simp only [List.getElem_cons_succ]); (try simp only [List.getElem_cons_zero]); (try simp only [Act.put]); (try simp only [List.setIfInBounds_toArray]); (try simp only [List.set_cons_succ]); (try simp only [List.set_cons_zero])
      refine wpAnyH_done (by kernel_rfl) ?_ _
      go_wp2_with fail
      go_ret
      exact ⟨rfl, HW.out⟩
end Go.Proofs.YtedcffkmfopalaaDoor
