/-
  The walk of JobDraws.
-/
import Derived.Test.YtedcffkmfopalaaDoorJobM
import Derived.Test.YtedcffkmfopalaaDoorJobF
import Derived.Test.YtedcffkmfopalaaDoorShown15
namespace Go.Proofs.YtedcffkmfopalaaDoor
open Go.RowKit Go.Shelf
attribute [local go_sem ↓] Go.wp_at_zero Go.wp_at_succ

theorem moved_light {a : JobL} (h : SmallJ a) (m : Int) : LightJ (movedJ a m) := ⟨h.light.st, h.light.fr, h.light.nm, h.light.dr⟩
theorem moved_gives {a : JobL} {m : Int} {vn vs vd : Value} {W : World} (h : GivesJ a vn vs vd W) : GivesJ (movedJ a m) vn vs vd W := ⟨h.nm, h.st, h.dr⟩
theorem newJ_light {kind p : Int} {d : List Int} (h : d.length ≤ 200) : LightJ (newJ kind p d) := ⟨Nat.zero_le _, (fun f hf => by cases hf), Nat.zero_le _, h⟩
set_option maxRecDepth 100000 in
set_option maxHeartbeats 4000000 in
theorem jobDraws_w (a : JobL) (n : Int) (hn0 : -128 ≤ n) (hn1 : n ≤ 127) (kind p : Int) (vn vs vd : Value) (w : World) (ha : GivesJ a vn vs vd w) :
    Calls Tryd.prog 3 #[jval a vn vs vd, .int .i8 n, .int .i64 kind, .int .i64 p] w fun e w' => e = .returned (.bool true) ∧ Below w.heap.size w w' := by
  obtain ⟨an, acn, rfl, _, _⟩ := Rd.form ha.nm
  obtain ⟨ax, acs, rfl, _, _⟩ := ha.st.form
  obtain ⟨ad, acd, rfl, _, _⟩ := Rd.form ha.dr
  have HA := Lib.hid ha
  clear ha
  go_enter Tryd.func3, Tryd.ntmps3
  go_upto_region 1 with (fail)
  refine code_fresh1 ?_
  intro W1 hb hA hs
  have BA := Lib.hid (hA)
  replace HA := Lib.hid (HA.out.keep hb)
  have HW := Lib.hid hb
  clear hb hA hs
  have hz0 := BA.out
  go_wp2_with (first | (refine wpList_load_row rfl 27 _ rfl _ rfl 27 _ (0, 0) _ hz0 Tryd.underlying27 rfl (by kernel_rfl) ?_) | (refine wpList_load_rowG rfl 27 _ rfl _ rfl 27 _ (0, 0) _ hz0 Tryd.underlying27 rfl (by kernel_rfl) ?_))
  clear hz0
  refine (plain_c a _ _ _ W1 HA.out).mono ?_
  rintro e V1 ⟨rfl, hb⟩
  replace BA := Lib.hid ((hb.block _ (lt_some BA.out)).trans BA.out)
  replace HA := Lib.hid (HA.out.keep hb)
  replace HW := Lib.hid (HW.out.trans (hb.mono HW.out.size))
  clear hb
  cases hq : plainJ a with
  | false =>
    clear hq
    go_wp2_with fail
    refine (shown_c V1).mono ?_
    rintro e Z ⟨rfl, hb⟩
    go_wp2_with fail
    go_ret
    exact ⟨rfl, ret_tr HW.out hb⟩
  | true =>
    have SA := Lib.hid (small_J hq)
    clear hq
    go_wp2_with fail
    refine (shown_c V1).mono ?_
    rintro e V2 ⟨rfl, hb⟩
    replace BA := Lib.hid ((hb.block _ (lt_some BA.out)).trans BA.out)
    replace HA := Lib.hid (HA.out.keep hb)
    replace HW := Lib.hid (HW.out.trans (hb.mono HW.out.size))
    clear hb
    have w1 : IntKind.i64.wrap n = n := Go.IntWalk.i64_in _ (by omega)
    obtain ⟨m, hm⟩ : ∃ m, m = n.tmod 100 := ⟨_, rfl⟩
    have hm0 : -100 ≤ m := by rw [hm]; exact Int.le_of_lt (Int.lt_tmod_of_pos n (by decide))
    have hm1 : m ≤ 100 := by rw [hm]; exact Int.le_of_lt (Int.tmod_lt_of_pos n (by decide))
    have w2 : IntKind.i64.wrap m = m := Go.IntWalk.i64_in _ (by omega)
    rw [hm] at w2
    go_upto_region 4 with (fail)
    rw [← hm]
    have HM0 := Lib.hid hm0
    have HM1 := Lib.hid hm1
    clear w1 w2 hm hm0 hm1
    have hz0 := BA.out
    go_wp2_with (first | (refine wpList_load_row rfl 27 _ rfl _ rfl 27 _ (0, 0) _ hz0 Tryd.underlying27 rfl (by kernel_rfl) ?_) | (refine wpList_load_rowG rfl 27 _ rfl _ rfl 27 _ (0, 0) _ hz0 Tryd.underlying27 rfl (by kernel_rfl) ?_))
    clear hz0
    refine (pDraw_c a SA.out m HM0.out HM1.out _ _ _ V2 HA.out).mono ?_
    rintro e V3 ⟨v1, rfl, hr1, hb⟩
    replace BA := Lib.hid ((hb.block _ (lt_some BA.out)).trans BA.out)
    replace HA := Lib.hid (HA.out.keep hb)
    replace HW := Lib.hid (HW.out.trans (hb.mono HW.out.size))
    clear hb
    obtain ⟨o1, k1, rfl, _, _⟩ := Rd.form hr1
    have R1 := Lib.hid (hr1)
    clear hr1
    go_upto_region 5 with (first | (refine wpList_fresh1 ?_; intro V51 hb hA51 hs51) | (refine wpList_store_row rfl 27 _ _ rfl _ rfl rfl hA51 rfl (by kernel_rfl) rfl ?_; intro W51 hb51 hg51 hs51 hB51))
    (try simp only [List.getElem_toArray]); (try simp only [List.getElem_cons_succ]); (try simp only [List.getElem_cons_zero]); (try simp only [Act.put]); (try simp only [List.setIfInBounds_toArray]); (try simp only [List.set_cons_succ]); (try simp only [List.set_cons_zero])
    have hbv : Below V3.heap.size V3 W51 := hb.trans (hb51.mono (Nat.le_refl _))
    obtain ⟨bt, hbn⟩ : ∃ b, b = V3.heap.size := ⟨_, rfl⟩
    have Lt := Lib.hid hbn
    rw [← hbn] at hB51 ⊢
    clear hb hb51 hA51 hs51 hg51 hbn
    have hb := hbv
    clear hbv
    replace BA := Lib.hid ((hb.block _ (lt_some BA.out)).trans BA.out)
    replace HA := Lib.hid (HA.out.keep hb)
    replace HW := Lib.hid (HW.out.trans (hb.mono HW.out.size))
    replace R1 := Lib.hid (rd_keep R1.out hb)
    clear hb
    have Bt := Lib.hid ((show W51.heap[bt]? = some (.cells #[.int .i64 (movedJ a m).kind, .int .i64 (movedJ a m).p, .int .i64 (movedJ a m).phase, .int .i64 (movedJ a m).fd, .int .i64 (movedJ a m).n, .int .i64 (movedJ a m).mode, .int .i64 (movedJ a m).tries, .int .i64 (movedJ a m).pos, .int .i64 (movedJ a m).flags, .string (bs (movedJ a m).path), .string (bs (movedJ a m).path2), .string (bs (movedJ a m).text), .slice an a.names.length acn, .slice ax a.stack.length acs, .slice ad a.draws.length acd, .bool (movedJ a m).done, .int .i64 (movedJ a m).exit, .string (bs (movedJ a m).out), .int .i64 (movedJ a m).e] 27 (0, 0)) from hB51))
    clear hB51
    have hz0 := BA.out
    go_wp2_with (first | (refine wpList_load_row rfl 27 _ rfl _ rfl 27 _ (0, 0) _ hz0 Tryd.underlying27 rfl (by kernel_rfl) ?_) | (refine wpList_load_rowG rfl 27 _ rfl _ rfl 27 _ (0, 0) _ hz0 Tryd.underlying27 rfl (by kernel_rfl) ?_))
    clear hz0
    refine (work_c a SA.out.light _ _ _ W51 HA.out).mono ?_
    rintro e V4 ⟨vo1, rfl, hx, hb⟩
    replace BA := Lib.hid ((hb.block _ (lt_some BA.out)).trans BA.out)
    replace HA := Lib.hid (HA.out.keep hb)
    replace HW := Lib.hid (HW.out.trans (hb.mono HW.out.size))
    replace R1 := Lib.hid (rd_keep R1.out hb)
    replace Bt := Lib.hid ((hb.block _ (lt_some Bt.out)).trans Bt.out)
    clear hb
    obtain ⟨x1, y1, rfl, _, _⟩ := hx.st.form
    have X1 := Lib.hid (hx)
    clear hx
    go_wp2_with fail
    refine (rDraw_c a SA.out m HM0.out HM1.out _ _ _ V4 X1.out).mono ?_
    rintro e V5 ⟨v2, rfl, hr2, hb⟩
    replace BA := Lib.hid ((hb.block _ (lt_some BA.out)).trans BA.out)
    replace HA := Lib.hid (HA.out.keep hb)
    replace HW := Lib.hid (HW.out.trans (hb.mono HW.out.size))
    replace R1 := Lib.hid (rd_keep R1.out hb)
    replace Bt := Lib.hid ((hb.block _ (lt_some Bt.out)).trans Bt.out)
    replace X1 := Lib.hid (X1.out.keep hb)
    clear hb
    obtain ⟨o2, k2, rfl, _, _⟩ := Rd.form hr2
    have R2 := Lib.hid (hr2)
    clear hr2
    go_upto_region 6 with (first | (refine wpList_fresh1 ?_; intro V52 hb hA52 hs52) | (refine wpList_store_row rfl 35 _ _ rfl _ rfl rfl hA52 rfl (by kernel_rfl) rfl ?_; intro W52 hb52 hg52 hs52 hB52))
    (try simp only [List.getElem_toArray]); (try simp only [List.getElem_cons_succ]); (try simp only [List.getElem_cons_zero]); (try simp only [Act.put]); (try simp only [List.setIfInBounds_toArray]); (try simp only [List.set_cons_succ]); (try simp only [List.set_cons_zero])
    have hbv : Below V5.heap.size V5 W52 := hb.trans (hb52.mono (Nat.le_refl _))
    obtain ⟨br, hbn⟩ : ∃ b, b = V5.heap.size := ⟨_, rfl⟩
    have Lr := Lib.hid hbn
    rw [← hbn] at hB52 ⊢
    clear hb hb52 hA52 hs52 hg52 hbn
    have hb := hbv
    clear hbv
    replace BA := Lib.hid ((hb.block _ (lt_some BA.out)).trans BA.out)
    replace HA := Lib.hid (HA.out.keep hb)
    replace HW := Lib.hid (HW.out.trans (hb.mono HW.out.size))
    replace R1 := Lib.hid (rd_keep R1.out hb)
    replace Bt := Lib.hid ((hb.block _ (lt_some Bt.out)).trans Bt.out)
    replace X1 := Lib.hid (X1.out.keep hb)
    replace R2 := Lib.hid (rd_keep R2.out hb)
    clear hb
    have Br := Lib.hid ((show W52.heap[br]? = some (.cells #[.int .i64 (movedJ a m).kind, .int .i64 (movedJ a m).p, .int .i64 (movedJ a m).phase, .int .i64 (movedJ a m).fd, .int .i64 (movedJ a m).n, .int .i64 (movedJ a m).mode, .int .i64 (movedJ a m).tries, .int .i64 (movedJ a m).pos, .int .i64 (movedJ a m).flags, .string (bs (movedJ a m).path), .string (bs (movedJ a m).path2), .string (bs (movedJ a m).text), .slice an a.names.length acn, .slice x1 a.stack.length y1, .slice ad a.draws.length acd, .bool (movedJ a m).done, .int .i64 (movedJ a m).exit, .string (bs (movedJ a m).out), .int .i64 (movedJ a m).e] 35 (0, 0)) from hB52))
    clear hB52
    refine wp_region_held_drew (S := fun V => V.heap[w.heap.size]? = some (.cells #[.int .i64 a.kind, .int .i64 a.p, .int .i64 a.phase, .int .i64 a.fd, .int .i64 a.n, .int .i64 a.mode, .int .i64 a.tries, .int .i64 a.pos, .int .i64 a.flags, .string (bs a.path), .string (bs a.path2), .string (bs a.text), .slice an a.names.length acn, .slice ax a.stack.length acs, .slice ad a.draws.length acd, .bool a.done, .int .i64 a.exit, .string (bs a.out), .int .i64 a.e] 27 (0, 0)) ∧ V.heap[bt]? = some (.cells #[.int .i64 (movedJ a m).kind, .int .i64 (movedJ a m).p, .int .i64 (movedJ a m).phase, .int .i64 (movedJ a m).fd, .int .i64 (movedJ a m).n, .int .i64 (movedJ a m).mode, .int .i64 (movedJ a m).tries, .int .i64 (movedJ a m).pos, .int .i64 (movedJ a m).flags, .string (bs (movedJ a m).path), .string (bs (movedJ a m).path2), .string (bs (movedJ a m).text), .slice an a.names.length acn, .slice ax a.stack.length acs, .slice ad a.draws.length acd, .bool (movedJ a m).done, .int .i64 (movedJ a m).exit, .string (bs (movedJ a m).out), .int .i64 (movedJ a m).e] 27 (0, 0)) ∧ V.heap[br]? = some (.cells #[.int .i64 (movedJ a m).kind, .int .i64 (movedJ a m).p, .int .i64 (movedJ a m).phase, .int .i64 (movedJ a m).fd, .int .i64 (movedJ a m).n, .int .i64 (movedJ a m).mode, .int .i64 (movedJ a m).tries, .int .i64 (movedJ a m).pos, .int .i64 (movedJ a m).flags, .string (bs (movedJ a m).path), .string (bs (movedJ a m).path2), .string (bs (movedJ a m).text), .slice an a.names.length acn, .slice x1 a.stack.length y1, .slice ad a.draws.length acd, .bool (movedJ a m).done, .int .i64 (movedJ a m).exit, .string (bs (movedJ a m).out), .int .i64 (movedJ a m).e] 35 (0, 0)) ∧ True) (by kernel_rfl) ⟨BA.out, Bt.out, Br.out, trivial⟩ (fun hHeld => ?_)
    have hb := (Below.refl W52.heap.size W52).drew
    generalize W52.drew = V6 at *
    replace BA := Lib.hid ((hb.block _ (lt_some BA.out)).trans BA.out)
    replace HA := Lib.hid (HA.out.keep hb)
    replace HW := Lib.hid (HW.out.trans (hb.mono HW.out.size))
    replace R1 := Lib.hid (rd_keep R1.out hb)
    replace Bt := Lib.hid ((hb.block _ (lt_some Bt.out)).trans Bt.out)
    replace X1 := Lib.hid (X1.out.keep hb)
    replace R2 := Lib.hid (rd_keep R2.out hb)
    replace Br := Lib.hid ((hb.block _ (lt_some Br.out)).trans Br.out)
    clear hb
    refine wpAnyH_take (i := 0) (v := ?v11) rfl (by kernel_rfl) (by kernel_rfl) (by kernel_rfl) (fun _ _ _ h => h) (Or.inl ⟨by rfl, ?hy11⟩) hHeld ?rest11
    case hy11 => (intro w hSw; (try dsimp only at hSw); (try go_split_ands); go_simp; first | done | with_reducible rfl)
    (try simp only [List.getElem_toArray]); (try simp only [List.getElem_cons_succ]); (try simp only [List.getElem_cons_zero]); (try simp only [Act.put]); (try simp only [List.setIfInBounds_toArray]); (try simp only [List.set_cons_succ]); (try simp only [List.set_cons_zero])
    refine wpAnyH_take (i := 1) (v := ?v12) rfl (by kernel_rfl) (by kernel_rfl) (by kernel_rfl) (fun _ _ _ h => h) (Or.inl ⟨by rfl, ?hy12⟩) hHeld ?rest12
    case hy12 => (intro w hSw; (try dsimp only at hSw); (try go_split_ands); go_simp; first | done | with_reducible rfl)
    (try simp only [List.getElem_toArray]); (try simp only [List.getElem_cons_succ]); (try simp only [List.getElem_cons_zero]); (try simp only [Act.put]); (try simp only [List.setIfInBounds_toArray]); (try simp only [List.set_cons_succ]); (try simp only [List.set_cons_zero])
    have HDL := Lib.hid (drawJ_len a.draws a.pos.toNat m.toNat)
    refine wpAnyH_ready (rs := [2]) (by kernel_rfl) (by simp) ?_
    refine AllReadyH.cons rfl (fun K hK => ?_) AllReadyH.nil
    go_simp
    rw [← HDL.out]
    refine (lInts_c (drawJ a.draws a.pos.toNat m.toNat) (drawJ a.draws a.pos.toNat m.toNat) (by have := HDL.out; have := HM1.out; omega) o1 o2 k1 k2 V6 (by rw [HDL.out]; exact R1.out) (by rw [HDL.out]; exact R2.out)).mono ?_
    rintro e V7 ⟨rfl, hb⟩
    replace BA := Lib.hid ((hb.block _ (lt_some BA.out)).trans BA.out)
    replace HA := Lib.hid (HA.out.keep hb)
    replace HW := Lib.hid (HW.out.trans (hb.mono HW.out.size))
    replace R1 := Lib.hid (rd_keep R1.out hb)
    replace Bt := Lib.hid ((hb.block _ (lt_some Bt.out)).trans Bt.out)
    replace X1 := Lib.hid (X1.out.keep hb)
    replace R2 := Lib.hid (rd_keep R2.out hb)
    replace Br := Lib.hid ((hb.block _ (lt_some Br.out)).trans Br.out)
    clear hb hHeld
    rw [decide_eq_true (rfl : drawJ a.draws a.pos.toNat m.toNat = drawJ a.draws a.pos.toNat m.toNat)]
    go_wp2_with fail
    refine hK.out _ _ ⟨BA.out, Bt.out, Br.out, trivial⟩ (fun hHeld => ?_)
    clear hK K
    (try simp only [List.getElem_toArray]); (try simp only [List.getElem_cons_succ]); (try simp only [List.getElem_cons_zero]); (try simp only [Act.put]); (try simp only [List.setIfInBounds_toArray]); (try simp only [List.set_cons_succ]); (try simp only [List.set_cons_zero])
    refine wpAnyH_take (i := 3) (v := ?v13) rfl (by kernel_rfl) (by kernel_rfl) (by kernel_rfl) (fun _ _ _ h => h) (Or.inl ⟨by rfl, ?hy13⟩) hHeld ?rest13
    case hy13 => (intro w hSw; (try dsimp only at hSw); (try go_split_ands); go_simp; first | done | with_reducible rfl)
    (try simp only [List.getElem_toArray]); (try simp only [List.getElem_cons_succ]); (try simp only [List.getElem_cons_zero]); (try simp only [Act.put]); (try simp only [List.setIfInBounds_toArray]); (try simp only [List.set_cons_succ]); (try simp only [List.set_cons_zero])
    refine wpAnyH_take (i := 4) rfl (by kernel_rfl) (by kernel_rfl) (by kernel_rfl) (fun _ _ _ h => h) (yieldsIf_load_row (by rfl) 27 _ rfl _ rfl 27 _ (0, 0) _ (fun _ h => h.2.1) Tryd.underlying27 rfl (by kernel_rfl)) hHeld ?_
    (try simp only [List.getElem_toArray]); (try simp only [List.getElem_cons_succ]); (try simp only [List.getElem_cons_zero]); (try simp only [Act.put]); (try simp only [List.setIfInBounds_toArray]); (try simp only [List.set_cons_succ]); (try simp only [List.set_cons_zero])
    refine wpAnyH_take (i := 6) rfl (by kernel_rfl) (by kernel_rfl) (by kernel_rfl) (fun _ _ _ h => h) (yieldsIf_load_row (by rfl) 35 _ rfl _ rfl 35 _ (0, 0) _ (fun _ h => h.2.2.1) Tryd.underlying35 rfl (by kernel_rfl)) hHeld ?_
    (try simp only [List.getElem_toArray]); (try simp only [List.getElem_cons_succ]); (try simp only [List.getElem_cons_zero]); (try simp only [Act.put]); (try simp only [List.setIfInBounds_toArray]); (try simp only [List.set_cons_succ]); (try simp only [List.set_cons_zero])
    refine wpAnyH_ready (rs := [5]) (by kernel_rfl) (by simp) ?_
    refine AllReadyH.cons rfl (fun K hK => ?_) AllReadyH.nil
    go_simp
    refine (work_c (movedJ a m) (moved_light SA.out m) _ _ _ V7 (moved_gives HA.out)).mono ?_
    rintro e V8 ⟨vo2, rfl, hx, hb⟩
    replace BA := Lib.hid ((hb.block _ (lt_some BA.out)).trans BA.out)
    replace HA := Lib.hid (HA.out.keep hb)
    replace HW := Lib.hid (HW.out.trans (hb.mono HW.out.size))
    replace R1 := Lib.hid (rd_keep R1.out hb)
    replace Bt := Lib.hid ((hb.block _ (lt_some Bt.out)).trans Bt.out)
    replace X1 := Lib.hid (X1.out.keep hb)
    replace R2 := Lib.hid (rd_keep R2.out hb)
    replace Br := Lib.hid ((hb.block _ (lt_some Br.out)).trans Br.out)
    clear hb hHeld
    have X2 := Lib.hid (hx)
    clear hx
    go_wp2_with fail
    refine hK.out _ _ ⟨BA.out, Bt.out, Br.out, trivial⟩ (fun hHeld => ?_)
    clear hK K
    (try simp only [List.getElem_toArray]); (try simp only [List.getElem_cons_succ]); (try simp only [List.getElem_cons_zero]); (try simp only [Act.put]); (try simp only [List.setIfInBounds_toArray]); (try simp only [List.set_cons_succ]); (try simp only [List.set_cons_zero])
    refine wpAnyH_ready (rs := [7]) (by kernel_rfl) (by simp) ?_
    refine AllReadyH.cons rfl (fun K hK => ?_) AllReadyH.nil
    go_simp
    refine (rSame_c (movedJ a m) (movedJ a m) (moved_light SA.out m) (moved_light SA.out m) _ _ _ _ _ _ V8 X2.out (moved_gives X1.out)).mono ?_
    rintro e V9 ⟨rfl, hb⟩
    replace BA := Lib.hid ((hb.block _ (lt_some BA.out)).trans BA.out)
    replace HA := Lib.hid (HA.out.keep hb)
    replace HW := Lib.hid (HW.out.trans (hb.mono HW.out.size))
    replace R1 := Lib.hid (rd_keep R1.out hb)
    replace Bt := Lib.hid ((hb.block _ (lt_some Bt.out)).trans Bt.out)
    replace X1 := Lib.hid (X1.out.keep hb)
    replace R2 := Lib.hid (rd_keep R2.out hb)
    replace Br := Lib.hid ((hb.block _ (lt_some Br.out)).trans Br.out)
    replace X2 := Lib.hid (X2.out.keep hb)
    clear hb hHeld
    rw [decide_eq_true (rfl : (movedJ a m) = (movedJ a m))]
    go_wp2_with fail
    refine hK.out _ _ ⟨BA.out, Bt.out, Br.out, trivial⟩ (fun hHeld => ?_)
    clear hK K
    (try simp only [List.getElem_toArray]); (try simp only [List.getElem_cons_succ]); (try simp only [List.getElem_cons_zero]); (try simp only [Act.put]); (try simp only [List.setIfInBounds_toArray]); (try simp only [List.set_cons_succ]); (try simp only [List.set_cons_zero])
    refine wpAnyH_take (i := 8) (v := ?v14) rfl (by kernel_rfl) (by kernel_rfl) (by kernel_rfl) (fun _ _ _ h => h) (Or.inl ⟨by rfl, ?hy14⟩) hHeld ?rest14
    case hy14 => (intro w hSw; (try dsimp only at hSw); (try go_split_ands); go_simp; first | done | with_reducible rfl)
    (try simp only [List.getElem_toArray]); (try simp only [List.getElem_cons_succ]); (try simp only [List.getElem_cons_zero]); (try simp only [Act.put]); (try simp only [List.setIfInBounds_toArray]); (try simp only [List.set_cons_succ]); (try simp only [List.set_cons_zero])
    refine wpAnyH_take (i := 9) (v := ?v15) rfl (by kernel_rfl) (by kernel_rfl) (by kernel_rfl) (fun _ _ _ h => h) (Or.inl ⟨by rfl, ?hy15⟩) hHeld ?rest15
    case hy15 => (intro w hSw; (try dsimp only at hSw); (try go_split_ands); go_simp; first | done | with_reducible rfl)
    (try simp only [List.getElem_toArray]); (try simp only [List.getElem_cons_succ]); (try simp only [List.getElem_cons_zero]); (try simp only [Act.put]); (try simp only [List.setIfInBounds_toArray]); (try simp only [List.set_cons_succ]); (try simp only [List.set_cons_zero])
    refine wpAnyH_take (i := 10) (v := ?v16) rfl (by kernel_rfl) (by kernel_rfl) (by kernel_rfl) (fun _ _ _ h => h) (Or.inl ⟨by rfl, ?hy16⟩) hHeld ?rest16
    case hy16 => (intro w hSw; (try dsimp only at hSw); (try go_split_ands); go_simp; first | done | with_reducible rfl)
    (try simp only [List.getElem_toArray]); (try simp only [List.getElem_cons_succ]); (try simp only [List.getElem_cons_zero]); (try simp only [Act.put]); (try simp only [List.setIfInBounds_toArray]); (try simp only [List.set_cons_succ]); (try simp only [List.set_cons_zero])
    refine wpAnyH_take (i := 11) (v := ?v17) rfl (by kernel_rfl) (by kernel_rfl) (by kernel_rfl) (fun _ _ _ h => h) (Or.inl ⟨by rfl, ?hy17⟩) hHeld ?rest17
    case hy17 => (intro w hSw; (try dsimp only at hSw); (try go_split_ands); go_simp; first | done | with_reducible rfl)
    (try simp only [List.getElem_toArray]); (try simp only [List.getElem_cons_succ]); (try simp only [List.getElem_cons_zero]); (try simp only [Act.put]); (try simp only [List.setIfInBounds_toArray]); (try simp only [List.set_cons_succ]); (try simp only [List.set_cons_zero])
    refine wpAnyH_take (i := 12) (v := ?v18) rfl (by kernel_rfl) (by kernel_rfl) (by kernel_rfl) (fun _ _ _ h => h) (Or.inl ⟨by rfl, ?hy18⟩) hHeld ?rest18
    case hy18 => (intro w hSw; (try dsimp only at hSw); (try go_split_ands); go_simp; first | done | with_reducible rfl)
    (try simp only [List.getElem_toArray]); (try simp only [List.getElem_cons_succ]); (try simp only [List.getElem_cons_zero]); (try simp only [Act.put]); (try simp only [List.setIfInBounds_toArray]); (try simp only [List.set_cons_succ]); (try simp only [List.set_cons_zero])
    refine wpAnyH_take (i := 13) (v := ?v19) rfl (by kernel_rfl) (by kernel_rfl) (by kernel_rfl) (fun _ _ _ h => h) (Or.inl ⟨by rfl, ?hy19⟩) hHeld ?rest19
    case hy19 => (intro w hSw; have hc := (cells19 hSw.1).2.2.2.2.2.2.2.2.2.2.2.2.2.2.1; (try dsimp only at hSw); (try go_split_ands); go_simp; first | done | with_reducible rfl)
    (try simp only [List.getElem_toArray]); (try simp only [List.getElem_cons_succ]); (try simp only [List.getElem_cons_zero]); (try simp only [Act.put]); (try simp only [List.setIfInBounds_toArray]); (try simp only [List.set_cons_succ]); (try simp only [List.set_cons_zero])
    refine wpAnyH_take (i := 16) (v := ?v20) rfl (by kernel_rfl) (by kernel_rfl) (by kernel_rfl) (fun _ _ _ h => h) (Or.inl ⟨by rfl, ?hy20⟩) hHeld ?rest20
    case hy20 => (intro w hSw; (try dsimp only at hSw); (try go_split_ands); go_simp; first | done | with_reducible rfl)
    (try simp only [List.getElem_toArray]); (try simp only [List.getElem_cons_succ]); (try simp only [List.getElem_cons_zero]); (try simp only [Act.put]); (try simp only [List.setIfInBounds_toArray]); (try simp only [List.set_cons_succ]); (try simp only [List.set_cons_zero])
    refine wpAnyH_take (i := 17) (v := ?v21) rfl (by kernel_rfl) (by kernel_rfl) (by kernel_rfl) (fun _ _ _ h => h) (Or.inl ⟨by rfl, ?hy21⟩) hHeld ?rest21
    case hy21 => (intro w hSw; (try dsimp only at hSw); (try go_split_ands); go_simp; first | done | with_reducible rfl)
    (try simp only [List.getElem_toArray]); (try simp only [List.getElem_cons_succ]); (try simp only [List.getElem_cons_zero]); (try simp only [Act.put]); (try simp only [List.setIfInBounds_toArray]); (try simp only [List.set_cons_succ]); (try simp only [List.set_cons_zero])
    refine wpAnyH_take (i := 18) (v := ?v22) rfl (by kernel_rfl) (by kernel_rfl) (by kernel_rfl) (fun _ _ _ h => h) (Or.inl ⟨by rfl, ?hy22⟩) hHeld ?rest22
    case hy22 => (intro w hSw; (try dsimp only at hSw); (try go_split_ands); go_simp; first | done | with_reducible rfl)
    (try simp only [List.getElem_toArray]); (try simp only [List.getElem_cons_succ]); (try simp only [List.getElem_cons_zero]); (try simp only [Act.put]); (try simp only [List.setIfInBounds_toArray]); (try simp only [List.set_cons_succ]); (try simp only [List.set_cons_zero])
    refine wpAnyH_take (i := 19) (v := ?v23) rfl (by kernel_rfl) (by kernel_rfl) (by kernel_rfl) (fun _ _ _ h => h) (Or.inl ⟨by rfl, ?hy23⟩) hHeld ?rest23
    case hy23 => (intro w hSw; have hc := (cells19 hSw.1).2.2.2.2.2.2.2.2.2.2.2.2.2.2.1; (try dsimp only at hSw); (try go_split_ands); go_simp; first | done | with_reducible rfl)
    (try simp only [List.getElem_toArray]); (try simp only [List.getElem_cons_succ]); (try simp only [List.getElem_cons_zero]); (try simp only [Act.put]); (try simp only [List.setIfInBounds_toArray]); (try simp only [List.set_cons_succ]); (try simp only [List.set_cons_zero])
    refine wpAnyH_ready (rs := [14]) (by kernel_rfl) (by simp) ?_
    refine AllReadyH.cons rfl (fun K hK => ?_) AllReadyH.nil
    go_simp
    refine (pNew_c kind p a.draws (by have := SA.out.dr; omega) _ V9 HA.out.dr).mono ?_
    rintro e V10 ⟨vd2, rfl, hx, hb⟩
    replace BA := Lib.hid ((hb.block _ (lt_some BA.out)).trans BA.out)
    replace HA := Lib.hid (HA.out.keep hb)
    replace HW := Lib.hid (HW.out.trans (hb.mono HW.out.size))
    replace R1 := Lib.hid (rd_keep R1.out hb)
    replace Bt := Lib.hid ((hb.block _ (lt_some Bt.out)).trans Bt.out)
    replace X1 := Lib.hid (X1.out.keep hb)
    replace R2 := Lib.hid (rd_keep R2.out hb)
    replace Br := Lib.hid ((hb.block _ (lt_some Br.out)).trans Br.out)
    replace X2 := Lib.hid (X2.out.keep hb)
    clear hb hHeld
    have X3 := Lib.hid (hx)
    clear hx
    go_wp2_with fail
    refine hK.out _ _ ⟨BA.out, Bt.out, Br.out, trivial⟩ (fun hHeld => ?_)
    clear hK K
    (try simp only [List.getElem_toArray]); (try simp only [List.getElem_cons_succ]); (try simp only [List.getElem_cons_zero]); (try simp only [Act.put]); (try simp only [List.setIfInBounds_toArray]); (try simp only [List.set_cons_succ]); (try simp only [List.set_cons_zero])
    refine wpAnyH_ready (rs := [15]) (by kernel_rfl) (by simp) ?_
    refine AllReadyH.cons rfl (fun K hK => ?_) AllReadyH.nil
    go_simp
    refine (work_c (newJ kind p a.draws) (newJ_light SA.out.dr) _ _ _ V10 X3.out).mono ?_
    rintro e V11 ⟨vo3, rfl, hx, hb⟩
    replace BA := Lib.hid ((hb.block _ (lt_some BA.out)).trans BA.out)
    replace HA := Lib.hid (HA.out.keep hb)
    replace HW := Lib.hid (HW.out.trans (hb.mono HW.out.size))
    replace R1 := Lib.hid (rd_keep R1.out hb)
    replace Bt := Lib.hid ((hb.block _ (lt_some Bt.out)).trans Bt.out)
    replace X1 := Lib.hid (X1.out.keep hb)
    replace R2 := Lib.hid (rd_keep R2.out hb)
    replace Br := Lib.hid ((hb.block _ (lt_some Br.out)).trans Br.out)
    replace X2 := Lib.hid (X2.out.keep hb)
    replace X3 := Lib.hid (X3.out.keep hb)
    clear hb hHeld
    have X4 := Lib.hid (hx)
    clear hx
    go_wp2_with fail
    refine hK.out _ _ ⟨BA.out, Bt.out, Br.out, trivial⟩ (fun hHeld => ?_)
    clear hK K
    (try simp only [List.getElem_toArray]); (try simp only [List.getElem_cons_succ]); (try simp only [List.getElem_cons_zero]); (try simp only [Act.put]); (try simp only [List.setIfInBounds_toArray]); (try simp only [List.set_cons_succ]); (try simp only [List.set_cons_zero])
    refine wpAnyH_ready (rs := [20]) (by kernel_rfl) (by simp) ?_
    refine AllReadyH.cons rfl (fun K hK => ?_) AllReadyH.nil
    go_simp
    refine (rNew_c kind p a.draws _ V11 HA.out.dr).mono ?_
    rintro e V12 ⟨rfl, hb⟩
    replace BA := Lib.hid ((hb.block _ (lt_some BA.out)).trans BA.out)
    replace HA := Lib.hid (HA.out.keep hb)
    replace HW := Lib.hid (HW.out.trans (hb.mono HW.out.size))
    replace R1 := Lib.hid (rd_keep R1.out hb)
    replace Bt := Lib.hid ((hb.block _ (lt_some Bt.out)).trans Bt.out)
    replace X1 := Lib.hid (X1.out.keep hb)
    replace R2 := Lib.hid (rd_keep R2.out hb)
    replace Br := Lib.hid ((hb.block _ (lt_some Br.out)).trans Br.out)
    replace X2 := Lib.hid (X2.out.keep hb)
    replace X3 := Lib.hid (X3.out.keep hb)
    replace X4 := Lib.hid (X4.out.keep hb)
    clear hb hHeld
    go_wp2_with fail
    refine hK.out _ _ ⟨BA.out, Bt.out, Br.out, trivial⟩ (fun hHeld => ?_)
    clear hK K
    (try simp only [List.getElem_toArray]); (try simp only [List.getElem_cons_succ]); (try simp only [List.getElem_cons_zero]); (try simp only [Act.put]); (try simp only [List.setIfInBounds_toArray]); (try simp only [List.set_cons_succ]); (try simp only [List.set_cons_zero])
    refine wpAnyH_ready (rs := [21]) (by kernel_rfl) (by simp) ?_
    refine AllReadyH.cons rfl (fun K hK => ?_) AllReadyH.nil
    go_simp
    refine (rSame_c (newJ kind p a.draws) (newJ kind p a.draws) (newJ_light SA.out.dr) (newJ_light SA.out.dr) _ _ _ _ _ _ V12 X4.out (newJ_gives HA.out.dr)).mono ?_
    rintro e V13 ⟨rfl, hb⟩
    replace BA := Lib.hid ((hb.block _ (lt_some BA.out)).trans BA.out)
    replace HA := Lib.hid (HA.out.keep hb)
    replace HW := Lib.hid (HW.out.trans (hb.mono HW.out.size))
    replace R1 := Lib.hid (rd_keep R1.out hb)
    replace Bt := Lib.hid ((hb.block _ (lt_some Bt.out)).trans Bt.out)
    replace X1 := Lib.hid (X1.out.keep hb)
    replace R2 := Lib.hid (rd_keep R2.out hb)
    replace Br := Lib.hid ((hb.block _ (lt_some Br.out)).trans Br.out)
    replace X2 := Lib.hid (X2.out.keep hb)
    replace X3 := Lib.hid (X3.out.keep hb)
    replace X4 := Lib.hid (X4.out.keep hb)
    clear hb hHeld
    rw [decide_eq_true (rfl : newJ kind p a.draws = newJ kind p a.draws)]
    go_wp2_with fail
    refine hK.out _ _ ⟨BA.out, Bt.out, Br.out, trivial⟩ (fun hHeld => ?_)
    clear hK K
    (try simp only [List.getElem_toArray]); (try simp only [List.getElem_cons_succ]); (try simp only [List.getElem_cons_zero]); (try simp only [Act.put]); (try simp only [List.setIfInBounds_toArray]); (try simp only [List.set_cons_succ]); (try simp only [List.set_cons_zero])
    refine wpAnyH_take (i := 22) (v := ?v24) rfl (by kernel_rfl) (by kernel_rfl) (by kernel_rfl) (fun _ _ _ h => h) (Or.inl ⟨by rfl, ?hy24⟩) hHeld ?rest24
    case hy24 => (intro w hSw; (try dsimp only at hSw); (try go_split_ands); go_simp; first | done | with_reducible rfl)
    (try simp only [List.getElem_toArray]); (try simp only [List.getElem_cons_succ]); (try simp only [List.getElem_cons_zero]); (try simp only [Act.put]); (try simp only [List.setIfInBounds_toArray]); (try simp only [List.set_cons_succ]); (try simp only [List.set_cons_zero])
    refine wpAnyH_take (i := 23) (v := ?v25) rfl (by kernel_rfl) (by kernel_rfl) (by kernel_rfl) (fun _ _ _ h => h) (Or.inl ⟨by rfl, ?hy25⟩) hHeld ?rest25
    case hy25 => (intro w hSw; (try dsimp only at hSw); (try go_split_ands); go_simp; first | done | with_reducible rfl)
    (try simp only [List.getElem_toArray]); (try simp only [List.getElem_cons_succ]); (try simp only [List.getElem_cons_zero]); (try simp only [Act.put]); (try simp only [List.setIfInBounds_toArray]); (try simp only [List.set_cons_succ]); (try simp only [List.set_cons_zero])
    refine wpAnyH_done (by kernel_rfl) ?_ _
    go_wp2_with fail
    go_ret
    exact ⟨rfl, HW.out⟩
end Go.Proofs.YtedcffkmfopalaaDoor
