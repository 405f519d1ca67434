/-
  The program's New, Draw.
-/
import Derived.Test.YtedcffkmfopalaaDoorJobK
namespace Go.Proofs.YtedcffkmfopalaaDoor
open Go.RowKit Go.Shelf
attribute [local go_sem ↓] Go.wp_at_zero Go.wp_at_succ

set_option maxRecDepth 100000 in
set_option maxHeartbeats 4000000 in
theorem pNew_c (kind p : Int) (draws : List Int) (hl : draws.length ≤ 10000) (vd : Value) (w : World) (hd : Rd w.heap.size 1 vd draws.length (intsJ draws) w) :
    Calls Tryd.prog 14 #[.int .i64 kind, .int .i64 p, vd] w fun e w' => ∃ vd2, e = .returned (jval (newJ kind p draws) (.slice none 0 0) (.slice none 0 0) vd2) ∧ GivesJ (newJ kind p draws) (.slice none 0 0) (.slice none 0 0) vd2 w' ∧ Below w.heap.size w w' := by
  obtain ⟨ad, cd, rfl, _, _⟩ := Rd.form hd
  have HD := Lib.hid hd
  clear hd
  go_enter Tryd.func14, Tryd.ntmps14
  go_upto_region 1 with (fail)
  refine code_fresh1 ?_
  intro W1 hb hR hs
  go_wp2_with fail
  refine (clone_ints _ draws W1 (rd_keep HD.out hb) hl).mono ?_
  rintro e W2 ⟨v2, rfl, ho2, hb2⟩
  obtain ⟨ao2, cap2, rfl⟩ := own_form ho2
  have hR2 := (hb2.block _ (by omega)).trans hR
  have sz := hb2.size
  have hB := ret_tr hb hb2
  clear hb hb2 hR
  go_wp2_with (first | (refine wpList_store_row rfl 27 _ _ rfl _ rfl rfl hR2 rfl (by kernel_rfl) rfl ?_; intro W3 hb3 hg3 hs3 hR3))
  (try simp only [Exit.inBlock, Exit.then])
  refine bodyPost_ret (results_cell_row (p := 6) (ty := 27) rfl _ W3 w.heap.size _ _ _ _ rfl hR3 Tryd.underlying27 rfl (by kernel_rfl)) rfl ?_
  have ho3 := ownsRow_other (W' := W3) ho2 (fun g hg => hg3 g (by omega))
  exact ⟨_, rfl, newJ_gives (Rd.own ho3 (Nat.le_refl _)), hB.trans (hb3.mono (by omega))⟩
set_option maxRecDepth 100000 in
set_option maxHeartbeats 4000000 in
theorem pdraw_c (l : List Int) (i : Nat) (vd : Value) (w : World) (hd : Rd w.heap.size 1 vd l.length (intsJ l) w) :
    Calls Tryd.prog 24 #[vd, .int .i64 (i : Int)] w fun e w' => e = .returned (.int .i64 (l.getD i 0)) ∧ w' = w := by
  obtain ⟨ad, cd, rfl, _, _⟩ := Rd.form hd
  have e0 : decide ((i : Int) < 0) = false := decide_eq_false (by omega)
  have HD := Lib.hid hd
  clear hd
  by_cases h : i < l.length
  · have e1 : decide ((l.length : Int) ≤ (i : Int)) = false := decide_eq_false (by omega)
    have e2 : decide (l.length ≤ i) = false := decide_eq_false (by omega)
    have k0 : (0 : Int) ≤ (i : Int) := by omega
    have k1 : (i : Int) < (l.length : Int) := by omega
    obtain ⟨b, off, cap2, e, _, _, hb, _, hc⟩ := HD.out.at (by omega)
    injection e with e1 _ e2
    subst e1
    subst e2
    have c0 := hc _ _ (intsJ_at l i h)
    have HX := Lib.hid (show l.getD i 0 = l[i] by rw [List.getD_eq_getElem?_getD, List.getElem?_eq_getElem h]; rfl)
    rw [HX.out]
    generalize l[i] = x at *
    clear hc h
    go_enter Tryd.func24, Tryd.ntmps24
    go_wp2_with fail
    go_ret
    exact ⟨rfl, rfl⟩
  · have e1 : decide ((l.length : Int) ≤ (i : Int)) = true := decide_eq_true (by omega)
    have e2 : decide (l.length ≤ i) = true := decide_eq_true (by omega)
    have HX := Lib.hid (show l.getD i 0 = 0 by rw [List.getD_eq_getElem?_getD, List.getElem?_eq_none (by omega)]; rfl)
    rw [HX.out]
    clear h
    go_enter Tryd.func24, Tryd.ntmps24
    go_wp2_with fail
    go_ret
    exact ⟨rfl, rfl⟩
set_option maxRecDepth 100000 in
set_option maxHeartbeats 4000000 in
theorem pDraw_c (a : JobL) (sa : SmallJ a) (n : Int) (hn0 : -100 ≤ n) (hn1 : n ≤ 100) (vn vs vd : Value) (w : World) (ha : GivesJ a vn vs vd w) :
    Calls Tryd.prog 9 #[jval a vn vs vd, .int .i64 n] w fun e w' => ∃ v, e = .returned (.tuple #[v, jval (movedJ a n) vn vs vd]) ∧ Rd w'.heap.size 1 v n.toNat (intsJ (drawJ a.draws a.pos.toNat n.toNat)) w' ∧ Below w.heap.size w w' := by
  obtain ⟨an, cn, rfl, _, _⟩ := Rd.form ha.nm
  obtain ⟨ax, cs, rfl, _, _⟩ := ha.st.form
  obtain ⟨ad, cd, rfl, _, _⟩ := Rd.form ha.dr
  obtain ⟨i0, hi, hz0, hz1, hz2⟩ := info_parts infoInt
  obtain ⟨P, hP0⟩ := Int.eq_ofNat_of_zero_le sa.p0
  have hP1 : P ≤ 1000000 := by have := sa.p1; omega
  have HD := Lib.hid ha.dr
  have HPP := Lib.hid hP0
  have hp7 := sa.p1
  have hmin : min n 100 = n := by omega
  clear ha sa
  go_enter Tryd.func9, Tryd.ntmps9
  go_upto_region 1 with (fail)
  refine code_fresh2 ?_
  intro W1 hb1 hP hR hs1
  have HS := Lib.hid hs1
  clear hs1
  go_wp2_with fail
  go_loopw [6, 10] (fun o i wr => ∃ k : Nat, i = .int .i64 (k : Int) ∧ k ≤ n.toNat ∧ wr.ownsRow W1.heap.size 3 1 o k (intsJ (drawJ a.draws P k)) ∧ Below W1.heap.size W1 wr) (fun _ i _ => (n - RowKit.intOf i).toNat)
  case atStart => exact ⟨0, by simp, Nat.zero_le _, World.ownsRow_nil _ _ _ _, Below.refl _ _⟩
  case round =>
    obtain ⟨k, rfl, hk, hown, hBr⟩ := hrel
    have sB := hBr.size
    have hPr := (hBr.block _ (by have := HS.out; omega)).trans hP
    have p7 : wr.cell? ⟨w.heap.size, 7, none⟩ = some (.int .i64 (P : Int)) := by rw [Lib.cell_of_heap hPr]; rfl
    have p14 : wr.cell? ⟨w.heap.size, 14, none⟩ = some (.slice ad a.draws.length cd) := by rw [Lib.cell_of_heap hPr]; rfl
    have wn : IntKind.i64.wrap ((P : Int) + n) = (P : Int) + n := Go.IntWalk.i64_in _ (by omega)
    have wk : IntKind.i64.wrap ((P : Int) + (k : Int)) = ((P + k : Nat) : Int) := by rw [Go.IntWalk.i64_in _ (by omega)]; omega
    have wk1 : IntKind.i64.wrap ((k : Int) + 1) = (k : Int) + 1 := Go.IntWalk.i64_in _ (by omega)
    have hBw : Below w.heap.size w wr := hb1.trans (hBr.mono hb1.size)
    by_cases hlt : k < n.toNat
    · have iL : decide ((k : Int) < n) = true := decide_eq_true (by omega)
      have hds := drawJ_succ a.draws P k
      have HX := Lib.hid (Rd.below HD.out hBw |>.mono hBw.size)
      go_wp2_with fail
      refine (pdraw_c a.draws (P + k) _ wr HX.out).mono ?_
      rintro e wr ⟨rfl, rfl⟩
      generalize a.draws.getD (P + k) 0 = x at *
      go_wp2_with (at_builtin; refine wpList_append_own _ rfl (.tmp 13) (.tmp 21) 24 rfl W1.heap.size 3 i0 _ 1 8 Tryd.underlying24 hi hz0 hz1 hz2 rfl (by decide) _ k _ rfl (hown.alloc _) ⟨wr.heap.size, 0, none⟩ 1 1 [.int .i64 x] rfl rfl (World.news_of_block (cs := #[.int .i64 x]) (t := 3) (fr := (0, 0)) (heap_alloc_new wr _)) (by simp [Value.oneCell']) (by unfold maxLen; omega) (by omega) (by simp; omega) ?_)
      intro v3 w3 ho3 hgr3 _
      have hB3 := below_appended (Nat.le_refl _) hBr hown hgr3
      rw [show intsJ (drawJ a.draws P k) ++ [.int .i64 x] = intsJ (drawJ a.draws P (k + 1)) by rw [hds, intsJ_app]; rfl] at ho3
      clear hds
      go_wp2_with fail
      go_roundw
      case rel => exact ⟨k + 1, by go_num, hlt, ho3, hB3⟩
      case measure => simp [RowKit.intOf]; omega
    · have iL : decide ((k : Int) < n) = false := decide_eq_false (by omega)
      have hke : k = n.toNat := by omega
      have hRr := (hBr.block _ (by have := HS.out; omega)).trans hR
      obtain ⟨aov, capv, rfl⟩ := own_form hown
      have HK := Lib.hid hke
      clear hlt hke
      have f7 : wr.frozen? ⟨w.heap.size, 7, none⟩ = false := Lib.frozen_of_heap hPr 7
      go_upto_region 8 with (fail)
      refine code_set1 hPr ?_
      intro W2 hb2 hg2 hs2 hP2
      have HP := Lib.hid (show W2.heap[w.heap.size]? = some (.cells #[.int .i64 a.kind, .int .i64 a.p, .int .i64 a.phase, .int .i64 a.fd, .int .i64 a.n, .int .i64 a.mode, .int .i64 a.tries, .int .i64 ((P : Int) + n), .int .i64 a.flags, .string (bs a.path), .string (bs a.path2), .string (bs a.text), .slice an a.names.length cn, .slice ax a.stack.length cs, .slice ad a.draws.length cd, .bool a.done, .int .i64 a.exit, .string (bs a.out), .int .i64 a.e] 27 (0, 0)) from hP2)
      have HR := Lib.hid ((hg2 _ (by omega)).trans hRr)
      have HO := Lib.hid (ownsRow_other (W' := W2) hown (fun g hg => hg2 g (by have := HS.out; omega)))
      have HB := Lib.hid (hBw.trans (hb2.mono (by omega)))
      have hlw : w.heap.size + 1 < W2.heap.size := by rw [hs2]; have := HS.out; omega
      refine wp_region_held_drew (S := fun V => V.heap[w.heap.size]? = some (.cells #[.int .i64 a.kind, .int .i64 a.p, .int .i64 a.phase, .int .i64 a.fd, .int .i64 a.n, .int .i64 a.mode, .int .i64 a.tries, .int .i64 ((P : Int) + n), .int .i64 a.flags, .string (bs a.path), .string (bs a.path2), .string (bs a.text), .slice an a.names.length cn, .slice ax a.stack.length cs, .slice ad a.draws.length cd, .bool a.done, .int .i64 a.exit, .string (bs a.out), .int .i64 a.e] 27 (0, 0)) ∧ True) (by kernel_rfl) ⟨HP.out, trivial⟩ (fun hHeld => ?_)
      have hb := (Below.refl W2.heap.size W2).drew
      have hd9 : W2.drew.heap = W2.heap := rfl
      replace HP := Lib.hid ((hb.block _ (by omega)).trans HP.out)
      replace HR := Lib.hid ((hb.block _ hlw).trans HR.out)
      replace HO := Lib.hid (ownsRow_other (W' := W2.drew) HO.out (fun g _ => rfl))
      replace HB := Lib.hid (HB.out.trans (hb.mono HB.out.size))
      clear hd9 hb f7 hP2 hg2 hs2 hb2 hP hR hPr hRr p7 p14 hown hlw
      generalize W2.drew = V at *
      refine wpAnyH_take (i := 0) (v := ?v7) rfl (by kernel_rfl) (by kernel_rfl) (by kernel_rfl) (fun _ _ _ h => h) (Or.inl ⟨by rfl, ?hy7⟩) hHeld ?rest7
      case hy7 => (intro w hSw; (try dsimp only at hSw); (try go_split_ands); go_simp; first | done | with_reducible rfl)
      (try simp only [List.getElem_toArray]); (try simp only [List.getElem_cons_succ]); (try simp only [List.getElem_cons_zero]); (try simp only [Act.put]); (try simp only [List.setIfInBounds_toArray]); (try simp only [List.set_cons_succ]); (try simp only [List.set_cons_zero])
      refine wpAnyH_take (i := 1) rfl (by kernel_rfl) (by kernel_rfl) (by kernel_rfl) (fun _ _ _ h => h) (yieldsIf_load_row (by rfl) 27 _ rfl _ rfl 27 _ (0, 0) _ (fun _ h => h.1) Tryd.underlying27 rfl (by kernel_rfl)) hHeld ?_
      (try simp only [List.getElem_toArray]); (try simp only [List.getElem_cons_succ]); (try simp only [List.getElem_cons_zero]); (try simp only [Act.put]); (try simp only [List.setIfInBounds_toArray]); (try simp only [List.set_cons_succ]); (try simp only [List.set_cons_zero])
      refine wpAnyH_take (i := 2) (v := ?v8) rfl (by kernel_rfl) (by kernel_rfl) (by kernel_rfl) (fun _ _ _ h => h) (Or.inl ⟨by rfl, ?hy8⟩) hHeld ?rest8
      case hy8 => (intro w hSw; (try dsimp only at hSw); (try go_split_ands); go_simp; first | done | with_reducible rfl)
      (try simp only [List.getElem_toArray]); (try simp only [List.getElem_cons_succ]); (try simp only [List.getElem_cons_zero]); (try simp only [Act.put]); (try simp only [List.setIfInBounds_toArray]); (try simp only [List.set_cons_succ]); (try simp only [List.set_cons_zero])
      refine wpAnyH_ready (rs := [3]) (by kernel_rfl) (by simp) ?_
      refine AllReadyH.cons rfl (fun K hK => ?_) AllReadyH.nil
      rw [if_pos (by rfl)]
      refine wp_store_row 27 _ _ rfl _ rfl rfl HR.out rfl (by kernel_rfl) rfl ?_
      intro V3 hb3 hg3 hs3 hR3
      have hP3 := (hg3 w.heap.size (by omega)).trans HP.out
      refine hK.out _ _ ⟨hP3, trivial⟩ (fun hHeld => ?_)
      clear hK K hHeld
      (try simp only [List.getElem_toArray]); (try simp only [List.getElem_cons_succ]); (try simp only [List.getElem_cons_zero]); (try simp only [Act.put]); (try simp only [List.setIfInBounds_toArray]); (try simp only [List.set_cons_succ]); (try simp only [List.set_cons_zero])
      refine wpAnyH_done (by kernel_rfl) ?_ _
      go_wp2_with fail
      refine bodyPost_ret (results_tc (p := 5) (u := 4) (ty := 27) rfl _ V3 (w.heap.size + 1) _ _ _ _ rfl hR3 Tryd.underlying27 rfl (by kernel_rfl)) rfl ?_
      have hO3 := ownsRow_other (W' := V3) HO.out (fun g hg => hg3 g (by have := HS.out; omega))
      refine ⟨.slice aov k capv, ?_, ?_, HB.out.trans (hb3.mono (by omega))⟩
      · unfold movedJ jval
        simp only
        rw [HPP.out]
        rfl
      · rw [HPP.out, Int.toNat_natCast, ← HK.out]
        exact Rd.own hO3 (by rw [hs3]; have := HB.out.size; have := HS.out; omega)
end Go.Proofs.YtedcffkmfopalaaDoor
