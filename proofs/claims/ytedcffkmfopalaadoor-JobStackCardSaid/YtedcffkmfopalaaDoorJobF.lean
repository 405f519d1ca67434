/-
  The document's New.
-/
import Derived.Test.YtedcffkmfopalaaDoorJobE
namespace Go.Proofs.YtedcffkmfopalaaDoor
open Go.RowKit Go.Shelf
attribute [local go_sem ↓] Go.wp_at_zero Go.wp_at_succ

theorem own_emptyJ {W : World} {g s : Nat} {e : TypeId} (h : W.heap[g]? = some (.cells #[] e (0, 0))) : W.ownsRow g e s (.slice (some ⟨g, 0, none⟩) 0 0) 0 [] := ⟨by simp, .inr ⟨g, 0, #[], rfl, Nat.le_refl _, h, Nat.le_refl _, Nat.zero_le _, by simp, by simp⟩⟩
def newJ (kind p : Int) (draws : List Int) : JobL := ⟨kind, p, 0, -1, 0, 0, 0, 0, 0, [], [], [], [], [], draws, false, 0, [], 0⟩
theorem newJ_gives {kind p : Int} {draws : List Int} {vd : Value} {W : World} (h : Rd W.heap.size 1 vd draws.length (intsJ draws) W) : GivesJ (newJ kind p draws) (.slice none 0 0) (.slice none 0 0) vd W :=
  ⟨Rd.none0 _ _ _, ⟨[], rfl, Rd.none0 _ _ _, fun m hm => by cases hm⟩, h⟩
set_option maxRecDepth 100000 in
set_option maxHeartbeats 4000000 in
theorem rNew_c (kind p : Int) (draws : List Int) (vd : Value) (w : World) (hd : Rd w.heap.size 1 vd draws.length (intsJ draws) w) :
    Calls Tryd.prog 15 #[.int .i64 kind, .int .i64 p, vd] w fun e w' => e = .returned (jval (newJ kind p draws) (.slice none 0 0) (.slice none 0 0) vd) ∧ Below w.heap.size w w' := by
  obtain ⟨ad, cd, rfl, _, _⟩ := Rd.form hd
  clear hd
  go_enter Tryd.func15, Tryd.ntmps15
  go_upto_region 1 with (fail)
  refine code_fresh1 ?_
  intro W1 hb hR hs
  go_wp2_with (refine wpList_store_row rfl 35 _ _ rfl _ rfl rfl hR rfl (by kernel_rfl) rfl ?_; intro W3 hb3 hg3 hs3 hR3)
  (try simp only [List.getElem_toArray]); (try simp only [List.getElem_cons_succ]); (try simp only [List.getElem_cons_zero]); (try simp only [Act.put]); (try simp only [List.setIfInBounds_toArray]); (try simp only [List.set_cons_succ]); (try simp only [List.set_cons_zero])
  (try simp only [Exit.inBlock, Exit.then])
  refine bodyPost_ret (results_cell_row (p := 6) (ty := 35) rfl _ W3 w.heap.size _ _ _ _ rfl hR3 Tryd.underlying35 rfl (by kernel_rfl)) rfl ?_
  exact ⟨rfl, hb.trans hb3⟩
theorem results_tc {P : Program} {fn : Func} {p u : Tmp} {ty : TypeId} (h : fn.results = #[.tmp u, .cell p ty]) (tmps : Array Value) (w : World) (g : Nat) (t : TypeId) (cs : Array Value) (fr : Nat × Nat) (d : TypeDesc)
    (hp : tmps.getD p undef = .pointer (some ⟨g, 0, none⟩)) (hg : w.heap[g]? = some (.cells cs t fr)) (hu : P.underlying ty = some d) (hd : (match d with | .struct _ | .array _ _ => true | _ => false) = true) (hi : (P.info? ty).map (·.size) = some cs.size) :
    (results fn tmps).run P w = .ok (.tuple #[tmps.getD u undef, .agg cs]) w := by
  have hp' : tmps[p]?.getD undef = .pointer (some ⟨g, 0, none⟩) := by simpa using hp
  simp [results, h, hp', asAddr, run_loadVar_row w g t ty cs fr d hg hu hd hi, Result.andThen]
theorem infoInt : (Tryd.prog.info? 3).map (fun i => (i.zero, i.size, i.bytes)) = some (some (.int .i64 0), 1, 8) := by kernel_rfl
theorem intsJ_app (a b : List Int) : intsJ (a ++ b) = intsJ a ++ intsJ b := by simp [intsJ]
def movedJ (a : JobL) (n : Int) : JobL := { a with pos := a.pos + n }
set_option maxRecDepth 100000 in
set_option maxHeartbeats 4000000 in
theorem rDraw_c (a : JobL) (sa : SmallJ a) (n : Int) (hn0 : -100 ≤ n) (hn1 : n ≤ 100) (vn vs vd : Value) (w : World) (ha : GivesJ a vn vs vd w) :
    Calls Tryd.prog 10 #[jval a vn vs vd, .int .i64 n] w fun e w' => ∃ v, e = .returned (.tuple #[v, jval (movedJ a n) vn vs vd]) ∧ Rd w'.heap.size 1 v n.toNat (intsJ (drawJ a.draws a.pos.toNat n.toNat)) w' ∧ Below w.heap.size w w' := by
  obtain ⟨an, cn, rfl, _, _⟩ := Rd.form ha.nm
  obtain ⟨ax, cs, rfl, _, _⟩ := ha.st.form
  obtain ⟨ad, cd, rfl, _, _⟩ := Rd.form ha.dr
  obtain ⟨i0, hi, hz0, hz1, hz2⟩ := info_parts infoInt
  obtain ⟨P, hP0⟩ := Int.eq_ofNat_of_zero_le sa.p0
  have hP1 : P ≤ 1000000 := by have := sa.p1; omega
  have HD := Lib.hid ha.dr
  have HPP := Lib.hid hP0
  have hp7 := sa.p1
  clear ha sa
  go_enter Tryd.func10, Tryd.ntmps10
  go_upto_region 1 with (fail)
  refine code_fresh2 ?_
  intro W1 hb1 hP hR hs1
  have HS := Lib.hid hs1
  clear hs1
  go_upto_region 2 with (fail)
  refine code_fresh1 ?_
  intro W0 hb0 hO hs0
  have hP0W := (hb0.block _ (by have := HS.out; omega)).trans hP
  clear hs0
  have p7 : W0.cell? ⟨w.heap.size, 7, none⟩ = some (.int .i64 (P : Int)) := by rw [Lib.cell_of_heap hP0W]; rfl
  go_wp2_with fail
  clear p7 hP0W
  go_loopw [6, 7] (fun o i wr => ∃ k : Nat, i = .int .i64 ((P : Int) + k) ∧ k ≤ n.toNat ∧ wr.ownsRow W1.heap.size 3 1 o k (intsJ (drawJ a.draws P k)) ∧ Below W1.heap.size W1 wr) (fun _ i _ => ((P : Int) + n - RowKit.intOf i).toNat)
  case atStart => exact ⟨0, by simp, Nat.zero_le _, own_emptyJ hO, hb0⟩
  case round =>
    obtain ⟨k, rfl, hk, hown, hBr⟩ := hrel
    have sB := hBr.size
    have hPr := (hBr.block _ (by have := HS.out; omega)).trans hP
    have p7 : wr.cell? ⟨w.heap.size, 7, none⟩ = some (.int .i64 (P : Int)) := by rw [Lib.cell_of_heap hPr]; rfl
    have p14 : wr.cell? ⟨w.heap.size, 14, none⟩ = some (.slice ad a.draws.length cd) := by rw [Lib.cell_of_heap hPr]; rfl
    have wn : IntKind.i64.wrap ((P : Int) + n) = (P : Int) + n := Go.IntWalk.i64_in _ (by omega)
    have wk : IntKind.i64.wrap ((P : Int) + (k : Int) + 1) = (P : Int) + ((k + 1 : Nat) : Int) := by rw [Go.IntWalk.i64_in _ (by omega)]; omega
    have hBw : Below w.heap.size w wr := hb1.trans (hBr.mono hb1.size)
    by_cases hlt : k < n.toNat
    · have iL : decide ((P : Int) + (k : Int) < (P : Int) + n) = true := decide_eq_true (by omega)
      have iL2 : decide ((k : Int) < n) = true := decide_eq_true (by omega)
      have k0 : (0 : Int) ≤ (P : Int) + (k : Int) := by omega
      have hds := drawJ_succ a.draws P k
      by_cases hin : P + k < a.draws.length
      · have jL : decide ((P : Int) + (k : Int) < (a.draws.length : Int)) = true := decide_eq_true (by omega)
        have k1 : (P : Int) + (k : Int) < (a.draws.length : Int) := by omega
        obtain ⟨b, off, cap2, e, _, _, hb, _, hc⟩ := (Rd.below HD.out hBw).at (by omega)
        injection e with e1 _ e2
        subst e1
        subst e2
        have c0 := hc _ _ (intsJ_at a.draws (P + k) hin)
        have hx : a.draws.getD (P + k) 0 = a.draws[P + k] := by rw [List.getD_eq_getElem?_getD, List.getElem?_eq_getElem hin]; rfl
        have tn : ((P : Int) + (k : Int)).toNat = P + k := by omega
        generalize a.draws[P + k] = x at *
        clear hc
        go_wp2_with (at_builtin; refine wpList_append_own _ rfl (.tmp 24) (.tmp 30) 24 rfl W1.heap.size 3 i0 _ 1 8 Tryd.underlying24 hi hz0 hz1 hz2 rfl (by decide) _ k _ rfl (hown.alloc _) ⟨wr.heap.size, 0, none⟩ 1 1 [.int .i64 x] rfl rfl (World.news_of_block (cs := #[.int .i64 x]) (t := 3) (fr := (0, 0)) (heap_alloc_new wr _)) (by simp [Value.oneCell']) (by unfold maxLen; omega) (by omega) (by simp; omega) ?_)
        intro v3 w3 ho3 hgr3 _
        have hB3 := below_appended (Nat.le_refl _) hBr hown hgr3
        rw [show intsJ (drawJ a.draws P k) ++ [.int .i64 x] = intsJ (drawJ a.draws P (k + 1)) by rw [hds, intsJ_app, hx]; rfl] at ho3
        clear hds hx
        go_wp2_with fail
        go_roundw
        case rel => exact ⟨k + 1, by go_num, hlt, ho3, hB3⟩
        case measure => simp [RowKit.intOf]; omega
      · have jL : decide ((P : Int) + (k : Int) < (a.draws.length : Int)) = false := decide_eq_false (by omega)
        have hx : a.draws.getD (P + k) 0 = 0 := by rw [List.getD_eq_getElem?_getD, List.getElem?_eq_none (by omega)]; rfl
        go_wp2_with (at_builtin; refine wpList_append_own _ rfl (.tmp 32) (.tmp 33) 24 rfl W1.heap.size 3 i0 _ 1 8 Tryd.underlying24 hi hz0 hz1 hz2 rfl (by decide) _ k _ rfl (hown.alloc _) ⟨wr.heap.size, 0, none⟩ 1 1 [.int .i64 0] rfl rfl (World.news_of_block (cs := #[.int .i64 0]) (t := 3) (fr := (0, 0)) (heap_alloc_new wr _)) (by simp [Value.oneCell']) (by unfold maxLen; omega) (by omega) (by simp; omega) ?_)
        intro v3 w3 ho3 hgr3 _
        have hB3 := below_appended (Nat.le_refl _) hBr hown hgr3
        rw [show intsJ (drawJ a.draws P k) ++ [.int .i64 0] = intsJ (drawJ a.draws P (k + 1)) by rw [hds, intsJ_app, hx]; rfl] at ho3
        clear hds hx
        go_wp2_with fail
        go_roundw
        case rel => exact ⟨k + 1, by go_num, hlt, ho3, hB3⟩
        case measure => simp [RowKit.intOf]; omega
    · have iL : decide ((P : Int) + (k : Int) < (P : Int) + n) = false := decide_eq_false (by omega)
      have iL2 : decide ((k : Int) < n) = false := decide_eq_false (by omega)
      have hke : k = n.toNat := by omega
      have hRr := (hBr.block _ (by have := HS.out; omega)).trans hR
      obtain ⟨aov, capv, rfl⟩ := own_form hown
      have HK := Lib.hid hke
      clear hlt hke
      have f7 : wr.frozen? ⟨w.heap.size, 7, none⟩ = false := Lib.frozen_of_heap hPr 7
      go_upto_region 9 with (fail)
      refine code_set1 hPr ?_
      intro W2 hb2 hg2 hs2 hP2
      have HP := Lib.hid (show W2.heap[w.heap.size]? = some (.cells #[.int .i64 a.kind, .int .i64 a.p, .int .i64 a.phase, .int .i64 a.fd, .int .i64 a.n, .int .i64 a.mode, .int .i64 a.tries, .int .i64 ((P : Int) + n), .int .i64 a.flags, .string (bs a.path), .string (bs a.path2), .string (bs a.text), .slice an a.names.length cn, .slice ax a.stack.length cs, .slice ad a.draws.length cd, .bool a.done, .int .i64 a.exit, .string (bs a.out), .int .i64 a.e] 35 (0, 0)) from hP2)
      have HR := Lib.hid ((hg2 _ (by omega)).trans hRr)
      have HO := Lib.hid (ownsRow_other (W' := W2) hown (fun g hg => hg2 g (by have := HS.out; omega)))
      have HB := Lib.hid (hBw.trans (hb2.mono (by omega)))
      have hlw : w.heap.size + 1 < W2.heap.size := by rw [hs2]; have := HS.out; omega
      refine wp_region_held_drew (S := fun V => V.heap[w.heap.size]? = some (.cells #[.int .i64 a.kind, .int .i64 a.p, .int .i64 a.phase, .int .i64 a.fd, .int .i64 a.n, .int .i64 a.mode, .int .i64 a.tries, .int .i64 ((P : Int) + n), .int .i64 a.flags, .string (bs a.path), .string (bs a.path2), .string (bs a.text), .slice an a.names.length cn, .slice ax a.stack.length cs, .slice ad a.draws.length cd, .bool a.done, .int .i64 a.exit, .string (bs a.out), .int .i64 a.e] 35 (0, 0)) ∧ True) (by kernel_rfl) ⟨HP.out, trivial⟩ (fun hHeld => ?_)
      have hb := (Below.refl W2.heap.size W2).drew
      have hd9 : W2.drew.heap = W2.heap := rfl
      replace HP := Lib.hid ((hb.block _ (by omega)).trans HP.out)
      replace HR := Lib.hid ((hb.block _ hlw).trans HR.out)
      replace HO := Lib.hid (ownsRow_other (W' := W2.drew) HO.out (fun g _ => rfl))
      replace HB := Lib.hid (HB.out.trans (hb.mono HB.out.size))
      clear hd9 hb f7 hP2 hg2 hs2 hb2 hP hR hPr hRr p7 p14 hown hlw
      generalize W2.drew = V at *
      refine wpAnyH_take (i := 0) (v := ?v1) rfl (by kernel_rfl) (by kernel_rfl) (by kernel_rfl) (fun _ _ _ h => h) (Or.inl ⟨by rfl, ?hy1⟩) hHeld ?rest1
      case hy1 => (intro w hSw; (try dsimp only at hSw); (try go_split_ands); go_simp; first | done | with_reducible rfl)
      (try simp only [List.getElem_toArray]); (try simp only [List.getElem_cons_succ]); (try simp only [List.getElem_cons_zero]); (try simp only [Act.put]); (try simp only [List.setIfInBounds_toArray]); (try simp only [List.set_cons_succ]); (try simp only [List.set_cons_zero])
      refine wpAnyH_take (i := 1) rfl (by kernel_rfl) (by kernel_rfl) (by kernel_rfl) (fun _ _ _ h => h) (yieldsIf_load_row (by rfl) 35 _ rfl _ rfl 35 _ (0, 0) _ (fun _ h => h.1) Tryd.underlying35 rfl (by kernel_rfl)) hHeld ?_
      (try simp only [List.getElem_toArray]); (try simp only [List.getElem_cons_succ]); (try simp only [List.getElem_cons_zero]); (try simp only [Act.put]); (try simp only [List.setIfInBounds_toArray]); (try simp only [List.set_cons_succ]); (try simp only [List.set_cons_zero])
      refine wpAnyH_take (i := 2) (v := ?v2) rfl (by kernel_rfl) (by kernel_rfl) (by kernel_rfl) (fun _ _ _ h => h) (Or.inl ⟨by rfl, ?hy2⟩) hHeld ?rest2
      case hy2 => (intro w hSw; (try dsimp only at hSw); (try go_split_ands); go_simp; first | done | with_reducible rfl)
      (try simp only [List.getElem_toArray]); (try simp only [List.getElem_cons_succ]); (try simp only [List.getElem_cons_zero]); (try simp only [Act.put]); (try simp only [List.setIfInBounds_toArray]); (try simp only [List.set_cons_succ]); (try simp only [List.set_cons_zero])
      refine wpAnyH_ready (rs := [3]) (by kernel_rfl) (by simp) ?_
      refine AllReadyH.cons rfl (fun K hK => ?_) AllReadyH.nil
      rw [if_pos (by rfl)]
      refine wp_store_row 35 _ _ rfl _ rfl rfl HR.out rfl (by kernel_rfl) rfl ?_
      intro V3 hb3 hg3 hs3 hR3
      have hP3 := (hg3 w.heap.size (by omega)).trans HP.out
      refine hK.out _ _ ⟨hP3, trivial⟩ (fun hHeld => ?_)
      clear hK K hHeld
      (try simp only [List.getElem_toArray]); (try simp only [List.getElem_cons_succ]); (try simp only [List.getElem_cons_zero]); (try simp only [Act.put]); (try simp only [List.setIfInBounds_toArray]); (try simp only [List.set_cons_succ]); (try simp only [List.set_cons_zero])
      refine wpAnyH_done (by kernel_rfl) ?_ _
      go_wp2_with fail
      refine bodyPost_ret (results_tc (p := 5) (u := 4) (ty := 35) rfl _ V3 (w.heap.size + 1) _ _ _ _ rfl hR3 Tryd.underlying35 rfl (by kernel_rfl)) rfl ?_
      have hO3 := ownsRow_other (W' := V3) HO.out (fun g hg => hg3 g (by have := HS.out; omega))
      refine ⟨.slice aov k capv, ?_, ?_, HB.out.trans (hb3.mono (by omega))⟩
      · unfold movedJ jval
        simp only
        rw [HPP.out]
        rfl
      · rw [HPP.out, Int.toNat_natCast, ← HK.out]
        exact Rd.own hO3 (by rw [hs3]; have := HB.out.size; have := HS.out; omega)
end Go.Proofs.YtedcffkmfopalaaDoor
