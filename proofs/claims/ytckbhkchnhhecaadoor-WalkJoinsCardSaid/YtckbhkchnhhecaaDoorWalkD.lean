/-
  A step of a way; the whole way.
-/
import Derived.Test.YtckbhkchnhhecaaDoorWalkC
import Derived.StillTailTactics
namespace Go.Proofs.YtckbhkchnhhecaaDoor
open Go.RowKit Go.Shelf
attribute [local go_sem ↓] Go.wp_at_zero Go.wp_at_succ

theorem grown_below_b {b : Nat} {w w' : World} (h : w.grownBy w' (some b)) (hb : b ≤ w.heap.size) : Below b w w' := ⟨h.os, h.tape, h.output, h.size, fun k hk => h.block k (by omega) (by intro e; cases e; omega)⟩
/-- The spot of a way, written. -/
theorem WayM.setSpot {b : Nat} {F : WayF} {i : Int} {vl : Value} {left : List Str} {hops : Nat} {sp : SpotL} {W : World} (h : WayM b F i vl left hops sp W) (x : Int) (y : Str) (z : Int) (u : Bool) :
    WayM b F i vl left hops ⟨x, y, z, u⟩ ((((W.setCell ⟨b, 9, none⟩ (.int .i64 x)).setCell ⟨b, 10, none⟩ (.string (bs y))).setCell ⟨b, 11, none⟩ (.int .i64 z)).setCell ⟨b, 12, none⟩ (.bool u)) :=
  ⟨(heap_set (heap_set (heap_set (heap_set h.blk)))).trans (by simp), rd_grown h.lft (grown_sc (grown_sc (grown_sc (grown_set _ ⟨b, 9, none⟩ _) _) _) _) h.far, h.far⟩
theorem grown_spot {b : Nat} {W W' : World} (h : W.grownBy W' (some b)) (x : Int) (y : Str) (z : Int) (u : Bool) : W.grownBy ((((W'.setCell ⟨b, 9, none⟩ (.int .i64 x)).setCell ⟨b, 10, none⟩ (.string (bs y))).setCell ⟨b, 11, none⟩ (.int .i64 z)).setCell ⟨b, 12, none⟩ (.bool u)) (some b) :=
  grown_sc (grown_sc (grown_sc (grown_sc h _) _) _) _
set_option maxRecDepth 100000 in
set_option maxHeartbeats 4000000 in
theorem step_any (b : Nat) (F : WayF) (i : Int) (vl : Value) (rest : List Str) (hops : Nat) (sp : SpotL) (p : Str) (ms : List NodeM) (w : World) (hw : WayM b F i vl rest hops sp w) (hv : RdM b F.nodes ms w) (hd : DskOk ms)
    (hh : hops ≤ 8) (hdl : ∀ n ∈ pl ms, n.data.length ≤ 10000) (hrl : rest.length ≤ 9999) :
    Calls Tryd.prog 35 #[.pointer (some ⟨b, 0, none⟩), .string (bs p)] w fun e w' => StepIs (pl ms) b F ((8 - hops) * 101 + rest.length + 1) (goW (pl ms) F.who F.follow F.slash i (p :: rest) hops) e w w' := by
  have hbl := hw.lt
  have HW := Lib.hid hw
  have HV := Lib.hid hv
  have HD := Lib.hid (dir_any b F i vl rest hops sp ms w hw (hv.mono (Nat.le_of_lt hbl)) hd)
  clear hw hv
  go_enter Tryd.func35, Tryd.ntmps35
  go_wp2_with fail
  refine HD.out.mono ?_
  rintro e w1 (⟨hne, rfl, hb1⟩ | ⟨h0, v, rfl, hr1, hb1⟩)
  · have HR : Hid (goW (pl ms) F.who F.follow F.slash i (p :: rest) hops = (zeroS, dirE (pl ms) i)) := Lib.hid (go_dir hne)
    have HNE := Lib.hid hne
    generalize dirE (pl ms) i = x at *
    clear hne
    go_wp2_with fail
    refine fresh1 (P := fun W => bodyPost _ _ _ _ _ W) ?_
    intro W5 hb5 hn5 hs5
    go_ret
    exact .inl ⟨x, HR.out, HNE.out, rfl, grown_bel (ret_tr hb1 hb5)⟩
  · have H0 := Lib.hid h0
    have hso := (right_sorted hd.right i).2
    have hnl := hd.names i
    obtain ⟨n, hn⟩ : ∃ n, n = nodeL (pl ms) i := ⟨_, rfl⟩
    have HN := Lib.hid hn
    rw [← hn] at hr1 hso hnl ⊢
    obtain ⟨ao1, cp1, e1, _, _⟩ := Rd.form hr1
    have e1' : v = .slice ao1 n.names.length cp1 := e1
    subst e1'
    have HSo := Lib.hid hso
    have HR1 := Lib.hid hr1
    clear h0 hn hso hr1 e1
    have hW1 := HW.out.keep hb1
    have HW1 := Lib.hid hW1
    clear hW1
    go_wp2_with fail
    refine fresh1 (P := fun W => Code.wp _ _ _ _ W) ?_
    intro W2 hb2 hn2 hs2
    have hW2 := HW1.out.keep hb2
    have HW2 := Lib.hid hW2
    have HB2 := Lib.hid (ret_tr hb1 hb2)
    have HR2 := Lib.hid (rdnm_keep HR1.out hb2)
    have HN2 := Lib.hid hn2
    have hbl2 := hW2.lt
    obtain ⟨c0, c1, c2, c3, c4, c5, c6, c7, c8, c9, c10, c11, c12⟩ := cells13 hW2.blk
    obtain ⟨n0, n1, n2, n3, n4, n5, n6, n7⟩ := cells8 hn2
    have hlt2 : w1.heap.size < W2.heap.size := by omega
    have hblg : b < w1.heap.size := HW1.out.lt
    clear hW2 hn2 HR1 HW1 hb1 hb2 hs2 HD
    have HMay : Hid (mayAt (pl ms) F.who i = mayB n.mode n.owner F.who 1) := Lib.hid (by unfold mayAt; rw [← HN.out])
    have HMB := fun w => may_any n.mode n.owner F.who 1 w
    obtain ⟨g, hg⟩ : ∃ g, g = w1.heap.size := ⟨_, rfl⟩
    rw [← hg] at n0 n1 n2 n3 n4 n5 n6 n7 hlt2 HN2 hblg ⊢
    clear hg
    cases hm : mayB n.mode n.owner F.who 1 with
    | false =>
      rw [hm] at HMB
      have HR : Hid (goW (pl ms) F.who F.follow F.slash i (p :: rest) hops = (zeroS, 7)) := Lib.hid (go_may H0.out (by rw [HMay.out, hm]))
      clear hm
      go_quiet ((go_at_call 46; exact Calls.quiet_of_same ((HMB _).mono fun e w' h => ⟨h.1, h.2.symm⟩)))
      go_wp2_with fail
      go_ret
      exact .inl ⟨7, HR.out, by decide, rfl, grown_bel (below_drewN HB2.out _)⟩
    | true =>
      rw [hm] at HMB
      have HMt := Lib.hid (show mayAt (pl ms) F.who i = true by rw [HMay.out, hm])
      clear hm
      go_quiet ((go_at_call 46; exact Calls.quiet_of_same ((HMB _).mono fun e w' h => ⟨h.1, h.2.symm⟩)))
      go_wp2_with fail
      refine (named_any b F i vl rest hops sp n _ p _ (HW2.out.keep (below_drewN (Below.refl _ _) _)) HR2.out hnl HSo.out).mono ?_
      rintro e w3 ⟨rfl, hb3⟩
      have hB3 := ret_tr (below_drewN HB2.out _) hb3
      have hW3 := HW.out.keep hB3
      have HW3 := Lib.hid hW3
      have HB3 := Lib.hid hB3
      clear c0 c1 c2 c3 c4 c5 c6 c7 c8 c9 c10 c11 c12 n0 n1 n2 n3 n4 n5 n6 n7
      obtain ⟨c0, c1, c2, c3, c4, c5, c6, c7, c8, c9, c10, c11, c12⟩ := cells13 hW3.blk
      have rf := fun j => Lib.frozen_of_heap hW3.blk j
      clear hW3 hB3 hb3
      go_wp2_with fail
      go_still_tail 14, (by kernel_rfl)
      have hlk : lookN i n p = lookL (pl ms) i p := by rw [HN.out]; rfl
      rw [hlk]
      clear hlk
      change wpList _ _ _ _ _ w3.drew
      have hWs := (HW3.out.keep ((Below.refl _ w3).drew)).setSpot i p (lookL (pl ms) i p) F.slash
      have hgs := grown_spot (grown_bel (row := some b) (HB3.out.drew)) i p (lookL (pl ms) i p) F.slash
      have hVs := (HV.out.below (grown_below_b hgs (Nat.le_of_lt hbl))).mono (Nat.le_of_lt hWs.lt)
      have HE : Hid (Calls Tryd.prog 48 #[.pointer (some ⟨b, 0, none⟩), .int .i64 (lookL (pl ms) i p)] ((((w3.drew.setCell ⟨b, 9, none⟩ (.int .i64 i)).setCell ⟨b, 10, none⟩ (.string (bs p))).setCell ⟨b, 11, none⟩ (.int .i64 (lookL (pl ms) i p))).setCell ⟨b, 12, none⟩ (.bool F.slash)) fun e w' => StepIs (pl ms) b F ((8 - hops) * 101 + rest.length + 1) (goW (pl ms) F.who F.follow F.slash i (p :: rest) hops) e w w') := Lib.hid (by
        cases rest with
        | nil => exact (enter_last b F i vl p hops ms _ hWs hVs hd H0.out HMt.out hh hdl).mono fun e w' h => h.from hgs
        | cons q r => exact (enter_more b F i vl p q r hops ms _ hWs hVs hd H0.out HMt.out hh hdl (by simp at hrl; omega)).mono fun e w' h => h.from hgs)
      generalize lookL (pl ms) i p = j at *
      have c9' : w3.drew.cell? ⟨b, 9, none⟩ = _ := c9
      have c10' : w3.drew.cell? ⟨b, 10, none⟩ = _ := c10
      have c11' : w3.drew.cell? ⟨b, 11, none⟩ = _ := c11
      have c12' : w3.drew.cell? ⟨b, 12, none⟩ = _ := c12
      have rf' : ∀ j, w3.drew.frozen? ⟨b, j, none⟩ = false := rf
      clear hWs hgs hVs c0 c1 c2 c3 c4 c5 c6 c7 c8 c9 c10 c11 c12 rf
      generalize w3.drew = w4 at *
      go_wp2_with fail
      refine HE.out.mono ?_
      intro e w5 h
      obtain ⟨v5, rfl, _, hst⟩ := h.ends
      have HST := Lib.hid hst
      clear h hst
      go_wp2_with fail
      go_ret
      exact HST.out
end Go.Proofs.YtckbhkchnhhecaaDoor
