/-
  The walks of DiskCounts, DiskRight.
-/
import Derived.Test.YtknjmdgnbhohdaaLaw6A
namespace Go.Proofs.Ytknjmdgnbhohdaa
open Go.RowKit Go.Shelf
attribute [local go_sem ↓] Go.wp_at_zero Go.wp_at_succ

theorem small_len {ms : List NodeM} (h : Small (pl ms)) : ms.length ≤ 100 := by have := h.1; rwa [pl_len] at this
theorem small_names {l : List NodeL} (h : Small l) : ∀ n ∈ l, n.names.length ≤ 10000 := fun n hn => by have := (h.2 n hn).2; omega
set_option maxRecDepth 100000 in
set_option maxHeartbeats 2000000 in
theorem right_walk (v : Value) (ms : List NodeM) (most room : Int) (w : World) (hv : RdM w.heap.size v ms w) (hfit : FitD (pl ms)) :
    Calls Try.prog 4 #[.agg #[v, .int .i64 most, .int .i64 room]] w fun e w' => e = .returned (.bool true) ∧ Below w.heap.size w w' := by
  obtain ⟨ao, cap, rfl, _, _⟩ := rdm_form hv
  have HV := Lib.hid hv
  clear hv
  go_enter Try.func4, Try.ntmps4
  go_wp2_with fail
  refine fresh1 (P := fun W => Calls _ _ _ W _) ?_
  intro W0 hb0 hD hs0
  refine (big_any (.slice ao ms.length cap) ms most room W0 (rdm_keep HV.out hb0)).mono ?_
  rintro e W1 ⟨rfl, hb1⟩
  have hB1 := ret_tr hb0 hb1
  have hs1 := hb1.size
  have hD1 := Lib.hid ((hb1.block _ (by omega)).trans hD)
  clear hb0 hb1 hD
  cases hbig : bigL (pl ms) with
  | true =>
    go_wp2_with fail
    refine (shown_any _).mono ?_
    rintro e W2 ⟨rfl, hb2⟩
    go_wp2_with fail
    go_ret
    exact ⟨rfl, ret_tr hB1 hb2⟩
  | false =>
    have hsm := small_of hbig
    have HS := Lib.hid hsm
    have hl := small_len hsm
    have HNL := Lib.hid (small_names hsm)
    clear hsm hbig
    go_wp2_with fail
    refine (shown_any _).mono ?_
    rintro e W2 ⟨rfl, hb2⟩
    have hB2 := ret_tr hB1 hb2
    have hs2 := hb2.size
    have hD2 := Lib.hid ((hb2.block _ (by omega)).trans hD1.out)
    clear hB1 hb2 hD1
    obtain ⟨p0, p1, p2⟩ := cells3 hD2.out
    go_wp2_with fail
    have HD : ∀ W, Below W2.heap.size W2 W → W.cell? ⟨w.heap.size, 0, none⟩ = some (.slice ao ms.length cap) ∧ W.cell? ⟨w.heap.size, 1, none⟩ = some (.int .i64 most) ∧ W.cell? ⟨w.heap.size, 2, none⟩ = some (.int .i64 room) := fun W hb => cells3 ((hb.block _ (by omega)).trans hD2.out)
    have HDD := Lib.hid HD
    have HR := Lib.hid fun W (hb : Below W2.heap.size W2 W) => right_c (.slice ao ms.length cap) ms most room W (rdm_keep HV.out (ret_tr hB2 hb)) HS.out hfit
    have HI := Lib.hid fun W (hb : Below W2.heap.size W2 W) => its_any (.slice ao ms.length cap) ms most room W (rdm_keep HV.out (ret_tr hB2 hb)) (by omega) HNL.out
    have HRR := Lib.hid fun (vx : Value) (W : World) (hg : GivesN (pl ms) vx W) => (by
      obtain ⟨mx, h1, h2⟩ := hg
      have := rright_any vx mx most room W h2 (by rw [h1]; exact HS.out) (by rw [h1]; exact hfit)
      rw [h1] at this
      exact this : Calls Try.prog 19 #[.agg #[vx, .int .i64 most, .int .i64 room]] W fun e w' => e = .returned (.bool (rightR (pl ms) most room)) ∧ Below W.heap.size W w')
    have bw : Below W2.heap.size W2 W2 := Below.refl _ _
    have bd : Below W2.heap.size W2 W2.drew := (Below.refl _ _).drew
    generalize hrr : rightR (pl ms) most room = rr at *
    clear HD hfit p0 p1 p2
    go_region_held3 (fun W => W.cell? ⟨w.heap.size, 0, none⟩ = some (.slice ao ms.length cap) ∧ W.cell? ⟨w.heap.size, 1, none⟩ = some (.int .i64 most) ∧ W.cell? ⟨w.heap.size, 2, none⟩ = some (.int .i64 room))
      (first
        | exact HDD.out _ (by assumption)
        | go_keep)
      (first
        | (go_at_call 18; (with_reducible refine (HR.out _ (by assumption)).mono ?_); rintro e WR ⟨rfl, hbR⟩; have bR := ret_tr (w := W2) (by assumption) hbR; (try replace hgI := hgI.keep hbR))
        | (go_at_call 11; (with_reducible refine (HI.out _ (by assumption)).mono ?_); rintro e WI ⟨vI, rfl, hgI, hbI⟩; have bI := ret_tr (w := W2) (by assumption) hbI)
        | (go_at_call 19; (with_reducible refine (HRR.out vI _ hgI).mono ?_); rintro e WQ ⟨rfl, hbQ⟩; have bQ := ret_tr (w := W2) (by assumption) hbQ)
        | fail)
    all_goals (
      go_wp2_with fail
      go_ret
      exact ⟨rfl, ret_tr hB2 (by assumption)⟩)
/-- The contracts, of whatever reads as these nodes. -/
theorem its_g (l : List NodeL) (a b : Int) (hl : l.length ≤ 10000) (hnl : ∀ n ∈ l, n.names.length ≤ 10000) (v : Value) (W : World) (hg : GivesN l v W) :
    Calls Try.prog 11 #[.agg #[v, .int .i64 a, .int .i64 b]] W fun e w' => ∃ v', e = .returned (.agg #[v', .int .i64 a, .int .i64 b]) ∧ GivesN l v' w' ∧ Below W.heap.size W w' := by
  obtain ⟨m, rfl, h⟩ := hg
  exact its_any v m a b W h (by rw [← pl_len]; exact hl) hnl
theorem same_g (l : List NodeL) (a b : Int) (hl : l.length ≤ 10000) (hnl : ∀ n ∈ l, n.names.length ≤ 10000) (v v' : Value) (W : World) (hg : GivesN l v W) (hg' : GivesN l v' W) :
    Calls Try.prog 10 #[.agg #[v, .int .i64 a, .int .i64 b], .agg #[v', .int .i64 a, .int .i64 b]] W fun e w' => e = .returned (.bool true) ∧ Below W.heap.size W w' := by
  obtain ⟨m, rfl, h⟩ := hg
  obtain ⟨m', h1, h'⟩ := hg'
  have := sameD_any v v' m m' a b a b W h h' (by rw [← pl_len]; exact hl) hnl (by rw [h1]; exact hnl)
  rw [h1] at this
  have e : sameD (pl m) (pl m) a b a b = true := by unfold sameD; simp
  rw [e] at this
  exact this
theorem used_g (l : List NodeL) (a b : Int) (hl : l.length ≤ 10000) (v : Value) (W : World) (hg : GivesN l v W) :
    Calls Try.prog 14 #[.agg #[v, .int .i64 a, .int .i64 b]] W fun e w' => e = .returned (.int .i64 (usedL l)) ∧ Below W.heap.size W w' := by
  obtain ⟨m, rfl, h⟩ := hg
  exact used_any v m a b W h (by rw [← pl_len]; exact hl)
theorem rused_g (l : List NodeL) (a b : Int) (hl : l.length ≤ 10000) (v : Value) (W : World) (hg : GivesN l v W) :
    Calls Try.prog 15 #[.agg #[v, .int .i64 a, .int .i64 b]] W fun e w' => e = .returned (.int .i64 (usedL l)) ∧ Below W.heap.size W w' := by
  obtain ⟨m, rfl, h⟩ := hg
  exact rused_any v m a b W h (by rw [← pl_len]; exact hl)
theorem bytes_g (l : List NodeL) (a b : Int) (hs : Small l) (v : Value) (W : World) (hg : GivesN l v W) :
    Calls Try.prog 16 #[.agg #[v, .int .i64 a, .int .i64 b]] W fun e w' => e = .returned (.int .i64 (bytesL l)) ∧ Below W.heap.size W w' := by
  obtain ⟨m, rfl, h⟩ := hg
  exact bytes_any v m a b W h hs
theorem rbytes_g (l : List NodeL) (a b : Int) (hs : Small l) (v : Value) (W : World) (hg : GivesN l v W) :
    Calls Try.prog 17 #[.agg #[v, .int .i64 a, .int .i64 b]] W fun e w' => e = .returned (.int .i64 (bytesL l)) ∧ Below W.heap.size W w' := by
  obtain ⟨m, rfl, h⟩ := hg
  exact rbytes_any v m a b W h hs
theorem newL_small (most room mode : Int) : (newL most room mode).length ≤ 10000 ∧ ∀ n ∈ newL most room mode, n.names.length ≤ 10000 := by
  unfold newL
  split
  · refine ⟨by simp, fun n hn => ?_⟩
    obtain rfl := List.mem_singleton.1 hn
    exact Nat.zero_le _
  · exact ⟨by simp, fun n hn => by cases hn⟩
set_option maxRecDepth 100000 in
set_option maxHeartbeats 8000000 in
theorem counts_walk (mo ro md : Int) (v : Value) (ms : List NodeM) (most room : Int) (w : World) (hv : RdM w.heap.size v ms w) :
    Calls Try.prog 3 #[.int .i64 mo, .int .i64 ro, .int .i64 md, .agg #[v, .int .i64 most, .int .i64 room]] w fun e w' => e = .returned (.bool true) ∧ Below w.heap.size w w' := by
  obtain ⟨ao, cap, rfl, _, _⟩ := rdm_form hv
  have HV := Lib.hid hv
  clear hv
  go_enter Try.func3, Try.ntmps3
  go_wp2_with fail
  refine fresh1 (P := fun W => Calls _ _ _ W _) ?_
  intro W0 hb0 hD hs0
  refine (big_any (.slice ao ms.length cap) ms most room W0 (rdm_keep HV.out hb0)).mono ?_
  rintro e W1 ⟨rfl, hb1⟩
  have hB1 := ret_tr hb0 hb1
  have hs1 := hb1.size
  have hD1 := Lib.hid ((hb1.block _ (by omega)).trans hD)
  clear hb0 hb1 hD
  cases hbig : bigL (pl ms) with
  | true =>
    go_wp2_with fail
    refine (shown_any _).mono ?_
    rintro e W2 ⟨rfl, hb2⟩
    go_wp2_with fail
    go_ret
    exact ⟨rfl, ret_tr hB1 hb2⟩
  | false =>
    have hsm := small_of hbig
    have HS := Lib.hid hsm
    have hl := small_len hsm
    have HNL := Lib.hid (small_names hsm)
    clear hsm hbig
    go_wp2_with fail
    refine (shown_any _).mono ?_
    rintro e W2 ⟨rfl, hb2⟩
    have hB2 := ret_tr hB1 hb2
    have hs2 := hb2.size
    have hD2 := Lib.hid ((hb2.block _ (by omega)).trans hD1.out)
    clear hB1 hb2 hD1
    obtain ⟨p0, p1, p2⟩ := cells3 hD2.out
    go_wp2_with fail
    have HDD := Lib.hid fun W (hb : Below W2.heap.size W2 W) => cells3 ((hb.block _ (show w.heap.size < W2.heap.size by omega)).trans hD2.out)
    have hlp : (pl ms).length ≤ 10000 := by rw [pl_len]; omega
    have hG : GivesN (pl ms) (.slice ao ms.length cap) W2 := ⟨ms, rfl, rdm_keep HV.out hB2⟩
    have HG := Lib.hid fun W (hb : Below W2.heap.size W2 W) => hG.keep hb
    have HNew := Lib.hid fun W => new_any mo ro md W
    have HRNew := Lib.hid fun W => rnew_any mo ro md W
    have HItsN := Lib.hid (its_g (newL mo ro md) (newI mo ro md mo) (newI mo ro md ro) (newL_small mo ro md).1 (newL_small mo ro md).2)
    have HSame := Lib.hid (same_g (newL mo ro md) (newI mo ro md mo) (newI mo ro md ro) (newL_small mo ro md).1 (newL_small mo ro md).2)
    have HIts := Lib.hid (its_g (pl ms) most room hlp HNL.out)
    have HU := Lib.hid (used_g (pl ms) most room hlp)
    have HRU := Lib.hid (rused_g (pl ms) most room hlp)
    have HBy := Lib.hid (bytes_g (pl ms) most room HS.out)
    have HRBy := Lib.hid (rbytes_g (pl ms) most room HS.out)
    generalize usedL (pl ms) = u at *
    generalize bytesL (pl ms) = y at *
    generalize pl ms = L at *
    have bw : Below W2.heap.size W2 W2 := Below.refl _ _
    have bd : Below W2.heap.size W2 W2.drew := (Below.refl _ _).drew
    clear p0 p1 p2 hG
    unfold NewIs at HNew HRNew
    generalize newL mo ro md = N at *
    generalize newI mo ro md mo = x1 at *
    generalize newI mo ro md ro = x2 at *
    go_region_held3 (fun W => W.cell? ⟨w.heap.size, 0, none⟩ = some (.slice ao ms.length cap) ∧ W.cell? ⟨w.heap.size, 1, none⟩ = some (.int .i64 most) ∧ W.cell? ⟨w.heap.size, 2, none⟩ = some (.int .i64 room))
      (first
        | exact HDD.out _ (by assumption)
        | go_keep)
      (first
        | (go_at_call 12; (with_reducible refine (HNew.out _).mono ?_); rintro e WX ⟨vN, rfl, gN, hb⟩; have bX := ret_tr (w := W2) (by assumption) hb; (try replace gR := gR.keep hb))
        | (go_at_call 13; (with_reducible refine (HRNew.out _).mono ?_); rintro e WX ⟨vR, rfl, gR, hb⟩; have bX := ret_tr (w := W2) (by assumption) hb; (try replace gN := gN.keep hb); (try replace gI := gI.keep hb))
        | (go_at_call 11; (with_reducible refine (HItsN.out vN _ gN).mono ?_); rintro e WX ⟨vI, rfl, gI, hb⟩; have bX := ret_tr (w := W2) (by assumption) hb; (try replace gR := gR.keep hb))
        | (go_at_call 10; (with_reducible refine (HSame.out vI vR _ gI gR).mono ?_); rintro e WX ⟨rfl, hb⟩; have bX := ret_tr (w := W2) (by assumption) hb)
        | (go_at_call 11; (with_reducible refine (HIts.out _ _ (HG.out _ (by assumption))).mono ?_); rintro e WX ⟨vJ, rfl, gJ, hb⟩; have bX := ret_tr (w := W2) (by assumption) hb)
        | (go_at_call 14; (with_reducible refine (HU.out _ _ (HG.out _ (by assumption))).mono ?_); rintro e WX ⟨rfl, hb⟩; have bX := ret_tr (w := W2) (by assumption) hb; (try replace gJ := gJ.keep hb))
        | (go_at_call 15; (with_reducible refine (HRU.out vJ _ gJ).mono ?_); rintro e WX ⟨rfl, hb⟩; have bX := ret_tr (w := W2) (by assumption) hb)
        | (go_at_call 16; (with_reducible refine (HBy.out _ _ (HG.out _ (by assumption))).mono ?_); rintro e WX ⟨rfl, hb⟩; have bX := ret_tr (w := W2) (by assumption) hb; (try replace gJ := gJ.keep hb))
        | (go_at_call 17; (with_reducible refine (HRBy.out vJ _ gJ).mono ?_); rintro e WX ⟨rfl, hb⟩; have bX := ret_tr (w := W2) (by assumption) hb)
        | fail)
    all_goals (
      go_wp2_with fail
      go_ret
      exact ⟨rfl, ret_tr hB2 (by assumption)⟩)
end Go.Proofs.Ytknjmdgnbhohdaa
