/-
  The walk of DiskAdds.
-/
import Derived.Test.YtknjmdgnbhohdaaLaw6D
import Derived.Test.YtknjmdgnbhohdaaAddPlain
namespace Go.Proofs.Ytknjmdgnbhohdaa
open Go.RowKit Go.Shelf
attribute [local go_sem ↓] Go.wp_at_zero Go.wp_at_succ

set_option maxRecDepth 100000 in
set_option maxHeartbeats 8000000 in
theorem adds_walk (v : Value) (ms : List NodeM) (most room : Int) (n : NodeL) (vn : Value) (w : World) (hv : RdM w.heap.size v ms w) (hn : RdNm w.heap.size (n, vn) w) :
    Calls Try.prog 7 #[.agg #[v, .int .i64 most, .int .i64 room], nval n vn] w fun e w' => e = .returned (.bool true) ∧ Below w.heap.size w w' := by
  obtain ⟨ao, cap, rfl, _, _⟩ := rdm_form hv
  obtain ⟨aon, capn, e, _, _⟩ := Rd.form hn
  have e' : vn = .slice aon n.names.length capn := e
  subst e'
  have HV := Lib.hid hv
  have HN := Lib.hid hn
  clear hv hn e
  go_enter Try.func7, Try.ntmps7
  go_wp2_with fail
  refine fresh2 (P := fun W => Calls _ _ _ W _) ?_
  intro W0 hb0 hD hQ hs0
  refine (big_any (.slice ao ms.length cap) ms most room W0 (rdm_keep HV.out hb0)).mono ?_
  rintro e W1 ⟨rfl, hb1⟩
  have hB1 := ret_tr hb0 hb1
  have hs1 := hb1.size
  have hD1 := Lib.hid ((hb1.block _ (by omega)).trans hD)
  have hQ1 := Lib.hid ((hb1.block _ (by omega)).trans hQ)
  obtain ⟨p0, p1, p2⟩ := cells3 hD1.out
  obtain ⟨q0, q1, q2, q3, q4, q5, q6, q7⟩ := cells8 hQ1.out
  clear hb0 hb1 hD hQ
  cases hbig : bigL (pl ms) with
  | true =>
    go_wp2_with fail
    refine (shown_any _).mono ?_
    rintro e W2 ⟨rfl, hb2⟩
    go_wp2_with fail
    go_ret
    exact ⟨rfl, ret_tr hB1 hb2⟩
  | false =>
  by_cases h1 : 300 < n.data.length
  · have hJ : decide ((300 : Int) < (n.data.length : Int)) = true := decide_eq_true (by omega)
    go_wp2_with fail
    refine (shown_any _).mono ?_
    rintro e W2 ⟨rfl, hb2⟩
    go_wp2_with fail
    go_ret
    exact ⟨rfl, ret_tr hB1 hb2⟩
  have hJ : decide ((300 : Int) < (n.data.length : Int)) = false := decide_eq_false (by omega)
  by_cases h2 : 60 < n.names.length
  · have hK : decide ((60 : Int) < (n.names.length : Int)) = true := decide_eq_true (by omega)
    go_wp2_with fail
    refine (shown_any _).mono ?_
    rintro e W2 ⟨rfl, hb2⟩
    go_wp2_with fail
    go_ret
    exact ⟨rfl, ret_tr hB1 hb2⟩
  have hK : decide ((60 : Int) < (n.names.length : Int)) = false := decide_eq_false (by omega)
  by_cases hk0 : n.kind = 0
  · have hI : (n.kind == 0) = true := by simpa using hk0
    go_wp2_with fail
    refine (shown_any _).mono ?_
    rintro e W2 ⟨rfl, hb2⟩
    go_wp2_with fail
    go_ret
    exact ⟨rfl, ret_tr hB1 hb2⟩
  have hI : (n.kind == 0) = false := by simpa using hk0
  have hd3 : n.data.length ≤ 300 := by omega
  have hn6 : n.names.length ≤ 60 := by omega
  have hsm := small_of hbig
  have HS := Lib.hid hsm
  have hl := small_len hsm
  have HNL := Lib.hid (small_names hsm)
  have HK0 := Lib.hid hk0
  clear hbig hsm h1 h2 hk0
  go_wp2_with fail
  refine (shown_any _).mono ?_
  rintro e W2 ⟨rfl, hb2⟩
  have hB2 := ret_tr hB1 hb2
  have hs2 := hb2.size
  have hD2 := Lib.hid ((hb2.block _ (by omega)).trans hD1.out)
  have hQ2 := Lib.hid ((hb2.block _ (by omega)).trans hQ1.out)
  clear hB1 hb2 hD1 hQ1 p0 p1 p2 q0 q1 q2 q3 q4 q5 q6 q7 hI hJ hK
  obtain ⟨p0, p1, p2⟩ := cells3 hD2.out
  obtain ⟨q0, q1, q2, q3, q4, q5, q6, q7⟩ := cells8 hQ2.out
  go_wp2_with fail
  refine (add_anyM (.slice ao ms.length cap) ms most room n (.slice aon n.names.length capn) W2 (rdm_keep HV.out hB2) HS.out (rdnm_keep HN.out hB2) ⟨hd3, hn6⟩).mono ?_
  clear p0 p1 p2 q0 q1 q2 q3 q4 q5 q6 q7
  intro e W3 h3
  obtain ⟨v3, m3, rfl, hm3, hr3, hb3, -⟩ := h3
  obtain ⟨ao3, cap3, rfl, _, _⟩ := rdm_form hr3
  have hB3 := ret_tr hB2 hb3
  have hs3 := hb3.size
  have hD3 := Lib.hid ((hb3.block _ (by omega)).trans hD2.out)
  have hQ3 := Lib.hid ((hb3.block _ (by omega)).trans hQ2.out)
  clear hb3 hB2 hD2 hQ2
  have hw3 : w.heap.size + 1 < W3.heap.size := by omega
  have d0 := (cells3 hD3.out).1
  have hlp : (pl ms).length ≤ 10000 := by rw [pl_len]; omega
  cases hno : addNo (pl ms) most room n with
  | true =>
    have HI := Lib.hid (show addI (pl ms) most room n = 0 by unfold addI; rw [hno]; rfl)
    have HE := Lib.hid (show addE (pl ms) most room n = 10 by unfold addE; rw [hno]; rfl)
    have hm3' : pl m3 = pl ms := by rw [hm3]; unfold addL; rw [hno]; rfl
    rw [HI.out, HE.out]
    clear hno
    go_wp2_with fail
    refine fresh1 (P := fun W => Code.wp _ _ _ _ W) ?_
    intro W4 hb4 hS4 hs4
    have hB4 := ret_tr hB3 hb4
    have hD4 := Lib.hid ((hb4.block _ (by omega)).trans hD3.out)
    have hG3 : GivesN (pl ms) (.slice ao3 m3.length cap3) W4 := ⟨m3, hm3', rdm_keep hr3 hb4⟩
    have hG : GivesN (pl ms) (.slice ao ms.length cap) W4 := ⟨ms, rfl, rdm_keep HV.out hB4⟩
    have HSS : Hid (∀ W, Below W4.heap.size W4 W → W.cell? ⟨W3.heap.size, 0, none⟩ = some (.slice ao3 m3.length cap3) ∧ W.cell? ⟨W3.heap.size, 1, none⟩ = some (.int .i64 most) ∧ W.cell? ⟨W3.heap.size, 2, none⟩ = some (.int .i64 room) ∧ W.cell? ⟨w.heap.size, 0, none⟩ = some (.slice ao ms.length cap) ∧ W.cell? ⟨w.heap.size, 1, none⟩ = some (.int .i64 most) ∧ W.cell? ⟨w.heap.size, 2, none⟩ = some (.int .i64 room)) := Lib.hid fun W hw => by
      have x1 := cells3 ((hw.block _ (by omega)).trans hS4)
      have x2 := cells3 ((hw.block _ (by omega)).trans hD4.out)
      exact ⟨x1.1, x1.2.1, x1.2.2, x2⟩
    have HI3 := Lib.hid fun W (hw : Below W4.heap.size W4 W) => its_g (pl ms) most room hlp HNL.out _ W (hG3.keep hw)
    have HI0 := Lib.hid fun W (hw : Below W4.heap.size W4 W) => its_g (pl ms) most room hlp HNL.out _ W (hG.keep hw)
    have HSa := Lib.hid (same_g (pl ms) most room hlp HNL.out)
    have bw : Below W4.heap.size W4 W4 := Below.refl _ _
    have bd : Below W4.heap.size W4 W4.drew := (Below.refl _ _).drew
    clear hG hG3 hr3 hm3 hm3' hb4 hS4 hD4 d0
    generalize pl ms = L at *
    go_region_held3 (fun W => W.cell? ⟨W3.heap.size, 0, none⟩ = some (.slice ao3 m3.length cap3) ∧ W.cell? ⟨W3.heap.size, 1, none⟩ = some (.int .i64 most) ∧ W.cell? ⟨W3.heap.size, 2, none⟩ = some (.int .i64 room) ∧ W.cell? ⟨w.heap.size, 0, none⟩ = some (.slice ao ms.length cap) ∧ W.cell? ⟨w.heap.size, 1, none⟩ = some (.int .i64 most) ∧ W.cell? ⟨w.heap.size, 2, none⟩ = some (.int .i64 room))
      (first
        | exact HSS.out _ (by assumption)
        | go_keep)
      (first
        | (go_at_call 11; (with_reducible refine (HI3.out _ (by assumption)).mono ?_); rintro e WX ⟨vX, rfl, gX, hbX⟩; have bX := ret_tr (w := W4) (by assumption) hbX; (try replace gY := gY.keep hbX))
        | (go_at_call 11; (with_reducible refine (HI0.out _ (by assumption)).mono ?_); rintro e WX ⟨vY, rfl, gY, hbX⟩; have bX := ret_tr (w := W4) (by assumption) hbX; (try replace gX := gX.keep hbX))
        | (go_at_call 10; (with_reducible refine (HSa.out vX vY _ gX gY).mono ?_); rintro e WX ⟨rfl, hbX⟩; have bX := ret_tr (w := W4) (by assumption) hbX)
        | fail)
    all_goals (
      go_wp2_with fail
      go_ret
      exact ⟨rfl, ret_tr hB4 (by assumption)⟩)
  | false =>
    obtain ⟨p, hpl, hI, hE, hfree, hat, hlen, ⟨hp3, hpn⟩, hoth, husd, hmem⟩ := add_facts (pl ms) most room n HK0.out hno
    rw [hI, hE]
    rw [pl_len] at hpl
    have hl3 : ms.length ≤ m3.length := by rw [← pl_len ms, ← pl_len m3, hm3]; exact hlen
    have hp3' : p < m3.length := by rw [← pl_len m3, hm3]; exact hp3
    have hlu : m3.length ≤ 101 := by
      have h1 := used_le (pl ms)
      have h2 : (addL (pl ms) most room n).length ≤ (pl ms).length + 1 := by
        unfold addL
        split
        · omega
        · split
          · simp
          · simp
      rw [← pl_len m3, hm3]
      rw [pl_len] at h2
      omega
    have hnn3 : ∀ x ∈ pl m3, x.names.length ≤ 10000 := fun x hx => by
      rw [hm3] at hx
      rcases hmem x hx with hx | rfl
      · exact HNL.out x hx
      · omega
    have HFr := Lib.hid hfree
    have HAt := Lib.hid hat
    have HOt := Lib.hid fun q (h : q < ms.length) (h' : q < m3.length) (hq : q ≠ p) => (show (pl m3)[q]'(by rw [pl_len]; exact h') = (pl ms)[q]'(by rw [pl_len]; exact h) from by
      have e : ∀ (L : List NodeL) (hL : L = addL (pl ms) most room n) (hh : q < L.length), L[q]'hh = (pl ms)[q]'(by rw [pl_len]; exact h) := by
        intro L hL hh
        subst hL
        exact hoth q (by rw [pl_len]; exact h) hh hq
      exact e _ hm3 _)
    have HPn := Lib.hid (show (pl m3)[p]'(by rw [pl_len]; exact hp3') = n from by
      have e : ∀ (L : List NodeL) (hL : L = addL (pl ms) most room n) (hh : p < L.length), L[p]'hh = n := by
        intro L hL hh
        subst hL
        exact hpn
      exact e _ hm3 _)
    have HUs := Lib.hid (show usedL (pl m3) = usedL (pl ms) + 1 by rw [hm3]; exact husd)
    clear hno hI hE hfree hat hlen hp3 hpn hoth husd hmem hm3
    go_wp2_with fail
    refine fresh1 (P := fun W => Code.wp _ _ _ _ W) ?_
    intro W4 hb4 hS4 hs4
    have hB4 := ret_tr hB3 hb4
    have hD4 := Lib.hid ((hb4.block _ (by omega)).trans hD3.out)
    have hQ4 := Lib.hid ((hb4.block _ (by omega)).trans hQ3.out)
    have hS4' := Lib.hid hS4
    have hR4 := Lib.hid (rdm_keep hr3 hb4)
    clear hb4 hS4 hr3 d0 hD3 hQ3
    have d0 := (cells3 hD4.out).1
    have s0 := (cells3 hS4'.out).1
    go_loop [8] (fun i' => ∃ k : Nat, i' = .int .i64 k ∧ k ≤ p) (fun i' => p - (intOf i').toNat)
    case atStart => exact ⟨0, rfl, Nat.zero_le _⟩
    case round =>
      obtain ⟨k, rfl, hk⟩ := hrel
      by_cases hkp : k < p
      · have hkl : k < ms.length := by omega
        obtain ⟨b, off, n1, aox, capx, rfl, hb, hx1, -, -, a0, -⟩ := node_at (rdm_keep HV.out hB4) k hkl
        have hnz : (n1.kind == 0) = false := by
          have := HFr.out k (by rw [pl_len]; exact hkl) hkp
          rw [hx1] at this
          simpa using this
        have k0 : (0 : Int) ≤ (k : Int) := by omega
        have k1 : (k : Int) < (ms.length : Int) := by omega
        clear hx1
        go_wp2_with fail
        go_round
        case rel => exact ⟨k + 1, by go_num, hkp⟩
        case measure => simp [intOf]; omega
      · have hI2 : decide (k < p) = false := decide_eq_false hkp
        have hI2' : decide ((k : Int) < (p : Int)) = false := decide_eq_false (by omega)
        have hke : k = p := by omega
        clear hkp
        have hp2 : decide ((m3.length : Int) ≤ (p : Int)) = false := decide_eq_false (by omega)
        have hp4 : decide ((ms.length : Int) < (p : Int)) = false := decide_eq_false (by omega)
        have p0 : (0 : Int) ≤ (p : Int) := by omega
        by_cases hpm : p < ms.length
        · obtain ⟨b, off, n1, aox, capx, hao, hb, hx1, -, -, a0, -⟩ := node_at (rdm_keep HV.out hB4) p hpm
          have hnz : (n1.kind != 0) = false := by
            have := HAt.out (by rw [pl_len]; exact hpm)
            rw [hx1] at this
            simpa using this
          have k1 : (p : Int) < (ms.length : Int) := by omega
          have hpm' : decide ((p : Int) < (ms.length : Int)) = true := decide_eq_true k1
          clear hx1
          subst hao
          go_wp2_with fail
          clear a0 hnz k1 hpm' hb d0 s0 hp2 hp4 hI2 hI2'
          generalize hao : (some ⟨b, off, none⟩ : Option Addr) = ao at *
          clear hao
          go_loopw [9] (fun i' wr => ∃ j : Nat, i' = .int .i64 j ∧ j ≤ ms.length ∧ Below W4.heap.size W4 wr) (fun i' _ => ms.length - (intOf i').toNat)
          case atStart => exact ⟨0, rfl, Nat.zero_le _, Below.refl _ _⟩
          case round =>
            obtain ⟨j, rfl, hj, hBr⟩ := hrel
            have hBw := ret_tr hB4 hBr
            have hDr := (hBr.block _ (by omega)).trans hD4.out
            have hSr := (hBr.block _ (by omega)).trans hS4'.out
            have hQr := (hBr.block _ (by omega)).trans hQ4.out
            have hRr := rdm_keep hR4.out hBr
            have d0 := (cells3 hDr).1
            have s0 := (cells3 hSr).1
            have swr := hBr.size
            have hwr1 : w.heap.size < wr.heap.size := by omega
            have hwr2 : W3.heap.size < wr.heap.size := by omega
            by_cases hlt : j < ms.length
            · clear hQr
              by_cases hjk : j = p
              · have hI : ((j : Int) != (p : Int)) = false := by rw [hjk]; simp
                clear hRr
                go_wp2_with fail
                have dd0 := cell_regrown d0
                have ss0 := cell_regrown s0
                refine wp_region_quiet_below (by kernel_rfl) (by kernel_rfl) ?_
                repeat (go_big_quiet_step (fail))
                refine wpQuiet_nil ?_
                clear dd0 ss0
                intro _ hw'
                obtain ⟨⟨dq, osq⟩, hw''⟩ := hw'
                have hbq : Below wr.heap.size wr _ := below_regrown wr dq osq
                rw [← hw''] at hbq
                clear hw''
                rename_i W8
                go_wp2_with fail
                go_roundw
                case rel => exact ⟨j + 1, by go_num, hlt, ret_tr hBr hbq⟩
                case measure => simp [intOf]; omega
              · have hI : ((j : Int) != (p : Int)) = true := by rw [bne_iff_ne]; omega
                have hv1 := rdm_keep HV.out hBw
                obtain ⟨b, off, n1, aox, capx, rfl, hb, hx1, -, hrx, a0, a1, a2, a3, a4, a5, a6, a7⟩ := node_at hv1 j hlt
                obtain ⟨b3, off3, n2, aoy, capy, rfl, hb3, hx2, -, hry, y0, y1, y2, y3, y4, y5, y6, y7⟩ := node_at hRr j (by omega)
                have hsame : n2 = n1 := by
                  rw [← hx2, ← hx1]
                  exact HOt.out j hlt (by omega) hjk
                subst hsame
                have hrx' : Rd wr.heap.size 2 (.slice aox n2.names.length capx) n2.names.length (ents n2.names) wr := hrx
                have hnn : n2.names.length ≤ 10000 := HNL.out n2 (by rw [← hx1]; exact List.getElem_mem _)
                have j0 : (0 : Int) ≤ (j : Int) := by omega
                have j1 : (j : Int) < (ms.length : Int) := by omega
                have j2 : (j : Int) < (m3.length : Int) := by omega
                have HSS : Hid (∀ W, Below wr.heap.size wr W → W.cell? ⟨W3.heap.size, 0, none⟩ = some (.slice (some ⟨b3, off3, none⟩) m3.length cap3) ∧ W.cell? ⟨w.heap.size, 0, none⟩ = some (.slice (some ⟨b, off, none⟩) ms.length cap) ∧ W.cell? ⟨b3, off3 + j * 8, none⟩ = some (.int .i64 n2.kind) ∧ W.cell? ⟨b3, off3 + j * 8 + 1, none⟩ = some (.int .i64 n2.mode) ∧ W.cell? ⟨b3, off3 + j * 8 + 2, none⟩ = some (.int .i64 n2.owner) ∧ W.cell? ⟨b3, off3 + j * 8 + 3, none⟩ = some (.int .i64 n2.links) ∧ W.cell? ⟨b3, off3 + j * 8 + 4, none⟩ = some (.int .i64 n2.opn) ∧ W.cell? ⟨b3, off3 + j * 8 + 5, none⟩ = some (.int .i64 n2.up) ∧ W.cell? ⟨b3, off3 + j * 8 + 6, none⟩ = some (.string (bs n2.data)) ∧ W.cell? ⟨b3, off3 + j * 8 + 7, none⟩ = some (.slice aoy n2.names.length capy) ∧ W.cell? ⟨b, off + j * 8, none⟩ = some (.int .i64 n2.kind) ∧ W.cell? ⟨b, off + j * 8 + 1, none⟩ = some (.int .i64 n2.mode) ∧ W.cell? ⟨b, off + j * 8 + 2, none⟩ = some (.int .i64 n2.owner) ∧ W.cell? ⟨b, off + j * 8 + 3, none⟩ = some (.int .i64 n2.links) ∧ W.cell? ⟨b, off + j * 8 + 4, none⟩ = some (.int .i64 n2.opn) ∧ W.cell? ⟨b, off + j * 8 + 5, none⟩ = some (.int .i64 n2.up) ∧ W.cell? ⟨b, off + j * 8 + 6, none⟩ = some (.string (bs n2.data)) ∧ W.cell? ⟨b, off + j * 8 + 7, none⟩ = some (.slice aox n2.names.length capx)) := Lib.hid fun W hw => ⟨(hw.cell (p := ⟨W3.heap.size, 0, none⟩) hwr2).trans s0, (hw.cell (p := ⟨w.heap.size, 0, none⟩) hwr1).trans d0, (hw.cell hb3).trans y0, (hw.cell hb3).trans y1, (hw.cell hb3).trans y2, (hw.cell hb3).trans y3, (hw.cell hb3).trans y4, (hw.cell hb3).trans y5, (hw.cell hb3).trans y6, (hw.cell hb3).trans y7, (hw.cell hb).trans a0, (hw.cell hb).trans a1, (hw.cell hb).trans a2, (hw.cell hb).trans a3, (hw.cell hb).trans a4, (hw.cell hb).trans a5, (hw.cell hb).trans a6, (hw.cell hb).trans a7⟩
                have HNx := Lib.hid fun W (hw : Below wr.heap.size wr W) => node_g n2 hnn (.slice aox n2.names.length capx) W (rd_keep hrx' hw)
                have HNy := Lib.hid fun W (hw : Below wr.heap.size wr W) => node_g n2 hnn (.slice aoy n2.names.length capy) W (rd_keep hry hw)
                have HAl := Lib.hid (alike_g n2 hnn)
                have bw : Below wr.heap.size wr wr := Below.refl _ _
                have bd : Below wr.heap.size wr wr.drew := (Below.refl _ _).drew
                clear hv1 hx1 hx2 hRr hrx hry hrx'
                go_wp2_with fail
                go_region_held3 (fun W => W.cell? ⟨W3.heap.size, 0, none⟩ = some (.slice (some ⟨b3, off3, none⟩) m3.length cap3) ∧ W.cell? ⟨w.heap.size, 0, none⟩ = some (.slice (some ⟨b, off, none⟩) ms.length cap) ∧ W.cell? ⟨b3, off3 + j * 8, none⟩ = some (.int .i64 n2.kind) ∧ W.cell? ⟨b3, off3 + j * 8 + 1, none⟩ = some (.int .i64 n2.mode) ∧ W.cell? ⟨b3, off3 + j * 8 + 2, none⟩ = some (.int .i64 n2.owner) ∧ W.cell? ⟨b3, off3 + j * 8 + 3, none⟩ = some (.int .i64 n2.links) ∧ W.cell? ⟨b3, off3 + j * 8 + 4, none⟩ = some (.int .i64 n2.opn) ∧ W.cell? ⟨b3, off3 + j * 8 + 5, none⟩ = some (.int .i64 n2.up) ∧ W.cell? ⟨b3, off3 + j * 8 + 6, none⟩ = some (.string (bs n2.data)) ∧ W.cell? ⟨b3, off3 + j * 8 + 7, none⟩ = some (.slice aoy n2.names.length capy) ∧ W.cell? ⟨b, off + j * 8, none⟩ = some (.int .i64 n2.kind) ∧ W.cell? ⟨b, off + j * 8 + 1, none⟩ = some (.int .i64 n2.mode) ∧ W.cell? ⟨b, off + j * 8 + 2, none⟩ = some (.int .i64 n2.owner) ∧ W.cell? ⟨b, off + j * 8 + 3, none⟩ = some (.int .i64 n2.links) ∧ W.cell? ⟨b, off + j * 8 + 4, none⟩ = some (.int .i64 n2.opn) ∧ W.cell? ⟨b, off + j * 8 + 5, none⟩ = some (.int .i64 n2.up) ∧ W.cell? ⟨b, off + j * 8 + 6, none⟩ = some (.string (bs n2.data)) ∧ W.cell? ⟨b, off + j * 8 + 7, none⟩ = some (.slice aox n2.names.length capx))
                  (first
                    | exact HSS.out _ (by assumption)
                    | go_keep)
                  (first
                    | (go_at_call 24; (with_reducible refine (HNx.out _ (by assumption)).mono ?_); rintro e WX ⟨vX, rfl, gX, hbX⟩; have bX := ret_tr (w := wr) (by assumption) hbX; (try replace gY := rdnm_keep gY hbX))
                    | (go_at_call 24; (with_reducible refine (HNy.out _ (by assumption)).mono ?_); rintro e WX ⟨vY, rfl, gY, hbX⟩; have bX := ret_tr (w := wr) (by assumption) hbX; (try replace gX := rdnm_keep gX hbX))
                    | (go_at_call 23; (with_reducible refine (HAl.out vY vX _ gY gX).mono ?_); rintro e WX ⟨rfl, hbX⟩; have bX := ret_tr (w := wr) (by assumption) hbX)
                    | fail)
                all_goals (
                  go_wp2_with fail
                  go_roundw
                  case rel => exact ⟨j + 1, by go_num, hlt, ret_tr hBr (by assumption)⟩
                  case measure => simp [intOf]; omega)
            · have hI2 : decide (j < ms.length) = false := by simp; omega
              have hG3 : GivesN (pl m3) (.slice ao3 m3.length cap3) wr := ⟨m3, rfl, hRr⟩
              have hG : GivesN (pl ms) (.slice ao ms.length cap) wr := ⟨ms, rfl, rdm_keep HV.out hBw⟩
              obtain ⟨b3, off3, n2, aoy, capy, rfl, hb3, hx2, -, hry, y0, y1, y2, y3, y4, y5, y6, y7⟩ := node_at hRr p hp3'
              have hsame : n2 = n := by rw [← hx2]; exact HPn.out
              subst hsame
              have hnn : n2.names.length ≤ 10000 := by omega
              have hnr : RdNm wr.heap.size (n2, .slice aon n2.names.length capn) wr := rdnm_keep HN.out hBw
              have j0 : (0 : Int) ≤ (p : Int) := by omega
              have j2 : (p : Int) < (m3.length : Int) := by omega
              have HSS : Hid (∀ W, Below wr.heap.size wr W → W.cell? ⟨W3.heap.size, 0, none⟩ = some (.slice (some ⟨b3, off3, none⟩) m3.length cap3) ∧ W.cell? ⟨W3.heap.size, 1, none⟩ = some (.int .i64 most) ∧ W.cell? ⟨W3.heap.size, 2, none⟩ = some (.int .i64 room) ∧ W.cell? ⟨w.heap.size, 0, none⟩ = some (.slice ao ms.length cap) ∧ W.cell? ⟨w.heap.size, 1, none⟩ = some (.int .i64 most) ∧ W.cell? ⟨w.heap.size, 2, none⟩ = some (.int .i64 room) ∧ W.cell? ⟨b3, off3 + p * 8, none⟩ = some (.int .i64 n2.kind) ∧ W.cell? ⟨b3, off3 + p * 8 + 1, none⟩ = some (.int .i64 n2.mode) ∧ W.cell? ⟨b3, off3 + p * 8 + 2, none⟩ = some (.int .i64 n2.owner) ∧ W.cell? ⟨b3, off3 + p * 8 + 3, none⟩ = some (.int .i64 n2.links) ∧ W.cell? ⟨b3, off3 + p * 8 + 4, none⟩ = some (.int .i64 n2.opn) ∧ W.cell? ⟨b3, off3 + p * 8 + 5, none⟩ = some (.int .i64 n2.up) ∧ W.cell? ⟨b3, off3 + p * 8 + 6, none⟩ = some (.string (bs n2.data)) ∧ W.cell? ⟨b3, off3 + p * 8 + 7, none⟩ = some (.slice aoy n2.names.length capy) ∧ W.cell? ⟨w.heap.size + 1, 0, none⟩ = some (.int .i64 n2.kind) ∧ W.cell? ⟨w.heap.size + 1, 1, none⟩ = some (.int .i64 n2.mode) ∧ W.cell? ⟨w.heap.size + 1, 2, none⟩ = some (.int .i64 n2.owner) ∧ W.cell? ⟨w.heap.size + 1, 3, none⟩ = some (.int .i64 n2.links) ∧ W.cell? ⟨w.heap.size + 1, 4, none⟩ = some (.int .i64 n2.opn) ∧ W.cell? ⟨w.heap.size + 1, 5, none⟩ = some (.int .i64 n2.up) ∧ W.cell? ⟨w.heap.size + 1, 6, none⟩ = some (.string (bs n2.data)) ∧ W.cell? ⟨w.heap.size + 1, 7, none⟩ = some (.slice aon n2.names.length capn)) := Lib.hid fun W hw => by
                have x1 := cells3 ((hw.block _ hwr2).trans hSr)
                have x2 := cells3 ((hw.block _ hwr1).trans hDr)
                have x3 := cells8 ((hw.block _ (by omega)).trans hQr)
                exact ⟨x1.1, x1.2.1, x1.2.2, x2.1, x2.2.1, x2.2.2, (hw.cell hb3).trans y0, (hw.cell hb3).trans y1, (hw.cell hb3).trans y2, (hw.cell hb3).trans y3, (hw.cell hb3).trans y4, (hw.cell hb3).trans y5, (hw.cell hb3).trans y6, (hw.cell hb3).trans y7, x3⟩
              have HNx := Lib.hid fun W (hw : Below wr.heap.size wr W) => node_g n2 hnn (.slice aon n2.names.length capn) W (rdnm_keep hnr hw)
              have HNy := Lib.hid fun W (hw : Below wr.heap.size wr W) => node_g n2 hnn (.slice aoy n2.names.length capy) W (rd_keep hry hw)
              have HAl := Lib.hid (alike_g n2 hnn)
              have HU := Lib.hid fun W (hw : Below wr.heap.size wr W) => used_g (pl m3) most room (by rw [pl_len]; omega) _ W (hG3.keep hw)
              have HIt := Lib.hid fun W (hw : Below wr.heap.size wr W) => its_g (pl ms) most room hlp HNL.out _ W (hG.keep hw)
              have HRU := Lib.hid (rused_g (pl ms) most room hlp)
              have hu := used_le (pl ms)
              rw [pl_len] at hu
              rw [HUs.out] at HU
              have hwu : IntKind.i64.wrap ((usedL (pl ms) : Int) + 1) = (usedL (pl ms) : Int) + 1 := IntWalk.i64_in _ (by omega)
              have bw : Below wr.heap.size wr wr := Below.refl _ _
              have bd : Below wr.heap.size wr wr.drew := (Below.refl _ _).drew
              clear hlt hx2 hRr hry hnr hG hG3 HUs HPn HOt HAt HFr
              generalize usedL (pl ms) = u at *
              generalize pl ms = L at *
              go_wp2_with fail
              go_region_held3 (fun W => W.cell? ⟨W3.heap.size, 0, none⟩ = some (.slice (some ⟨b3, off3, none⟩) m3.length cap3) ∧ W.cell? ⟨W3.heap.size, 1, none⟩ = some (.int .i64 most) ∧ W.cell? ⟨W3.heap.size, 2, none⟩ = some (.int .i64 room) ∧ W.cell? ⟨w.heap.size, 0, none⟩ = some (.slice ao ms.length cap) ∧ W.cell? ⟨w.heap.size, 1, none⟩ = some (.int .i64 most) ∧ W.cell? ⟨w.heap.size, 2, none⟩ = some (.int .i64 room) ∧ W.cell? ⟨b3, off3 + p * 8, none⟩ = some (.int .i64 n2.kind) ∧ W.cell? ⟨b3, off3 + p * 8 + 1, none⟩ = some (.int .i64 n2.mode) ∧ W.cell? ⟨b3, off3 + p * 8 + 2, none⟩ = some (.int .i64 n2.owner) ∧ W.cell? ⟨b3, off3 + p * 8 + 3, none⟩ = some (.int .i64 n2.links) ∧ W.cell? ⟨b3, off3 + p * 8 + 4, none⟩ = some (.int .i64 n2.opn) ∧ W.cell? ⟨b3, off3 + p * 8 + 5, none⟩ = some (.int .i64 n2.up) ∧ W.cell? ⟨b3, off3 + p * 8 + 6, none⟩ = some (.string (bs n2.data)) ∧ W.cell? ⟨b3, off3 + p * 8 + 7, none⟩ = some (.slice aoy n2.names.length capy) ∧ W.cell? ⟨w.heap.size + 1, 0, none⟩ = some (.int .i64 n2.kind) ∧ W.cell? ⟨w.heap.size + 1, 1, none⟩ = some (.int .i64 n2.mode) ∧ W.cell? ⟨w.heap.size + 1, 2, none⟩ = some (.int .i64 n2.owner) ∧ W.cell? ⟨w.heap.size + 1, 3, none⟩ = some (.int .i64 n2.links) ∧ W.cell? ⟨w.heap.size + 1, 4, none⟩ = some (.int .i64 n2.opn) ∧ W.cell? ⟨w.heap.size + 1, 5, none⟩ = some (.int .i64 n2.up) ∧ W.cell? ⟨w.heap.size + 1, 6, none⟩ = some (.string (bs n2.data)) ∧ W.cell? ⟨w.heap.size + 1, 7, none⟩ = some (.slice aon n2.names.length capn))
                (first
                  | exact HSS.out _ (by assumption)
                  | go_keep)
                (first
                  | (go_at_call 24; (with_reducible refine (HNx.out _ (by assumption)).mono ?_); rintro e WX ⟨vX, rfl, gX, hbX⟩; have bX := ret_tr (w := wr) (by assumption) hbX; (try replace gY := rdnm_keep gY hbX))
                  | (go_at_call 24; (with_reducible refine (HNy.out _ (by assumption)).mono ?_); rintro e WX ⟨vY, rfl, gY, hbX⟩; have bX := ret_tr (w := wr) (by assumption) hbX; (try replace gX := rdnm_keep gX hbX))
                  | (go_at_call 23; (with_reducible refine (HAl.out vY vX _ gY gX).mono ?_); rintro e WX ⟨rfl, hbX⟩; have bX := ret_tr (w := wr) (by assumption) hbX)
                  | (go_at_call 14; (with_reducible refine (HU.out _ (by assumption)).mono ?_); rintro e WX ⟨rfl, hbX⟩; have bX := ret_tr (w := wr) (by assumption) hbX; (try replace gI := gI.keep hbX))
                  | (go_at_call 11; (with_reducible refine (HIt.out _ (by assumption)).mono ?_); rintro e WX ⟨vI, rfl, gI, hbX⟩; have bX := ret_tr (w := wr) (by assumption) hbX)
                  | (go_at_call 15; (with_reducible refine (HRU.out vI _ gI).mono ?_); rintro e WX ⟨rfl, hbX⟩; have bX := ret_tr (w := wr) (by assumption) hbX)
                  | fail)
              all_goals (
                go_wp2_with fail
                go_ret
                exact ⟨rfl, ret_tr hBw (by assumption)⟩)

        · have hpm' : decide ((p : Int) < (ms.length : Int)) = false := decide_eq_false (by omega)
          go_wp2_with fail
          clear hpm' d0 s0 hp2 hp4 hI2 hI2'
          go_loopw [9] (fun i' wr => ∃ j : Nat, i' = .int .i64 j ∧ j ≤ ms.length ∧ Below W4.heap.size W4 wr) (fun i' _ => ms.length - (intOf i').toNat)
          case atStart => exact ⟨0, rfl, Nat.zero_le _, Below.refl _ _⟩
          case round =>
            obtain ⟨j, rfl, hj, hBr⟩ := hrel
            have hBw := ret_tr hB4 hBr
            have hDr := (hBr.block _ (by omega)).trans hD4.out
            have hSr := (hBr.block _ (by omega)).trans hS4'.out
            have hQr := (hBr.block _ (by omega)).trans hQ4.out
            have hRr := rdm_keep hR4.out hBr
            have d0 := (cells3 hDr).1
            have s0 := (cells3 hSr).1
            have swr := hBr.size
            have hwr1 : w.heap.size < wr.heap.size := by omega
            have hwr2 : W3.heap.size < wr.heap.size := by omega
            by_cases hlt : j < ms.length
            · clear hQr
              by_cases hjk : j = p
              · exact absurd hjk (by omega)
              · have hI : ((j : Int) != (p : Int)) = true := by rw [bne_iff_ne]; omega
                have hv1 := rdm_keep HV.out hBw
                obtain ⟨b, off, n1, aox, capx, rfl, hb, hx1, -, hrx, a0, a1, a2, a3, a4, a5, a6, a7⟩ := node_at hv1 j hlt
                obtain ⟨b3, off3, n2, aoy, capy, rfl, hb3, hx2, -, hry, y0, y1, y2, y3, y4, y5, y6, y7⟩ := node_at hRr j (by omega)
                have hsame : n2 = n1 := by
                  rw [← hx2, ← hx1]
                  exact HOt.out j hlt (by omega) hjk
                subst hsame
                have hrx' : Rd wr.heap.size 2 (.slice aox n2.names.length capx) n2.names.length (ents n2.names) wr := hrx
                have hnn : n2.names.length ≤ 10000 := HNL.out n2 (by rw [← hx1]; exact List.getElem_mem _)
                have j0 : (0 : Int) ≤ (j : Int) := by omega
                have j1 : (j : Int) < (ms.length : Int) := by omega
                have j2 : (j : Int) < (m3.length : Int) := by omega
                have HSS : Hid (∀ W, Below wr.heap.size wr W → W.cell? ⟨W3.heap.size, 0, none⟩ = some (.slice (some ⟨b3, off3, none⟩) m3.length cap3) ∧ W.cell? ⟨w.heap.size, 0, none⟩ = some (.slice (some ⟨b, off, none⟩) ms.length cap) ∧ W.cell? ⟨b3, off3 + j * 8, none⟩ = some (.int .i64 n2.kind) ∧ W.cell? ⟨b3, off3 + j * 8 + 1, none⟩ = some (.int .i64 n2.mode) ∧ W.cell? ⟨b3, off3 + j * 8 + 2, none⟩ = some (.int .i64 n2.owner) ∧ W.cell? ⟨b3, off3 + j * 8 + 3, none⟩ = some (.int .i64 n2.links) ∧ W.cell? ⟨b3, off3 + j * 8 + 4, none⟩ = some (.int .i64 n2.opn) ∧ W.cell? ⟨b3, off3 + j * 8 + 5, none⟩ = some (.int .i64 n2.up) ∧ W.cell? ⟨b3, off3 + j * 8 + 6, none⟩ = some (.string (bs n2.data)) ∧ W.cell? ⟨b3, off3 + j * 8 + 7, none⟩ = some (.slice aoy n2.names.length capy) ∧ W.cell? ⟨b, off + j * 8, none⟩ = some (.int .i64 n2.kind) ∧ W.cell? ⟨b, off + j * 8 + 1, none⟩ = some (.int .i64 n2.mode) ∧ W.cell? ⟨b, off + j * 8 + 2, none⟩ = some (.int .i64 n2.owner) ∧ W.cell? ⟨b, off + j * 8 + 3, none⟩ = some (.int .i64 n2.links) ∧ W.cell? ⟨b, off + j * 8 + 4, none⟩ = some (.int .i64 n2.opn) ∧ W.cell? ⟨b, off + j * 8 + 5, none⟩ = some (.int .i64 n2.up) ∧ W.cell? ⟨b, off + j * 8 + 6, none⟩ = some (.string (bs n2.data)) ∧ W.cell? ⟨b, off + j * 8 + 7, none⟩ = some (.slice aox n2.names.length capx)) := Lib.hid fun W hw => ⟨(hw.cell (p := ⟨W3.heap.size, 0, none⟩) hwr2).trans s0, (hw.cell (p := ⟨w.heap.size, 0, none⟩) hwr1).trans d0, (hw.cell hb3).trans y0, (hw.cell hb3).trans y1, (hw.cell hb3).trans y2, (hw.cell hb3).trans y3, (hw.cell hb3).trans y4, (hw.cell hb3).trans y5, (hw.cell hb3).trans y6, (hw.cell hb3).trans y7, (hw.cell hb).trans a0, (hw.cell hb).trans a1, (hw.cell hb).trans a2, (hw.cell hb).trans a3, (hw.cell hb).trans a4, (hw.cell hb).trans a5, (hw.cell hb).trans a6, (hw.cell hb).trans a7⟩
                have HNx := Lib.hid fun W (hw : Below wr.heap.size wr W) => node_g n2 hnn (.slice aox n2.names.length capx) W (rd_keep hrx' hw)
                have HNy := Lib.hid fun W (hw : Below wr.heap.size wr W) => node_g n2 hnn (.slice aoy n2.names.length capy) W (rd_keep hry hw)
                have HAl := Lib.hid (alike_g n2 hnn)
                have bw : Below wr.heap.size wr wr := Below.refl _ _
                have bd : Below wr.heap.size wr wr.drew := (Below.refl _ _).drew
                clear hv1 hx1 hx2 hRr hrx hry hrx'
                go_wp2_with fail
                go_region_held3 (fun W => W.cell? ⟨W3.heap.size, 0, none⟩ = some (.slice (some ⟨b3, off3, none⟩) m3.length cap3) ∧ W.cell? ⟨w.heap.size, 0, none⟩ = some (.slice (some ⟨b, off, none⟩) ms.length cap) ∧ W.cell? ⟨b3, off3 + j * 8, none⟩ = some (.int .i64 n2.kind) ∧ W.cell? ⟨b3, off3 + j * 8 + 1, none⟩ = some (.int .i64 n2.mode) ∧ W.cell? ⟨b3, off3 + j * 8 + 2, none⟩ = some (.int .i64 n2.owner) ∧ W.cell? ⟨b3, off3 + j * 8 + 3, none⟩ = some (.int .i64 n2.links) ∧ W.cell? ⟨b3, off3 + j * 8 + 4, none⟩ = some (.int .i64 n2.opn) ∧ W.cell? ⟨b3, off3 + j * 8 + 5, none⟩ = some (.int .i64 n2.up) ∧ W.cell? ⟨b3, off3 + j * 8 + 6, none⟩ = some (.string (bs n2.data)) ∧ W.cell? ⟨b3, off3 + j * 8 + 7, none⟩ = some (.slice aoy n2.names.length capy) ∧ W.cell? ⟨b, off + j * 8, none⟩ = some (.int .i64 n2.kind) ∧ W.cell? ⟨b, off + j * 8 + 1, none⟩ = some (.int .i64 n2.mode) ∧ W.cell? ⟨b, off + j * 8 + 2, none⟩ = some (.int .i64 n2.owner) ∧ W.cell? ⟨b, off + j * 8 + 3, none⟩ = some (.int .i64 n2.links) ∧ W.cell? ⟨b, off + j * 8 + 4, none⟩ = some (.int .i64 n2.opn) ∧ W.cell? ⟨b, off + j * 8 + 5, none⟩ = some (.int .i64 n2.up) ∧ W.cell? ⟨b, off + j * 8 + 6, none⟩ = some (.string (bs n2.data)) ∧ W.cell? ⟨b, off + j * 8 + 7, none⟩ = some (.slice aox n2.names.length capx))
                  (first
                    | exact HSS.out _ (by assumption)
                    | go_keep)
                  (first
                    | (go_at_call 24; (with_reducible refine (HNx.out _ (by assumption)).mono ?_); rintro e WX ⟨vX, rfl, gX, hbX⟩; have bX := ret_tr (w := wr) (by assumption) hbX; (try replace gY := rdnm_keep gY hbX))
                    | (go_at_call 24; (with_reducible refine (HNy.out _ (by assumption)).mono ?_); rintro e WX ⟨vY, rfl, gY, hbX⟩; have bX := ret_tr (w := wr) (by assumption) hbX; (try replace gX := rdnm_keep gX hbX))
                    | (go_at_call 23; (with_reducible refine (HAl.out vY vX _ gY gX).mono ?_); rintro e WX ⟨rfl, hbX⟩; have bX := ret_tr (w := wr) (by assumption) hbX)
                    | fail)
                all_goals (
                  go_wp2_with fail
                  go_roundw
                  case rel => exact ⟨j + 1, by go_num, hlt, ret_tr hBr (by assumption)⟩
                  case measure => simp [intOf]; omega)
            · have hI2 : decide (j < ms.length) = false := by simp; omega
              have hG3 : GivesN (pl m3) (.slice ao3 m3.length cap3) wr := ⟨m3, rfl, hRr⟩
              have hG : GivesN (pl ms) (.slice ao ms.length cap) wr := ⟨ms, rfl, rdm_keep HV.out hBw⟩
              obtain ⟨b3, off3, n2, aoy, capy, rfl, hb3, hx2, -, hry, y0, y1, y2, y3, y4, y5, y6, y7⟩ := node_at hRr p hp3'
              have hsame : n2 = n := by rw [← hx2]; exact HPn.out
              subst hsame
              have hnn : n2.names.length ≤ 10000 := by omega
              have hnr : RdNm wr.heap.size (n2, .slice aon n2.names.length capn) wr := rdnm_keep HN.out hBw
              have j0 : (0 : Int) ≤ (p : Int) := by omega
              have j2 : (p : Int) < (m3.length : Int) := by omega
              have HSS : Hid (∀ W, Below wr.heap.size wr W → W.cell? ⟨W3.heap.size, 0, none⟩ = some (.slice (some ⟨b3, off3, none⟩) m3.length cap3) ∧ W.cell? ⟨W3.heap.size, 1, none⟩ = some (.int .i64 most) ∧ W.cell? ⟨W3.heap.size, 2, none⟩ = some (.int .i64 room) ∧ W.cell? ⟨w.heap.size, 0, none⟩ = some (.slice ao ms.length cap) ∧ W.cell? ⟨w.heap.size, 1, none⟩ = some (.int .i64 most) ∧ W.cell? ⟨w.heap.size, 2, none⟩ = some (.int .i64 room) ∧ W.cell? ⟨b3, off3 + p * 8, none⟩ = some (.int .i64 n2.kind) ∧ W.cell? ⟨b3, off3 + p * 8 + 1, none⟩ = some (.int .i64 n2.mode) ∧ W.cell? ⟨b3, off3 + p * 8 + 2, none⟩ = some (.int .i64 n2.owner) ∧ W.cell? ⟨b3, off3 + p * 8 + 3, none⟩ = some (.int .i64 n2.links) ∧ W.cell? ⟨b3, off3 + p * 8 + 4, none⟩ = some (.int .i64 n2.opn) ∧ W.cell? ⟨b3, off3 + p * 8 + 5, none⟩ = some (.int .i64 n2.up) ∧ W.cell? ⟨b3, off3 + p * 8 + 6, none⟩ = some (.string (bs n2.data)) ∧ W.cell? ⟨b3, off3 + p * 8 + 7, none⟩ = some (.slice aoy n2.names.length capy) ∧ W.cell? ⟨w.heap.size + 1, 0, none⟩ = some (.int .i64 n2.kind) ∧ W.cell? ⟨w.heap.size + 1, 1, none⟩ = some (.int .i64 n2.mode) ∧ W.cell? ⟨w.heap.size + 1, 2, none⟩ = some (.int .i64 n2.owner) ∧ W.cell? ⟨w.heap.size + 1, 3, none⟩ = some (.int .i64 n2.links) ∧ W.cell? ⟨w.heap.size + 1, 4, none⟩ = some (.int .i64 n2.opn) ∧ W.cell? ⟨w.heap.size + 1, 5, none⟩ = some (.int .i64 n2.up) ∧ W.cell? ⟨w.heap.size + 1, 6, none⟩ = some (.string (bs n2.data)) ∧ W.cell? ⟨w.heap.size + 1, 7, none⟩ = some (.slice aon n2.names.length capn)) := Lib.hid fun W hw => by
                have x1 := cells3 ((hw.block _ hwr2).trans hSr)
                have x2 := cells3 ((hw.block _ hwr1).trans hDr)
                have x3 := cells8 ((hw.block _ (by omega)).trans hQr)
                exact ⟨x1.1, x1.2.1, x1.2.2, x2.1, x2.2.1, x2.2.2, (hw.cell hb3).trans y0, (hw.cell hb3).trans y1, (hw.cell hb3).trans y2, (hw.cell hb3).trans y3, (hw.cell hb3).trans y4, (hw.cell hb3).trans y5, (hw.cell hb3).trans y6, (hw.cell hb3).trans y7, x3⟩
              have HNx := Lib.hid fun W (hw : Below wr.heap.size wr W) => node_g n2 hnn (.slice aon n2.names.length capn) W (rdnm_keep hnr hw)
              have HNy := Lib.hid fun W (hw : Below wr.heap.size wr W) => node_g n2 hnn (.slice aoy n2.names.length capy) W (rd_keep hry hw)
              have HAl := Lib.hid (alike_g n2 hnn)
              have HU := Lib.hid fun W (hw : Below wr.heap.size wr W) => used_g (pl m3) most room (by rw [pl_len]; omega) _ W (hG3.keep hw)
              have HIt := Lib.hid fun W (hw : Below wr.heap.size wr W) => its_g (pl ms) most room hlp HNL.out _ W (hG.keep hw)
              have HRU := Lib.hid (rused_g (pl ms) most room hlp)
              have hu := used_le (pl ms)
              rw [pl_len] at hu
              rw [HUs.out] at HU
              have hwu : IntKind.i64.wrap ((usedL (pl ms) : Int) + 1) = (usedL (pl ms) : Int) + 1 := IntWalk.i64_in _ (by omega)
              have bw : Below wr.heap.size wr wr := Below.refl _ _
              have bd : Below wr.heap.size wr wr.drew := (Below.refl _ _).drew
              clear hlt hx2 hRr hry hnr hG hG3 HUs HPn HOt HAt HFr
              generalize usedL (pl ms) = u at *
              generalize pl ms = L at *
              go_wp2_with fail
              go_region_held3 (fun W => W.cell? ⟨W3.heap.size, 0, none⟩ = some (.slice (some ⟨b3, off3, none⟩) m3.length cap3) ∧ W.cell? ⟨W3.heap.size, 1, none⟩ = some (.int .i64 most) ∧ W.cell? ⟨W3.heap.size, 2, none⟩ = some (.int .i64 room) ∧ W.cell? ⟨w.heap.size, 0, none⟩ = some (.slice ao ms.length cap) ∧ W.cell? ⟨w.heap.size, 1, none⟩ = some (.int .i64 most) ∧ W.cell? ⟨w.heap.size, 2, none⟩ = some (.int .i64 room) ∧ W.cell? ⟨b3, off3 + p * 8, none⟩ = some (.int .i64 n2.kind) ∧ W.cell? ⟨b3, off3 + p * 8 + 1, none⟩ = some (.int .i64 n2.mode) ∧ W.cell? ⟨b3, off3 + p * 8 + 2, none⟩ = some (.int .i64 n2.owner) ∧ W.cell? ⟨b3, off3 + p * 8 + 3, none⟩ = some (.int .i64 n2.links) ∧ W.cell? ⟨b3, off3 + p * 8 + 4, none⟩ = some (.int .i64 n2.opn) ∧ W.cell? ⟨b3, off3 + p * 8 + 5, none⟩ = some (.int .i64 n2.up) ∧ W.cell? ⟨b3, off3 + p * 8 + 6, none⟩ = some (.string (bs n2.data)) ∧ W.cell? ⟨b3, off3 + p * 8 + 7, none⟩ = some (.slice aoy n2.names.length capy) ∧ W.cell? ⟨w.heap.size + 1, 0, none⟩ = some (.int .i64 n2.kind) ∧ W.cell? ⟨w.heap.size + 1, 1, none⟩ = some (.int .i64 n2.mode) ∧ W.cell? ⟨w.heap.size + 1, 2, none⟩ = some (.int .i64 n2.owner) ∧ W.cell? ⟨w.heap.size + 1, 3, none⟩ = some (.int .i64 n2.links) ∧ W.cell? ⟨w.heap.size + 1, 4, none⟩ = some (.int .i64 n2.opn) ∧ W.cell? ⟨w.heap.size + 1, 5, none⟩ = some (.int .i64 n2.up) ∧ W.cell? ⟨w.heap.size + 1, 6, none⟩ = some (.string (bs n2.data)) ∧ W.cell? ⟨w.heap.size + 1, 7, none⟩ = some (.slice aon n2.names.length capn))
                (first
                  | exact HSS.out _ (by assumption)
                  | go_keep)
                (first
                  | (go_at_call 24; (with_reducible refine (HNx.out _ (by assumption)).mono ?_); rintro e WX ⟨vX, rfl, gX, hbX⟩; have bX := ret_tr (w := wr) (by assumption) hbX; (try replace gY := rdnm_keep gY hbX))
                  | (go_at_call 24; (with_reducible refine (HNy.out _ (by assumption)).mono ?_); rintro e WX ⟨vY, rfl, gY, hbX⟩; have bX := ret_tr (w := wr) (by assumption) hbX; (try replace gX := rdnm_keep gX hbX))
                  | (go_at_call 23; (with_reducible refine (HAl.out vY vX _ gY gX).mono ?_); rintro e WX ⟨rfl, hbX⟩; have bX := ret_tr (w := wr) (by assumption) hbX)
                  | (go_at_call 14; (with_reducible refine (HU.out _ (by assumption)).mono ?_); rintro e WX ⟨rfl, hbX⟩; have bX := ret_tr (w := wr) (by assumption) hbX; (try replace gI := gI.keep hbX))
                  | (go_at_call 11; (with_reducible refine (HIt.out _ (by assumption)).mono ?_); rintro e WX ⟨vI, rfl, gI, hbX⟩; have bX := ret_tr (w := wr) (by assumption) hbX)
                  | (go_at_call 15; (with_reducible refine (HRU.out vI _ gI).mono ?_); rintro e WX ⟨rfl, hbX⟩; have bX := ret_tr (w := wr) (by assumption) hbX)
                  | fail)
              all_goals (
                go_wp2_with fail
                go_ret
                exact ⟨rfl, ret_tr hBw (by assumption)⟩)

end Go.Proofs.Ytknjmdgnbhohdaa
