/-
  The document's Same; both New.
-/
import Derived.Test.YtknjmdgnbhohdaaDskC
namespace Go.Proofs.Ytknjmdgnbhohdaa
open Go.RowKit Go.Shelf
attribute [local go_sem ↓] Go.wp_at_zero Go.wp_at_succ

def sameD (a b : List NodeL) (m1 r1 m2 r2 : Int) : Bool := decide (m1 = m2 ∧ r1 = r2 ∧ a = b)
set_option maxRecDepth 100000 in
set_option maxHeartbeats 4000000 in
theorem sameD_any (va vb : Value) (la lb : List NodeM) (m1 r1 m2 r2 : Int) (w : World) (ha : RdM w.heap.size va la w) (hb : RdM w.heap.size vb lb w) (hal : la.length ≤ 10000) (hna : ∀ n ∈ pl la, n.names.length ≤ 10000) (hnb : ∀ n ∈ pl lb, n.names.length ≤ 10000) :
    Calls Try.prog 10 #[.agg #[va, .int .i64 m1, .int .i64 r1], .agg #[vb, .int .i64 m2, .int .i64 r2]] w fun e w' => e = .returned (.bool (sameD (pl la) (pl lb) m1 r1 m2 r2)) ∧ Below w.heap.size w w' := by
  obtain ⟨aoa, capa, rfl, _, _⟩ := rdm_form ha
  obtain ⟨aob, capb, rfl, _, _⟩ := rdm_form hb
  have HA := Lib.hid ha
  have HB := Lib.hid hb
  have HNA := Lib.hid hna
  have HNB := Lib.hid hnb
  clear ha hb hna hnb
  have hb0 : Below w.heap.size w ((w.alloc (.cells #[.slice aoa la.length capa, .int .i64 m1, .int .i64 r1] 30)).alloc (.cells #[.slice aob lb.length capb, .int .i64 m2, .int .i64 r2] 30)) := ((Below.refl _ w).alloc (Nat.le_refl _) _).alloc (by simp) _
  by_cases h1 : m1 = m2
  case neg =>
    have hI : (m1 != m2) = true := by simpa using h1
    have HF : Hid (sameD (pl la) (pl lb) m1 r1 m2 r2 = false) := Lib.hid (by unfold sameD; simp [h1])
    clear h1
    go_enter Try.func10, Try.ntmps10
    go_wp2_with fail
    go_ret
    exact ⟨ret_bool HF.out.symm, hb0⟩
  have g1 : (m1 != m2) = false := by simpa using h1
  by_cases h2 : r1 = r2
  case neg =>
    have hI : (r1 != r2) = true := by simpa using h2
    have HF : Hid (sameD (pl la) (pl lb) m1 r1 m2 r2 = false) := Lib.hid (by unfold sameD; simp [h2])
    clear h1 h2
    go_enter Try.func10, Try.ntmps10
    go_wp2_with fail
    go_ret
    exact ⟨ret_bool HF.out.symm, hb0⟩
  have g2 : (r1 != r2) = false := by simpa using h2
  by_cases h3 : la.length = lb.length
  case neg =>
    have hI : ((la.length : Int) != (lb.length : Int)) = true := by rw [bne_iff_ne]; omega
    have HF : Hid (sameD (pl la) (pl lb) m1 r1 m2 r2 = false) := Lib.hid (by unfold sameD; rw [decide_eq_false_iff_not]; rintro ⟨_, _, e⟩; exact h3 (by rw [← pl_len, e, pl_len]))
    clear h1 h2 h3
    go_enter Try.func10, Try.ntmps10
    go_wp2_with fail
    go_ret
    exact ⟨ret_bool HF.out.symm, hb0⟩
  have g3 : ((la.length : Int) != (lb.length : Int)) = false := by rw [h3]; simp
  have HE : Hid (sameD (pl la) (pl lb) m1 r1 m2 r2 = decide (pl la = pl lb)) := Lib.hid (by unfold sameD; simp [h1, h2])
  have hle1 : la.length ≤ lb.length := by omega
  have hle2 : lb.length ≤ la.length := by omega
  clear h1 h2 h3
  clear hb0
  go_enter Try.func10, Try.ntmps10
  go_wp2_with fail
  refine fresh2 (P := fun W => Code.wp _ _ _ _ W) ?_
  intro W0 hb0 hP hR hs0
  go_loopw [5] (fun i wr => ∃ k : Nat, i = .int .i64 k ∧ k ≤ la.length ∧ Hid (sameTo (pl la) (pl lb) k) ∧ Below W0.heap.size W0 wr) (fun i _ => la.length - (intOf i).toNat)
  case atStart => exact ⟨0, rfl, Nat.zero_le _, Lib.hid rfl, Below.refl _ _⟩
  case round =>
    obtain ⟨k, rfl, hk, hS, hBr⟩ := hrel
    have hBw : Below w.heap.size w wr := hb0.trans (hBr.mono (by omega))
    have p0 := (cells3 ((hBr.block _ (by omega)).trans hP)).1
    have q0 := (cells3 ((hBr.block _ (by omega)).trans hR)).1
    by_cases hlt : k < la.length
    · have hltb : k < lb.length := by omega
      obtain ⟨b, off, n, aon, capn, rfl, hb, hn, -, hrn, c0, c1, c2, c3, c4, c5, c6, c7⟩ := node_at (HA.out.below hBw) k hlt
      obtain ⟨b', off', n', aon', capn', rfl, hb', hn', -, hrn', d0, d1, d2, d3, d4, d5, d6, d7⟩ := node_at (HB.out.below hBw) k hltb
      have hx1 := HNA.out n (by rw [← hn]; exact List.getElem_mem _)
      have hx2 := HNB.out n' (by rw [← hn']; exact List.getElem_mem _)
      have HR1 : Hid (RdNm wr.heap.size (n, .slice aon n.names.length capn) wr) := Lib.hid (Rd.mono hrn hBw.size)
      have HR2 : Hid (RdNm wr.heap.size (n', .slice aon' n'.names.length capn') wr) := Lib.hid (Rd.mono hrn' hBw.size)
      have HL : ∀ W, Below wr.heap.size wr W → Calls Try.prog 23 #[nval n (.slice aon n.names.length capn), nval n' (.slice aon' n'.names.length capn')] W fun e w' => e = .returned (.bool (decide (n = n'))) ∧ Below W.heap.size W w' :=
        fun W hb => alike_any n n' _ _ W (rdnm_keep HR1.out hb) (rdnm_keep HR2.out hb) hx1 hx2
      have k0 : (0 : Int) ≤ (k : Int) := by omega
      have k1 : (k : Int) < (la.length : Int) := by omega
      have k2 : (k : Int) < (lb.length : Int) := by omega
      have HN := Lib.hid (show n = (pl la)[k]'(by rw [pl_len]; exact hlt) from hn.symm)
      have HN' := Lib.hid (show n' = (pl lb)[k]'(by rw [pl_len]; exact hltb) from hn'.symm)
      clear hrn hrn' hn hn' hP hR
      by_cases hq : n = n'
      · have hd : decide (n = n') = true := by simpa using hq
        have hs' := Lib.hid (sameTo_succ hS.out (by rw [pl_len]; exact hlt) (by rw [pl_len]; exact hltb) (HN.out.symm.trans (hq.trans HN'.out)))
        rw [hd] at HL
        clear hq hd
        go_wp2_with fail
        have cc0 := cell_regrown c0
        have cc1 := cell_regrown c1
        have cc2 := cell_regrown c2
        have cc3 := cell_regrown c3
        have cc4 := cell_regrown c4
        have cc5 := cell_regrown c5
        have cc6 := cell_regrown c6
        have cc7 := cell_regrown c7
        have dd0 := cell_regrown d0
        have dd1 := cell_regrown d1
        have dd2 := cell_regrown d2
        have dd3 := cell_regrown d3
        have dd4 := cell_regrown d4
        have dd5 := cell_regrown d5
        have dd6 := cell_regrown d6
        have dd7 := cell_regrown d7
        have pp0 := cell_regrown p0
        have qq0 := cell_regrown q0
        refine wp_region_quiet_below (by kernel_rfl) (by kernel_rfl) ?_
        repeat (go_big_quiet_step ((go_at_call 23; exact Calls.regrown_of (HL _ (below_regrown wr _ _)))))
        refine wpQuiet_nil ?_
        clear cc0 cc1 cc2 cc3 cc4 cc5 cc6 cc7 dd0 dd1 dd2 dd3 dd4 dd5 dd6 dd7 pp0 qq0
        intro _ hw'
        obtain ⟨⟨dq, osq⟩, hw''⟩ := hw'
        have hbg : Below wr.heap.size wr _ := below_regrown wr dq osq
        rw [← hw''] at hbg
        clear hw''
        rename_i W2
        have hB2 := ret_tr hBr hbg
        go_wp2_with fail
        go_roundw
        case rel => exact ⟨k + 1, by go_num, hlt, hs', hB2⟩
        case measure => simp [intOf]; omega
      · have hd : decide (n = n') = false := by simpa using hq
        have HF : Hid (decide (pl la = pl lb) = false) := Lib.hid (by
          rw [decide_eq_false_iff_not]; intro e; apply hq; rw [HN.out, HN'.out]; simp only [e])
        rw [hd] at HL
        clear hq hd
        go_wp2_with fail
        have cc0 := cell_regrown c0
        have cc1 := cell_regrown c1
        have cc2 := cell_regrown c2
        have cc3 := cell_regrown c3
        have cc4 := cell_regrown c4
        have cc5 := cell_regrown c5
        have cc6 := cell_regrown c6
        have cc7 := cell_regrown c7
        have dd0 := cell_regrown d0
        have dd1 := cell_regrown d1
        have dd2 := cell_regrown d2
        have dd3 := cell_regrown d3
        have dd4 := cell_regrown d4
        have dd5 := cell_regrown d5
        have dd6 := cell_regrown d6
        have dd7 := cell_regrown d7
        have pp0 := cell_regrown p0
        have qq0 := cell_regrown q0
        refine wp_region_quiet_below (by kernel_rfl) (by kernel_rfl) ?_
        repeat (go_big_quiet_step ((go_at_call 23; exact Calls.regrown_of (HL _ (below_regrown wr _ _)))))
        refine wpQuiet_nil ?_
        clear cc0 cc1 cc2 cc3 cc4 cc5 cc6 cc7 dd0 dd1 dd2 dd3 dd4 dd5 dd6 dd7 pp0 qq0
        intro _ hw'
        obtain ⟨⟨dq, osq⟩, hw''⟩ := hw'
        have hbg : Below wr.heap.size wr _ := below_regrown wr dq osq
        rw [← hw''] at hbg
        clear hw''
        rename_i W2
        have hB2 := ret_tr hBr hbg
        go_wp2_with fail
        go_ret
        exact ⟨ret_bool (by rw [HE.out, HF.out]), hb0.trans (hB2.mono (by omega))⟩
    · have hke : k = la.length := by omega
      have HF : Hid (decide (pl la = pl lb) = true) := Lib.hid (by
        rw [decide_eq_true_iff]
        have := hS.out
        unfold sameTo at this
        rwa [List.take_of_length_le (by rw [pl_len]; omega), List.take_of_length_le (by rw [pl_len]; omega)] at this)
      have hI2 : decide (k < la.length) = false := by simp; omega
      clear hke hlt
      go_wp2_with fail
      go_ret
      exact ⟨ret_bool (by rw [HE.out, HF.out]), hBw⟩
end Go.Proofs.Ytknjmdgnbhohdaa
