/-
  The document's Fair.
-/
import Derived.Test.YtfcjmcenaankfaaFlkRefA
namespace Go.Proofs.Ytfcjmcenaankfaa
open Go.RowKit Go.Shelf
attribute [local go_sem ↓] Go.wp_at_zero Go.wp_at_succ

theorem fair_no1 {t : TabL} {k : Nat} (hk : k < t.ds.length) (h : (t.ds[k]).lock < 0) : fairB t = false := fair_no hk (by unfold fair1; rw [decide_eq_false (show ¬ 0 ≤ (t.ds[k]).lock by omega)]; rfl)
theorem fair_no2 {t : TabL} {k : Nat} (hk : k < t.ds.length) (h : 2 < (t.ds[k]).lock) : fairB t = false := fair_no hk (by unfold fair1; rw [decide_eq_false (show ¬ (t.ds[k]).lock ≤ 2 by omega)]; simp)
theorem fair_no3 {t : TabL} {k : Nat} (hk : k < t.ds.length) (h : 1 < heldN t.ds (t.ds[k]).ino 2) : fairB t = false := fair_no hk (by unfold fair1; rw [decide_eq_true h]; simp)
theorem fair_no4 {t : TabL} {k : Nat} (hk : k < t.ds.length) (h : heldN t.ds (t.ds[k]).ino 2 = 1) (h2 : 0 < heldN t.ds (t.ds[k]).ino 1) : fairB t = false := fair_no hk (by unfold fair1; rw [decide_eq_true h, decide_eq_true h2]; simp)
/-- The first descriptions are fair. -/
def fairP (t : TabL) (k : Nat) : Prop := ∀ (j : Nat) (h : j < t.ds.length), j < k → fair1 t.ds t.ds[j] = true
theorem fair_next {t : TabL} {k : Nat} (h : fairP t k) (hk : k < t.ds.length) (h1 : fair1 t.ds t.ds[k] = true) : fairP t (k + 1) := fun j hj hlt => by
  rcases Nat.lt_or_ge j k with h2 | h2
  · exact h j hj h2
  · obtain rfl : j = k := by omega
    exact h1
theorem fair_all {t : TabL} (h : fairP t t.ds.length) : fairB t = true := by
  unfold fairB
  rw [List.all_eq_true]
  intro d hd
  obtain ⟨j, hj, rfl⟩ := List.mem_iff_getElem.1 hd
  exact h j hj hj
set_option maxRecDepth 100000 in
set_option maxHeartbeats 4000000 in
theorem rfair_c {X : Nat → Prop} (t : TabL) (ad af : Option Addr) (cap capf : Nat) (w : World) (hT : TabX t (.slice ad t.ds.length cap) (.slice af t.fs.length capf) X w) (hz : SizeT t) :
    Calls Try.prog 18 #[tabV ad t.ds.length cap af t.fs.length capf] w fun e w' => e = .returned (.bool (fairB t)) ∧ Below w.heap.size w w' := by
  have S0 := Lib.hid (Sf.start (w := w) (X := fun _ => False) (G := [TabX t (.slice ad t.ds.length cap) (.slice af t.fs.length capf)]) (fun _ h => h.elim) (th1 (TabX.firm _ _ _) ((TabX.firm _ _ _).sub hT fun _ h => h.elim)))
  have HZ := Lib.hid hz
  clear hT hz
  go_enter Try.func18, Try.ntmps18
  go_upto_region 1 with (fail)
  refine code_fresh1 ?_
  intro W1 hb hA0 hs
  have S1 := Lib.hid (S0.out.new1 hb hA0)
  clear hb hA0 hs
  go_wp2_with fail
  go_loopw [3] (fun i wr => ∃ k : Nat, i = .int .i64 k ∧ k ≤ t.ds.length ∧ Hid (fairP t k) ∧ Hid (Sf (fun _ => False) w [(w.heap.size, #[.slice ad t.ds.length cap, .slice af t.fs.length capf], 33)] [TabX t (.slice ad t.ds.length cap) (.slice af t.fs.length capf)] wr)) (fun i _ => t.ds.length - (RowKit.intOf i).toNat)
  case atStart => exact ⟨0, rfl, Nat.zero_le _, Lib.hid (fun j _ h => by cases h), S1⟩
  case round =>
    clear S1
    obtain ⟨k, rfl, hk, HF, S9⟩ := hrel
    have hl1 : t.ds.length ≤ 1000 := HZ.out.1
    obtain ⟨d0, -⟩ := cells2 (S9.out.at 0 rfl)
    by_cases hlt : k < t.ds.length
    · have iL1 : decide (k < t.ds.length) = true := decide_eq_true (by omega)
      have iM1 : decide ((k : Int) < (t.ds.length : Int)) = true := decide_eq_true (by omega)
      have k0 : (0 : Int) ≤ (k : Int) := by omega
      have k1 : (k : Int) < (t.ds.length : Int) := by omega
      have wk : IntKind.i64.wrap ((k : Int) + 1) = (k : Int) + 1 := Go.IntWalk.i64_in _ (by omega)
      obtain ⟨b, off, ead, c0, -, -, -, -, c5⟩ := TabX.desc (S9.out.g 0 rfl) k hlt
      subst ead
      obtain ⟨y, hy⟩ : ∃ y, y = t.ds[k] := ⟨_, rfl⟩
      rw [← hy] at c0 c5
      have HY := Lib.hid hy
      clear hy
      by_cases h1 : y.lock < 0
      · have i1 : decide (y.lock < 0) = true := decide_eq_true h1
        have HN := Lib.hid (fair_no1 hlt (by rw [← HY.out]; exact h1))
        go_wp2_with fail
        go_ret
        exact ⟨by rw [HN.out]; rfl, S9.out.bel⟩
      · have i1 : decide (y.lock < 0) = false := decide_eq_false h1
        by_cases h2 : 2 < y.lock
        · have i2 : decide (2 < y.lock) = true := decide_eq_true h2
          have HN := Lib.hid (fair_no2 hlt (by rw [← HY.out]; exact h2))
          go_wp2_with fail
          go_ret
          exact ⟨by rw [HN.out]; rfl, S9.out.bel⟩
        · have i2 : decide (2 < y.lock) = false := decide_eq_false h2
          go_upto_region 6 with (fail)
          refine wp_region_held_drew (S := fun W => W.heap[w.heap.size]? = some (.cells #[.slice (some ⟨b, off, none⟩) t.ds.length cap, .slice af t.fs.length capf] 33 (0, 0)) ∧ W.cell? ⟨w.heap.size, 0, none⟩ = some (.slice (some ⟨b, off, none⟩) t.ds.length cap) ∧ W.cell? ⟨b, off + k * 6, none⟩ = some (.int .i64 y.ino) ∧ True) (by kernel_rfl) ⟨S9.out.at 0 rfl, d0, c0, trivial⟩ (fun hHeld => ?_)
          have S10 := Lib.hid (S9.out.call (Below.refl wr.heap.size wr).drew)
          generalize wr.drew = W10 at *
          clear d0 c0 c5 S9
          refine wpAnyH_take (i := 0) rfl (by kernel_rfl) (by kernel_rfl) (by kernel_rfl) (fun _ _ _ h => h) (yieldsIf_load_row (by rfl) 33 _ rfl _ rfl 33 _ (0, 0) _ (fun _ h => h.1) Try.underlying33 rfl (by kernel_rfl)) hHeld ?_
          (try simp only [List.getElem_toArray]); (try simp only [List.getElem_cons_succ]); (try simp only [List.getElem_cons_zero]); (try simp only [Act.put]); (try simp only [List.setIfInBounds_toArray]); (try simp only [List.set_cons_succ]); (try simp only [List.set_cons_zero])
          refine wpAnyH_take (i := 1) (v := ?v1) rfl (by kernel_rfl) (by kernel_rfl) (by kernel_rfl) (fun _ _ _ h => h) (Or.inl ⟨by rfl, ?hy1⟩) hHeld ?rest1
          case hy1 => (intro w hSw; (try dsimp only at hSw); (try go_split_ands); go_simp; first | done | with_reducible rfl)
          (try simp only [List.getElem_toArray]); (try simp only [List.getElem_cons_succ]); (try simp only [List.getElem_cons_zero]); (try simp only [Act.put]); (try simp only [List.setIfInBounds_toArray]); (try simp only [List.set_cons_succ]); (try simp only [List.set_cons_zero])
          refine wpAnyH_take (i := 2) (v := ?v2) rfl (by kernel_rfl) (by kernel_rfl) (by kernel_rfl) (fun _ _ _ h => h) (Or.inl ⟨by rfl, ?hy2⟩) hHeld ?rest2
          case hy2 => (intro w hSw; (try dsimp only at hSw); (try go_split_ands); go_simp; first | done | with_reducible rfl)
          (try simp only [List.getElem_toArray]); (try simp only [List.getElem_cons_succ]); (try simp only [List.getElem_cons_zero]); (try simp only [Act.put]); (try simp only [List.setIfInBounds_toArray]); (try simp only [List.set_cons_succ]); (try simp only [List.set_cons_zero])
          refine wpAnyH_take (i := 3) (v := ?v3) rfl (by kernel_rfl) (by kernel_rfl) (by kernel_rfl) (fun _ _ _ h => h) (Or.inl ⟨by rfl, ?hy3⟩) hHeld ?rest3
          case hy3 => (intro w hSw; (try dsimp only at hSw); (try go_split_ands); go_simp; first | done | with_reducible rfl)
          (try simp only [List.getElem_toArray]); (try simp only [List.getElem_cons_succ]); (try simp only [List.getElem_cons_zero]); (try simp only [Act.put]); (try simp only [List.setIfInBounds_toArray]); (try simp only [List.set_cons_succ]); (try simp only [List.set_cons_zero])
          refine wpAnyH_take (i := 4) (v := ?v4) rfl (by kernel_rfl) (by kernel_rfl) (by kernel_rfl) (fun _ _ _ h => h) (Or.inl ⟨by rfl, ?hy4⟩) hHeld ?rest4
          case hy4 => (intro w hSw; (try dsimp only at hSw); (try go_split_ands); go_simp; first | done | with_reducible rfl)
          (try simp only [List.getElem_toArray]); (try simp only [List.getElem_cons_succ]); (try simp only [List.getElem_cons_zero]); (try simp only [Act.put]); (try simp only [List.setIfInBounds_toArray]); (try simp only [List.set_cons_succ]); (try simp only [List.set_cons_zero])
          refine wpAnyH_take (i := 5) (v := ?v5) rfl (by kernel_rfl) (by kernel_rfl) (by kernel_rfl) (fun _ _ _ h => h) (Or.inl ⟨by rfl, ?hy5⟩) hHeld ?rest5
          case hy5 => (intro w hSw; (try dsimp only at hSw); (try go_split_ands); go_simp; first | done | with_reducible rfl)
          (try simp only [List.getElem_toArray]); (try simp only [List.getElem_cons_succ]); (try simp only [List.getElem_cons_zero]); (try simp only [Act.put]); (try simp only [List.setIfInBounds_toArray]); (try simp only [List.set_cons_succ]); (try simp only [List.set_cons_zero])
          refine wpAnyH_take (i := 6) (v := ?v6) rfl (by kernel_rfl) (by kernel_rfl) (by kernel_rfl) (fun _ _ _ h => h) (Or.inl ⟨by rfl, ?hy6⟩) hHeld ?rest6
          case hy6 => (intro w hSw; (try dsimp only at hSw); (try go_split_ands); go_simp; first | done | with_reducible rfl)
          (try simp only [List.getElem_toArray]); (try simp only [List.getElem_cons_succ]); (try simp only [List.getElem_cons_zero]); (try simp only [Act.put]); (try simp only [List.setIfInBounds_toArray]); (try simp only [List.set_cons_succ]); (try simp only [List.set_cons_zero])
          refine wpAnyH_ready (rs := [7]) (by kernel_rfl) (by simp) ?_
          refine AllReadyH.cons rfl (fun K' hK => ?_) AllReadyH.nil
          go_simp
          refine (rholders_c t _ _ _ _ _ (S10.out.g 0 rfl) y.ino HZ.out).mono ?_
          rintro e W11 ⟨rfl, hb⟩
          have S11 := Lib.hid (S10.out.call hb)
          clear hb hHeld S10
          go_wp2_with fail
          obtain ⟨b2, off2, ead, c0, -, -, -, -, -⟩ := TabX.desc (S11.out.g 0 rfl) k hlt
          injection ead with ead
          injection ead with eb eo _
          subst eb
          subst eo
          rw [← HY.out] at c0
          refine hK.out _ _ ⟨S11.out.at 0 rfl, (cells2 (S11.out.at 0 rfl)).1, c0, trivial⟩ (fun hHeld => ?_)
          clear hK K' c0
          (try simp only [List.getElem_toArray]); (try simp only [List.getElem_cons_succ]); (try simp only [List.getElem_cons_zero]); (try simp only [Act.put]); (try simp only [List.setIfInBounds_toArray]); (try simp only [List.set_cons_succ]); (try simp only [List.set_cons_zero])
          refine wpAnyH_take (i := 8) (v := ?v7) rfl (by kernel_rfl) (by kernel_rfl) (by kernel_rfl) (fun _ _ _ h => h) (Or.inl ⟨by rfl, ?hy7⟩) hHeld ?rest7
          case hy7 => (intro w hSw; (try dsimp only at hSw); (try go_split_ands); go_simp; first | done | with_reducible rfl)
          (try simp only [List.getElem_toArray]); (try simp only [List.getElem_cons_succ]); (try simp only [List.getElem_cons_zero]); (try simp only [Act.put]); (try simp only [List.setIfInBounds_toArray]); (try simp only [List.set_cons_succ]); (try simp only [List.set_cons_zero])
          refine wpAnyH_take (i := 9) (v := ?v8) rfl (by kernel_rfl) (by kernel_rfl) (by kernel_rfl) (fun _ _ _ h => h) (Or.inl ⟨by rfl, ?hy8⟩) hHeld ?rest8
          case hy8 => (intro w hSw; (try dsimp only at hSw); (try go_split_ands); go_simp; first | done | with_reducible rfl)
          (try simp only [List.getElem_toArray]); (try simp only [List.getElem_cons_succ]); (try simp only [List.getElem_cons_zero]); (try simp only [Act.put]); (try simp only [List.setIfInBounds_toArray]); (try simp only [List.set_cons_succ]); (try simp only [List.set_cons_zero])
          refine wpAnyH_take (i := 10) (v := ?v9) rfl (by kernel_rfl) (by kernel_rfl) (by kernel_rfl) (fun _ _ _ h => h) (Or.inl ⟨by rfl, ?hy9⟩) hHeld ?rest9
          case hy9 => (intro w hSw; (try dsimp only at hSw); (try go_split_ands); go_simp; first | done | with_reducible rfl)
          (try simp only [List.getElem_toArray]); (try simp only [List.getElem_cons_succ]); (try simp only [List.getElem_cons_zero]); (try simp only [Act.put]); (try simp only [List.setIfInBounds_toArray]); (try simp only [List.set_cons_succ]); (try simp only [List.set_cons_zero])
          refine wpAnyH_take (i := 11) (v := ?v10) rfl (by kernel_rfl) (by kernel_rfl) (by kernel_rfl) (fun _ _ _ h => h) (Or.inl ⟨by rfl, ?hy10⟩) hHeld ?rest10
          case hy10 => (intro w hSw; (try dsimp only at hSw); (try go_split_ands); go_simp; first | done | with_reducible rfl)
          (try simp only [List.getElem_toArray]); (try simp only [List.getElem_cons_succ]); (try simp only [List.getElem_cons_zero]); (try simp only [Act.put]); (try simp only [List.setIfInBounds_toArray]); (try simp only [List.set_cons_succ]); (try simp only [List.set_cons_zero])
          refine wpAnyH_take (i := 12) (v := ?v11) rfl (by kernel_rfl) (by kernel_rfl) (by kernel_rfl) (fun _ _ _ h => h) (Or.inl ⟨by rfl, ?hy11⟩) hHeld ?rest11
          case hy11 => (intro w hSw; (try dsimp only at hSw); (try go_split_ands); go_simp; first | done | with_reducible rfl)
          (try simp only [List.getElem_toArray]); (try simp only [List.getElem_cons_succ]); (try simp only [List.getElem_cons_zero]); (try simp only [Act.put]); (try simp only [List.setIfInBounds_toArray]); (try simp only [List.set_cons_succ]); (try simp only [List.set_cons_zero])
          refine wpAnyH_done (by kernel_rfl) ?_ _
          obtain ⟨n, hn⟩ : ∃ n, n = heldN t.ds y.ino 1 := ⟨_, rfl⟩
          obtain ⟨m, hm⟩ : ∃ m, m = heldN t.ds y.ino 2 := ⟨_, rfl⟩
          rw [← hn, ← hm]
          have HN1 := Lib.hid (show heldN t.ds (t.ds[k]).ino 1 = n by rw [← HY.out, hn])
          have HM1 := Lib.hid (show heldN t.ds (t.ds[k]).ino 2 = m by rw [← HY.out, hm])
          clear hn hm
          by_cases h3 : 1 < m
          · have i3 : decide (1 < m) = true := decide_eq_true h3
            have i31 : decide ((1 : Int) < (m : Int)) = true := decide_eq_true (by omega)
            have HN := Lib.hid (fair_no3 hlt (by rw [HM1.out]; exact h3))
            go_wp2_with fail
            go_ret
            exact ⟨by rw [HN.out]; rfl, S11.out.bel⟩
          · have i3 : decide (1 < m) = false := decide_eq_false h3
            have i31 : decide ((1 : Int) < (m : Int)) = false := decide_eq_false (by omega)
            by_cases h4 : m = 1
            · have i4 : decide ((m : Int) = 1) = true := decide_eq_true (by omega)
              have i5 : ((m : Int) == 1) = true := by rw [h4]; rfl
              have i51 : decide (m = 1) = true := decide_eq_true (by omega)
              have i52 : (m == 1) = true := by rw [h4]; rfl
              by_cases h5 : 0 < n
              · have i6 : decide (0 < n) = true := decide_eq_true h5
                have i61 : decide ((0 : Int) < (n : Int)) = true := decide_eq_true (by omega)
                have HN := Lib.hid (fair_no4 hlt (by rw [HM1.out]; exact h4) (by rw [HN1.out]; exact h5))
                clear h4
                go_wp2_with fail
                go_ret
                exact ⟨by rw [HN.out]; rfl, S11.out.bel⟩
              · have i6 : decide (0 < n) = false := decide_eq_false h5
                have i61 : decide ((0 : Int) < (n : Int)) = false := decide_eq_false (by omega)
                have HF2 := Lib.hid (fair_next HF.out hlt (fair_1.2 ⟨⟨by rw [← HY.out]; omega, by rw [← HY.out]; omega⟩, by rw [HM1.out]; omega, fun h => by rw [HM1.out] at h; rw [HN1.out]; omega⟩))
                clear h4
                go_wp2_with fail
                go_roundw
                case rel => exact ⟨k + 1, by go_num, hlt, HF2, S11⟩
                case measure => simp [RowKit.intOf]; omega
            · have i4 : decide ((m : Int) = 1) = false := decide_eq_false (by omega)
              have i5 : ((m : Int) == 1) = false := by rw [beq_eq_false_iff_ne]; omega
              have i51 : decide (m = 1) = false := decide_eq_false (by omega)
              have i52 : (m == 1) = false := by rw [beq_eq_false_iff_ne]; exact h4
              have HF2 := Lib.hid (fair_next HF.out hlt (fair_1.2 ⟨⟨by rw [← HY.out]; omega, by rw [← HY.out]; omega⟩, by rw [HM1.out]; omega, fun h => by rw [HM1.out] at h; rw [HN1.out]; omega⟩))
              go_wp2_with fail
              go_roundw
              case rel => exact ⟨k + 1, by go_num, hlt, HF2, S11⟩
              case measure => simp [RowKit.intOf]; omega
    · have iL1 : decide (k < t.ds.length) = false := decide_eq_false (by omega)
      have iM1 : decide ((k : Int) < (t.ds.length : Int)) = false := decide_eq_false (by omega)
      have hke : k = t.ds.length := by omega
      subst hke
      have HN := Lib.hid (fair_all HF.out)
      clear hlt
      go_wp2_with fail
      go_ret
      exact ⟨by rw [HN.out]; rfl, S9.out.bel⟩
end Go.Proofs.Ytfcjmcenaankfaa
