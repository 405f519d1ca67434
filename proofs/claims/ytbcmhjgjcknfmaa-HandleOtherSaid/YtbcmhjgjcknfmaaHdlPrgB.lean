/-
  The program's Get, Count.
-/
import Derived.Test.YtbcmhjgjcknfmaaHdlPrgA
namespace Go.Proofs.Ytbcmhjgjcknfmaa
open Go.RowKit Go.Shelf
attribute [local go_sem ↓] Go.wp_at_zero Go.wp_at_succ

theorem has_in {t : TabL} {p fd : Int} (h : inT t p = false) : hasT t p fd = false := by unfold hasT; rw [h]; rfl
theorem inD_no {t : TabL} {v : Int} (h : v < 0) : inD t v = false := by unfold inD; rw [decide_eq_false (show ¬ 0 ≤ v by omega)]; rfl
theorem inD_yes {t : TabL} {i : Nat} (h : i < t.ds.length) : inD t (i : Int) = true := by unfold inD; rw [decide_eq_true (show (0 : Int) ≤ (i : Int) by omega), decide_eq_true (show (i : Int) < (t.ds.length : Int) by omega)]; rfl
set_option maxRecDepth 100000 in
set_option maxHeartbeats 4000000 in
theorem pgetH_c {X : Nat → Prop} (t : TabL) (ad af : Option Addr) (cap capf : Nat) (w : World) (hT : TabX t (.slice ad t.ds.length cap) (.slice af t.fs.length capf) X w) (p fd : Int) (hr : RightT t) :
    Calls Try.prog 20 #[tabV ad t.ds.length cap af t.fs.length capf, .int .i64 p, .int .i64 fd] w fun e w' => GotIs t p fd e ∧ Below w.heap.size w w' := by
  have S0 := Lib.hid (Sf.start (w := w) (X := fun _ => False) (G := [TabX t (.slice ad t.ds.length cap) (.slice af t.fs.length capf)]) (fun _ h => h.elim) (th1 (TabX.firm _ _ _) ((TabX.firm _ _ _).sub hT fun _ h => h.elim)))
  have HRET : Hid (∀ (W : World) (cs : Array Value) (fr), W.heap[w.heap.size + 1]? = some (.cells cs 27 fr) → cs.size = 6 → ∀ tmps : Array Value, tmps.getD 7 undef = .pointer (some ⟨w.heap.size + 1, 0, none⟩) → (results Try.f20 tmps).run Try.prog W = .ok (.tuple #[tmps.getD 6 undef, .agg cs, tmps.getD 8 undef]) W) := Lib.hid fun W cs fr h hs tmps ht =>
  results_tct (p := 7) (u := 6) (v := 8) (ty := 27) rfl tmps W (w.heap.size + 1) _ cs fr _ ht h Try.underlying27 rfl (by rw [hs]; kernel_rfl)
  have HRR := Lib.hid hr
  clear hT hr
  go_enter Try.func20, Try.ntmps20
  go_upto_region 1 with (fail)
  refine code_fresh2 ?_
  intro W1 hb hA0 hA1 hs
  have S1 := Lib.hid (S0.out.new2 hb hA0 hA1)
  clear hb hA0 hA1 hs
  have h_d := (S1.out.at 0 rfl)
  go_wp2_with (first | (refine wpList_load_row rfl 25 _ rfl _ rfl 25 _ (0, 0) _ h_d Try.underlying25 rfl (by kernel_rfl) ?_))
  refine (phas_c t _ _ _ _ _ (S1.out.g 0 rfl) p).mono ?_
  rintro e W2 ⟨rfl, hb⟩
  clear h_d
  have S2 := Lib.hid (S1.out.call hb)
  clear hb
  cases hin : inT t p with
  | false =>
    have hin2 := hin
    clear hin
    have HZ := Lib.hid (has_in (fd := fd) hin2)
    obtain ⟨d0, d1⟩ := cells2 (S2.out.at 0 rfl)
    go_upto_region 2 with (fail)
    clear d0 d1
    have h_r := (S2.out.at 1 rfl)
    go_wp2_with (first | (refine wpList_store_row rfl 27 _ _ rfl _ rfl rfl h_r rfl (by kernel_rfl) rfl ?_; intro W3 hb hg hs hn; have S3 := Lib.hid (S2.out.set 1 rfl hb hg hs hn); clear hb hg hs hn))
    refine bodyPost_ret (HRET.out _ _ _ (S3.out.at 1 rfl) rfl _ rfl) rfl ?_
    exact ⟨got_no HZ.out, S3.out.bel⟩
  | true =>
    obtain ⟨a, rfl, ha⟩ := in_T hin
    clear hin
    have a0 : (0 : Int) ≤ (a : Int) := by omega
    have a1 : (a : Int) < (t.fs.length : Int) := by omega
    by_cases h3 : fd < 0
    · have i3 : decide (fd < 0) = true := decide_eq_true h3
      have HZ := Lib.hid (has_no3 (t := t) (p := (a : Int)) h3)
      obtain ⟨d0, d1⟩ := cells2 (S2.out.at 0 rfl)
      go_upto_region 2 with (fail)
      clear d0 d1
      have h_r := (S2.out.at 1 rfl)
      go_wp2_with (first | (refine wpList_store_row rfl 27 _ _ rfl _ rfl rfl h_r rfl (by kernel_rfl) rfl ?_; intro W3 hb hg hs hn; have S3 := Lib.hid (S2.out.set 1 rfl hb hg hs hn); clear hb hg hs hn))
      refine bodyPost_ret (HRET.out _ _ _ (S3.out.at 1 rfl) rfl _ rfl) rfl ?_
      exact ⟨got_no HZ.out, S3.out.bel⟩
    · have i3 : decide (fd < 0) = false := decide_eq_false h3
      obtain ⟨m, rfl⟩ := Int.eq_ofNat_of_zero_le (show 0 ≤ fd by omega)
      have m0 : (0 : Int) ≤ (m : Int) := by omega
      clear h3
      obtain ⟨b, off, ar, cr, eaf, _, cR, hR⟩ := TabX.row (S2.out.g 0 rfl) a ha
      subst eaf
      obtain ⟨r, hrow⟩ : ∃ r, r = t.fs[a] := ⟨_, rfl⟩
      rw [← hrow] at cR hR
      have HROW := Lib.hid hrow
      by_cases h4 : (r.length : Int) ≤ (m : Int)
      · have i4 : decide ((r.length : Int) ≤ (m : Int)) = true := decide_eq_true h4
        have i41 : decide (r.length ≤ m) = true := decide_eq_true (by omega)
        have h4b : ((t.fs[a]).length : Int) ≤ (m : Int) := by rw [← hrow]; exact h4
        clear hrow h4
        have HZ := Lib.hid (has_no4 ha h4b)
        obtain ⟨d0, d1⟩ := cells2 (S2.out.at 0 rfl)
        go_upto_region 2 with (fail)
        clear d0 d1
        have h_r := (S2.out.at 1 rfl)
        go_wp2_with (first | (refine wpList_store_row rfl 27 _ _ rfl _ rfl rfl h_r rfl (by kernel_rfl) rfl ?_; intro W3 hb hg hs hn; have S3 := Lib.hid (S2.out.set 1 rfl hb hg hs hn); clear hb hg hs hn))
        refine bodyPost_ret (HRET.out _ _ _ (S3.out.at 1 rfl) rfl _ rfl) rfl ?_
        exact ⟨got_no HZ.out, S3.out.bel⟩
      · have i4 : decide ((r.length : Int) ≤ (m : Int)) = false := decide_eq_false h4
        have i41 : decide (r.length ≤ m) = false := decide_eq_false (by omega)
        have hm : m < r.length := by omega
        have m1 : (m : Int) < (r.length : Int) := by omega
        obtain ⟨b2, off2, ear, cI⟩ := RdX.int hR m hm
        subst ear
        obtain ⟨v, hv⟩ : ∃ v, v = r[m] := ⟨_, rfl⟩
        rw [← hv] at cI
        clear h4
        have hm2 : m < (t.fs[a]).length := by rw [← hrow]; exact hm
        have hv2 : v = (t.fs[a])[m] := by rw [hv]; exact getE_of hrow _ _
        have HV2 := Lib.hid hv2
        clear hrow hv hv2
        obtain ⟨d0, d1⟩ := cells2 (S2.out.at 0 rfl)
        go_upto_region 2 with (fail)
        clear d0 d1
        have h_d := (S2.out.at 0 rfl)
        go_wp2_with (first | (refine wpList_load_row rfl 25 _ rfl _ rfl 25 _ (0, 0) _ h_d Try.underlying25 rfl (by kernel_rfl) ?_))
        refine (phasD_c t _ _ _ _ _ (S2.out.g 0 rfl) v).mono ?_
        rintro e W3 ⟨rfl, hb⟩
        clear h_d cR hR cI
        have S3 := Lib.hid (S2.out.call hb)
        clear hb
        by_cases h5 : v < 0
        · have hin : inD t v = false := inD_no h5
          rw [hin]
          have HZ := Lib.hid (has_no5 ha hm2 (by rw [← HV2.out]; exact h5))
          obtain ⟨d0, d1⟩ := cells2 (S3.out.at 0 rfl)
          go_upto_region 5 with (fail)
          clear d0 d1
          have h_r := (S3.out.at 1 rfl)
          go_wp2_with (first | (refine wpList_store_row rfl 27 _ _ rfl _ rfl rfl h_r rfl (by kernel_rfl) rfl ?_; intro W4 hb hg hs hn; have S4 := Lib.hid (S3.out.set 1 rfl hb hg hs hn); clear hb hg hs hn))
          refine bodyPost_ret (HRET.out _ _ _ (S4.out.at 1 rfl) rfl _ rfl) rfl ?_
          exact ⟨got_no HZ.out, S4.out.bel⟩
        · have HY := Lib.hid (has_yes ha hm2 (by rw [← HV2.out]; omega))
          have hat : atR (rowT t (a : Int)) (m : Int) = v := by rw [row_at ha, at_R hm2]; exact HV2.out.symm
          obtain ⟨i, rfl⟩ := Int.eq_ofNat_of_zero_le (show 0 ≤ v by omega)
          have HI : Hid (i < t.ds.length) := Lib.hid (by obtain ⟨i2, e2, hi2, _⟩ := place_T HRR.out ha (show m < (rowT t (a : Int)).length by rw [row_at ha]; exact hm2) (by rw [hat]; omega); rw [hat] at e2; omega)
          obtain ⟨HP1, HP2⟩ := found_at HY.out hat HI.out
          have HP1 := Lib.hid HP1
          have HP2 := Lib.hid HP2
          clear h5 HV2 hat
          have hin : inD t (i : Int) = true := inD_yes HI.out
          rw [hin]
          clear hin
          obtain ⟨b3, off3, ead, cD⟩ := TabX.range (S3.out.g 0 rfl) i HI.out
          subst ead
          have q0 : (0 : Int) ≤ (i : Int) := by omega
          have q1 : (i : Int) < (t.ds.length : Int) := by have := HI.out; omega
          obtain ⟨x, hx⟩ : ∃ x, x = t.ds[i]'HI.out := ⟨_, rfl⟩
          rw [← hx] at cD
          rw [← hx] at HP2
          have HX := Lib.hid hx
          clear hx
          go_upto_region 6 with (fail)
          refine wp_region_held_drew (S := fun W => W.cell? ⟨w.heap.size, 0, none⟩ = some (.slice (some ⟨b3, off3, none⟩) t.ds.length cap) ∧ W.rangeAt b3 (off3 + i * 6) (dcells x) ∧ True) (by kernel_rfl) ⟨(cells2 (S3.out.at 0 rfl)).1, cD, trivial⟩ (fun hHeld => ?_)
          have S4 := Lib.hid (S3.out.call (Below.refl W3.heap.size W3).drew)
          generalize W3.drew = W4 at *
          refine wpAnyH_take (i := 0) (v := ?v1) rfl (by kernel_rfl) (by kernel_rfl) (by kernel_rfl) (fun _ _ _ h => h) (Or.inl ⟨by rfl, ?hy1⟩) hHeld ?rest1
          case hy1 => (intro w hSw; (try dsimp only at hSw); (try go_split_ands); go_simp; first | done | with_reducible rfl)
          (try simp only [List.getElem_toArray]); (try simp only [List.getElem_cons_succ]); (try simp only [List.getElem_cons_zero]); (try simp only [Act.put]); (try simp only [List.setIfInBounds_toArray]); (try simp only [List.set_cons_succ]); (try simp only [List.set_cons_zero])
          refine wpAnyH_take (i := 1) (v := ?v2) rfl (by kernel_rfl) (by kernel_rfl) (by kernel_rfl) (fun _ _ _ h => h) (Or.inl ⟨by rfl, ?hy2⟩) hHeld ?rest2
          case hy2 => (intro w hSw; (try dsimp only at hSw); (try go_split_ands); go_simp; first | done | with_reducible rfl)
          (try simp only [List.getElem_toArray]); (try simp only [List.getElem_cons_succ]); (try simp only [List.getElem_cons_zero]); (try simp only [Act.put]); (try simp only [List.setIfInBounds_toArray]); (try simp only [List.set_cons_succ]); (try simp only [List.set_cons_zero])
          refine wpAnyH_take (i := 2) (v := ?v3) rfl (by kernel_rfl) (by kernel_rfl) (by kernel_rfl) (fun _ _ _ h => h) (Or.inl ⟨by rfl, ?hy3⟩) hHeld ?rest3
          case hy3 => (intro w hSw; (try dsimp only at hSw); (try go_split_ands); go_simp; first | done | with_reducible rfl)
          (try simp only [List.getElem_toArray]); (try simp only [List.getElem_cons_succ]); (try simp only [List.getElem_cons_zero]); (try simp only [Act.put]); (try simp only [List.setIfInBounds_toArray]); (try simp only [List.set_cons_succ]); (try simp only [List.set_cons_zero])
          refine wpAnyH_take (i := 3) (v := ?v4) rfl (by kernel_rfl) (by kernel_rfl) (by kernel_rfl) (fun _ _ _ h => h) (Or.inl ⟨by rfl, ?hy4⟩) hHeld ?rest4
          case hy4 => (intro w hSw; (try dsimp only at hSw); (try go_split_ands); go_simp; first | done | with_reducible rfl)
          (try simp only [List.getElem_toArray]); (try simp only [List.getElem_cons_succ]); (try simp only [List.getElem_cons_zero]); (try simp only [Act.put]); (try simp only [List.setIfInBounds_toArray]); (try simp only [List.set_cons_succ]); (try simp only [List.set_cons_zero])
          refine wpAnyH_take (i := 4) (v := ?v5) rfl (by kernel_rfl) (by kernel_rfl) (by kernel_rfl) (fun _ _ _ h => h) (Or.inl ⟨by rfl, ?hy5⟩) hHeld ?rest5
          case hy5 => (intro w hSw; (try dsimp only at hSw); (try go_split_ands); go_simp; first | done | with_reducible rfl)
          (try simp only [List.getElem_toArray]); (try simp only [List.getElem_cons_succ]); (try simp only [List.getElem_cons_zero]); (try simp only [Act.put]); (try simp only [List.setIfInBounds_toArray]); (try simp only [List.set_cons_succ]); (try simp only [List.set_cons_zero])
          refine wpAnyH_take (i := 5) rfl (by kernel_rfl) (by kernel_rfl) (by kernel_rfl) (fun _ _ _ h => h) (yieldsIf_load_mid (by rfl) 27 _ rfl _ (off3 + i * 6) rfl _ _ (fun _ h => h.2.1) Try.underlying27 rfl (by kernel_rfl)) hHeld ?_
          (try simp only [List.getElem_toArray]); (try simp only [List.getElem_cons_succ]); (try simp only [List.getElem_cons_zero]); (try simp only [Act.put]); (try simp only [List.setIfInBounds_toArray]); (try simp only [List.set_cons_succ]); (try simp only [List.set_cons_zero])
          refine wpAnyH_take (i := 6) (v := ?v6) rfl (by kernel_rfl) (by kernel_rfl) (by kernel_rfl) (fun _ _ _ h => h) (Or.inl ⟨by rfl, ?hy6⟩) hHeld ?rest6
          case hy6 => (intro w hSw; (try dsimp only at hSw); (try go_split_ands); go_simp; first | done | with_reducible rfl)
          (try simp only [List.getElem_toArray]); (try simp only [List.getElem_cons_succ]); (try simp only [List.getElem_cons_zero]); (try simp only [Act.put]); (try simp only [List.setIfInBounds_toArray]); (try simp only [List.set_cons_succ]); (try simp only [List.set_cons_zero])
          refine wpAnyH_ready (rs := [7]) (by kernel_rfl) (by simp) ?_
          refine AllReadyH.cons rfl (fun K hK => ?_) AllReadyH.nil
          rw [if_pos (by rfl)]
          refine wp_store_row 27 _ _ rfl _ rfl rfl (S4.out.at 1 rfl) rfl (by kernel_rfl) rfl ?_
          intro W5 hb hg hs hn
          have S5 := Lib.hid (S4.out.set 1 rfl hb hg hs hn)
          obtain ⟨b4, off4, ead4, cD4⟩ := TabX.range (S5.out.g 0 rfl) i HI.out
          injection ead4 with ead4
          injection ead4 with eb4 eo4
          subst eb4
          subst eo4
          clear hb hg hs hn
          refine hK.out _ _ ⟨(cells2 (S5.out.at 0 rfl)).1, (by rw [HX.out]; exact cD4), trivial⟩ (fun hHeld => ?_)
          clear hK K
          (try simp only [List.getElem_toArray]); (try simp only [List.getElem_cons_succ]); (try simp only [List.getElem_cons_zero]); (try simp only [Act.put]); (try simp only [List.setIfInBounds_toArray]); (try simp only [List.set_cons_succ]); (try simp only [List.set_cons_zero])
          refine wpAnyH_take (i := 8) (v := ?v7) rfl (by kernel_rfl) (by kernel_rfl) (by kernel_rfl) (fun _ _ _ h => h) (Or.inl ⟨by rfl, ?hy7⟩) hHeld ?rest7
          case hy7 => (intro w hSw; (try dsimp only at hSw); (try go_split_ands); go_simp; first | done | with_reducible rfl)
          (try simp only [List.getElem_toArray]); (try simp only [List.getElem_cons_succ]); (try simp only [List.getElem_cons_zero]); (try simp only [Act.put]); (try simp only [List.setIfInBounds_toArray]); (try simp only [List.set_cons_succ]); (try simp only [List.set_cons_zero])
          refine wpAnyH_done (by kernel_rfl) ?_ _
          go_wp2_with fail
          refine bodyPost_ret (HRET.out _ _ _ (S5.out.at 1 rfl) rfl _ rfl) rfl ?_
          refine ⟨?_, S5.out.bel⟩
          unfold GotIs
          rw [HP1.out, HP2.out, HY.out]
          rfl
set_option maxRecDepth 100000 in
set_option maxHeartbeats 4000000 in
theorem pcount_c {X : Nat → Prop} (t : TabL) (ad af : Option Addr) (cap capf : Nat) (w : World) (hT : TabX t (.slice ad t.ds.length cap) (.slice af t.fs.length capf) X w) (p : Int) (hz : SizeT t) (hr : RightT t) :
    Calls Try.prog 22 #[tabV ad t.ds.length cap af t.fs.length capf, .int .i64 p] w fun e w' => e = .returned (.int .i64 (countT t p)) ∧ Below w.heap.size w w' := by
  have S0 := Lib.hid (Sf.start (w := w) (X := fun _ => False) (G := [TabX t (.slice ad t.ds.length cap) (.slice af t.fs.length capf)]) (fun _ h => h.elim) (th1 (TabX.firm _ _ _) ((TabX.firm _ _ _).sub hT fun _ h => h.elim)))
  have HZ := Lib.hid hz
  have HRR := Lib.hid hr
  clear hT hz hr
  go_enter Try.func22, Try.ntmps22
  go_upto_region 1 with (fail)
  refine code_fresh1 ?_
  intro W1 hb hA0 hs
  have S1 := Lib.hid (S0.out.new1 hb hA0)
  clear hb hA0 hs
  have h_d := (S1.out.at 0 rfl)
  go_wp2_with (first | (refine wpList_load_row rfl 25 _ rfl _ rfl 25 _ (0, 0) _ h_d Try.underlying25 rfl (by kernel_rfl) ?_))
  refine (phas_c t _ _ _ _ _ (S1.out.g 0 rfl) p).mono ?_
  rintro e W2 ⟨rfl, hb⟩
  clear h_d
  have S2 := Lib.hid (S1.out.call hb)
  clear hb
  cases hin : inT t p with
  | false =>
    have HC : Hid (countT t p = 0) := Lib.hid (by unfold countT; rw [hin]; rfl)
    clear hin
    go_wp2_with fail
    go_ret
    exact ⟨by rw [HC.out]; rfl, S2.out.bel⟩
  | true =>
    obtain ⟨a, rfl, ha⟩ := in_T hin
    have HC : Hid (countT t (a : Int) = countR (rowT t (a : Int))) := Lib.hid (by unfold countT; rw [hin]; rfl)
    clear hin
    have a0 : (0 : Int) ≤ (a : Int) := by omega
    have a1 : (a : Int) < (t.fs.length : Int) := by omega
    obtain ⟨b, off, ar, cr, eaf, _, cR, hR⟩ := TabX.row (S2.out.g 0 rfl) a ha
    subst eaf
    have hrr : ∀ x ∈ t.fs[a], -1 ≤ x := fun x hx => ((HRR.out.1 _ (List.getElem_mem ha)).2 x hx).1
    have hr8 : (t.fs[a]).length ≤ 20 := HZ.out.2.2 _ (List.getElem_mem ha)
    rw [row_at ha] at HC
    obtain ⟨r, hrow⟩ : ∃ r, r = t.fs[a] := ⟨_, rfl⟩
    rw [← hrow] at cR hR HC hrr hr8
    clear hrow
    obtain ⟨d0, d1⟩ := cells2 (S2.out.at 0 rfl)
    go_wp2_with fail
    go_loop [5, 18] (fun n i => ∃ k : Nat, n = .int .i64 (countR (r.take k)) ∧ i = .int .i64 k ∧ k ≤ r.length) (fun _ i => r.length - (RowKit.intOf i).toNat)
    case atStart => exact ⟨0, rfl, rfl, Nat.zero_le _⟩
    case round =>
      obtain ⟨k, rfl, rfl, hk⟩ := hrel
      by_cases hlt : k < r.length
      · have iL1 : decide (k < r.length) = true := decide_eq_true (by omega)
        have iM1 : decide ((k : Int) < (r.length : Int)) = true := decide_eq_true (by omega)
        have k0 : (0 : Int) ≤ (k : Int) := by omega
        have k1 : (k : Int) < (r.length : Int) := by omega
        have wk : IntKind.i64.wrap ((k : Int) + 1) = (k : Int) + 1 := Go.IntWalk.i64_in _ (by omega)
        obtain ⟨b2, off2, ear, cI⟩ := RdX.int hR k hlt
        subst ear
        have HS := Lib.hid (count_step r k hlt)
        have hcl : countR (r.take k) ≤ 20 := by have := count_le (r.take k); rw [List.length_take] at this; omega
        have hvr := hrr _ (List.getElem_mem hlt)
        obtain ⟨c, hc⟩ : ∃ c, c = countR (r.take k) := ⟨_, rfl⟩
        rw [← hc] at HS hcl ⊢
        clear hc
        obtain ⟨v, hv⟩ : ∃ v, v = r[k] := ⟨_, rfl⟩
        rw [← hv] at cI HS hvr
        clear hv
        have wc : IntKind.i64.wrap ((c : Int) + 1) = (c : Int) + 1 := Go.IntWalk.i64_in _ (by omega)
        by_cases h5 : v = -1
        · subst h5
          have HS2 : Hid (countR (r.take (k + 1)) = c) := Lib.hid (by rw [HS.out, if_neg (by omega), Nat.add_zero])
          go_wp2_with fail
          go_round
          case rel => exact ⟨k + 1, by rw [HS2.out], by go_num, hlt⟩
          case measure => simp [RowKit.intOf]; omega
        · have i5 : decide (v = -1) = false := decide_eq_false h5
          have i6 : (v == -1) = false := by rw [beq_eq_false_iff_ne]; exact h5
          have i7 : (v != -1) = true := by rw [bne_iff_ne]; exact h5
          have HS2 : Hid (countR (r.take (k + 1)) = c + 1) := Lib.hid (by rw [HS.out, if_pos (by omega)])
          clear h5
          go_wp2_with fail
          go_round
          case rel => exact ⟨k + 1, by rw [HS2.out]; go_num, by go_num, hlt⟩
          case measure => simp [RowKit.intOf]; omega
      · have iL1 : decide (k < r.length) = false := decide_eq_false (by omega)
        have iM1 : decide ((k : Int) < (r.length : Int)) = false := decide_eq_false (by omega)
        have ht : r.take k = r := List.take_of_length_le (by omega)
        rw [ht]
        clear ht hlt
        go_wp2_with fail
        go_ret
        exact ⟨by rw [HC.out]; rfl, S2.out.bel⟩
end Go.Proofs.Ytbcmhjgjcknfmaa
