/-
  The document's Get, Count, first: what is read of a table.
-/
import Derived.Test.YtbcmhjgjcknfmaaHdlMem
import Derived.Deep.RegionHeld3
import Derived.WalkMore
import Derived.Deep.DrawnRows
import Derived.Laws.Cover1
import Derived.Lib.Bytealg
import Derived.Test.YtbcmhjgjcknfmaaProg
namespace Go.Proofs.Ytbcmhjgjcknfmaa
open Go.RowKit Go.Shelf
attribute [local go_sem ↓] Go.wp_at_zero Go.wp_at_succ

/-- A slot, a struct and a slot as results. -/
theorem results_tct {P : Program} {fn : Func} {p u v : Tmp} {ty : TypeId} (h : fn.results = #[.tmp u, .cell p ty, .tmp v]) (tmps : Array Value) (w : World) (g : Nat) (t : TypeId) (cs : Array Value) (fr : Nat × Nat) (d : TypeDesc)
    (hp : tmps.getD p undef = .pointer (some ⟨g, 0, none⟩)) (hg : w.heap[g]? = some (.cells cs t fr)) (hu : P.underlying ty = some d) (hd : (match d with | .struct _ | .array _ _ => true | _ => false) = true) (hi : (P.info? ty).map (·.size) = some cs.size) :
    (results fn tmps).run P w = .ok (.tuple #[tmps.getD u undef, .agg cs, tmps.getD v undef]) w := by
  have hp' : tmps[p]?.getD undef = .pointer (some ⟨g, 0, none⟩) := by simpa using hp
  simp [results, h, hp', asAddr, run_loadVar_row w g t ty cs fr d hg hu hd hi, Result.andThen]
theorem TabX.range {t : TabL} {X : Nat → Prop} {W : World} {ad af : Option Addr} {cap capf : Nat} (h : TabX t (.slice ad t.ds.length cap) (.slice af t.fs.length capf) X W) (k : Nat) (hk : k < t.ds.length) : ∃ b off, ad = some ⟨b, off, none⟩ ∧ W.rangeAt b (off + k * 6) (dcells t.ds[k]) := by
  obtain ⟨b, off, e, c0, c1, c2, c3, c4, c5⟩ := h.desc k hk
  refine ⟨b, off, e, fun j v hv => ?_⟩
  have hj : j < 6 := by
    rcases Nat.lt_or_ge j 6 with h | h
    · exact h
    · rw [List.getElem?_eq_none (by exact h)] at hv; cases hv
  have : j = 0 ∨ j = 1 ∨ j = 2 ∨ j = 3 ∨ j = 4 ∨ j = 5 := by omega
  rcases this with rfl | rfl | rfl | rfl | rfl | rfl <;> (injection hv with hv; subst hv; assumption)
theorem no_get {t : TabL} {p fd : Int} (h : hasT t p fd = false) : placeT t p fd = -1 ∧ foundT t p fd = zeroD := by
  unfold placeT foundT
  rw [if_neg (by simp [h]), if_neg (by simp [h])]
  exact ⟨rfl, rfl⟩
/-- What Get tells. -/
def GotIs (t : TabL) (p fd : Int) (e : Ending) : Prop := e = .returned (.tuple #[.int .i64 (placeT t p fd), dvalD (foundT t p fd), .bool (hasT t p fd)])
theorem got_no {t : TabL} {p fd : Int} (h : hasT t p fd = false) : GotIs t p fd (.returned (.tuple #[.int .i64 (-1), .agg #[.int .i64 0, .int .i64 0, .bool false, .bool false, .int .i64 0, .int .i64 0], .bool false])) := by
  unfold GotIs
  rw [(no_get h).1, (no_get h).2, h]
  rfl
theorem has_no1 {t : TabL} {p fd : Int} (h : p < 0) : hasT t p fd = false := by unfold hasT inT; rw [decide_eq_false (show ¬ 0 ≤ p by omega)]; rfl
theorem has_no2 {t : TabL} {p fd : Int} (h : (t.fs.length : Int) ≤ p) : hasT t p fd = false := by unfold hasT inT; rw [decide_eq_false (show ¬ p < (t.fs.length : Int) by omega)]; simp
theorem has_no3 {t : TabL} {p fd : Int} (h : fd < 0) : hasT t p fd = false := by unfold hasT; rw [decide_eq_false (show ¬ 0 ≤ fd by omega)]; simp
theorem has_no4 {t : TabL} {k : Nat} {fd : Int} (hk : k < t.fs.length) (h : ((t.fs[k]).length : Int) ≤ fd) : hasT t (k : Int) fd = false := by unfold hasT; rw [row_at hk, decide_eq_false (show ¬ fd < ((t.fs[k]).length : Int) by omega)]; simp
theorem has_no5 {t : TabL} {k m : Nat} (hk : k < t.fs.length) (hm : m < (t.fs[k]).length) (h : (t.fs[k])[m] < 0) : hasT t (k : Int) (m : Int) = false := by unfold hasT; rw [row_at hk, at_R hm, decide_eq_false (show ¬ 0 ≤ (t.fs[k])[m] by omega)]; simp
theorem has_yes {t : TabL} {k m : Nat} (hk : k < t.fs.length) (hm : m < (t.fs[k]).length) (h : 0 ≤ (t.fs[k])[m]) : hasT t (k : Int) (m : Int) = true := by
  unfold hasT inT
  rw [row_at hk, at_R hm, decide_eq_true h, decide_eq_true (show (0 : Int) ≤ (k : Int) by omega), decide_eq_true (show (k : Int) < (t.fs.length : Int) by omega), decide_eq_true (show (0 : Int) ≤ (m : Int) by omega), decide_eq_true (show (m : Int) < ((t.fs[k]).length : Int) by omega)]
  rfl
set_option maxRecDepth 100000 in
set_option maxHeartbeats 4000000 in
theorem rgetH_c {X : Nat → Prop} (t : TabL) (ad af : Option Addr) (cap capf : Nat) (w : World) (hT : TabX t (.slice ad t.ds.length cap) (.slice af t.fs.length capf) X w) (p fd : Int) (hr : RightT t) :
    Calls Try.prog 21 #[tabV ad t.ds.length cap af t.fs.length capf, .int .i64 p, .int .i64 fd] w fun e w' => GotIs t p fd e ∧ Below w.heap.size w w' := by
  have S0 := Lib.hid (Sf.start (w := w) (X := fun _ => False) (G := [TabX t (.slice ad t.ds.length cap) (.slice af t.fs.length capf)]) (fun _ h => h.elim) (th1 (TabX.firm _ _ _) ((TabX.firm _ _ _).sub hT fun _ h => h.elim)))
  have HRET : Hid (∀ (W : World) (cs : Array Value) (fr), W.heap[w.heap.size + 1]? = some (.cells cs 39 fr) → cs.size = 6 → ∀ tmps : Array Value, tmps.getD 7 undef = .pointer (some ⟨w.heap.size + 1, 0, none⟩) → (results Try.f21 tmps).run Try.prog W = .ok (.tuple #[tmps.getD 6 undef, .agg cs, tmps.getD 8 undef]) W) := Lib.hid fun W cs fr h hs tmps ht =>
  results_tct (p := 7) (u := 6) (v := 8) (ty := 39) rfl tmps W (w.heap.size + 1) _ cs fr _ ht h Try.underlying39 rfl (by rw [hs]; kernel_rfl)
  have HRR := Lib.hid hr
  clear hT hr
  go_enter Try.func21, Try.ntmps21
  go_upto_region 1 with (fail)
  refine code_fresh2 ?_
  intro W1 hb hA0 hA1 hs
  have S1 := Lib.hid (S0.out.new2 hb hA0 hA1)
  clear hb hA0 hA1 hs
  by_cases h1 : p < 0
  · have i1 : decide (p < 0) = true := decide_eq_true h1
    have HZ := Lib.hid (has_no1 (t := t) (fd := fd) h1)
    obtain ⟨d0, d1⟩ := cells2 (S1.out.at 0 rfl)
    go_upto_region 2 with (fail)
    clear d0 d1
    have h_r := (S1.out.at 1 rfl)
    go_wp2_with (first | (refine wpList_store_row rfl 39 _ _ rfl _ rfl rfl h_r rfl (by kernel_rfl) rfl ?_; intro W2 hb hg hs hn; have S2 := Lib.hid (S1.out.set 1 rfl hb hg hs hn); clear hb hg hs hn))
    refine bodyPost_ret (HRET.out _ _ _ (S2.out.at 1 rfl) rfl _ rfl) rfl ?_
    exact ⟨got_no HZ.out, S2.out.bel⟩
  · have i1 : decide (p < 0) = false := decide_eq_false h1
    by_cases h2 : (t.fs.length : Int) ≤ p
    · have i2 : decide ((t.fs.length : Int) ≤ p) = true := decide_eq_true h2
      have HZ := Lib.hid (has_no2 (t := t) (fd := fd) h2)
      obtain ⟨d0, d1⟩ := cells2 (S1.out.at 0 rfl)
      go_upto_region 2 with (fail)
      clear d0 d1
      have h_r := (S1.out.at 1 rfl)
      go_wp2_with (first | (refine wpList_store_row rfl 39 _ _ rfl _ rfl rfl h_r rfl (by kernel_rfl) rfl ?_; intro W2 hb hg hs hn; have S2 := Lib.hid (S1.out.set 1 rfl hb hg hs hn); clear hb hg hs hn))
      refine bodyPost_ret (HRET.out _ _ _ (S2.out.at 1 rfl) rfl _ rfl) rfl ?_
      exact ⟨got_no HZ.out, S2.out.bel⟩
    · have i2 : decide ((t.fs.length : Int) ≤ p) = false := decide_eq_false h2
      obtain ⟨a, rfl⟩ := Int.eq_ofNat_of_zero_le (show 0 ≤ p by omega)
      have i21 : decide (t.fs.length ≤ a) = false := decide_eq_false (by omega)
      have ha : a < t.fs.length := by omega
      have a0 : (0 : Int) ≤ (a : Int) := by omega
      have a1 : (a : Int) < (t.fs.length : Int) := by omega
      clear h1 h2
      by_cases h3 : fd < 0
      · have i3 : decide (fd < 0) = true := decide_eq_true h3
        have HZ := Lib.hid (has_no3 (t := t) (p := (a : Int)) h3)
        obtain ⟨d0, d1⟩ := cells2 (S1.out.at 0 rfl)
        go_upto_region 2 with (fail)
        clear d0 d1
        have h_r := (S1.out.at 1 rfl)
        go_wp2_with (first | (refine wpList_store_row rfl 39 _ _ rfl _ rfl rfl h_r rfl (by kernel_rfl) rfl ?_; intro W2 hb hg hs hn; have S2 := Lib.hid (S1.out.set 1 rfl hb hg hs hn); clear hb hg hs hn))
        refine bodyPost_ret (HRET.out _ _ _ (S2.out.at 1 rfl) rfl _ rfl) rfl ?_
        exact ⟨got_no HZ.out, S2.out.bel⟩
      · have i3 : decide (fd < 0) = false := decide_eq_false h3
        obtain ⟨m, rfl⟩ := Int.eq_ofNat_of_zero_le (show 0 ≤ fd by omega)
        have m0 : (0 : Int) ≤ (m : Int) := by omega
        clear h3
        obtain ⟨b, off, ar, cr, eaf, _, cR, hR⟩ := TabX.row (S1.out.g 0 rfl) a ha
        subst eaf
        obtain ⟨r, hrow⟩ : ∃ r, r = t.fs[a] := ⟨_, rfl⟩
        rw [← hrow] at cR hR
        have HROW := Lib.hid hrow
        by_cases h4 : (r.length : Int) ≤ (m : Int)
        · have i4 : decide ((r.length : Int) ≤ (m : Int)) = true := decide_eq_true h4
          have i41 : decide (r.length ≤ m) = true := decide_eq_true (by omega)
          have h4b : ((t.fs[a]).length : Int) ≤ (m : Int) := by rw [← hrow]; exact h4
          clear hrow h4
          have HZ := Lib.hid (has_no4 ha h4b)
          obtain ⟨d0, d1⟩ := cells2 (S1.out.at 0 rfl)
          go_upto_region 2 with (fail)
          clear d0 d1
          have h_r := (S1.out.at 1 rfl)
          go_wp2_with (first | (refine wpList_store_row rfl 39 _ _ rfl _ rfl rfl h_r rfl (by kernel_rfl) rfl ?_; intro W2 hb hg hs hn; have S2 := Lib.hid (S1.out.set 1 rfl hb hg hs hn); clear hb hg hs hn))
          refine bodyPost_ret (HRET.out _ _ _ (S2.out.at 1 rfl) rfl _ rfl) rfl ?_
          exact ⟨got_no HZ.out, S2.out.bel⟩
        · have i4 : decide ((r.length : Int) ≤ (m : Int)) = false := decide_eq_false h4
          have i41 : decide (r.length ≤ m) = false := decide_eq_false (by omega)
          have hm : m < r.length := by omega
          have m1 : (m : Int) < (r.length : Int) := by omega
          obtain ⟨b2, off2, ear, cI⟩ := RdX.int hR m hm
          subst ear
          obtain ⟨v, hv⟩ : ∃ v, v = r[m] := ⟨_, rfl⟩
          rw [← hv] at cI
          clear h4
          have hm2 : m < (t.fs[a]).length := by rw [← hrow]; exact hm
          have hv2 : v = (t.fs[a])[m] := by rw [hv]; exact getE_of hrow _ _
          clear hrow hv
          by_cases h5 : v < 0
          · have i5 : decide (v < 0) = true := decide_eq_true h5
            have HZ := Lib.hid (has_no5 ha hm2 (by rw [← hv2]; exact h5))
            obtain ⟨d0, d1⟩ := cells2 (S1.out.at 0 rfl)
            go_upto_region 2 with (fail)
            clear d0 d1
            have h_r := (S1.out.at 1 rfl)
            go_wp2_with (first | (refine wpList_store_row rfl 39 _ _ rfl _ rfl rfl h_r rfl (by kernel_rfl) rfl ?_; intro W2 hb hg hs hn; have S2 := Lib.hid (S1.out.set 1 rfl hb hg hs hn); clear hb hg hs hn))
            refine bodyPost_ret (HRET.out _ _ _ (S2.out.at 1 rfl) rfl _ rfl) rfl ?_
            exact ⟨got_no HZ.out, S2.out.bel⟩
          · have i5 : decide (v < 0) = false := decide_eq_false h5
            have HY := Lib.hid (has_yes ha hm2 (by rw [← hv2]; omega))
            have hat : atR (rowT t (a : Int)) (m : Int) = v := by rw [row_at ha, at_R hm2]; exact hv2.symm
            obtain ⟨i, rfl⟩ := Int.eq_ofNat_of_zero_le (show 0 ≤ v by omega)
            have HI : Hid (i < t.ds.length) := Lib.hid (by obtain ⟨i2, e2, hi2, _⟩ := place_T HRR.out ha (show m < (rowT t (a : Int)).length by rw [row_at ha]; exact hm2) (by rw [hat]; omega); rw [hat] at e2; omega)
            obtain ⟨HP1, HP2⟩ := found_at HY.out hat HI.out
            have HP1 := Lib.hid HP1
            have HP2 := Lib.hid HP2
            clear h5 hv2 hat
            obtain ⟨b3, off3, ead, cD⟩ := TabX.range (S1.out.g 0 rfl) i HI.out
            subst ead
            have q0 : (0 : Int) ≤ (i : Int) := by omega
            have q1 : (i : Int) < (t.ds.length : Int) := by have := HI.out; omega
            obtain ⟨x, hx⟩ : ∃ x, x = t.ds[i]'HI.out := ⟨_, rfl⟩
            rw [← hx] at cD
            rw [← hx] at HP2
            have HX := Lib.hid hx
            clear hx
            obtain ⟨d0, d1⟩ := cells2 (S1.out.at 0 rfl)
            go_upto_region 4 with (fail)
            clear d0 d1
            refine wp_region_held_drew (S := fun W => W.cell? ⟨w.heap.size, 0, none⟩ = some (.slice (some ⟨b3, off3, none⟩) t.ds.length cap) ∧ W.rangeAt b3 (off3 + i * 6) (dcells x) ∧ True) (by kernel_rfl) ⟨(cells2 (S1.out.at 0 rfl)).1, cD, trivial⟩ (fun hHeld => ?_)
            have S2 := Lib.hid (S1.out.call (Below.refl W1.heap.size W1).drew)
            generalize W1.drew = W2 at *
            refine wpAnyH_take (i := 0) (v := ?v1) rfl (by kernel_rfl) (by kernel_rfl) (by kernel_rfl) (fun _ _ _ h => h) (Or.inl ⟨by rfl, ?hy1⟩) hHeld ?rest1
            case hy1 => (intro w hSw; (try dsimp only at hSw); (try go_split_ands); go_simp; first | done | with_reducible rfl)
            (try simp only [List.getElem_toArray]); (try simp only [List.getElem_cons_succ]); (try simp only [List.getElem_cons_zero]); (try simp only [Act.put]); (try simp only [List.setIfInBounds_toArray]); (try simp only [List.set_cons_succ]); (try simp only [List.set_cons_zero])
            refine wpAnyH_take (i := 1) (v := ?v2) rfl (by kernel_rfl) (by kernel_rfl) (by kernel_rfl) (fun _ _ _ h => h) (Or.inl ⟨by rfl, ?hy2⟩) hHeld ?rest2
            case hy2 => (intro w hSw; (try dsimp only at hSw); (try go_split_ands); go_simp; first | done | with_reducible rfl)
            (try simp only [List.getElem_toArray]); (try simp only [List.getElem_cons_succ]); (try simp only [List.getElem_cons_zero]); (try simp only [Act.put]); (try simp only [List.setIfInBounds_toArray]); (try simp only [List.set_cons_succ]); (try simp only [List.set_cons_zero])
            refine wpAnyH_take (i := 2) (v := ?v3) rfl (by kernel_rfl) (by kernel_rfl) (by kernel_rfl) (fun _ _ _ h => h) (Or.inl ⟨by rfl, ?hy3⟩) hHeld ?rest3
            case hy3 => (intro w hSw; (try dsimp only at hSw); (try go_split_ands); go_simp; first | done | with_reducible rfl)
            (try simp only [List.getElem_toArray]); (try simp only [List.getElem_cons_succ]); (try simp only [List.getElem_cons_zero]); (try simp only [Act.put]); (try simp only [List.setIfInBounds_toArray]); (try simp only [List.set_cons_succ]); (try simp only [List.set_cons_zero])
            refine wpAnyH_take (i := 3) (v := ?v4) rfl (by kernel_rfl) (by kernel_rfl) (by kernel_rfl) (fun _ _ _ h => h) (Or.inl ⟨by rfl, ?hy4⟩) hHeld ?rest4
            case hy4 => (intro w hSw; (try dsimp only at hSw); (try go_split_ands); go_simp; first | done | with_reducible rfl)
            (try simp only [List.getElem_toArray]); (try simp only [List.getElem_cons_succ]); (try simp only [List.getElem_cons_zero]); (try simp only [Act.put]); (try simp only [List.setIfInBounds_toArray]); (try simp only [List.set_cons_succ]); (try simp only [List.set_cons_zero])
            refine wpAnyH_take (i := 4) (v := ?v5) rfl (by kernel_rfl) (by kernel_rfl) (by kernel_rfl) (fun _ _ _ h => h) (Or.inl ⟨by rfl, ?hy5⟩) hHeld ?rest5
            case hy5 => (intro w hSw; (try dsimp only at hSw); (try go_split_ands); go_simp; first | done | with_reducible rfl)
            (try simp only [List.getElem_toArray]); (try simp only [List.getElem_cons_succ]); (try simp only [List.getElem_cons_zero]); (try simp only [Act.put]); (try simp only [List.setIfInBounds_toArray]); (try simp only [List.set_cons_succ]); (try simp only [List.set_cons_zero])
            refine wpAnyH_take (i := 5) rfl (by kernel_rfl) (by kernel_rfl) (by kernel_rfl) (fun _ _ _ h => h) (yieldsIf_load_mid (by rfl) 39 _ rfl _ (off3 + i * 6) rfl _ _ (fun _ h => h.2.1) Try.underlying39 rfl (by kernel_rfl)) hHeld ?_
            (try simp only [List.getElem_toArray]); (try simp only [List.getElem_cons_succ]); (try simp only [List.getElem_cons_zero]); (try simp only [Act.put]); (try simp only [List.setIfInBounds_toArray]); (try simp only [List.set_cons_succ]); (try simp only [List.set_cons_zero])
            refine wpAnyH_take (i := 6) (v := ?v6) rfl (by kernel_rfl) (by kernel_rfl) (by kernel_rfl) (fun _ _ _ h => h) (Or.inl ⟨by rfl, ?hy6⟩) hHeld ?rest6
            case hy6 => (intro w hSw; (try dsimp only at hSw); (try go_split_ands); go_simp; first | done | with_reducible rfl)
            (try simp only [List.getElem_toArray]); (try simp only [List.getElem_cons_succ]); (try simp only [List.getElem_cons_zero]); (try simp only [Act.put]); (try simp only [List.setIfInBounds_toArray]); (try simp only [List.set_cons_succ]); (try simp only [List.set_cons_zero])
            refine wpAnyH_ready (rs := [7]) (by kernel_rfl) (by simp) ?_
            refine AllReadyH.cons rfl (fun K hK => ?_) AllReadyH.nil
            rw [if_pos (by rfl)]
            refine wp_store_row 39 _ _ rfl _ rfl rfl (S2.out.at 1 rfl) rfl (by kernel_rfl) rfl ?_
            intro W3 hb hg hs hn
            skip
            have S3 := Lib.hid (S2.out.set 1 rfl hb hg hs hn)
            obtain ⟨b4, off4, ead4, cD4⟩ := TabX.range (S3.out.g 0 rfl) i HI.out
            injection ead4 with ead4
            injection ead4 with eb4 eo4
            subst eb4
            subst eo4
            clear hb hg hs hn
            refine hK.out _ _ ⟨(cells2 (S3.out.at 0 rfl)).1, (by rw [HX.out]; exact cD4), trivial⟩ (fun hHeld => ?_)
            clear hK K
            (try simp only [List.getElem_toArray]); (try simp only [List.getElem_cons_succ]); (try simp only [List.getElem_cons_zero]); (try simp only [Act.put]); (try simp only [List.setIfInBounds_toArray]); (try simp only [List.set_cons_succ]); (try simp only [List.set_cons_zero])
            refine wpAnyH_take (i := 8) (v := ?v7) rfl (by kernel_rfl) (by kernel_rfl) (by kernel_rfl) (fun _ _ _ h => h) (Or.inl ⟨by rfl, ?hy7⟩) hHeld ?rest7
            case hy7 => (intro w hSw; (try dsimp only at hSw); (try go_split_ands); go_simp; first | done | with_reducible rfl)
            (try simp only [List.getElem_toArray]); (try simp only [List.getElem_cons_succ]); (try simp only [List.getElem_cons_zero]); (try simp only [Act.put]); (try simp only [List.setIfInBounds_toArray]); (try simp only [List.set_cons_succ]); (try simp only [List.set_cons_zero])
            refine wpAnyH_done (by kernel_rfl) ?_ _
            go_wp2_with fail
            refine bodyPost_ret (HRET.out _ _ _ (S3.out.at 1 rfl) rfl _ rfl) rfl ?_
            refine ⟨?_, S3.out.bel⟩
            unfold GotIs
            rw [HP1.out, HP2.out, HY.out]
            rfl
def SizeT (t : TabL) : Prop := t.ds.length ≤ 1000 ∧ t.fs.length ≤ 20 ∧ ∀ r ∈ t.fs, r.length ≤ 20
theorem count_step (r : List Int) (k : Nat) (h : k < r.length) : countR (r.take (k + 1)) = countR (r.take k) + if 0 ≤ r[k] then 1 else 0 := by
  unfold countR
  rw [List.take_succ_eq_append_getElem h, List.countP_append, List.countP_singleton]
  simp only [decide_eq_true_eq]
theorem count_le (r : List Int) : countR r ≤ r.length := List.countP_le_length
theorem first_next {r : List Int} {k : Nat} (hk : k < r.length) (h1 : k ≤ firstR r) (h2 : 0 ≤ r[k]) : k + 1 ≤ firstR r := by
  rcases Nat.lt_or_ge k (firstR r) with h | h
  · exact h
  · have e : firstR r = k := by omega
    have h3 := first_lt (r := r) (by omega)
    simp only [e] at h3
    omega
theorem first_here {r : List Int} {k : Nat} (hk : k < r.length) (h1 : k ≤ firstR r) (h2 : r[k] < 0) : firstR r = k := by
  rcases Nat.lt_or_ge k (firstR r) with h | h
  · obtain ⟨_, h3⟩ := first_min h
    omega
  · omega
def firstT (t : TabL) (a : Nat) : Int := if firstR (rowT t a) < (rowT t a).length then firstR (rowT t a) else -1
set_option maxRecDepth 100000 in
set_option maxHeartbeats 4000000 in
theorem rfirst_c {X : Nat → Prop} (t : TabL) (ad af : Option Addr) (cap capf : Nat) (w : World) (hT : TabX t (.slice ad t.ds.length cap) (.slice af t.fs.length capf) X w) (a : Nat) (ha : a < t.fs.length) (hz : SizeT t) :
    Calls Try.prog 37 #[tabV ad t.ds.length cap af t.fs.length capf, .int .i64 (a : Int)] w fun e w' => e = .returned (.int .i64 (firstT t a)) ∧ Below w.heap.size w w' := by
  have S0 := Lib.hid (Sf.start (w := w) (X := fun _ => False) (G := [TabX t (.slice ad t.ds.length cap) (.slice af t.fs.length capf)]) (fun _ h => h.elim) (th1 (TabX.firm _ _ _) ((TabX.firm _ _ _).sub hT fun _ h => h.elim)))
  have hzr := hz.2.2 _ (List.getElem_mem ha)
  have HFT : Hid (firstT t a = if firstR (t.fs[a]) < (t.fs[a]).length then (firstR (t.fs[a]) : Int) else -1) := Lib.hid (by unfold firstT; rw [row_at ha])
  clear hT hz
  go_enter Try.func37, Try.ntmps37
  go_upto_region 1 with (fail)
  refine code_fresh1 ?_
  intro W1 hb hA0 hs
  have S1 := Lib.hid (S0.out.new1 hb hA0)
  clear hb hA0 hs
  obtain ⟨b, off, ar, cr, eaf, _, cR, hR⟩ := TabX.row (S1.out.g 0 rfl) a ha
  subst eaf
  obtain ⟨r, hrow⟩ : ∃ r, r = t.fs[a] := ⟨_, rfl⟩
  rw [← hrow] at cR hR HFT hzr
  have a0 : (0 : Int) ≤ (a : Int) := by omega
  have a1 : (a : Int) < (t.fs.length : Int) := by omega
  clear hrow
  obtain ⟨d0, d1⟩ := cells2 (S1.out.at 0 rfl)
  go_wp2_with fail
  go_loop [5] (fun i => ∃ k : Nat, i = .int .i64 k ∧ k ≤ r.length ∧ k ≤ firstR r) (fun i => r.length - (RowKit.intOf i).toNat)
  case atStart => exact ⟨0, rfl, Nat.zero_le _, Nat.zero_le _⟩
  case round =>
    obtain ⟨k, rfl, hk, hkf⟩ := hrel
    by_cases hlt : k < r.length
    · have iL : decide (k < r.length) = true := decide_eq_true hlt
      have iL2 : decide ((k : Int) < (r.length : Int)) = true := decide_eq_true (by omega)
      obtain ⟨b2, off2, ear, cI⟩ := RdX.int hR k hlt
      subst ear
      obtain ⟨v, hv⟩ : ∃ v, v = r[k] := ⟨_, rfl⟩
      rw [← hv] at cI
      have k0 : (0 : Int) ≤ (k : Int) := by omega
      have k1 : (k : Int) < (r.length : Int) := by omega
      have w1 : IntKind.i64.wrap ((k : Int) + 1) = (k : Int) + 1 := Go.IntWalk.i64_in _ (by omega)
      by_cases h5 : v < 0
      · have i5 : decide (v < 0) = true := decide_eq_true h5
        have HF := Lib.hid (first_here hlt hkf (by rw [← hv]; exact h5))
        clear hv hkf h5
        go_wp2_with fail
        go_ret
        refine ⟨?_, S1.out.bel⟩
        rw [HFT.out, HF.out, if_pos (by omega)]
        rfl
      · have i5 : decide (v < 0) = false := decide_eq_false h5
        have HF := Lib.hid (first_next hlt hkf (by rw [← hv]; omega))
        clear hv hkf h5
        go_wp2_with fail
        go_round
        case rel => exact ⟨k + 1, by go_num, hlt, HF.out⟩
        case measure => simp [RowKit.intOf]; omega
    · have iL : decide (k < r.length) = false := decide_eq_false hlt
      have iL2 : decide ((k : Int) < (r.length : Int)) = false := decide_eq_false (by omega)
      have HF : Hid (¬ firstR r < r.length) := Lib.hid (by omega)
      clear hlt
      go_wp2_with fail
      go_ret
      refine ⟨?_, S1.out.bel⟩
      rw [HFT.out, if_neg HF.out]
      rfl
set_option maxRecDepth 100000 in
set_option maxHeartbeats 4000000 in
theorem rcount_c {X : Nat → Prop} (t : TabL) (ad af : Option Addr) (cap capf : Nat) (w : World) (hT : TabX t (.slice ad t.ds.length cap) (.slice af t.fs.length capf) X w) (p : Int) (hz : SizeT t) :
    Calls Try.prog 23 #[tabV ad t.ds.length cap af t.fs.length capf, .int .i64 p] w fun e w' => e = .returned (.int .i64 (countT t p)) ∧ Below w.heap.size w w' := by
  have S0 := Lib.hid (Sf.start (w := w) (X := fun _ => False) (G := [TabX t (.slice ad t.ds.length cap) (.slice af t.fs.length capf)]) (fun _ h => h.elim) (th1 (TabX.firm _ _ _) ((TabX.firm _ _ _).sub hT fun _ h => h.elim)))
  have HZ := Lib.hid hz
  clear hT hz
  go_enter Try.func23, Try.ntmps23
  go_upto_region 1 with (fail)
  refine code_fresh1 ?_
  intro W1 hb hA0 hs
  have S1 := Lib.hid (S0.out.new1 hb hA0)
  clear hb hA0 hs
  obtain ⟨d0, d1⟩ := cells2 (S1.out.at 0 rfl)
  by_cases h1 : p < 0
  · have i1 : decide (p < 0) = true := decide_eq_true h1
    have HC : Hid (countT t p = 0) := Lib.hid (by unfold countT inT; rw [decide_eq_false (show ¬ 0 ≤ p by omega)]; rfl)
    go_wp2_with fail
    go_ret
    exact ⟨by rw [HC.out]; rfl, S1.out.bel⟩
  · have i1 : decide (p < 0) = false := decide_eq_false h1
    by_cases h2 : (t.fs.length : Int) ≤ p
    · have i2 : decide ((t.fs.length : Int) ≤ p) = true := decide_eq_true h2
      have HC : Hid (countT t p = 0) := Lib.hid (by unfold countT inT; rw [decide_eq_false (show ¬ p < (t.fs.length : Int) by omega)]; simp)
      go_wp2_with fail
      go_ret
      exact ⟨by rw [HC.out]; rfl, S1.out.bel⟩
    · have i2 : decide ((t.fs.length : Int) ≤ p) = false := decide_eq_false h2
      obtain ⟨a, rfl⟩ := Int.eq_ofNat_of_zero_le (show 0 ≤ p by omega)
      have i21 : decide (t.fs.length ≤ a) = false := decide_eq_false (by omega)
      have ha : a < t.fs.length := by omega
      have a0 : (0 : Int) ≤ (a : Int) := by omega
      have a1 : (a : Int) < (t.fs.length : Int) := by omega
      clear h1 h2
      have HC : Hid (countT t a = countR (t.fs[a])) := Lib.hid (by unfold countT inT; rw [decide_eq_true (show (0 : Int) ≤ (a : Int) by omega), decide_eq_true (show (a : Int) < (t.fs.length : Int) by omega), row_at ha]; rfl)
      have hzr := HZ.out.2.2 _ (List.getElem_mem ha)
      obtain ⟨b, off, ar, cr, eaf, _, cR, hR⟩ := TabX.row (S1.out.g 0 rfl) a ha
      subst eaf
      obtain ⟨r, hrow⟩ : ∃ r, r = t.fs[a] := ⟨_, rfl⟩
      rw [← hrow] at cR hR HC hzr
      clear hrow
      go_wp2_with fail
      go_loop [5, 6] (fun n i => ∃ k : Nat, i = .int .i64 k ∧ k ≤ r.length ∧ n = .int .i64 (countR (r.take k) : Nat)) (fun _ i => r.length - (RowKit.intOf i).toNat)
      case atStart => exact ⟨0, rfl, Nat.zero_le _, rfl⟩
      case round =>
        obtain ⟨k, rfl, hk, rfl⟩ := hrel
        by_cases hlt : k < r.length
        · have iL : decide (k < r.length) = true := decide_eq_true hlt
          have iL2 : decide ((k : Int) < (r.length : Int)) = true := decide_eq_true (by omega)
          obtain ⟨b2, off2, ear, cI⟩ := RdX.int hR k hlt
          subst ear
          obtain ⟨v, hv⟩ : ∃ v, v = r[k] := ⟨_, rfl⟩
          have HS := Lib.hid (count_step r k hlt)
          have hle : countR (r.take k) ≤ 20 := Nat.le_trans (count_le _) (by rw [List.length_take]; omega)
          rw [← hv] at cI HS
          have k0 : (0 : Int) ≤ (k : Int) := by omega
          have k1 : (k : Int) < (r.length : Int) := by omega
          have w1 : IntKind.i64.wrap ((k : Int) + 1) = (k : Int) + 1 := Go.IntWalk.i64_in _ (by omega)
          obtain ⟨c, hc⟩ : ∃ c, c = countR (r.take k) := ⟨_, rfl⟩
          rw [← hc] at HS hle ⊢
          have w2 : IntKind.i64.wrap ((c : Int) + 1) = (c : Int) + 1 := Go.IntWalk.i64_in _ (by omega)
          by_cases h5 : 0 ≤ v
          · have i5 : decide (0 ≤ v) = true := decide_eq_true h5
            have HS2 := Lib.hid (HS.out.trans (by rw [if_pos h5]))
            clear hv h5 hc
            go_wp2_with fail
            go_round
            case rel => exact ⟨k + 1, by go_num, hlt, by rw [HS2.out]; go_num⟩
            case measure => simp [RowKit.intOf]; omega
          · have i5 : decide (0 ≤ v) = false := decide_eq_false h5
            have HS2 := Lib.hid (HS.out.trans (by rw [if_neg h5]))
            clear hv h5 hc
            go_wp2_with fail
            go_round
            case rel => exact ⟨k + 1, by go_num, hlt, by rw [HS2.out]; rfl⟩
            case measure => simp [RowKit.intOf]; omega
        · have iL : decide (k < r.length) = false := decide_eq_false hlt
          have iL2 : decide ((k : Int) < (r.length : Int)) = false := decide_eq_false (by omega)
          have HF : Hid (r.take k = r) := Lib.hid (List.take_of_length_le (by omega))
          clear hlt
          go_wp2_with fail
          go_ret
          refine ⟨?_, S1.out.bel⟩
          rw [HC.out, HF.out]
          rfl
end Go.Proofs.Ytbcmhjgjcknfmaa
