/-
  The program's hasProc, hasDesc, slices.Index, vacant, Get, Count.
-/
import Derived.Test.YtbcmhjgjcknfmaaHdlRefC
namespace Go.Proofs.Ytbcmhjgjcknfmaa
open Go.RowKit Go.Shelf
attribute [local go_sem ↓] Go.wp_at_zero Go.wp_at_succ

def inD (t : TabL) (i : Int) : Bool := decide (0 ≤ i) && decide (i < t.ds.length)
set_option maxRecDepth 100000 in
set_option maxHeartbeats 4000000 in
theorem phas_c {X : Nat → Prop} (t : TabL) (ad af : Option Addr) (cap capf : Nat) (w : World) (hT : TabX t (.slice ad t.ds.length cap) (.slice af t.fs.length capf) X w) (p : Int) :
    Calls Try.prog 33 #[tabV ad t.ds.length cap af t.fs.length capf, .int .i64 p] w fun e w' => e = .returned (.bool (inT t p)) ∧ Below w.heap.size w w' := by
  have S0 := Lib.hid (Sf.start (w := w) (X := fun _ => False) (G := [TabX t (.slice ad t.ds.length cap) (.slice af t.fs.length capf)]) (fun _ h => h.elim) (th1 (TabX.firm _ _ _) ((TabX.firm _ _ _).sub hT fun _ h => h.elim)))
  clear hT
  go_enter Try.func33, Try.ntmps33
  go_upto_region 1 with (fail)
  refine code_fresh1 ?_
  intro W1 hb hA0 hs
  have S1 := Lib.hid (S0.out.new1 hb hA0)
  clear hb hA0 hs
  obtain ⟨d0, d1⟩ := cells2 (S1.out.at 0 rfl)
  by_cases h1 : p < 0
  · have i1 : decide (0 ≤ p) = false := decide_eq_false (by omega)
    have HB : Hid ((inT t p) = false) := Lib.hid (by unfold inT; rw [i1]; rfl)
    go_wp2_with fail
    go_ret
    exact ⟨by rw [HB.out]; rfl, S1.out.bel⟩
  · have i1 : decide (0 ≤ p) = true := decide_eq_true (by omega)
    obtain ⟨a, rfl⟩ := Int.eq_ofNat_of_zero_le (show 0 ≤ p by omega)
    have a0 : (0 : Int) ≤ (a : Int) := by omega
    clear h1
    by_cases h2 : a < t.fs.length
    · have iL1 : decide (a < t.fs.length) = true := decide_eq_true (by omega)
      have iM1 : decide ((a : Int) < (t.fs.length : Int)) = true := decide_eq_true (by omega)
      have HB : Hid ((inT t (a : Int)) = true) := Lib.hid (by unfold inT; rw [iM1, i1]; rfl)
      clear i1 h2
      go_wp2_with fail
      go_ret
      exact ⟨by rw [HB.out]; rfl, S1.out.bel⟩
    · have iL1 : decide (a < t.fs.length) = false := decide_eq_false (by omega)
      have iM1 : decide ((a : Int) < (t.fs.length : Int)) = false := decide_eq_false (by omega)
      have HB : Hid ((inT t (a : Int)) = false) := Lib.hid (by unfold inT; rw [iM1, i1]; rfl)
      clear i1 h2
      go_wp2_with fail
      go_ret
      exact ⟨by rw [HB.out]; rfl, S1.out.bel⟩
set_option maxRecDepth 100000 in
set_option maxHeartbeats 4000000 in
theorem phasD_c {X : Nat → Prop} (t : TabL) (ad af : Option Addr) (cap capf : Nat) (w : World) (hT : TabX t (.slice ad t.ds.length cap) (.slice af t.fs.length capf) X w) (p : Int) :
    Calls Try.prog 39 #[tabV ad t.ds.length cap af t.fs.length capf, .int .i64 p] w fun e w' => e = .returned (.bool (inD t p)) ∧ Below w.heap.size w w' := by
  have S0 := Lib.hid (Sf.start (w := w) (X := fun _ => False) (G := [TabX t (.slice ad t.ds.length cap) (.slice af t.fs.length capf)]) (fun _ h => h.elim) (th1 (TabX.firm _ _ _) ((TabX.firm _ _ _).sub hT fun _ h => h.elim)))
  clear hT
  go_enter Try.func39, Try.ntmps39
  go_upto_region 1 with (fail)
  refine code_fresh1 ?_
  intro W1 hb hA0 hs
  have S1 := Lib.hid (S0.out.new1 hb hA0)
  clear hb hA0 hs
  obtain ⟨d0, d1⟩ := cells2 (S1.out.at 0 rfl)
  by_cases h1 : p < 0
  · have i1 : decide (0 ≤ p) = false := decide_eq_false (by omega)
    have HB : Hid ((inD t p) = false) := Lib.hid (by unfold inD; rw [i1]; rfl)
    go_wp2_with fail
    go_ret
    exact ⟨by rw [HB.out]; rfl, S1.out.bel⟩
  · have i1 : decide (0 ≤ p) = true := decide_eq_true (by omega)
    obtain ⟨a, rfl⟩ := Int.eq_ofNat_of_zero_le (show 0 ≤ p by omega)
    have a0 : (0 : Int) ≤ (a : Int) := by omega
    clear h1
    by_cases h2 : a < t.ds.length
    · have iL1 : decide (a < t.ds.length) = true := decide_eq_true (by omega)
      have iM1 : decide ((a : Int) < (t.ds.length : Int)) = true := decide_eq_true (by omega)
      have HB : Hid ((inD t (a : Int)) = true) := Lib.hid (by unfold inD; rw [iM1, i1]; rfl)
      clear i1 h2
      go_wp2_with fail
      go_ret
      exact ⟨by rw [HB.out]; rfl, S1.out.bel⟩
    · have iL1 : decide (a < t.ds.length) = false := decide_eq_false (by omega)
      have iM1 : decide ((a : Int) < (t.ds.length : Int)) = false := decide_eq_false (by omega)
      have HB : Hid ((inD t (a : Int)) = false) := Lib.hid (by unfold inD; rw [iM1, i1]; rfl)
      clear i1 h2
      go_wp2_with fail
      go_ret
      exact ⟨by rw [HB.out]; rfl, S1.out.bel⟩
/-- The place of the first -1, in a row of places and -1. -/
def firstI (r : List Int) : Int := if firstR r < r.length then firstR r else -1
theorem first_next1 {r : List Int} (hr : ∀ x ∈ r, -1 ≤ x) {k : Nat} (hk : k < r.length) (h1 : k ≤ firstR r) (h2 : r[k] ≠ -1) : k + 1 ≤ firstR r :=
  first_next hk h1 (by have := hr _ (List.getElem_mem hk); omega)
set_option maxRecDepth 100000 in
set_option maxHeartbeats 4000000 in
theorem index_c {X : Nat → Prop} (r : List Int) (ar : Option Addr) (cr : Nat) (w : World) (hR : RdX 1 (.slice ar r.length cr) r.length (intC r) X w) (hr : ∀ x ∈ r, -1 ≤ x) (hz : r.length ≤ 20) :
    Calls Try.prog 34 #[.slice ar r.length cr, .int .i64 (-1)] w fun e w' => e = .returned (.int .i64 (firstI r)) ∧ Below w.heap.size w w' := by
  have HB := Lib.hid (Below.refl w.heap.size w)
  go_enter Try.func34, Try.ntmps34
  go_wp2_with fail
  go_loop [8] (fun i => ∃ k : Nat, i = .int .i64 k ∧ k ≤ r.length ∧ k ≤ firstR r) (fun i => r.length - (RowKit.intOf i).toNat)
  case atStart => exact ⟨0, rfl, Nat.zero_le _, Nat.zero_le _⟩
  case round =>
    obtain ⟨k, rfl, hk, hkf⟩ := hrel
    by_cases hlt : k < r.length
    · have iL1 : decide (k < r.length) = true := decide_eq_true (by omega)
      have iM1 : decide ((k : Int) < (r.length : Int)) = true := decide_eq_true (by omega)
      obtain ⟨b2, off2, ear, cI⟩ := RdX.int hR k hlt
      subst ear
      obtain ⟨v, hv⟩ : ∃ v, v = r[k] := ⟨_, rfl⟩
      rw [← hv] at cI
      have k0 : (0 : Int) ≤ (k : Int) := by omega
      have k1 : (k : Int) < (r.length : Int) := by omega
      have wk : IntKind.i64.wrap ((k : Int) + 1) = (k : Int) + 1 := Go.IntWalk.i64_in _ (by omega)
      by_cases h5 : v = -1
      · have i5 : decide (-1 = v) = true := decide_eq_true h5.symm
        have i6 : ((-1 : Int) == v) = true := by rw [h5]; rfl
        have HF := Lib.hid (first_here hlt hkf (by rw [← hv]; omega))
        have HFI : Hid (firstI r = (k : Int)) := Lib.hid (by unfold firstI; rw [HF.out, if_pos hlt])
        subst h5
        clear hv hkf
        go_wp2_with fail
        go_ret
        exact ⟨by rw [HFI.out]; rfl, HB.out⟩
      · have i5 : decide (-1 = v) = false := decide_eq_false (Ne.symm h5)
        have i6 : ((-1 : Int) == v) = false := by rw [beq_eq_false_iff_ne]; exact Ne.symm h5
        have HF := Lib.hid (first_next1 hr hlt hkf (by rw [← hv]; exact h5))
        clear hv hkf h5
        go_wp2_with fail
        go_round
        case rel => exact ⟨k + 1, by go_num, hlt, HF.out⟩
        case measure => simp [RowKit.intOf]; omega
    · have iL1 : decide (k < r.length) = false := decide_eq_false (by omega)
      have iM1 : decide ((k : Int) < (r.length : Int)) = false := decide_eq_false (by omega)
      have HFI : Hid (firstI r = -1) := Lib.hid (by unfold firstI; rw [if_neg (by omega)])
      clear hlt
      go_wp2_with fail
      go_ret
      exact ⟨by rw [HFI.out]; rfl, HB.out⟩
theorem pfree_next {ds : List DescL} {j : Nat} (hj : j < ds.length) (h1 : j ≤ freeD ds) (h2 : 0 < ds[j].refs) : j + 1 ≤ freeD ds := by
  rcases Nat.lt_or_ge j (freeD ds) with h | h
  · exact h
  · have e : freeD ds = j := by omega
    have h3 := free_lt (ds := ds) (by omega)
    simp only [e] at h3
    omega
theorem pfree_here {ds : List DescL} {j : Nat} (hj : j < ds.length) (h1 : j ≤ freeD ds) (h2 : ds[j].refs ≤ 0) : freeD ds = j := by
  rcases Nat.lt_or_ge j (freeD ds) with h | h
  · exfalso
    have h3 : (fun d : DescL => decide (d.refs ≤ 0)) ds[j] = false := by simpa using List.not_of_lt_findIdx h
    simp at h3
    omega
  · omega
set_option maxRecDepth 100000 in
set_option maxHeartbeats 4000000 in
theorem pvacant_c {X : Nat → Prop} (t : TabL) (ad af : Option Addr) (cap capf : Nat) (w : World) (hT : TabX t (.slice ad t.ds.length cap) (.slice af t.fs.length capf) X w) (hz : SizeT t) (hn : ∀ d ∈ t.ds, 0 ≤ d.refs) :
    Calls Try.prog 35 #[tabV ad t.ds.length cap af t.fs.length capf] w fun e w' => e = .returned (.int .i64 (freeD t.ds)) ∧ Below w.heap.size w w' := by
  have S0 := Lib.hid (Sf.start (w := w) (X := fun _ => False) (G := [TabX t (.slice ad t.ds.length cap) (.slice af t.fs.length capf)]) (fun _ h => h.elim) (th1 (TabX.firm _ _ _) ((TabX.firm _ _ _).sub hT fun _ h => h.elim)))
  have HZ := Lib.hid hz
  clear hT hz
  go_enter Try.func35, Try.ntmps35
  go_upto_region 1 with (fail)
  refine code_fresh1 ?_
  intro W1 hb hA0 hs
  have S1 := Lib.hid (S0.out.new1 hb hA0)
  clear hb hA0 hs
  obtain ⟨d0, d1⟩ := cells2 (S1.out.at 0 rfl)
  go_wp2_with fail
  go_loopw [8] (fun i wr => ∃ k : Nat, i = .int .i64 k ∧ k ≤ t.ds.length ∧ k ≤ freeD t.ds ∧ Hid (Sf (fun _ => False) w [(w.heap.size, #[.slice ad t.ds.length cap, .slice af t.fs.length capf], 25)] [TabX t (.slice ad t.ds.length cap) (.slice af t.fs.length capf)] wr)) (fun i _ => t.ds.length - (RowKit.intOf i).toNat)
  case atStart => exact ⟨0, rfl, Nat.zero_le _, Nat.zero_le _, S1⟩
  case round =>
    clear S1 d0 d1
    obtain ⟨k, rfl, hk, hkf, S6⟩ := hrel
    have hl1 : t.ds.length ≤ 1000 := HZ.out.1
    by_cases hlt : k < t.ds.length
    · have iL1 : decide (k < t.ds.length) = true := decide_eq_true (by omega)
      have iM1 : decide ((k : Int) < (t.ds.length : Int)) = true := decide_eq_true (by omega)
      have k0 : (0 : Int) ≤ (k : Int) := by omega
      have k1 : (k : Int) < (t.ds.length : Int) := by omega
      have wk : IntKind.i64.wrap ((k : Int) + 1) = (k : Int) + 1 := Go.IntWalk.i64_in _ (by omega)
      obtain ⟨b, off, ead, cD⟩ := TabX.range (S6.out.g 0 rfl) k hlt
      subst ead
      obtain ⟨y, hy⟩ : ∃ y, y = t.ds[k] := ⟨_, rfl⟩
      rw [← hy] at cD
      have hyn : 0 ≤ y.refs := by rw [hy]; exact hn _ (List.getElem_mem hlt)
      have HYE := Lib.hid hy
      clear hy
      go_upto_region 4 with (first | (refine wpList_load_mid rfl 27 _ rfl _ (off + k * 6) rfl _ _ cD Try.underlying27 rfl (by kernel_rfl) ?_) | (refine wpList_fresh1 ?_; intro W7 hb hn hs; have S7 := Lib.hid (S6.out.new1 hb hn); have h_x := S7.out.at 1 rfl; clear hb hn hs) | (refine wpList_store_row rfl 27 _ _ rfl _ rfl rfl h_x rfl (by kernel_rfl) rfl ?_; intro W8 hb hg hs hn; have S8 := Lib.hid (S7.out.set 1 rfl hb hg hs hn); clear hb hg hs hn))
      obtain ⟨-, -, -, -, x4, -⟩ := cells6 (S8.out.at 1 rfl)
      by_cases h5 : y.refs = 0
      · have HF := Lib.hid (pfree_here hlt hkf (by rw [← HYE.out]; omega))
        rw [h5] at x4
        clear cD hkf
        go_wp2_with fail
        go_ret
        exact ⟨by rw [HF.out]; rfl, S8.out.bel⟩
      · have i5 : decide (y.refs = 0) = false := decide_eq_false h5
        have i6 : (y.refs == 0) = false := by rw [beq_eq_false_iff_ne]; exact h5
        have HF := Lib.hid (pfree_next hlt hkf (by rw [← HYE.out]; omega))
        clear cD hkf h5
        go_wp2_with fail
        go_roundw
        case rel => exact ⟨k + 1, by go_num, hlt, HF.out, Lib.hid (S8.out.leave (by simp))⟩
        case measure => simp [RowKit.intOf]; omega
    · have iL1 : decide (k < t.ds.length) = false := decide_eq_false (by omega)
      have iM1 : decide ((k : Int) < (t.ds.length : Int)) = false := decide_eq_false (by omega)
      have HF : Hid (freeD t.ds = t.ds.length) := Lib.hid (by have := free_le t.ds; omega)
      clear hlt
      obtain ⟨d0, d1⟩ := cells2 (S6.out.at 0 rfl)
      go_wp2_with fail
      go_ret
      exact ⟨by rw [HF.out]; rfl, S6.out.bel⟩
end Go.Proofs.Ytbcmhjgjcknfmaa
