/-
  The program's hasProc, hasDesc, slices.Index, vacant, Get, Count.
-/
import Derived.Test.YtfcjmcenaankfaaHdlRefC
namespace Go.Proofs.Ytfcjmcenaankfaa
open Go.RowKit Go.Shelf
attribute [local go_sem ↓] Go.wp_at_zero Go.wp_at_succ

def inD (t : TabL) (i : Int) : Bool := decide (0 ≤ i) && decide (i < t.ds.length)
set_option maxRecDepth 100000 in
set_option maxHeartbeats 4000000 in
theorem phasD_c {X : Nat → Prop} (t : TabL) (ad af : Option Addr) (cap capf : Nat) (w : World) (hT : TabX t (.slice ad t.ds.length cap) (.slice af t.fs.length capf) X w) (p : Int) :
    Calls Try.prog 29 #[tabV ad t.ds.length cap af t.fs.length capf, .int .i64 p] w fun e w' => e = .returned (.bool (inD t p)) ∧ Below w.heap.size w w' := by
  have S0 := Lib.hid (Sf.start (w := w) (X := fun _ => False) (G := [TabX t (.slice ad t.ds.length cap) (.slice af t.fs.length capf)]) (fun _ h => h.elim) (th1 (TabX.firm _ _ _) ((TabX.firm _ _ _).sub hT fun _ h => h.elim)))
  clear hT
  go_enter Try.func29, Try.ntmps29
  go_upto_region 1 with (fail)
  refine code_fresh1 ?_
  intro W1 hb hA0 hs
  have S1 := Lib.hid (S0.out.new1 hb hA0)
  clear hb hA0 hs
  obtain ⟨d0, d1⟩ := cells2 (S1.out.at 0 rfl)
  by_cases h1 : p < 0
  · have i1 : decide (0 ≤ p) = false := decide_eq_false (by omega)
    have HB : Hid ((inD t p) = false) := Lib.hid (by unfold inD; rw [i1]; rfl)
    go_wp2_with fail
    go_ret
    exact ⟨by rw [HB.out]; rfl, S1.out.bel⟩
  · have i1 : decide (0 ≤ p) = true := decide_eq_true (by omega)
    obtain ⟨a, rfl⟩ := Int.eq_ofNat_of_zero_le (show 0 ≤ p by omega)
    have a0 : (0 : Int) ≤ (a : Int) := by omega
    clear h1
    by_cases h2 : a < t.ds.length
    · have iL1 : decide (a < t.ds.length) = true := decide_eq_true (by omega)
      have iM1 : decide ((a : Int) < (t.ds.length : Int)) = true := decide_eq_true (by omega)
      have HB : Hid ((inD t (a : Int)) = true) := Lib.hid (by unfold inD; rw [iM1, i1]; rfl)
      clear i1 h2
      go_wp2_with fail
      go_ret
      exact ⟨by rw [HB.out]; rfl, S1.out.bel⟩
    · have iL1 : decide (a < t.ds.length) = false := decide_eq_false (by omega)
      have iM1 : decide ((a : Int) < (t.ds.length : Int)) = false := decide_eq_false (by omega)
      have HB : Hid ((inD t (a : Int)) = false) := Lib.hid (by unfold inD; rw [iM1, i1]; rfl)
      clear i1 h2
      go_wp2_with fail
      go_ret
      exact ⟨by rw [HB.out]; rfl, S1.out.bel⟩
/-- The place of the first -1, in a row of places and -1. -/
def firstI (r : List Int) : Int := if firstR r < r.length then firstR r else -1
theorem first_next1 {r : List Int} (hr : ∀ x ∈ r, -1 ≤ x) {k : Nat} (hk : k < r.length) (h1 : k ≤ firstR r) (h2 : r[k] ≠ -1) : k + 1 ≤ firstR r :=
  first_next hk h1 (by have := hr _ (List.getElem_mem hk); omega)
theorem pfree_next {ds : List DescL} {j : Nat} (hj : j < ds.length) (h1 : j ≤ freeD ds) (h2 : 0 < ds[j].refs) : j + 1 ≤ freeD ds := by
  rcases Nat.lt_or_ge j (freeD ds) with h | h
  · exact h
  · have e : freeD ds = j := by omega
    have h3 := free_lt (ds := ds) (by omega)
    simp only [e] at h3
    omega
theorem pfree_here {ds : List DescL} {j : Nat} (hj : j < ds.length) (h1 : j ≤ freeD ds) (h2 : ds[j].refs ≤ 0) : freeD ds = j := by
  rcases Nat.lt_or_ge j (freeD ds) with h | h
  · exfalso
    have h3 : (fun d : DescL => decide (d.refs ≤ 0)) ds[j] = false := by simpa using List.not_of_lt_findIdx h
    simp at h3
    omega
  · omega
end Go.Proofs.Ytfcjmcenaankfaa
