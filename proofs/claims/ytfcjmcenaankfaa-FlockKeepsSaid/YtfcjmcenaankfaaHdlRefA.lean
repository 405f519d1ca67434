/-
  The document's Get, Count, first: what is read of a table.
-/
import Derived.Test.YtfcjmcenaankfaaHdlMem
import Derived.Deep.RegionHeld3
import Derived.WalkMore
import Derived.Deep.DrawnRows
import Derived.Laws.Cover1
import Derived.Lib.Bytealg
import Derived.Test.YtfcjmcenaankfaaProg
namespace Go.Proofs.Ytfcjmcenaankfaa
open Go.RowKit Go.Shelf
attribute [local go_sem ↓] Go.wp_at_zero Go.wp_at_succ

/-- A slot, a struct and a slot as results. -/
theorem results_tct {P : Program} {fn : Func} {p u v : Tmp} {ty : TypeId} (h : fn.results = #[.tmp u, .cell p ty, .tmp v]) (tmps : Array Value) (w : World) (g : Nat) (t : TypeId) (cs : Array Value) (fr : Nat × Nat) (d : TypeDesc)
    (hp : tmps.getD p undef = .pointer (some ⟨g, 0, none⟩)) (hg : w.heap[g]? = some (.cells cs t fr)) (hu : P.underlying ty = some d) (hd : (match d with | .struct _ | .array _ _ => true | _ => false) = true) (hi : (P.info? ty).map (·.size) = some cs.size) :
    (results fn tmps).run P w = .ok (.tuple #[tmps.getD u undef, .agg cs, tmps.getD v undef]) w := by
  have hp' : tmps[p]?.getD undef = .pointer (some ⟨g, 0, none⟩) := by simpa using hp
  simp [results, h, hp', asAddr, run_loadVar_row w g t ty cs fr d hg hu hd hi, Result.andThen]
theorem TabX.range {t : TabL} {X : Nat → Prop} {W : World} {ad af : Option Addr} {cap capf : Nat} (h : TabX t (.slice ad t.ds.length cap) (.slice af t.fs.length capf) X W) (k : Nat) (hk : k < t.ds.length) : ∃ b off, ad = some ⟨b, off, none⟩ ∧ W.rangeAt b (off + k * 6) (dcells t.ds[k]) := by
  obtain ⟨b, off, e, c0, c1, c2, c3, c4, c5⟩ := h.desc k hk
  refine ⟨b, off, e, fun j v hv => ?_⟩
  have hj : j < 6 := by
    rcases Nat.lt_or_ge j 6 with h | h
    · exact h
    · rw [List.getElem?_eq_none (by exact h)] at hv; cases hv
  have : j = 0 ∨ j = 1 ∨ j = 2 ∨ j = 3 ∨ j = 4 ∨ j = 5 := by omega
  rcases this with rfl | rfl | rfl | rfl | rfl | rfl <;> (injection hv with hv; subst hv; assumption)
theorem no_get {t : TabL} {p fd : Int} (h : hasT t p fd = false) : placeT t p fd = -1 ∧ foundT t p fd = zeroD := by
  unfold placeT foundT
  rw [if_neg (by simp [h]), if_neg (by simp [h])]
  exact ⟨rfl, rfl⟩
/-- What Get tells. -/
def GotIs (t : TabL) (p fd : Int) (e : Ending) : Prop := e = .returned (.tuple #[.int .i64 (placeT t p fd), dvalD (foundT t p fd), .bool (hasT t p fd)])
theorem got_no {t : TabL} {p fd : Int} (h : hasT t p fd = false) : GotIs t p fd (.returned (.tuple #[.int .i64 (-1), .agg #[.int .i64 0, .int .i64 0, .bool false, .bool false, .int .i64 0, .int .i64 0], .bool false])) := by
  unfold GotIs
  rw [(no_get h).1, (no_get h).2, h]
  rfl
theorem has_no1 {t : TabL} {p fd : Int} (h : p < 0) : hasT t p fd = false := by unfold hasT inT; rw [decide_eq_false (show ¬ 0 ≤ p by omega)]; rfl
theorem has_no2 {t : TabL} {p fd : Int} (h : (t.fs.length : Int) ≤ p) : hasT t p fd = false := by unfold hasT inT; rw [decide_eq_false (show ¬ p < (t.fs.length : Int) by omega)]; simp
theorem has_no3 {t : TabL} {p fd : Int} (h : fd < 0) : hasT t p fd = false := by unfold hasT; rw [decide_eq_false (show ¬ 0 ≤ fd by omega)]; simp
theorem has_no4 {t : TabL} {k : Nat} {fd : Int} (hk : k < t.fs.length) (h : ((t.fs[k]).length : Int) ≤ fd) : hasT t (k : Int) fd = false := by unfold hasT; rw [row_at hk, decide_eq_false (show ¬ fd < ((t.fs[k]).length : Int) by omega)]; simp
theorem has_no5 {t : TabL} {k m : Nat} (hk : k < t.fs.length) (hm : m < (t.fs[k]).length) (h : (t.fs[k])[m] < 0) : hasT t (k : Int) (m : Int) = false := by unfold hasT; rw [row_at hk, at_R hm, decide_eq_false (show ¬ 0 ≤ (t.fs[k])[m] by omega)]; simp
theorem has_yes {t : TabL} {k m : Nat} (hk : k < t.fs.length) (hm : m < (t.fs[k]).length) (h : 0 ≤ (t.fs[k])[m]) : hasT t (k : Int) (m : Int) = true := by
  unfold hasT inT
  rw [row_at hk, at_R hm, decide_eq_true h, decide_eq_true (show (0 : Int) ≤ (k : Int) by omega), decide_eq_true (show (k : Int) < (t.fs.length : Int) by omega), decide_eq_true (show (0 : Int) ≤ (m : Int) by omega), decide_eq_true (show (m : Int) < ((t.fs[k]).length : Int) by omega)]
  rfl
def SizeT (t : TabL) : Prop := t.ds.length ≤ 1000 ∧ t.fs.length ≤ 20 ∧ ∀ r ∈ t.fs, r.length ≤ 20
theorem count_step (r : List Int) (k : Nat) (h : k < r.length) : countR (r.take (k + 1)) = countR (r.take k) + if 0 ≤ r[k] then 1 else 0 := by
  unfold countR
  rw [List.take_succ_eq_append_getElem h, List.countP_append, List.countP_singleton]
  simp only [decide_eq_true_eq]
theorem count_le (r : List Int) : countR r ≤ r.length := List.countP_le_length
theorem first_next {r : List Int} {k : Nat} (hk : k < r.length) (h1 : k ≤ firstR r) (h2 : 0 ≤ r[k]) : k + 1 ≤ firstR r := by
  rcases Nat.lt_or_ge k (firstR r) with h | h
  · exact h
  · have e : firstR r = k := by omega
    have h3 := first_lt (r := r) (by omega)
    simp only [e] at h3
    omega
theorem first_here {r : List Int} {k : Nat} (hk : k < r.length) (h1 : k ≤ firstR r) (h2 : r[k] < 0) : firstR r = k := by
  rcases Nat.lt_or_ge k (firstR r) with h | h
  · obtain ⟨_, h3⟩ := first_min h
    omega
  · omega
def firstT (t : TabL) (a : Nat) : Int := if firstR (rowT t a) < (rowT t a).length then firstR (rowT t a) else -1
end Go.Proofs.Ytfcjmcenaankfaa
