/-
  The program's Get, Count.
-/
import Derived.Test.YtfcjmcenaankfaaHdlPrgA
namespace Go.Proofs.Ytfcjmcenaankfaa
open Go.RowKit Go.Shelf
attribute [local go_sem ↓] Go.wp_at_zero Go.wp_at_succ

theorem has_in {t : TabL} {p fd : Int} (h : inT t p = false) : hasT t p fd = false := by unfold hasT; rw [h]; rfl
theorem inD_no {t : TabL} {v : Int} (h : v < 0) : inD t v = false := by unfold inD; rw [decide_eq_false (show ¬ 0 ≤ v by omega)]; rfl
theorem inD_yes {t : TabL} {i : Nat} (h : i < t.ds.length) : inD t (i : Int) = true := by unfold inD; rw [decide_eq_true (show (0 : Int) ≤ (i : Int) by omega), decide_eq_true (show (i : Int) < (t.ds.length : Int) by omega)]; rfl
end Go.Proofs.Ytfcjmcenaankfaa
