/-
  The document's Alike, Same; both New.
-/
import Derived.Test.YthpcldmhamjnbaaDskB
namespace Go.Proofs.Ythpcldmhamjnbaa
open Go.RowKit Go.Shelf
attribute [local go_sem ↓] Go.wp_at_zero Go.wp_at_succ

set_option maxRecDepth 100000 in
set_option maxHeartbeats 4000000 in
theorem alike_any (a b : NodeL) (va vb : Value) (w : World) (ha : RdNm w.heap.size (a, va) w) (hb : RdNm w.heap.size (b, vb) w) (hal : a.names.length ≤ 10000) (hbl : b.names.length ≤ 10000) :
    Calls Try.prog 33 #[nval a va, nval b vb] w fun e w' => e = .returned (.bool (decide (a = b))) ∧ Below w.heap.size w w' := by
  obtain ⟨aoa, capa, ea, _, _⟩ := Rd.form ha
  obtain ⟨aob, capb, eb, _, _⟩ := Rd.form hb
  have ea' : va = .slice aoa a.names.length capa := ea
  have eb' : vb = .slice aob b.names.length capb := eb
  subst ea' eb'
  have hb0 : Below w.heap.size w ((w.alloc (.cells #[.int .i64 a.kind, .int .i64 a.mode, .int .i64 a.owner, .int .i64 a.links, .int .i64 a.opn, .int .i64 a.up, .string (bs a.data), .slice aoa a.names.length capa] 53)).alloc (.cells #[.int .i64 b.kind, .int .i64 b.mode, .int .i64 b.owner, .int .i64 b.links, .int .i64 b.opn, .int .i64 b.up, .string (bs b.data), .slice aob b.names.length capb] 53)) := ((Below.refl _ w).alloc (Nat.le_refl _) _).alloc (by simp) _
  have HA : Hid (Rd _ 2 (.slice aoa a.names.length capa) a.names.length (ents a.names) _) := Lib.hid (Rd.below ha hb0)
  have HB : Hid (Rd _ 2 (.slice aob b.names.length capb) b.names.length (ents b.names) _) := Lib.hid (Rd.below hb hb0)
  clear ea eb ha hb
  by_cases h0 : a.kind = b.kind
  case neg =>
    have hI : (a.kind == b.kind) = false := by simpa using h0
    have HF : Hid (decide (a = b) = false) := Lib.hid (by rw [decide_eq_false_iff_not]; intro e; exact h0 (by rw [e]))
    clear h0 
    go_enter Try.func33, Try.ntmps33
    go_wp2_with fail
    go_ret
    exact ⟨ret_bool HF.out.symm, hb0⟩
  have g0 : (a.kind == b.kind) = true := by simpa using h0
  by_cases h1 : a.mode = b.mode
  case neg =>
    have hI : (a.mode == b.mode) = false := by simpa using h1
    have HF : Hid (decide (a = b) = false) := Lib.hid (by rw [decide_eq_false_iff_not]; intro e; exact h1 (by rw [e]))
    clear h1 h0
    go_enter Try.func33, Try.ntmps33
    go_wp2_with fail
    go_ret
    exact ⟨ret_bool HF.out.symm, hb0⟩
  have g1 : (a.mode == b.mode) = true := by simpa using h1
  by_cases h2 : a.owner = b.owner
  case neg =>
    have hI : (a.owner == b.owner) = false := by simpa using h2
    have HF : Hid (decide (a = b) = false) := Lib.hid (by rw [decide_eq_false_iff_not]; intro e; exact h2 (by rw [e]))
    clear h2 h0 h1
    go_enter Try.func33, Try.ntmps33
    go_wp2_with fail
    go_ret
    exact ⟨ret_bool HF.out.symm, hb0⟩
  have g2 : (a.owner == b.owner) = true := by simpa using h2
  by_cases h3 : a.links = b.links
  case neg =>
    have hI : (a.links == b.links) = false := by simpa using h3
    have HF : Hid (decide (a = b) = false) := Lib.hid (by rw [decide_eq_false_iff_not]; intro e; exact h3 (by rw [e]))
    clear h3 h0 h1 h2
    go_enter Try.func33, Try.ntmps33
    go_wp2_with fail
    go_ret
    exact ⟨ret_bool HF.out.symm, hb0⟩
  have g3 : (a.links == b.links) = true := by simpa using h3
  by_cases h4 : a.opn = b.opn
  case neg =>
    have hI : (a.opn == b.opn) = false := by simpa using h4
    have HF : Hid (decide (a = b) = false) := Lib.hid (by rw [decide_eq_false_iff_not]; intro e; exact h4 (by rw [e]))
    clear h4 h0 h1 h2 h3
    go_enter Try.func33, Try.ntmps33
    go_wp2_with fail
    go_ret
    exact ⟨ret_bool HF.out.symm, hb0⟩
  have g4 : (a.opn == b.opn) = true := by simpa using h4
  by_cases h5 : a.up = b.up
  case neg =>
    have hI : (a.up == b.up) = false := by simpa using h5
    have HF : Hid (decide (a = b) = false) := Lib.hid (by rw [decide_eq_false_iff_not]; intro e; exact h5 (by rw [e]))
    clear h5 h0 h1 h2 h3 h4
    go_enter Try.func33, Try.ntmps33
    go_wp2_with fail
    go_ret
    exact ⟨ret_bool HF.out.symm, hb0⟩
  have g5 : (a.up == b.up) = true := by simpa using h5
  by_cases h6 : a.data = b.data
  case neg =>
    have hI : (a.data == b.data) = false := by simpa using h6
    have HF : Hid (decide (a = b) = false) := Lib.hid (by rw [decide_eq_false_iff_not]; intro e; exact h6 (by rw [e]))
    clear h6 h0 h1 h2 h3 h4 h5
    go_enter Try.func33, Try.ntmps33
    go_wp2_with fail
    go_ret
    exact ⟨ret_bool HF.out.symm, hb0⟩
  have g6 : (a.data == b.data) = true := by simpa using h6
  have HE : Hid (decide (a.names = b.names) = decide (a = b)) := Lib.hid (by
    rw [Bool.eq_iff_iff, decide_eq_true_iff, decide_eq_true_iff]
    exact ⟨fun e => node_ext h0 h1 h2 h3 h4 h5 h6 e, fun e => by rw [e]⟩)
  clear h0 h1 h2 h3 h4 h5 h6
  go_enter Try.func33, Try.ntmps33
  go_wp2_with fail
  refine (same_any _ _ _ a.names b.names _ HA.out HB.out (by omega) (by omega)).mono ?_
  rintro e w1 ⟨rfl, n1, rfl⟩
  rw [HE.out]
  go_wp2_with fail
  go_ret
  exact ⟨rfl, below_drewN hb0 n1⟩
end Go.Proofs.Ythpcldmhamjnbaa
