/-
  The document's Alike, Same; both New. What Add does, plainly: its words and Set (the words of DskF, DskI, DskJ, AddPlain, ahead of them).
-/
import Derived.RangeFuncNested
import Derived.RangeFuncBound
import Derived.RangeFuncCalls
import Derived.RangeFuncLeaves
import Derived.RangeFuncBox
import Derived.Shelf.Abstract
import Derived.Shelf.RegionOpen
import Derived.WalkKit
import Derived.OwnWalkIn
import Derived.TacticsInMore
import Derived.LoopNIn
import Derived.LoopIn
import Derived.Lib.Hide
import Derived.Outline
import Derived.Deep.QuietTactic
import Derived.Deep.AppendLies
import Derived.BigQuiet
import Derived.Lib.Strings
import Derived.WalkSmall
import Derived.Shelf.Small.Strs
import Derived.Shelf.Strings.Search1
import Derived.Shelf.Strings.Prefix
import Derived.Laws.AppendOwn
import Derived.Laws.OwnMore
import Derived.Laws.AppendOwnNone
import Derived.WideShapes
import Derived.Laws.RangeAny
import Derived.Laws.Runes
import Derived.Lib.Builder
import Derived.Deep.WholeRow
import Derived.WalkMore
import Derived.Lib.OthersKept
import Derived.Lib.QuietBelow
import Derived.Deep.DrawnRows
import Derived.Laws.Cover1
import Derived.Shelf.SlSorted.Search
import Derived.Shelf.Spec.SlicesGrow
import Derived.StillTailTactics
import Derived.Deep.RegionHeld3
import Derived.Deep.RegionLaw
import Derived.Handy
import Derived.Test.YtpmhmippoefcfaaGreatDoorProg
import Derived.Test.YtpmhmippoefcfaaGreatDoorShelf
import Derived.Test.YtpmhmippoefcfaaGreatDoorB01
import Derived.Test.YtpmhmippoefcfaaGreatDoorB02
import Derived.Test.YtpmhmippoefcfaaGreatDoorB04
import Derived.Test.YtpmhmippoefcfaaGreatDoorB05
namespace Go.Proofs.YtpmhmippoefcfaaGreatDoor
open Go.RowKit Go.Shelf
attribute [local go_sem ↓] Go.wp_at_zero Go.wp_at_succ
set_option maxRecDepth 100000 in
set_option maxHeartbeats 4000000 in
theorem alike_any (a b : NodeL) (va vb : Value) (w : World) (ha : RdNm w.heap.size (a, va) w) (hb : RdNm w.heap.size (b, vb) w) (hal : a.names.length ≤ 10000) (hbl : b.names.length ≤ 10000) :
    Calls Tryz.prog 47 #[nval a va, nval b vb] w fun e w' => e = .returned (.bool (decide (a = b))) ∧ Below w.heap.size w w' := by
  obtain ⟨aoa, capa, ea, _, _⟩ := Rd.form ha
  obtain ⟨aob, capb, eb, _, _⟩ := Rd.form hb
  have ea' : va = .slice aoa a.names.length capa := ea
  have eb' : vb = .slice aob b.names.length capb := eb
  subst ea' eb'
  have hb0 : Below w.heap.size w ((w.alloc (.cells #[.int .i64 a.kind, .int .i64 a.mode, .int .i64 a.owner, .int .i64 a.links, .int .i64 a.opn, .int .i64 a.up, .string (bs a.data), .slice aoa a.names.length capa] 74)).alloc (.cells #[.int .i64 b.kind, .int .i64 b.mode, .int .i64 b.owner, .int .i64 b.links, .int .i64 b.opn, .int .i64 b.up, .string (bs b.data), .slice aob b.names.length capb] 74)) := ((Below.refl _ w).alloc (Nat.le_refl _) _).alloc (by simp) _
  have HA : Hid (Rd _ 2 (.slice aoa a.names.length capa) a.names.length (ents a.names) _) := Lib.hid (Rd.below ha hb0)
  have HB : Hid (Rd _ 2 (.slice aob b.names.length capb) b.names.length (ents b.names) _) := Lib.hid (Rd.below hb hb0)
  clear ea eb ha hb
  by_cases h0 : a.kind = b.kind
  case neg =>
    have hI : (a.kind == b.kind) = false := by simpa using h0
    have HF : Hid (decide (a = b) = false) := Lib.hid (by rw [decide_eq_false_iff_not]; intro e; exact h0 (by rw [e]))
    clear h0 
    go_enter Tryz.func47, Tryz.ntmps47
    go_wp2_with fail
    go_ret
    exact ⟨ret_bool HF.out.symm, hb0⟩
  have g0 : (a.kind == b.kind) = true := by simpa using h0
  by_cases h1 : a.mode = b.mode
  case neg =>
    have hI : (a.mode == b.mode) = false := by simpa using h1
    have HF : Hid (decide (a = b) = false) := Lib.hid (by rw [decide_eq_false_iff_not]; intro e; exact h1 (by rw [e]))
    clear h1 h0
    go_enter Tryz.func47, Tryz.ntmps47
    go_wp2_with fail
    go_ret
    exact ⟨ret_bool HF.out.symm, hb0⟩
  have g1 : (a.mode == b.mode) = true := by simpa using h1
  by_cases h2 : a.owner = b.owner
  case neg =>
    have hI : (a.owner == b.owner) = false := by simpa using h2
    have HF : Hid (decide (a = b) = false) := Lib.hid (by rw [decide_eq_false_iff_not]; intro e; exact h2 (by rw [e]))
    clear h2 h0 h1
    go_enter Tryz.func47, Tryz.ntmps47
    go_wp2_with fail
    go_ret
    exact ⟨ret_bool HF.out.symm, hb0⟩
  have g2 : (a.owner == b.owner) = true := by simpa using h2
  by_cases h3 : a.links = b.links
  case neg =>
    have hI : (a.links == b.links) = false := by simpa using h3
    have HF : Hid (decide (a = b) = false) := Lib.hid (by rw [decide_eq_false_iff_not]; intro e; exact h3 (by rw [e]))
    clear h3 h0 h1 h2
    go_enter Tryz.func47, Tryz.ntmps47
    go_wp2_with fail
    go_ret
    exact ⟨ret_bool HF.out.symm, hb0⟩
  have g3 : (a.links == b.links) = true := by simpa using h3
  by_cases h4 : a.opn = b.opn
  case neg =>
    have hI : (a.opn == b.opn) = false := by simpa using h4
    have HF : Hid (decide (a = b) = false) := Lib.hid (by rw [decide_eq_false_iff_not]; intro e; exact h4 (by rw [e]))
    clear h4 h0 h1 h2 h3
    go_enter Tryz.func47, Tryz.ntmps47
    go_wp2_with fail
    go_ret
    exact ⟨ret_bool HF.out.symm, hb0⟩
  have g4 : (a.opn == b.opn) = true := by simpa using h4
  by_cases h5 : a.up = b.up
  case neg =>
    have hI : (a.up == b.up) = false := by simpa using h5
    have HF : Hid (decide (a = b) = false) := Lib.hid (by rw [decide_eq_false_iff_not]; intro e; exact h5 (by rw [e]))
    clear h5 h0 h1 h2 h3 h4
    go_enter Tryz.func47, Tryz.ntmps47
    go_wp2_with fail
    go_ret
    exact ⟨ret_bool HF.out.symm, hb0⟩
  have g5 : (a.up == b.up) = true := by simpa using h5
  by_cases h6 : a.data = b.data
  case neg =>
    have hI : (a.data == b.data) = false := by simpa using h6
    have HF : Hid (decide (a = b) = false) := Lib.hid (by rw [decide_eq_false_iff_not]; intro e; exact h6 (by rw [e]))
    clear h6 h0 h1 h2 h3 h4 h5
    go_enter Tryz.func47, Tryz.ntmps47
    go_wp2_with fail
    go_ret
    exact ⟨ret_bool HF.out.symm, hb0⟩
  have g6 : (a.data == b.data) = true := by simpa using h6
  have HE : Hid (decide (a.names = b.names) = decide (a = b)) := Lib.hid (by
    rw [Bool.eq_iff_iff, decide_eq_true_iff, decide_eq_true_iff]
    exact ⟨fun e => node_ext h0 h1 h2 h3 h4 h5 h6 e, fun e => by rw [e]⟩)
  clear h0 h1 h2 h3 h4 h5 h6
  go_enter Tryz.func47, Tryz.ntmps47
  go_wp2_with fail
  refine (same_any _ _ _ a.names b.names _ HA.out HB.out (by omega) (by omega)).mono ?_
  rintro e w1 ⟨rfl, n1, rfl⟩
  rw [HE.out]
  go_wp2_with fail
  go_ret
  exact ⟨rfl, below_drewN hb0 n1⟩
end Go.Proofs.YtpmhmippoefcfaaGreatDoor
namespace Go.Proofs.YtpmhmippoefcfaaGreatDoor
def setL (l : List NodeL) (i : Int) (n : NodeL) : List NodeL := if inL l i then l.set i.toNat n else l
def idxL : List NodeL → Nat → Int
  | [], _ => -1
  | n :: l, k => if n.kind = 0 then k else idxL l (k + 1)
def addNo (l : List NodeL) (most room : Int) (n : NodeL) : Bool := decide (most ≤ (usedL l : Int)) || decide (room < (bytesL l : Int) + (weightL n : Int))
def addI (l : List NodeL) (most room : Int) (n : NodeL) : Int := if addNo l most room n then 0 else if idxL l 0 < 0 then l.length else idxL l 0
def addE (l : List NodeL) (most room : Int) (n : NodeL) : Int := if addNo l most room n then 10 else 0
def addL (l : List NodeL) (most room : Int) (n : NodeL) : List NodeL := if addNo l most room n then l else if idxL l 0 < 0 then l ++ [n] else l.set (idxL l 0).toNat n
theorem idx_cases (l : List NodeL) (k : Nat) : (idxL l k = -1 ∧ ∀ i (h : i < l.length), l[i].kind ≠ 0) ∨ ∃ j, ∃ h : j < l.length, idxL l k = ((k + j : Nat) : Int) ∧ l[j].kind = 0 ∧ ∀ i (hi : i < j), (l[i]'(by omega)).kind ≠ 0 := by
  induction l generalizing k with
  | nil => exact .inl ⟨rfl, fun i h => by simp at h⟩
  | cons n l ih =>
    by_cases h0 : n.kind = 0
    · refine .inr ⟨0, by simp, ?_, h0, fun i hi => absurd hi (Nat.not_lt_zero _)⟩
      unfold idxL
      rw [if_pos h0]
      rfl
    · have e : idxL (n :: l) k = idxL l (k + 1) := by
        conv => lhs; unfold idxL
        rw [if_neg h0]
      rw [e]
      rcases ih (k + 1) with ⟨h1, h2⟩ | ⟨j, hj, h1, h2, h3⟩
      · refine .inl ⟨h1, fun i h => ?_⟩
        cases i with
        | zero => exact h0
        | succ i => exact h2 i (by simpa using h)
      · refine .inr ⟨j + 1, by simpa using hj, by rw [h1]; congr 1; omega, h2, fun i hi => ?_⟩
        cases i with
        | zero => exact h0
        | succ i => exact h3 i (by omega)
end Go.Proofs.YtpmhmippoefcfaaGreatDoor
