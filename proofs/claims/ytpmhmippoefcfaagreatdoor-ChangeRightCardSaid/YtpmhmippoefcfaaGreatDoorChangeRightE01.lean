/-
  Names of a directory, plainly: which names may be; what is found, put and dropped.
  Plain facts on stencils: how many blanks a text ends with, letters, signs; what is made; what fits.
  strings.IndexRune, IndexAny, ContainsAny at two plain bytes, in whatever text.
  strings.ContainsAny at the two bytes that no name has; which names may be.
  Which names may be: the program's and the document's.
  Lists of entries in memory; whether they are sorted: the program's and the document's.
  The document's Sorted, Find, Drop, Same, Names; the statements' its; the program's Names.
  The document's Sorted and Same of entries.
  The document's Find, Drop, Put; both Names.
  The document's Put; both Names.
  sort.Search, laid; the closure; where a name begins and ends.
  slices.Grow, laid; slices.Concat; what stands between two places, replaced.
  slices.Concat; what stands between two places, replaced.
  The program's replace, Find, Drop, Put. What the statements on ways have in common: whether a disk is right; spots are compared; the example. The laws on spots, on slashes, and on paths that are joined, plainly. What is done to a disk, plainly; what is right, by what names what. Names that come and go, plainly: the document's words on lists of nodes. A disk that is right stays so: what is entered, linked, lost, and whose mode is changed. A disk that is right stays so: what is lost, linked, and whose mode is changed. A disk that is right stays so: what is renamed. A disk that is right stays so, whatever is done to it; and how large it becomes. How large a disk becomes. The document's Make, Mkdir, Symlink, Chmod. Disks that a change gives may be changed again; the example of the statements on changes, plainly. The program's Make, Mkdir, Symlink. The program's Symlink, Unlink, Rmdir. The program's Chmod.
-/
import Derived.RangeFuncNested
import Derived.RangeFuncBound
import Derived.RangeFuncCalls
import Derived.RangeFuncLeaves
import Derived.RangeFuncBox
import Derived.Shelf.Abstract
import Derived.Shelf.RegionOpen
import Derived.WalkKit
import Derived.OwnWalkIn
import Derived.TacticsInMore
import Derived.LoopNIn
import Derived.LoopIn
import Derived.Lib.Hide
import Derived.Outline
import Derived.Deep.QuietTactic
import Derived.Deep.AppendLies
import Derived.BigQuiet
import Derived.Lib.Strings
import Derived.WalkSmall
import Derived.Shelf.Small.Strs
import Derived.Shelf.Strings.Search1
import Derived.Shelf.Strings.Prefix
import Derived.Laws.AppendOwn
import Derived.Laws.OwnMore
import Derived.Laws.AppendOwnNone
import Derived.WideShapes
import Derived.Laws.RangeAny
import Derived.Laws.Runes
import Derived.Lib.Builder
import Derived.Deep.WholeRow
import Derived.WalkMore
import Derived.Lib.OthersKept
import Derived.Lib.QuietBelow
import Derived.Deep.DrawnRows
import Derived.Laws.Cover1
import Derived.Shelf.SlSorted.Search
import Derived.Shelf.Spec.SlicesGrow
import Derived.StillTailTactics
import Derived.Lib.TrimByte
import Derived.Lib.Bytealg
import Derived.Laws.BitsLemmas
import Derived.LaidEql
import Derived.Stop.Asserts
import Derived.RowKitTokens
import Derived.Deep.RegionHeld3
import Derived.Deep.RegionLaw
import Derived.Handy
import Derived.Laws.IdiomCopy
import Derived.Lib.SliceRun
import Derived.Laws.ResultCell
import Derived.Deep.LoopGhost
import Derived.Deep.DeepCutAuto
import Derived.Deep.MidRow
import Derived.BigRegion
import Derived.Test.YtpmhmippoefcfaaGreatDoorProg
import Derived.Test.YtpmhmippoefcfaaGreatDoorShelf
import Derived.Test.YtpmhmippoefcfaaGreatDoorB01
import Derived.Test.YtpmhmippoefcfaaGreatDoorB02
import Derived.Test.YtpmhmippoefcfaaGreatDoorB04
import Derived.Test.YtpmhmippoefcfaaGreatDoorB05
import Derived.Test.YtpmhmippoefcfaaGreatDoorB06
import Derived.Test.YtpmhmippoefcfaaGreatDoorB07
import Derived.Test.YtpmhmippoefcfaaGreatDoorB08
import Derived.Test.YtpmhmippoefcfaaGreatDoorB09
import Derived.Test.YtpmhmippoefcfaaGreatDoorB10
import Derived.Test.YtpmhmippoefcfaaGreatDoorB11
import Derived.Test.YtpmhmippoefcfaaGreatDoorB12
import Derived.Test.YtpmhmippoefcfaaGreatDoorB13
import Derived.Test.YtpmhmippoefcfaaGreatDoorB14
import Derived.Test.YtpmhmippoefcfaaGreatDoorB15
import Derived.Test.YtpmhmippoefcfaaGreatDoorB16
import Derived.Test.YtpmhmippoefcfaaGreatDoorB17
import Derived.Test.YtpmhmippoefcfaaGreatDoorB18
import Derived.Test.YtpmhmippoefcfaaGreatDoorB20
import Derived.Test.YtpmhmippoefcfaaGreatDoorB21
namespace Go.Proofs.YtpmhmippoefcfaaGreatDoor
theorem legal_len {s : Nm} (h : legalL s = 0) : s.length ≤ 12 := by
  unfold legalL at h
  split at h
  · cases h
  · split at h
    · cases h
    · omega
theorem find_skip (a m c : List EntL) (o : Nm) (hm : ∀ e ∈ m, e.1 ≠ o) : findL (a ++ m ++ c) o = findL (a ++ c) o := by
  have : m.find? (fun e => e.1 == o) = none := List.find?_eq_none.2 fun e he => by simpa using hm e he
  unfold findL
  rw [List.find?_append, List.find?_append, List.find?_append, this, Option.or_none]
theorem sorted_drop {l : List EntL} (h : SortedP l) (n : Nm) : SortedP (dropL l n) := h.sub List.filter_sublist
theorem find_put (l : List EntL) (n : Nm) (i : Int) : findL (putL l (n, i)) n = some i := by
  rw [put_mid]
  exact find_parts _ _ _ _ (fun e he => lt_ne (mem_lo.1 he).2) fun e he => (lt_ne (mem_hi.1 he).2).symm
theorem find_put_other {l : List EntL} (h : Up l) (n o : Nm) (i : Int) (ho : o ≠ n) : findL (putL l (n, i)) o = findL l o := by
  rw [put_mid, find_skip _ _ _ _ fun e he => by rw [mid_name he]; exact ho.symm]
  have := find_skip (lo l n) (mid n (findL l n)) (hi l n) o fun e he => by rw [mid_name he]; exact ho.symm
  rw [← eparts h n] at this
  exact this.symm
theorem find_drop (l : List EntL) (n : Nm) : findL (dropL l n) n = none := by
  unfold findL
  rw [Option.map_eq_none_iff, List.find?_eq_none]
  intro e he
  have := (List.mem_filter.1 he).2
  simpa using this
end Go.Proofs.YtpmhmippoefcfaaGreatDoor
namespace Go.Proofs.YtpmhmippoefcfaaGreatDoor
end Go.Proofs.YtpmhmippoefcfaaGreatDoor
namespace Go.Proofs.YtpmhmippoefcfaaGreatDoor
open Go.RowKit Go.Shelf
end Go.Proofs.YtpmhmippoefcfaaGreatDoor
namespace Go.Proofs.YtpmhmippoefcfaaGreatDoor
open Go.RowKit Go.Shelf
end Go.Proofs.YtpmhmippoefcfaaGreatDoor
namespace Go.Proofs.YtpmhmippoefcfaaGreatDoor
open Go.RowKit Go.Shelf
end Go.Proofs.YtpmhmippoefcfaaGreatDoor
namespace Go.Proofs.YtpmhmippoefcfaaGreatDoor
open Go.RowKit Go.Shelf
attribute [local go_sem ↓] Go.wp_at_zero Go.wp_at_succ
end Go.Proofs.YtpmhmippoefcfaaGreatDoor
namespace Go.Proofs.YtpmhmippoefcfaaGreatDoor
open Go.RowKit Go.Shelf
attribute [local go_sem ↓] Go.wp_at_zero Go.wp_at_succ
end Go.Proofs.YtpmhmippoefcfaaGreatDoor
namespace Go.Proofs.YtpmhmippoefcfaaGreatDoor
open Go.RowKit Go.Shelf
attribute [local go_sem ↓] Go.wp_at_zero Go.wp_at_succ
end Go.Proofs.YtpmhmippoefcfaaGreatDoor
namespace Go.Proofs.YtpmhmippoefcfaaGreatDoor
open Go.RowKit Go.Shelf
attribute [local go_sem ↓] Go.wp_at_zero Go.wp_at_succ
end Go.Proofs.YtpmhmippoefcfaaGreatDoor
namespace Go.Proofs.YtpmhmippoefcfaaGreatDoor
open Go.RowKit Go.Shelf
attribute [local go_sem ↓] Go.wp_at_zero Go.wp_at_succ
end Go.Proofs.YtpmhmippoefcfaaGreatDoor
namespace Go.Proofs.YtpmhmippoefcfaaGreatDoor
open Go.RowKit Go.Shelf
attribute [local go_sem ↓] Go.wp_at_zero Go.wp_at_succ
end Go.Proofs.YtpmhmippoefcfaaGreatDoor
namespace Go.Proofs.YtpmhmippoefcfaaGreatDoor
open Go.RowKit Go.Shelf
open Go.WideShapes (add_plain)
attribute [local go_sem ↓] Go.wp_at_zero Go.wp_at_succ
end Go.Proofs.YtpmhmippoefcfaaGreatDoor
namespace Go.Proofs.YtpmhmippoefcfaaGreatDoor
open Go.RowKit Go.Shelf
open Go.WideShapes (add_plain)
attribute [local go_sem ↓] Go.wp_at_zero Go.wp_at_succ
end Go.Proofs.YtpmhmippoefcfaaGreatDoor
namespace Go.Proofs.YtpmhmippoefcfaaGreatDoor
open Go.RowKit Go.Shelf
open Go.WideShapes (add_plain)
attribute [local go_sem ↓] Go.wp_at_zero Go.wp_at_succ
end Go.Proofs.YtpmhmippoefcfaaGreatDoor
namespace Go.Proofs.YtpmhmippoefcfaaGreatDoor
open Go.RowKit Go.Shelf
attribute [local go_sem ↓] Go.wp_at_zero Go.wp_at_succ
/-- Its contract, of whatever reads as these nodes. -/
theorem its_g (l : List NodeL) (a b : Int) (hl : l.length ≤ 10000) (hnl : ∀ n ∈ l, n.names.length ≤ 10000) (v : Value) (W : World) (hg : GivesN l v W) :
    Calls Tryz.prog 13 #[.agg #[v, .int .i64 a, .int .i64 b]] W fun e w' => ∃ v', e = .returned (.agg #[v', .int .i64 a, .int .i64 b]) ∧ GivesN l v' w' ∧ Below W.heap.size W w' := by
  obtain ⟨m, rfl, h⟩ := hg
  exact its_any v m a b W h (by rw [← pl_len]; exact hl) hnl
end Go.Proofs.YtpmhmippoefcfaaGreatDoor
namespace Go.Proofs.YtpmhmippoefcfaaGreatDoor
theorem node_ok {R : ResL} {j : Int} (h : wnodeL R = (j, 0)) : R.2 = 0 ∧ 0 ≤ R.1.ino ∧ R.1.ino = j := by
  unfold wnodeL at h
  split at h
  · rename_i hne
    exact absurd (congrArg Prod.snd h) hne
  · rename_i h0
    split at h
    · cases h
    · rename_i hi
      exact ⟨Decidable.not_not.1 h0, by omega, congrArg Prod.fst h⟩
end Go.Proofs.YtpmhmippoefcfaaGreatDoor
namespace Go.Proofs.YtpmhmippoefcfaaGreatDoor
theorem nd_app (l : List NodeL) (n : NodeL) (j : Nat) : nd (l ++ [n]) j = if j = l.length then n else nd l j := by
  by_cases h : j < l.length
  · rw [if_neg (by omega), nd_lt (l := l ++ [n]) (by rw [List.length_append]; omega), nd_lt h, List.getElem_append_left]
  · by_cases e : j = l.length
    · subst e; rw [if_pos rfl, nd_lt (l := l ++ [n]) (by simp)]; simp
    · rw [if_neg e, nd_ge (by rw [List.length_append, List.length_singleton]; omega), nd_ge (by omega)]
theorem cnt_pos {l : List NodeL} {j : Int} (h : 0 < cnt l j) : ∃ k, 0 < cntN (nd l k).names j := by
  induction l with
  | nil => exact absurd h (Nat.lt_irrefl 0)
  | cons a l ih =>
    have e : cnt (a :: l) j = cntN a.names j + cnt l j := by simp [cnt]
    by_cases h0 : 0 < cntN a.names j
    · exact ⟨0, h0⟩
    · obtain ⟨k, hk⟩ := ih (by omega)
      exact ⟨k + 1, hk⟩
end Go.Proofs.YtpmhmippoefcfaaGreatDoor
namespace Go.Proofs.YtpmhmippoefcfaaGreatDoor
def linkN (text : Nm) : NodeL := ⟨3, 63, 0, 0, 0, 0, text, []⟩
def symlinkL (l : List NodeL) (most room who fr : Int) (text path : Str) : ChgL :=
  if text = [] then (l, 2) else if 100 < text.length then (l, 9)
  else if (walkL l who fr path false).2 ≠ 0 then (l, (walkL l who fr path false).2)
  else if (walkL l who fr path false).1.slash = true ∧ (walkL l who fr path false).1.ino < 0 then (l, 4)
  else ((enterL l most room who (walkL l who fr path false).1 (linkN text)).1, (enterL l most room who (walkL l who fr path false).1 (linkN text)).2.2)
def moreN (n : NodeL) : NodeL := { n with links := n.links + 1 }
/-- What is wrong with a spot, behind what is wrong with the way to it. -/
def spotE (l : List NodeL) (who : Int) (R : ResL) : Int := if R.2 ≠ 0 then R.2 else freeE l who R.1
def linkL (l : List NodeL) (who fr : Int) (old path : Str) : ChgL :=
  if (wnodeL (walkL l who fr old false)).2 ≠ 0 then (l, (wnodeL (walkL l who fr old false)).2)
  else if (nodeL l (wnodeL (walkL l who fr old false)).1).kind = 2 then (l, 5)
  else if 20 ≤ (nodeL l (wnodeL (walkL l who fr old false)).1).links then (l, 11)
  else if spotE l who (walkL l who fr path false) ≠ 0 then (l, spotE l who (walkL l who fr path false))
  else if (walkL l who fr path false).1.slash = true then (l, 4)
  else (namedL (setL l (wnodeL (walkL l who fr old false)).1 (moreN (nodeL l (wnodeL (walkL l who fr old false)).1))) (walkL l who fr path false).1 (wnodeL (walkL l who fr old false)).1, 0)
def modeN (n : NodeL) (mode : Int) : NodeL := { n with mode := mode % 64 }
def chmodL (l : List NodeL) (who fr : Int) (path : Str) (mode : Int) : ChgL :=
  if (wnodeL (walkL l who fr path true)).2 ≠ 0 then (l, (wnodeL (walkL l who fr path true)).2)
  else if who ≠ 0 ∧ who ≠ (nodeL l (wnodeL (walkL l who fr path true)).1).owner then (l, 7)
  else (setL l (wnodeL (walkL l who fr path true)).1 (modeN (nodeL l (wnodeL (walkL l who fr path true)).1) mode), 0)
end Go.Proofs.YtpmhmippoefcfaaGreatDoor
namespace Go.Proofs.YtpmhmippoefcfaaGreatDoor
theorem Rooted.kin {l l' : List NodeL} (h : ∀ j, (nd l' j).kind = (nd l j).kind ∧ (nd l' j).up = (nd l j).up) {j : Int} (hr : Rooted l j) : Rooted l' j :=
  hr.mono (fun _ => True) (fun k _ hk => ⟨(h k).1.trans hk, (h k).2, fun _ _ _ => trivial⟩) fun _ _ _ => trivial
theorem Rig.cnt_free {l : List NodeL} {E : Nat → Prop} (h : RigE l E) {k : Nat} (hk : (nd l k).kind = 0) (j : Nat) : cntN (nd l j).names k = 0 := by
  rw [cntN_zero]
  intro e he hek
  obtain ⟨i, a, _, c⟩ := h.nam j e he
  rw [hek] at a
  have : k = i := by omega
  subst this
  exact c hk
theorem cnt_zero_of {l : List NodeL} {j : Int} (h : ∀ k, cntN (nd l k).names j = 0) : cnt l j = 0 := by
  refine Nat.eq_zero_of_not_pos fun hp => ?_
  obtain ⟨k, hk⟩ := cnt_pos hp
  have := h k
  omega
/-- A new node, that nothing names yet. -/
theorem add_node {l l' : List NodeL} (h : Rig l) {p : Nat} (hp : (nd l p).kind = 0) (h0 : p ≠ 0) (n : NodeL) (hn : LocOk n) (hnk : n.kind ≠ 0) (hnm : n.names = []) (hnd : ∀ j, nd l' j = if j = p then n else nd l j) (hc : ∀ j, cnt l' j = cnt l j) : RigE l' (fun k => k = p) := by
  have hold : ∀ j, (nd l j).kind ≠ 0 → nd l' j = nd l j := fun j hj => by rw [hnd, if_neg]; intro e; subst e; exact hj hp
  refine ⟨?_, fun j hj => ?_, fun j hj => ?_, fun j e he => ?_, fun j hj0 hj hjk => ?_⟩
  · rw [hnd, if_neg (Ne.symm h0)]; exact h.root
  · rw [hnd] at hj ⊢
    split
    · rename_i e; rw [if_pos e] at hj; exact absurd hj hnk
    · rename_i e; rw [if_neg e] at hj; exact h.zero j hj
  · rw [hnd] at hj ⊢
    split
    · exact hn
    · rename_i e; rw [if_neg e] at hj; exact h.loc j hj
  · rw [hnd] at he
    split at he
    · rw [hnm] at he; cases he
    · obtain ⟨i, a, b, c⟩ := h.nam j e he
      exact ⟨i, a, b, by rw [hold i c]; exact c⟩
  · rw [hnd, if_neg hj] at hjk ⊢
    refine (h.nmd j hj0 (fun h => h) hjk).same (hc j) (fun _ u hu => ?_) fun _ hr => ?_
    · obtain ⟨e, he, _⟩ := cntN_pos.1 hu
      have : (nd l u).kind ≠ 0 := fun hz => by rw [h.zero u hz] at he; cases he
      rw [hold u this]; exact hu
    · exact hr.mono (fun _ => True) (fun k _ hk => by rw [hold k (by rw [hk]; decide)]; exact ⟨hk, rfl, fun _ _ _ => trivial⟩) fun _ _ _ => trivial
/-- A name is dropped; the node that it named is left out. -/
theorem drop_name {l : List NodeL} {E : Nat → Prop} (h : RigE l E) {d x : Nat} (hd : (nd l d).kind = 2) {nm : Nm} (hf : findL (nd l d).names nm = some (x : Int)) : RigE (l.set d (dropN (nd l d) nm)) (fun k => E k ∨ k = x) := by
  have hs := Rig.sorted h d
  refine h.names d hd (dropL (nd l d).names nm) _ (fun _ h => .inl h) (sorted_drop hs nm) (fun e he => h.nam d e (List.mem_filter.1 he).1) (fun j hj => ?_) fun h0 h1 h2 => ?_
  · have := cntN_drop hs.2 hf j
    rw [if_neg (by intro e; exact hj (.inr (by omega)))] at this
    exact this
  · have hn := (h.nmd d h0 (fun he => h1 (.inl he)) (by rw [hd]; decide)).2.2 hd
    have := (hn.1 h2).1
    rw [this] at hf
    cases hf
theorem drop_facts {l : List NodeL} {d x : Nat} (hs : SortedP (nd l d).names) (hd : (nd l d).kind = 2) {nm : Nm} (hf : findL (nd l d).names nm = some (x : Int)) :
    (∀ j, nd (l.set d (dropN (nd l d) nm)) j = if j = d then dropN (nd l d) nm else nd l j) ∧ (∀ j : Nat, cnt (l.set d (dropN (nd l d) nm)) j + (if x = j then 1 else 0) = cnt l j) ∧ (∀ j, (nd (l.set d (dropN (nd l d) nm)) j).kind = (nd l j).kind ∧ (nd (l.set d (dropN (nd l d) nm)) j).up = (nd l j).up) := by
  have hlt : d < l.length := nd_kind (by rw [hd]; decide)
  refine ⟨nd_set hlt _, fun j => ?_, nd_map_set hlt (dropN (nd l d) nm) rfl rfl⟩
  have h1 := cnt_set hlt (dropN (nd l d) nm) j
  have h2 : cntN (dropN (nd l d) nm).names j + (if (x : Int) = j then 1 else 0) = cntN (nd l d).names j := cntN_drop hs.2 hf j
  by_cases hx : x = j
  · subst hx; rw [if_pos rfl] at h2 ⊢; omega
  · rw [if_neg (by omega)] at h2; rw [if_neg hx]; omega
theorem set_loc {n : NodeL} (h : LocOk n) {m : NodeL} (hk : m.kind = n.kind) (hm : 0 ≤ m.mode ∧ m.mode ≤ 63) (ho : m.opn = n.opn) (hd : m.data = n.data) (hn : m.names = n.names) : LocOk m := by
  obtain ⟨a, b, c, d⟩ := h
  unfold plainB at a
  simp only [Bool.and_eq_true, decide_eq_true_iff] at a
  refine ⟨?_, by rw [hk, hn]; exact b, by rw [hk, hd]; exact c, by rw [hn]; exact d⟩
  unfold plainB
  simp only [Bool.and_eq_true, decide_eq_true_iff]
  rw [hk, ho]
  exact ⟨⟨⟨a.1.1.1, hm.1⟩, hm.2⟩, a.2⟩
theorem loc_mode {n : NodeL} (h : LocOk n) : 0 ≤ n.mode ∧ n.mode ≤ 63 := by
  have a := h.1
  unfold plainB at a
  simp only [Bool.and_eq_true, decide_eq_true_iff] at a
  exact ⟨a.1.1.2, a.1.2⟩
theorem add_nd {l : List NodeL} {most room : Int} {n : NodeL} (hR : Rig l) (h0 : 0 < l.length) (hnm : n.names = []) (hE : addE l most room n = 0) :
    ∃ p : Nat, addI l most room n = p ∧ p ≠ 0 ∧ (nd l p).kind = 0 ∧ (∀ j, nd (addL l most room n) j = if j = p then n else nd l j) ∧ (∀ j, cnt (addL l most room n) j = cnt l j) ∧ (l.length ≤ (addL l most room n).length ∧ (addL l most room n).length ≤ l.length + 1 ∧ ((l.length : Int) ≤ most → ((addL l most room n).length : Int) ≤ most)) ∧ ((bytesL (addL l most room n) : Int) ≤ room) := by
  have hno : addNo l most room n = false := by
    unfold addE at hE
    cases hb : addNo l most room n with
    | false => rfl
    | true => rw [hb] at hE; cases hE
  have hno' := hno
  unfold addNo at hno'
  simp only [Bool.or_eq_false_iff, decide_eq_false_iff_not] at hno'
  have hroot : (nd l 0).kind ≠ 0 := by rw [hR.root.1]; decide
  unfold addI addL
  rw [hno]
  rcases idx_cases l 0 with ⟨h, hk⟩ | ⟨j, hj, h, hk, hb⟩
  · have hneg : idxL l 0 < 0 := by omega
    simp only [hneg, if_true, Bool.false_eq_true, if_false]
    have hu : usedL l = l.length := by
      unfold usedL
      rw [List.countP_eq_length]
      intro a ha
      obtain ⟨i, hi, rfl⟩ := List.mem_iff_getElem.1 ha
      simpa using hk i hi
    refine ⟨l.length, rfl, by omega, by rw [nd_ge (Nat.le_refl _)]; rfl, nd_app l n, fun j => by rw [cnt_app, hnm, cntN_nil]; rfl, ⟨by simp, by simp, fun _ => by rw [List.length_append, List.length_singleton]; omega⟩, ?_⟩
    have : bytesL (l ++ [n]) = bytesL l + weightL n := by simp [bytesL]
    omega
  · rw [h, Nat.zero_add]
    have hneg : ¬ ((j : Nat) : Int) < 0 := by omega
    simp only [hneg, if_false, Bool.false_eq_true, Int.toNat_natCast]
    have hjk : (nd l j).kind = 0 := by rw [nd_lt hj]; exact hk
    refine ⟨j, rfl, fun e => by subst e; exact hroot hjk, hjk, nd_set hj n, fun i => ?_, ⟨by simp, by simp, fun h => by rw [List.length_set]; exact h⟩, ?_⟩
    · have := cnt_set hj n i
      rw [hR.zero j hjk, hnm, show zeroN.names = [] from rfl, cntN_nil] at this
      omega
    · have hw : ∀ (l : List NodeL) (j : Nat) (h : j < l.length), bytesL (l.set j n) + weightL l[j] = bytesL l + weightL n := by
        intro l
        induction l with
        | nil => intro j h; simp at h
        | cons a l ih =>
          intro j h
          cases j with
          | zero => simp [bytesL]; omega
          | succ j =>
            have := ih j (by simpa using h)
            simp only [bytesL, List.set_cons_succ, List.map_cons, List.sum_cons, List.getElem_cons_succ] at this ⊢
            omega
      have := hw l j hj
      omega
/-- What is entered leaves a disk right. -/
theorem enter_rig {l : List NodeL} {most room who : Int} {s : SpotL} {n : NodeL} (hr : RightP l) (hs : SpotW l s) (hnk : n.kind ≠ 0) (hn : LocOk (ownN n who)) (hnm : n.names = []) (hup : n.kind = 2 → n.up = s.dir)
    (hF : freeE l who s = 0) (hE : addE l most room (ownN n who) = 0) : ∃ d p : Nat, s.dir = d ∧ (nd l d).kind = 2 ∧ addI l most room (ownN n who) = p ∧ p ≠ 0 ∧ p ≠ d ∧ (nd l p).kind = 0 ∧ legalL s.name = 0 ∧ findL (nd l d).names s.name = none ∧ s.ino = -1
      ∧ (∀ j, nd (enterL l most room who s n).1 j = if j = d then putN (nd l d) s.name p else if j = p then ownN n who else nd l j) ∧ Rig (enterL l most room who s n).1
      ∧ enterL l most room who s n = ((addL l most room (ownN n who)).set d (putN (nd l d) s.name p), (p : Int), 0)
      ∧ (l.length ≤ (enterL l most room who s n).1.length ∧ (enterL l most room who s n).1.length ≤ l.length + 1 ∧ ((l.length : Int) ≤ most → ((enterL l most room who s n).1.length : Int) ≤ most)) ∧ (bytesL (enterL l most room who s n).1 : Int) ≤ room := by
  obtain ⟨hR, h0⟩ := Rig.of hr
  obtain ⟨d, hd, hk⟩ := spot_dir hs
  have hlt : d < l.length := nd_kind (by rw [hk]; decide)
  unfold freeE at hF
  split at hF
  · cases hF
  · rename_i hneg
    split at hF
    · cases hF
    · rename_i hlk
      obtain ⟨hleg, hfn, hino⟩ := spot_new hr hs (by omega) hd hk
      rw [hd, nodeL_nd (by rw [hk]; decide)] at hlk
      obtain ⟨p, hp, hp0, hpk, hnd, hc, ⟨hl1, hl2, hl3⟩, hby⟩ := add_nd (most := most) (room := room) (n := ownN n who) hR h0 hnm hE
      have hpd : p ≠ d := fun e => by subst e; rw [hpk] at hk; cases hk
      have hR1 := add_node (l' := addL l most room (ownN n who)) hR hpk hp0 (ownN n who) hn hnk hnm hnd hc
      generalize hL : addL l most room (ownN n who) = l1 at *
      have hd1 : nd l1 d = nd l d := by rw [hnd, if_neg (Ne.symm hpd)]
      have hk1 : (nd l1 d).kind = 2 := by rw [hd1]; exact hk
      have hlt1 : d < l1.length := by omega
      have hcd : d ≠ 0 → cnt l1 d ≠ 0 := fun hd0 => by
        rw [hc]
        have := (hR.nmd d hd0 (fun h => h) (by rw [hk]; decide)).1
        omega
      have hR2 := put_name hR1 hk1 (x := p) hleg (by rw [hd1]; exact hfn) rfl hp0 (by rw [hnd, if_pos rfl]; exact hnk) fun hd0 _ => hcd hd0
      obtain ⟨f1, f2, f3, f4⟩ := put_facts (x := p) (Rig.sorted hR1 d) hk1 (nm := s.name) (by rw [hd1]; exact hfn)
      have heq : enterL l most room who s n = (l1.set d (putN (nd l d) s.name p), (p : Int), 0) := by
        unfold enterL
        rw [if_neg (by rw [show freeE l who s = 0 by unfold freeE; rw [if_neg hneg, hd, nodeL_nd (by rw [hk]; decide), if_neg hlk]; rw [hd] at hF; exact hF]; simp), if_neg (by rw [hE]; simp), hp, hL]
        unfold namedL
        rw [hd, setL_nat hlt1, nodeL_nd (by rw [hd1, hk]; decide), hd1]
      rw [hd1] at f1 f2 f3 f4 hR2
      have hR3 : Rig (l1.set d (putN (nd l d) s.name p)) := by
        refine hR2.less (E' := fun _ => False) fun k hk0 => .inr fun _ _ => ?_
        subst hk0
        have hc0 : cnt l k = 0 := cnt_zero_of fun j => Rig.cnt_free hR hpk j
        have hck : cnt (l1.set d (putN (nd l d) s.name k)) k = 1 := by rw [f2, hc, hc0, if_pos rfl]
        have hkn : nd (l1.set d (putN (nd l d) s.name k)) k = ownN n who := by rw [f1, if_neg hpd, hnd, if_pos rfl]
        rw [hkn]
        refine ⟨(by rw [hck]; rfl), fun h => (by rw [hck] at h; cases h), fun h2 => ⟨fun h => (by rw [hck] at h; cases h), fun _ => ⟨hck, ⟨d, (hup h2).trans hd, f4⟩, ?_⟩⟩⟩
        have hrd : Rooted l d := by
          by_cases hd0 : d = 0
          · subst hd0; exact .root
          · have hN := hR.nmd d hd0 (fun h => h) (by rw [hk]; decide)
            exact ((hN.2.2 hk).2 (by rw [← hc]; exact hcd hd0)).2.2
        have hrd2 : Rooted (l1.set d (putN (nd l d) s.name k)) d := by
          refine hrd.mono (fun _ => True) (fun j _ hj => ?_) fun _ _ _ => trivial
          have : nd l1 j = nd l j := by rw [hnd, if_neg]; intro e; subst e; rw [hpk] at hj; cases hj
          rw [(f3 j).1, (f3 j).2, this]
          exact ⟨hj, rfl, fun _ _ _ => trivial⟩
        refine .up k (by rw [hkn]; exact h2) ?_
        rw [hkn]
        show Rooted _ n.up
        rw [hup h2, hd]
        exact hrd2
      refine ⟨d, p, hd, hk, hp, hp0, hpd, hpk, hleg, hfn, hino, ?_, ?_, heq, ?_, ?_⟩
      · rw [heq]
        intro j
        rw [f1]
        split
        · rfl
        · rw [hnd]
      · rw [heq]; exact hR3
      · rw [heq]
        simp only [List.length_set]
        exact ⟨hl1, hl2, hl3⟩
      · rw [heq]
        have hw : ∀ (l : List NodeL) (j : Nat) (h : j < l.length) (m : NodeL), weightL m = weightL l[j] → bytesL (l.set j m) = bytesL l := by
          intro l
          induction l with
          | nil => intro j h; simp at h
          | cons a l ih =>
            intro j h m hm
            cases j with
            | zero => simp only [bytesL, List.set_cons_zero, List.map_cons, List.sum_cons]; rw [hm]; rfl
            | succ j =>
              have := ih j (by simpa using h) m hm
              simp only [bytesL, List.set_cons_succ, List.map_cons, List.sum_cons] at this ⊢
              omega
        have := hw l1 d hlt1 (putN (nd l d) s.name p) (by rw [← nd_lt hlt1, hd1]; rfl)
        simp only
        rw [this]
        exact hby
end Go.Proofs.YtpmhmippoefcfaaGreatDoor
namespace Go.Proofs.YtpmhmippoefcfaaGreatDoor
theorem bytes_set {l : List NodeL} {j : Nat} (h : j < l.length) (m : NodeL) : bytesL (l.set j m) + weightL (nd l j) = bytesL l + weightL m := by
  rw [nd_lt h]
  induction l generalizing j with
  | nil => simp at h
  | cons a l ih =>
    cases j with
    | zero => simp [bytesL]; omega
    | succ j =>
      have := ih (j := j) (by simpa using h)
      simp only [bytesL, List.set_cons_succ, List.map_cons, List.sum_cons, List.getElem_cons_succ] at this ⊢
      omega
/-- What is left of a node that has lost a name. -/
def leftN (n : NodeL) : NodeL := if n.links - 1 ≤ 0 ∧ n.opn ≤ 0 then zeroN else lessN n
theorem leftN_kind (n : NodeL) (h : n.kind ≠ 0) : (leftN n).kind = 0 ↔ (n.links - 1 ≤ 0 ∧ n.opn ≤ 0) := by
  unfold leftN
  split
  · rename_i hc; exact ⟨fun _ => hc, fun _ => rfl⟩
  · rename_i hc; exact ⟨fun h1 => absurd h1 h, fun h1 => absurd h1 hc⟩
/-- A name is lost, and what it named. -/
theorem lost_rig {l : List NodeL} {E : Nat → Prop} (h : RigE l E) {s : SpotL} {d y : Nat} (hd : s.dir = d) (hk : (nd l d).kind = 2) (hi : s.ino = y) (hf : findL (nd l d).names s.name = some (y : Int)) (hy0 : y ≠ 0) (hyk : (nd l y).kind ≠ 0) (hyE : ¬ E y)
    (hyn : (nd l y).kind = 2 → (nd l y).names = []) (hup : ∀ k, E k → (nd l k).kind = 2 → (nd l k).up ≠ y) :
    y ≠ d ∧ lostL l s = (l.set d (dropN (nd l d) s.name)).set y (leftN (nd l y)) ∧ (∀ j, nd (lostL l s) j = if j = d then dropN (nd l d) s.name else if j = y then leftN (nd l y) else nd l j) ∧ (∀ j : Nat, cnt (lostL l s) j + (if y = j then 1 else 0) = cnt l j)
      ∧ (lostL l s).length = l.length ∧ bytesL (lostL l s) ≤ bytesL l ∧ (∀ k, k ≠ y → (nd (lostL l s) k).kind = (nd l k).kind ∧ (nd (lostL l s) k).up = (nd l k).up) ∧ RigE (lostL l s) E := by
  have hs := Rig.sorted h d
  have hlt : d < l.length := nd_kind (by rw [hk]; decide)
  have hlty : y < l.length := nd_kind hyk
  have hyd : y ≠ d := by
    rintro rfl
    rw [hyn hk] at hf
    cases hf
  obtain ⟨f1, f2, f3⟩ := drop_facts hs hk hf
  have hR1 := drop_name h hk hf
  generalize hL : l.set d (dropN (nd l d) s.name) = l1 at *
  have hlen1 : l1.length = l.length := by rw [← hL, List.length_set]
  have hy1 : nd l1 y = nd l y := by rw [f1, if_neg hyd]
  have hlty1 : y < l1.length := by omega
  have hdrop : droppedL l s = l1 := by unfold droppedL; rw [hd, setL_nat hlt, nodeL_nd (by rw [hk]; decide), hL]
  have hN := h.nmd y hy0 hyE hyk
  have hcy : 0 < cnt l y := by
    have h1 := cntN_drop hs.2 hf y
    rw [if_pos rfl] at h1
    have := cnt_ge (l := l) d y
    omega
  have hc1 := f2 y
  rw [if_pos rfl] at hc1
  have hlk : (nd l y).links = cnt l y := hN.1
  have hlost : lostL l s = l1.set y (leftN (nd l y)) := by
    unfold lostL settleL
    rw [hdrop, hi, setL_nat hlty1, nodeL_nd (by rw [hy1]; exact hyk), hy1]
    have hnd2 : nd (l1.set y (lessN (nd l y))) y = lessN (nd l y) := by rw [nd_set hlty1, if_pos rfl]
    have hg : gotB (l1.set y (lessN (nd l y))) (y : Int) = true := (got_nd _ y).2 (by rw [hnd2]; exact hyk)
    rw [hg, nodeL_nd (by rw [hnd2]; exact hyk), hnd2]
    unfold leftN
    split
    · rename_i hc
      obtain ⟨-, -, a, b⟩ := hc
      rw [if_pos ⟨a, b⟩, setL_nat (by rw [List.length_set]; exact hlty1), List.set_set]
    · rename_i hc
      rw [if_neg fun ⟨a, b⟩ => hc ⟨rfl, by omega, a, b⟩]
  have hnd : ∀ j, nd (l1.set y (leftN (nd l y))) j = if j = y then leftN (nd l y) else nd l1 j := nd_set hlty1 _
  have hleft : (leftN (nd l y)).names = (nd l1 y).names := by
    rw [hy1]
    unfold leftN
    split
    · by_cases h2 : (nd l y).kind = 2
      · rw [hyn h2]; rfl
      · rw [(h.loc y hyk).2.1 h2]; rfl
    · rfl
  have hcs : ∀ j : Int, cnt (l1.set y (leftN (nd l y))) j = cnt l1 j := fun j => by
    have := cnt_set hlty1 (leftN (nd l y)) j
    rw [hleft] at this
    omega
  have hloc : (leftN (nd l y)).kind ≠ 0 → LocOk (leftN (nd l y)) := fun hne => by
    have h1 := h.loc y hyk
    unfold leftN at hne ⊢
    split
    · rename_i hc; rw [if_pos hc] at hne; exact absurd rfl hne
    · exact set_loc h1 (m := lessN (nd l y)) rfl (loc_mode h1) rfl rfl rfl
  have hnone : (leftN (nd l y)).kind = 0 → ∀ k, cntN (nd l1 k).names y = 0 := fun hz k => by
    obtain ⟨a, _⟩ := (leftN_kind _ hyk).1 hz
    have := cnt_ge (l := l1) k y
    omega
  have hway : ∀ k : Nat, k ≠ 0 → ¬ (E k ∨ k = y) → (nd l1 k).kind = 2 → Rooted l1 k → Rooted (l1.set y (leftN (nd l y))) k := fun k hk0 hkE hk2 hr => by
    refine hr.mono (fun k => (nd l1 k).kind = 2 → k ≠ y) (fun j hj hj2 => ?_) fun j e _ _ => ?_
    · have hjy := hj hj2
      rw [hnd, if_neg hjy]
      refine ⟨hj2, rfl, fun u hu hu0 hu2 => ?_⟩
      rintro rfl
      have hyd2 : (nd l u).kind = 2 := by rw [← hy1]; exact hu2
      by_cases hj0 : j = 0
      · subst hj0
        have := hR1.root.2.1
        omega
      · by_cases hjE : E j
        · exact hup j hjE (by rw [← (f3 j).1]; exact hj2) (by rw [← (f3 j).2]; exact hu)
        · have hNj := (hR1.nmd j hj0 (fun he => he.elim hjE hjy) (by rw [hj2]; decide)).2.2 hj2
          by_cases hcz : cnt l1 j = 0
          · have := (hNj.1 hcz).2
            omega
          · obtain ⟨_, ⟨v, hv, hv2⟩, _⟩ := hNj.2 hcz
            have : v = u := by omega
            subst this
            rw [hy1, hyn hyd2, cntN_nil] at hv2
            exact absurd hv2 (Nat.lt_irrefl 0)
    · obtain rfl : k = j := by omega
      exact fun he => hkE (.inr he)
  have hR2 := hR1.node (y := y) (.inr rfl) hy0 hlty1 (leftN (nd l y)) hleft hloc (fun hz => by
    unfold leftN at hz ⊢
    split
    · rfl
    · rename_i hc; rw [if_neg hc] at hz; exact absurd hz hyk) hnone hway
  have hR3 : RigE (l1.set y (leftN (nd l y))) E := by
    refine hR2.less fun k hkE => ?_
    rcases hkE with hkE | rfl
    · exact .inl hkE
    · refine .inr fun _ hkk => ?_
      have hck := hcs k
      rw [hnd, if_pos rfl] at hkk ⊢
      have hns : ¬ ((nd l k).links - 1 ≤ 0 ∧ (nd l k).opn ≤ 0) := fun hc => hkk ((leftN_kind _ hyk).2 hc)
      have hle : leftN (nd l k) = lessN (nd l k) := by unfold leftN; rw [if_neg hns]
      rw [hle] at hck ⊢
      have e1 : (lessN (nd l k)).links = (nd l k).links - 1 := rfl
      refine ⟨by rw [hck, e1]; omega, fun hz => ?_, fun h2 => ?_⟩
      · show 1 ≤ (nd l k).opn
        omega
      · have h2' : (nd l k).kind = 2 := h2
        have h1 := ((hN.2.2 h2').2 (by omega)).1
        refine ⟨fun _ => ⟨hyn h2', ?_⟩, fun hz => absurd (by omega) hz⟩
        show (if (nd l k).kind = 2 then 0 else (nd l k).up) = 0
        rw [if_pos h2']
  rw [hlost]
  refine ⟨hyd, rfl, fun j => ?_, fun j => ?_, by rw [List.length_set, hlen1], ?_, fun k hky => ?_, hR3⟩
  · rw [hnd]
    by_cases hjy : j = y
    · subst hjy
      rw [if_pos rfl, if_neg hyd, if_pos rfl]
    · rw [if_neg hjy, f1, if_neg hjy]
  · rw [hcs]; exact f2 j
  · have b1 := bytes_set hlt (dropN (nd l d) s.name)
    have b2 := bytes_set hlty1 (leftN (nd l y))
    rw [hL] at b1
    rw [hy1] at b2
    have w1 : weightL (dropN (nd l d) s.name) = weightL (nd l d) := rfl
    have w2 : weightL (leftN (nd l y)) ≤ weightL (nd l y) := by
      unfold leftN
      split
      · exact Nat.zero_le _
      · exact Nat.le_refl _
    omega
  · rw [hnd, if_neg hky]; exact f3 k
/-- A name more for a node that is no directory. -/
theorem link_rig {l : List NodeL} (h : Rig l) {s : SpotL} {d i : Nat} (hd : s.dir = d) (hk : (nd l d).kind = 2) (hi0 : i ≠ 0) (hik : (nd l i).kind ≠ 0) (hi2 : (nd l i).kind ≠ 2) (hf : findL (nd l d).names s.name = none) (hleg : legalL s.name = 0) (hlk : 1 ≤ (nd l d).links) :
    i ≠ d ∧ namedL (setL l i (moreN (nodeL l i))) s i = (l.set i (moreN (nd l i))).set d (putN (nd l d) s.name i) ∧ Rig (namedL (setL l i (moreN (nodeL l i))) s i) ∧ bytesL (namedL (setL l i (moreN (nodeL l i))) s i) = bytesL l := by
  have hlt : d < l.length := nd_kind (by rw [hk]; decide)
  have hlti : i < l.length := nd_kind hik
  have hid : i ≠ d := by rintro rfl; exact hi2 hk
  have h1 := h.all (fun k => k = i)
  have hl := h.loc i hik
  have hN := h.nmd i hi0 (fun h => h) hik
  have hkin := nd_map_set hlti (moreN (nd l i)) rfl rfl
  have h2 := h1.node (y := i) rfl hi0 hlti (moreN (nd l i)) rfl (fun _ => set_loc hl rfl (loc_mode hl) rfl rfl rfl) (fun hz => absurd hz hik) (fun hz => absurd hz hik) fun k _ _ _ hr => hr.kin hkin
  have hnd := nd_set hlti (moreN (nd l i))
  have hcs : ∀ j : Int, cnt (l.set i (moreN (nd l i))) j = cnt l j := fun j => by
    have := cnt_set hlti (moreN (nd l i)) j
    rw [show (moreN (nd l i)).names = (nd l i).names from rfl] at this
    omega
  have hlt2 : d < (l.set i (moreN (nd l i))).length := by rw [List.length_set]; exact hlt
  have heq : namedL (setL l i (moreN (nodeL l i))) s i = (l.set i (moreN (nd l i))).set d (putN (nd l d) s.name i) := by
    unfold namedL
    rw [nodeL_nd hik, setL_nat hlti, hd, setL_nat hlt2, nodeL_nd (by rw [hnd, if_neg (Ne.symm hid), hk]; decide), hnd, if_neg (Ne.symm hid)]
  have hb1 := bytes_set hlti (moreN (nd l i))
  generalize hL : l.set i (moreN (nd l i)) = l1 at *
  have hd1 : nd l1 d = nd l d := by rw [hnd, if_neg (Ne.symm hid)]
  have hk1 : (nd l1 d).kind = 2 := by rw [hd1]; exact hk
  have hR2 := put_name h2 hk1 (x := i) hleg (by rw [hd1]; exact hf) rfl hi0 (by rw [hnd, if_pos rfl]; exact hik) fun hd0 _ => by
    rw [hcs]
    have := (h.nmd d hd0 (fun h => h) (by rw [hk]; decide)).1
    omega
  obtain ⟨f1, f2, f3, f4⟩ := put_facts (x := i) (Rig.sorted h2 d) hk1 (nm := s.name) (by rw [hd1]; exact hf)
  rw [hd1] at f1 f2 f3 f4 hR2
  rw [heq]
  refine ⟨hid, rfl, hR2.less fun k hki => .inr fun _ _ => ?_, ?_⟩
  · subst hki
    have hck : cnt (l1.set d (putN (nd l d) s.name k)) k = cnt l k + 1 := by rw [f2, hcs, if_pos rfl]
    have hkn : nd (l1.set d (putN (nd l d) s.name k)) k = moreN (nd l k) := by rw [f1, if_neg hid, hnd, if_pos rfl]
    rw [hkn]
    refine ⟨?_, fun hz => (by rw [hck] at hz; cases hz), fun h2 => absurd h2 hi2⟩
    show (nd l k).links + 1 = _
    rw [hck, hN.1]
    rfl
  · have b2 := bytes_set hlt2 (putN (nd l d) s.name i)
    rw [hd1] at b2
    have w1 : weightL (moreN (nd l i)) = weightL (nd l i) := rfl
    have w2 : weightL (putN (nd l d) s.name i) = weightL (nd l d) := rfl
    omega
/-- Another mode. -/
theorem mode_rig {l : List NodeL} (h : Rig l) {i : Nat} (hik : (nd l i).kind ≠ 0) (mode : Int) : Rig (l.set i (modeN (nd l i) mode)) ∧ bytesL (l.set i (modeN (nd l i) mode)) = bytesL l := by
  have hlti : i < l.length := nd_kind hik
  have hnd := nd_set hlti (modeN (nd l i) mode)
  have hcs : ∀ j : Int, cnt (l.set i (modeN (nd l i) mode)) j = cnt l j := fun j => by
    have := cnt_set hlti (modeN (nd l i) mode) j
    rw [show (modeN (nd l i) mode).names = (nd l i).names from rfl] at this
    omega
  have hkin := nd_map_set hlti (modeN (nd l i) mode) rfl rfl
  have b := bytes_set hlti (modeN (nd l i) mode)
  have hw : weightL (modeN (nd l i) mode) = weightL (nd l i) := rfl
  generalize l.set i (modeN (nd l i) mode) = l1 at *
  have hsame : ∀ j, (nd l1 j).names = (nd l j).names ∧ (nd l1 j).links = (nd l j).links ∧ (nd l1 j).opn = (nd l j).opn := fun j => by
    rw [hnd]; split
    · rename_i e; subst e; exact ⟨rfl, rfl, rfl⟩
    · exact ⟨rfl, rfl, rfl⟩
  refine ⟨⟨⟨(hkin 0).1.trans h.root.1, (hkin 0).2.trans h.root.2.1, (hsame 0).2.1.trans h.root.2.2⟩, fun j hj => ?_, fun j hj => ?_, fun j e he => ?_, fun j hj0 _ hjk => ?_⟩, by omega⟩
  · rw [(hkin j).1] at hj
    rw [hnd, if_neg (by rintro rfl; exact hik hj)]
    exact h.zero j hj
  · rw [(hkin j).1] at hj
    rw [hnd]
    split
    · refine set_loc (h.loc i hik) rfl ?_ rfl rfl rfl
      show 0 ≤ mode % 64 ∧ mode % 64 ≤ 63
      omega
    · exact h.loc j hj
  · rw [(hsame j).1] at he
    obtain ⟨k, a, b, c⟩ := h.nam j e he
    exact ⟨k, a, b, by rw [(hkin k).1]; exact c⟩
  · rw [(hkin j).1] at hjk
    have hN := (h.nmd j hj0 (fun h => h) hjk).same (hcs j) (fun _ u hu => by rw [(hsame u).1]; exact hu) fun _ hr => hr.kin hkin
    obtain ⟨a, b, c⟩ := hN
    refine ⟨(hsame j).2.1.trans a, fun hz => by rw [(hsame j).2.2]; exact b hz, fun h2 => ?_⟩
    rw [(hkin j).1] at h2
    obtain ⟨c1, c2⟩ := c h2
    refine ⟨fun hz => ?_, fun hz => ?_⟩
    · rw [(hsame j).1, (hkin j).2]; exact c1 hz
    · rw [(hkin j).2]; exact c2 hz
end Go.Proofs.YtpmhmippoefcfaaGreatDoor
namespace Go.Proofs.YtpmhmippoefcfaaGreatDoor
theorem find_drop_other (es : List EntL) (a b : Nm) (h : b ≠ a) : findL (dropL es a) b = findL es b := by
  unfold findL dropL
  rw [List.find?_filter]
  congr 1
  refine congrArg (fun p => List.find? p es) (funext fun e => ?_)
  by_cases he : e.1 = b
  · have h1 : (e.1 == a) = false := by rw [he]; simpa using h
    cases h2 : (e.1 == b) <;> simp [h1]
  · have h1 : (e.1 == b) = false := by simpa using he
    simp [h1]
/-- The way up that does not come to x. -/
theorem avoid {l : List NodeL} {x : Nat} (hx : x < l.length) : ∀ (f : Nat) (j : Int), rootR l f j = true → beneathL l f j x = false → Rooted (l.set x zeroN) j := by
  intro f
  induction f with
  | zero => intro j h; cases h
  | succ f ih =>
    intro j h hb
    unfold beneathL at hb
    split at hb
    · cases hb
    · rename_i hne
      split at hb
      · rename_i h0; subst h0; exact .root
      · rename_i h0
        rcases rootR_up h with h1 | ⟨hg, hk, h2⟩
        · exact absurd h1 h0
        · obtain ⟨k, rfl, _, hk0⟩ := got_nat hg
          rw [at_nd] at hk h2
          rw [nodeL_nd hk0] at hb
          have hn : nd (l.set x zeroN) k = nd l k := by rw [nd_set hx, if_neg (by rintro rfl; exact hne rfl)]
          exact .up k (by rw [hn]; exact hk) (by rw [hn]; exact ih _ h2 hb)
/-- What is renamed leaves a disk right. -/
theorem move_rig {l : List NodeL} (h : Rig l) {s t : SpotL} {d1 d2 x : Nat} (m : MoveN l s t d1 d2 x) :
    Rig (moveL l s t) ∧ (moveL l s t).length = l.length ∧ bytesL (moveL l s t) ≤ bytesL l ∧ nd (moveL l s t) x = placeN (nd l x) d2 ∧ findL (nd (moveL l s t) d2).names t.name = some (x : Int) ∧ findL (nd (moveL l s t) d1).names s.name = none ∧ (nd (moveL l s t) d1).kind = 2 ∧ (nd (moveL l s t) d2).kind = 2 := by
  have h0len : 0 < l.length := by have := nd_kind (l := l) (k := d1) (by rw [m.sk]; decide); omega
  have hlt1 : d1 < l.length := nd_kind (by rw [m.sk]; decide)
  have hltx : x < l.length := nd_kind m.xk
  have hxd1 : x ≠ d1 := by
    by_cases hx2 : (nd l x).kind = 2
    · exact (up_holder h m.sf m.x0 (fun h => h) hx2).2.1
    · rintro rfl; exact hx2 m.sk
  have hxd2 : x ≠ d2 := by
    by_cases hx2 : (nd l x).kind = 2
    · rintro rfl
      have := m.bn hx2
      unfold beneathL at this
      rw [if_pos rfl] at this
      cases this
    · rintro rfl; exact hx2 m.tk
  have hs := Rig.sorted h d1
  obtain ⟨f1, f2, f3⟩ := drop_facts hs m.sk m.sf
  have hR1 : RigE (l.set d1 (dropN (nd l d1) s.name)) (fun k => k = x) := (drop_name h m.sk m.sf).less fun k hk => .inl (hk.resolve_left id)
  have hbb1 := bytes_set hlt1 (dropN (nd l d1) s.name)
  have hdrop : droppedL l s = l.set d1 (dropN (nd l d1) s.name) := by unfold droppedL; rw [m.sd, setL_nat hlt1, nodeL_nd (by rw [m.sk]; decide)]
  have hlen1 : (l.set d1 (dropN (nd l d1) s.name)).length = l.length := List.length_set
  generalize hL1 : l.set d1 (dropN (nd l d1) s.name) = l1 at *
  have hw1 : bytesL l1 = bytesL l := by
    have : weightL (dropN (nd l d1) s.name) = weightL (nd l d1) := rfl
    omega
  have hx1 : nd l1 x = nd l x := by rw [f1, if_neg hxd1]
  have hsn : d1 = d2 → t.name ≠ s.name := by
    rintro rfl e
    have hsf := m.sf
    by_cases hn : t.ino < 0
    · have := m.tn hn
      rw [e, hsf] at this
      cases this
    · obtain ⟨y, hy⟩ := Int.eq_ofNat_of_zero_le (show 0 ≤ t.ino by omega)
      obtain ⟨a, _, _, b, _⟩ := m.ty y hy
      rw [e, hsf] at a
      injection a with a
      omega
  have hd2n : findL (nd l1 d2).names t.name = findL (nd l d2).names t.name := by
    rw [f1]
    split
    · rename_i e
      rw [e]
      exact find_drop_other _ _ _ (hsn e.symm)
    · rfl
  have hk21 : (nd l1 d2).kind = 2 := (f3 d2).1.trans m.tk
  -- behind the loss of what the new name named
  have hmid : ∃ l2 : List NodeL, movedL l s t = l2 ∧ RigE l2 (fun k => k = x) ∧ l2.length = l.length ∧ bytesL l2 ≤ bytesL l ∧ findL (nd l2 d2).names t.name = none ∧ findL (nd l2 d1).names s.name = none ∧ (∀ k : Nat, t.ino ≠ k → (nd l2 k).kind = (nd l k).kind ∧ (nd l2 k).up = (nd l k).up) ∧ nd l2 x = nd l x ∧ cnt l2 x + 1 = cnt l x ∧ (d2 ≠ 0 → cnt l2 d2 = cnt l d2) ∧ (nd l2 d2).kind = 2 ∧ (nd l2 d1).kind = 2 := by
    have hc1x := f2 x
    rw [if_pos rfl] at hc1x
    by_cases hn : t.ino < 0
    · refine ⟨l1, by unfold movedL; rw [if_neg (by omega), hdrop], hR1, hlen1, by omega, hd2n.trans (m.tn hn), ?_, fun k _ => f3 k, hx1, hc1x, fun _ => ?_, hk21, (f3 d1).1.trans m.sk⟩
      · rw [f1, if_pos rfl]; exact find_drop _ _
      · have := f2 d2
        rw [if_neg hxd2] at this
        exact this
    · obtain ⟨y, hy⟩ := Int.eq_ofNat_of_zero_le (show 0 ≤ t.ino by omega)
      obtain ⟨a1, a2, a3, a4, a5⟩ := m.ty y hy
      have hyd1 : y ≠ d1 := by
        rintro rfl
        split at a5
        · have hsf := m.sf
          rw [a5.2] at hsf
          cases hsf
        · exact a5 m.sk
      have hy1 : nd l1 y = nd l y := by rw [f1, if_neg hyd1]
      obtain ⟨b1, b2, b3, b4, b5, b6, b7, b8⟩ := lost_rig (s := t) hR1 m.td hk21 hy (hd2n.trans a1) a2 (by rw [hy1]; exact a3) a4 (fun h2 => by
        rw [hy1] at h2 ⊢
        split at a5
        · exact a5.2
        · exact absurd h2 a5) fun k hk hk2 => by
          subst hk
          rw [hx1] at hk2 ⊢
          have := (up_holder h m.sf m.x0 (fun h => h) hk2).1
          rw [this]
          omega
      refine ⟨lostL l1 t, by unfold movedL; rw [if_pos (by omega), hdrop], b8, b5.trans hlen1, by omega, ?_, ?_, fun k hk => ?_, ?_, ?_, fun _ => ?_, ?_, ?_⟩
      · rw [b3, if_pos rfl]; exact find_drop _ _
      · rw [b3]
        split
        · rename_i e
          show findL (dropL (nd l1 d2).names t.name) s.name = none
          rw [find_drop_other _ _ _ (Ne.symm (hsn e)), f1, if_pos e.symm]
          exact find_drop _ _
        · rw [if_neg (Ne.symm hyd1), f1, if_pos rfl]; exact find_drop _ _
      · have hky : k ≠ y := by omega
        obtain ⟨c1, c2⟩ := b7 k hky
        exact ⟨c1.trans (f3 k).1, c2.trans (f3 k).2⟩
      · rw [b3, if_neg hxd2, if_neg (Ne.symm a4), hx1]
      · have := b4 x
        rw [if_neg a4] at this
        omega
      · have c1 := b4 d2
        have c2 := f2 d2
        rw [if_neg b1] at c1
        rw [if_neg hxd2] at c2
        omega
      · exact (b7 d2 (Ne.symm b1)).1.trans hk21
      · exact (b7 d1 (Ne.symm hyd1)).1.trans ((f3 d1).1.trans m.sk)
  obtain ⟨l2, e2, g1, g2, g3, g4, g5, g6, g7, g8, g9, g10, g11⟩ := hmid
  have hlk : d2 ≠ 0 → cnt l d2 ≠ 0 := fun hd0 => by
    have := (h.nmd d2 hd0 (fun h => h) (by rw [m.tk]; decide)).1
    have := m.lk
    omega
  have hlt22 : d2 < l2.length := nd_kind (by rw [g10]; decide)
  have hR3 := put_name g1 g10 (x := x) m.tl g4 rfl m.x0 (by rw [g7]; exact m.xk) fun hd0 _ => by rw [g9 hd0]; exact hlk hd0
  obtain ⟨p1, p2, p3, p4⟩ := put_facts (x := x) (Rig.sorted g1 d2) g10 g4
  have hbb3 := bytes_set hlt22 (putN (nd l2 d2) t.name x)
  have hlen3 : (l2.set d2 (putN (nd l2 d2) t.name x)).length = l.length := List.length_set.trans g2
  have hname : namedL (movedL l s t) t s.ino = l2.set d2 (putN (nd l2 d2) t.name x) := by
    unfold namedL
    rw [e2, m.td, setL_nat hlt22, nodeL_nd (by rw [g10]; decide), m.si]
  generalize hL3 : l2.set d2 (putN (nd l2 d2) t.name x) = l3 at *
  have hx3 : nd l3 x = nd l x := by rw [p1, if_neg hxd2, g7]
  have hltx3 : x < l3.length := by omega
  have hmove : moveL l s t = l3.set x (placeN (nd l x) d2) := by
    unfold moveL
    rw [hname, m.si, setL_nat hltx3, nodeL_nd (by rw [hx3]; exact m.xk), hx3, m.td]
  rw [hmove]
  have hnd := nd_set hltx3 (placeN (nd l x) d2)
  have hkin : ∀ k : Nat, t.ino ≠ k → k ≠ x → (nd (l3.set x (placeN (nd l x) d2)) k).kind = (nd l k).kind ∧ (nd (l3.set x (placeN (nd l x) d2)) k).up = (nd l k).up := fun k hk hkx => by
    rw [hnd, if_neg hkx]
    exact ⟨(p3 k).1.trans (g6 k hk).1, (p3 k).2.trans (g6 k hk).2⟩
  have hrd : Rooted l d2 := by
    by_cases hd0 : d2 = 0
    · subst hd0; exact .root
    · exact (((h.nmd d2 hd0 (fun h => h) (by rw [m.tk]; decide)).2.2 m.tk).2 (hlk hd0)).2.2
  -- the way up from the new directory
  have hrd4 : (nd l x).kind = 2 → Rooted (l3.set x (placeN (nd l x) d2)) d2 := fun hx2 => by
    have hav := avoid hltx _ _ (Rooted_rootR h0len hrd) (m.bn hx2)
    have hndz := nd_set hltx zeroN
    have hP : ∀ y : Nat, t.ino = y → (nd l y).kind = 2 ∧ (nd l y).names = [] := fun y hy => by
      have := (m.ty y hy).2.2.2.2
      rwa [if_pos hx2] at this
    refine hav.mono (fun k => t.ino ≠ k) (fun k hk hk2 => ?_) fun k e _ hk => ?_
    · have hkx : k ≠ x := by rintro rfl; rw [hndz, if_pos rfl] at hk2; cases hk2
      rw [hndz, if_neg hkx] at hk2 ⊢
      obtain ⟨c1, c2⟩ := hkin k hk hkx
      refine ⟨c1.trans hk2, c2, fun u hu hu0 hty => ?_⟩
      have hun := (hP u hty).2
      by_cases hk0 : k = 0
      · subst hk0
        have := h.root.2.1
        omega
      · have hN := (h.nmd k hk0 (fun h => h) (by rw [hk2]; decide)).2.2 hk2
        by_cases hcz : cnt l k = 0
        · have := (hN.1 hcz).2
          omega
        · obtain ⟨_, ⟨v, hv, hv2⟩, _⟩ := hN.2 hcz
          have : v = u := by omega
          subst this
          rw [hun, cntN_nil] at hv2
          exact absurd hv2 (Nat.lt_irrefl 0)
    · have hkd : k = d2 := by omega
      subst hkd
      obtain ⟨a1, _, _, _, _⟩ := m.ty k hk
      rw [(hP k hk).2] at a1
      cases a1
  have hway : ∀ j : Int, Rooted l3 j → Rooted (l3.set x (placeN (nd l x) d2)) j := fun j hj => by
    induction hj with
    | root => exact .root
    | up k hk _ ih =>
      by_cases hkx : k = x
      · subst hkx
        have hx2 : (nd l k).kind = 2 := by rw [← hx3]; exact hk
        have hn : nd (l3.set k (placeN (nd l k) d2)) k = placeN (nd l k) d2 := by rw [hnd, if_pos rfl]
        refine .up k (by rw [hn]; exact hx2) ?_
        rw [hn]
        show Rooted _ (if (nd l k).kind = 2 then (d2 : Int) else (nd l k).up)
        rw [if_pos hx2]
        exact hrd4 hx2
      · have hn : nd (l3.set x (placeN (nd l x) d2)) k = nd l3 k := by rw [hnd, if_neg hkx]
        exact .up k (by rw [hn]; exact hk) (by rw [hn]; exact ih)
  have hlx := h.loc x m.xk
  have hR4 := hR3.node (y := x) rfl m.x0 hltx3 (placeN (nd l x) d2) (by rw [hx3]; rfl) (fun _ => set_loc hlx rfl (loc_mode hlx) rfl rfl rfl) (fun hz => absurd hz m.xk) (fun hz => absurd hz m.xk) fun k _ _ _ hr => hway k hr
  have hcs : ∀ j : Int, cnt (l3.set x (placeN (nd l x) d2)) j = cnt l3 j := fun j => by
    have := cnt_set hltx3 (placeN (nd l x) d2) j
    rw [hx3, show (placeN (nd l x) d2).names = (nd l x).names from rfl] at this
    omega
  have hN := h.nmd x m.x0 (fun h => h) m.xk
  have hc3 := p2 x
  rw [if_pos rfl] at hc3
  have hcx : cnt (l3.set x (placeN (nd l x) d2)) x = cnt l x := by rw [hcs]; omega
  have hnx : nd (l3.set x (placeN (nd l x) d2)) x = placeN (nd l x) d2 := by rw [hnd, if_pos rfl]
  have hn2 : nd (l3.set x (placeN (nd l x) d2)) d2 = putN (nd l2 d2) t.name x := by rw [hnd, if_neg (Ne.symm hxd2), p1, if_pos rfl]
  refine ⟨hR4.less fun k hk => .inr fun _ _ => ?_, by rw [List.length_set, hlen3], ?_, hnx, ?_, ?_, ?_, ?_⟩
  · subst hk
    rw [hnx]
    refine ⟨by rw [hcx]; exact hN.1, fun hz => by rw [hcx] at hz; exact hN.2.1 hz, fun hx2 => ?_⟩
    have hx2' : (nd l k).kind = 2 := hx2
    have hu := up_holder h m.sf m.x0 (fun h => h) hx2'
    refine ⟨fun hz => (by rw [hcx, hu.2.2] at hz; cases hz), fun _ => ⟨hcx.trans hu.2.2, ⟨d2, ?_, by rw [hn2]; rw [p1, if_pos rfl] at p4; exact p4⟩, ?_⟩⟩
    · show (if (nd l k).kind = 2 then (d2 : Int) else (nd l k).up) = d2
      rw [if_pos hx2']
    · refine .up k (by rw [hnx]; exact hx2) ?_
      rw [hnx]
      show Rooted _ (if (nd l k).kind = 2 then (d2 : Int) else (nd l k).up)
      rw [if_pos hx2']
      exact hrd4 hx2'
  · have b4 := bytes_set hltx3 (placeN (nd l x) d2)
    rw [hx3] at b4
    have w1 : weightL (placeN (nd l x) d2) = weightL (nd l x) := rfl
    have w2 : weightL (putN (nd l2 d2) t.name x) = weightL (nd l2 d2) := rfl
    omega
  · rw [hn2]; exact find_put _ _ _
  · rw [hnd, if_neg (Ne.symm hxd1), p1]
    split
    · rename_i e
      show findL (putL (nd l2 d2).names (t.name, (x : Int))) s.name = none
      rw [find_put_other (Rig.sorted g1 d2).2 _ _ _ (Ne.symm (hsn e)), ← e]
      exact g5
    · exact g5
  · rw [hnd, if_neg (Ne.symm hxd1), (p3 d1).1]; exact g11
  · rw [hn2]; exact g10
end Go.Proofs.YtpmhmippoefcfaaGreatDoor
namespace Go.Proofs.YtpmhmippoefcfaaGreatDoor
theorem right_back {l l' : List NodeL} {most room : Int} (h : rightR l most room = true) (hr : Rig l') (hl : l'.length = l.length) (hb : bytesL l' ≤ bytesL l) : rightR l' most room = true := by
  obtain ⟨_, h1, h2, h3⟩ := (right_iff l most room).1 h
  exact (right_iff l' most room).2 ⟨hr, by omega, by omega, by omega⟩
theorem own_loc (n : NodeL) (who : Int) (hk : 1 ≤ n.kind ∧ n.kind ≤ 3) (hm : 0 ≤ n.mode ∧ n.mode ≤ 63) (ho : n.opn = 0) (hn : n.names = []) (hd : n.kind = 2 → n.data = []) : LocOk (ownN n who) := by
  refine ⟨?_, fun _ => hn, hd, ?_⟩
  · unfold plainB
    simp only [Bool.and_eq_true, decide_eq_true_iff]
    refine ⟨⟨⟨hk, hm.1⟩, hm.2⟩, ?_⟩
    show 0 ≤ n.opn
    omega
  · show SortedP n.names
    rw [hn]; exact sorted_nil
theorem file_loc (mode who : Int) : LocOk (ownN (fileN mode) who) := own_loc _ _ (show (1 : Int) ≤ 1 ∧ (1 : Int) ≤ 3 by decide) (by show 0 ≤ mode % 64 ∧ mode % 64 ≤ 63; omega) rfl rfl (fun h => rfl)
theorem dir_loc (mode up who : Int) : LocOk (ownN (dirN mode up) who) := own_loc _ _ (show (1 : Int) ≤ 2 ∧ (2 : Int) ≤ 3 by decide) (by show 0 ≤ mode % 64 ∧ mode % 64 ≤ 63; omega) rfl rfl (fun h => rfl)
theorem link_loc (text : Nm) (who : Int) : LocOk (ownN (linkN text) who) := own_loc _ _ (show (1 : Int) ≤ 3 ∧ (3 : Int) ≤ 3 by decide) (show (0 : Int) ≤ 63 ∧ (63 : Int) ≤ 63 by decide) rfl rfl (fun h => by cases h)
/-- What is entered: the same disk, or one more node in it. -/
theorem right_enter {l : List NodeL} {most room who : Int} (h : rightR l most room = true) {s : SpotL} (hs : SpotW l s) {n : NodeL} (hnk : n.kind ≠ 0) (hn : LocOk (ownN n who)) (hnm : n.names = []) (hup : n.kind = 2 → n.up = s.dir) : rightR (enterL l most room who s n).1 most room = true := by
  by_cases hF : freeE l who s = 0
  · by_cases hE : addE l most room (ownN n who) = 0
    · obtain ⟨d, p, -, -, -, -, -, -, -, -, -, -, hR, -, ⟨h1, _, h3⟩, hb⟩ := enter_rig (right_RP h) hs hnk hn hnm hup hF hE
      obtain ⟨_, a1, a2, _⟩ := (right_iff l most room).1 h
      exact (right_iff _ most room).2 ⟨hR, by omega, h3 a2, hb⟩
    · unfold enterL
      rw [if_neg (by rw [hF]; simp), if_pos hE]
      exact h
  · unfold enterL
    rw [if_pos hF]
    exact h
section
variable {l : List NodeL} {most room : Int} (h : rightR l most room = true) (who fr : Int) (path : Str)
include h
theorem right_mkfile (mode : Int) : rightR (mkfileL l most room who fr path mode).1 most room = true := by
  unfold mkfileL
  split
  · exact h
  · rename_i hw
    split
    · exact h
    · exact right_enter h (walk_spot (right_RP h) (Decidable.not_not.1 hw)) (show (1 : Int) ≠ 0 by decide) (file_loc mode who) rfl (fun h => by cases h)
theorem right_mkdir (mode : Int) : rightR (mkdirL l most room who fr path mode).1 most room = true := by
  unfold mkdirL
  split
  · exact h
  · rename_i hw
    exact right_enter h (walk_spot (right_RP h) (Decidable.not_not.1 hw)) (show (2 : Int) ≠ 0 by decide) (dir_loc mode _ who) rfl (fun _ => rfl)
theorem right_symlink (text : Str) : rightR (symlinkL l most room who fr text path).1 most room = true := by
  unfold symlinkL
  split
  · exact h
  · split
    · exact h
    · split
      · exact h
      · rename_i hw
        split
        · exact h
        · exact right_enter h (walk_spot (right_RP h) (Decidable.not_not.1 hw)) (by show (3 : Int) ≠ 0; decide) (link_loc text who) rfl (fun h => by cases h)
/-- A node to which a way leads. -/
theorem wnode_got (f : Bool) (he : (wnodeL (walkL l who fr path f)).2 = 0) : ∃ i : Nat, (wnodeL (walkL l who fr path f)).1 = i ∧ (nd l i).kind ≠ 0 ∧ (walkL l who fr path f).2 = 0 ∧ (walkL l who fr path f).1.ino = i := by
  have hn : wnodeL (walkL l who fr path f) = ((wnodeL (walkL l who fr path f)).1, 0) := by rw [← he]
  obtain ⟨a, b, c⟩ := node_ok hn
  have hi := (walk_ino (right_RP h) who fr path f a).resolve_left (by omega)
  obtain ⟨i, e1, _, e2⟩ := got_nat hi
  exact ⟨i, by rw [← c]; exact e1, e2, a, e1⟩
/-- The last part, where what it names is no directory, is one of the directory's names. -/
theorem spot_nodir {s : SpotL} (hs : SpotW l s) {i : Nat} (hi : s.ino = i) (hk : (nd l i).kind ≠ 0) (h2 : (nd l i).kind ≠ 2) : dotsB s.name = false := by
  cases hb : dotsB s.name with
  | false => rfl
  | true =>
    have := (spot_dots (right_RP h) hs hb).2
    rw [hi, nodeL_nd hk] at this
    exact absurd this h2
theorem right_link (old : Str) : rightR (linkL l who fr old path).1 most room = true := by
  unfold linkL
  split
  · exact h
  · rename_i hw
    obtain ⟨i, hi, hik, hw0, hino⟩ := wnode_got h who fr old false (Decidable.not_not.1 hw)
    rw [hi, nodeL_nd hik]
    split
    · exact h
    · rename_i hi2
      split
      · exact h
      · split
        · exact h
        · rename_i hsp
          have hsp := Decidable.not_not.1 hsp
          split
          · exact h
          · unfold spotE at hsp
            split at hsp
            · rename_i hc; exact absurd hsp hc
            · rename_i hc
              have hs := walk_spot (right_RP h) (Decidable.not_not.1 hc)
              obtain ⟨d, hd, hk⟩ := spot_dir hs
              obtain ⟨hR, _⟩ := Rig.of (right_RP h)
              have hso := walk_spot (right_RP h) hw0
              have hdo := spot_nodir h hso hino hik hi2
              obtain ⟨d', hd', hk'⟩ := spot_dir hso
              obtain ⟨_, y, hy, _, hy0, _⟩ := spot_old (right_RP h) hso (by omega) hdo hd' hk'
              have hi0 : i ≠ 0 := by omega
              unfold freeE at hsp
              split at hsp
              · cases hsp
              · rename_i hneg
                obtain ⟨hleg, hfn, _⟩ := spot_new (right_RP h) hs (by omega) hd hk
                split at hsp
                · cases hsp
                · rename_i hlk
                  rw [hd, nodeL_nd (by rw [hk]; decide)] at hlk
                  obtain ⟨_, e, a, b⟩ := link_rig hR hd hk hi0 hik hi2 hfn hleg (by omega)
                  rw [nodeL_nd hik] at e a b
                  refine right_back h a ?_ (Nat.le_of_eq b)
                  rw [e, List.length_set, List.length_set]
/-- What is lost under a name. -/
theorem right_lost {s : SpotL} (hs : SpotW l s) (hn : 0 ≤ s.ino) (hdt : dotsB s.name = false) (hyn : (nodeL l s.ino).kind = 2 → (nodeL l s.ino).names = []) : rightR (lostL l s) most room = true := by
  obtain ⟨hR, _⟩ := Rig.of (right_RP h)
  obtain ⟨d, hd, hk⟩ := spot_dir hs
  obtain ⟨_, y, hy, hf, hy0, hyk⟩ := spot_old (right_RP h) hs hn hdt hd hk
  rw [hy, nodeL_nd hyk] at hyn
  obtain ⟨_, _, _, _, a, b, _, c⟩ := lost_rig hR hd hk hy hf hy0 hyk (fun h => h) hyn (fun _ h => h.elim)
  exact right_back h c a b
omit h in
theorem there_zero {R : ResL} (h : thereE R = 0) : R.2 = 0 ∧ 0 ≤ R.1.ino := by
  unfold thereE at h
  split at h
  · rename_i hc; exact absurd h hc
  · rename_i hc
    split at h
    · cases h
    · exact ⟨Decidable.not_not.1 hc, by omega⟩
theorem right_unlink : rightR (unlinkL l who fr path).1 most room = true := by
  unfold unlinkL
  split
  · exact h
  · rename_i ht
    obtain ⟨hw, hi⟩ := there_zero (Decidable.not_not.1 ht)
    have hs := walk_spot (right_RP h) hw
    split
    · exact h
    · rename_i h2
      split
      · exact h
      · obtain ⟨i, hi', hik⟩ : ∃ i : Nat, (walkL l who fr path false).1.ino = i ∧ (nd l i).kind ≠ 0 := by
          obtain ⟨i, a, _, b⟩ := got_nat ((walk_ino (right_RP h) who fr path false hw).resolve_left (by omega))
          exact ⟨i, a, b⟩
        refine right_lost h hs hi (spot_nodir h hs hi' hik (by rw [hi', nodeL_nd hik] at h2; exact h2)) fun h3 => absurd h3 h2
omit h in
theorem rmdir_zero {s : SpotL} (h : rmdirE l who s = 0) : (nodeL l s.ino).kind = 2 ∧ dotsB s.name = false ∧ writesL l who s.dir = true ∧ (nodeL l s.ino).names = [] := by
  unfold rmdirE at h
  split at h
  · cases h
  · rename_i h1
    split at h
    · cases h
    · rename_i h2
      split at h
      · cases h
      · rename_i h3
        split at h
        · cases h
        · rename_i h4
          split at h
          · cases h
          · rename_i h5
            refine ⟨Decidable.not_not.1 h1, ?_, Bool.not_eq_false _ ▸ h4, Decidable.not_not.1 h5⟩
            unfold dotsB
            rw [decide_eq_false (fun e => h2 (.inl e)), decide_eq_false (fun e => h2 (.inr e)), decide_eq_false h3]
            rfl
theorem right_rmdir : rightR (rmdirL l who fr path).1 most room = true := by
  unfold rmdirL
  split
  · exact h
  · rename_i ht
    obtain ⟨hw, hi⟩ := there_zero (Decidable.not_not.1 ht)
    split
    · exact h
    · rename_i hE
      obtain ⟨_, hd, _, hn⟩ := rmdir_zero who (Decidable.not_not.1 hE)
      exact right_lost h (walk_spot (right_RP h) hw) hi hd fun _ => hn
theorem right_rename (who2 fr2 : Int) (old : Str) : rightR (renameL l who fr who2 fr2 old path).1 most room = true := by
  unfold renameL
  split
  · exact h
  · rename_i ht
    obtain ⟨hw, hi⟩ := there_zero (Decidable.not_not.1 ht)
    split
    · exact h
    · rename_i hw2
      split
      · exact h
      · split
        · exact h
        · rename_i hE
          obtain ⟨hR, _⟩ := Rig.of (right_RP h)
          obtain ⟨d1, d2, x, m⟩ := move_of (right_RP h) (walk_spot (right_RP h) hw) (walk_spot (right_RP h) (Decidable.not_not.1 hw2)) hi (Decidable.not_not.1 hE)
          obtain ⟨a, b, c, _⟩ := move_rig hR m
          exact right_back h a b c
theorem right_chmod (mode : Int) : rightR (chmodL l who fr path mode).1 most room = true := by
  unfold chmodL
  split
  · exact h
  · rename_i hw
    obtain ⟨i, hi, hik, _, _⟩ := wnode_got h who fr path true (Decidable.not_not.1 hw)
    rw [hi, nodeL_nd hik]
    split
    · exact h
    · obtain ⟨hR, _⟩ := Rig.of (right_RP h)
      obtain ⟨a, b⟩ := mode_rig hR hik mode
      rw [setL_nat (nd_kind hik)]
      exact right_back h a List.length_set (Nat.le_of_eq b)
end
end Go.Proofs.YtpmhmippoefcfaaGreatDoor
namespace Go.Proofs.YtpmhmippoefcfaaGreatDoor
section
variable {a c : Nat} {l : List NodeL} (h : Siz a c l) (most room who fr : Int) (path : Str)
include h
theorem siz_mkfile (mode : Int) : Siz (a + 1) (2 * c + 1) (mkfileL l most room who fr path mode).1 := by
  unfold mkfileL
  split
  · exact siz_same h
  · split
    · exact siz_same h
    · exact h.enter ⟨Nat.zero_le _, Nat.zero_le _⟩ _ _ _ _
theorem siz_mkdir (mode : Int) : Siz (a + 1) (2 * c + 1) (mkdirL l most room who fr path mode).1 := by
  unfold mkdirL
  split
  · exact siz_same h
  · exact h.enter ⟨Nat.zero_le _, Nat.zero_le _⟩ _ _ _ _
theorem siz_symlink (text : Str) : Siz (a + 1) (2 * c + 1) (symlinkL l most room who fr text path).1 := by
  unfold symlinkL
  split
  · exact siz_same h
  · split
    · exact siz_same h
    · rename_i hl
      split
      · exact siz_same h
      · split
        · exact siz_same h
        · exact h.enter ⟨by show text.length ≤ 300; omega, Nat.zero_le _⟩ _ _ _ _
theorem siz_link (old : Str) : Siz (a + 1) (2 * c + 1) (linkL l who fr old path).1 := by
  unfold linkL
  repeat' split
  all_goals first | exact siz_same h | exact ((h.set (n := moreN _) (h.node _) _).named _ _).mono (by omega) (Nat.le_refl _)
theorem siz_unlink : Siz (a + 1) (2 * c + 1) (unlinkL l who fr path).1 := by
  unfold unlinkL
  repeat' split
  all_goals first | exact siz_same h | exact siz_same (h.lost _)
theorem siz_rmdir : Siz (a + 1) (2 * c + 1) (rmdirL l who fr path).1 := by
  unfold rmdirL
  repeat' split
  all_goals first | exact siz_same h | exact siz_same (h.lost _)
theorem siz_moved (s t : SpotL) : Siz a c (movedL l s t) := by
  unfold movedL
  split
  · exact (h.dropped s).lost t
  · exact h.dropped s
theorem siz_move (s t : SpotL) : Siz a (2 * c + 1) (moveL l s t) :=
  ((siz_moved h s t).named t s.ino).set (n := placeN (nodeL (namedL (movedL l s t) t s.ino) s.ino) t.dir) (((siz_moved h s t).named t s.ino).node s.ino) s.ino
theorem siz_rename (who2 fr2 : Int) (old : Str) : Siz (a + 1) (2 * c + 1) (renameL l who fr who2 fr2 old path).1 := by
  unfold renameL
  repeat' split
  all_goals first | exact siz_same h | exact (siz_move h _ _).mono (by omega) (Nat.le_refl _)
theorem siz_chmod (mode : Int) : Siz (a + 1) (2 * c + 1) (chmodL l who fr path mode).1 := by
  unfold chmodL
  repeat' split
  all_goals first | exact siz_same h | exact siz_same (h.set (n := modeN _ mode) (h.node _) _)
end
theorem Rig.legal {l : List NodeL} (h : RightP l) : ∀ n ∈ l, ∀ e ∈ n.names, e.1.length ≤ 12 := by
  intro n hn e he
  obtain ⟨k, hk, rfl⟩ := List.mem_iff_getElem.1 hn
  have := Rig.sorted (Rig.of h).1 k
  rw [nd_lt hk] at this
  exact legal_len (this.1 e he)
end Go.Proofs.YtpmhmippoefcfaaGreatDoor
namespace Go.Proofs.YtpmhmippoefcfaaGreatDoor
open Go.RowKit Go.Shelf
attribute [local go_sem ↓] Go.wp_at_zero Go.wp_at_succ
theorem chmod_at {l : List NodeL} {who fr mode : Int} {path : Str} {R : Int × Int} (hR : R = wnodeL (walkL l who fr path true)) : chmodL l who fr path mode = if R.2 ≠ 0 then (l, R.2) else if who ≠ 0 ∧ who ≠ (nodeL l R.1).owner then (l, 7) else (setL l R.1 (modeN (nodeL l R.1) mode), 0) := by
  subst hR; rfl
end Go.Proofs.YtpmhmippoefcfaaGreatDoor
namespace Go.Proofs.YtpmhmippoefcfaaGreatDoor
open Go.RowKit Go.Shelf
theorem fit_right {l : List NodeL} (h : RightP l) : FitD l := fun n hn e he => Nat.le_trans (Rig.legal h n hn e he) (by decide)
theorem Aft.fit {l : List NodeL} {most room : Int} (h : Aft l most room) : FitD l := fit_right (right_RP h.right)
section
variable {l : List NodeL} {most room : Int} (h : rightQ l most room = true) (who fr : Int) (path : Str)
include h
theorem aft_mkfile (mode : Int) : Aft (mkfileL l most room who fr path mode).1 most room := aft_of (right_mkfile (q_right h) who fr path mode) (siz_mkfile (q_siz h) most room who fr path mode)
theorem aft_mkdir (mode : Int) : Aft (mkdirL l most room who fr path mode).1 most room := aft_of (right_mkdir (q_right h) who fr path mode) (siz_mkdir (q_siz h) most room who fr path mode)
theorem aft_symlink (text : Str) : Aft (symlinkL l most room who fr text path).1 most room := aft_of (right_symlink (q_right h) who fr path text) (siz_symlink (q_siz h) most room who fr path text)
theorem aft_link (old : Str) : Aft (linkL l who fr old path).1 most room := aft_of (right_link (q_right h) who fr path old) (siz_link (q_siz h) who fr path old)
theorem aft_unlink : Aft (unlinkL l who fr path).1 most room := aft_of (right_unlink (q_right h) who fr path) (siz_unlink (q_siz h) who fr path)
theorem aft_rmdir : Aft (rmdirL l who fr path).1 most room := aft_of (right_rmdir (q_right h) who fr path) (siz_rmdir (q_siz h) who fr path)
theorem aft_rename (who2 fr2 : Int) (old : Str) : Aft (renameL l who fr who2 fr2 old path).1 most room := aft_of (right_rename (q_right h) who fr path who2 fr2 old) (siz_rename (q_siz h) who fr path who2 fr2 old)
theorem aft_chmod (mode : Int) : Aft (chmodL l who fr path mode).1 most room := aft_of (right_chmod (q_right h) who fr path mode) (siz_chmod (q_siz h) who fr path mode)
end
end Go.Proofs.YtpmhmippoefcfaaGreatDoor
namespace Go.Proofs.YtpmhmippoefcfaaGreatDoor
open Go.RowKit Go.Shelf
attribute [local go_sem ↓] Go.wp_at_zero Go.wp_at_succ
theorem symlink_eq {l : List NodeL} (hd : Dsk l) (most room who fr : Int) {text : Str} (path : Str) (h1 : text ≠ []) (h2 : ¬ 100 < text.length) :
    symlinkL l most room who fr text path = ((penterL l most room who path (walkL l who fr path false) (linkN text)).1, (penterL l most room who path (walkL l who fr path false) (linkN text)).2.2) := by
  unfold symlinkL
  rw [if_neg h1, if_neg h2]
  by_cases h0 : (walkL l who fr path false).2 = 0
  · rw [if_neg (by simp [h0]), penter_enter hd h0 (m := linkN text) rfl]
    by_cases h3 : (walkL l who fr path false).1.slash = true ∧ (walkL l who fr path false).1.ino < 0
    · rw [if_pos h3, if_neg (fun h => absurd (show (3 : Int) = 1 from h.1) (by decide)), if_pos ⟨rfl, h3⟩]
    · rw [if_neg h3, if_neg (fun h => absurd (show (3 : Int) = 1 from h.1) (by decide)), if_neg (fun h => h3 h.2)]
  · rw [if_pos h0, penter_bad h0]
end Go.Proofs.YtpmhmippoefcfaaGreatDoor
namespace Go.Proofs.YtpmhmippoefcfaaGreatDoor
open Go.RowKit Go.Shelf
attribute [local go_sem ↓] Go.wp_at_zero Go.wp_at_succ
set_option maxRecDepth 100000 in
set_option maxHeartbeats 4000000 in
theorem psymlink_g (X : Nat → Prop) {S : Nat → Addr} (l : List NodeL) (most room who fr : Int) (text path : Str) (ao : Option Addr) (cap : Nat) (w : World) (hX : Old X w) (hg : GivesX X l (.slice ao l.length cap) w) (hd : Dsk l) (hplpath : path.length ≤ 10000) (hs : Sent S w) (htx : text.length ≤ 10000) :
    Calls Tryz.prog 19 #[diskV ao l.length cap most room, asV who fr, .string (bs text), .string (bs path)] w fun e w' => ChgIs X (symlinkL l most room who fr text path) most room e w w' := by
  have S0 := Lib.hid (St.start (G := [(l, .slice ao l.length cap)]) (N := []) hX (one_g hg) no_n)
  have HD := Lib.hid hd
  have HS := Lib.hid hs
  have HRET : Hid (∀ (W : World) (cs : Array Value) (fr), W.heap[w.heap.size + 2]? = some (.cells cs 24 fr) → cs.size = 3 → ∀ tmps : Array Value, tmps.getD 8 undef = .pointer (some ⟨w.heap.size + 2, 0, none⟩) → (results Tryz.f19 tmps).run Tryz.prog W = .ok (.tuple #[.agg cs, tmps.getD 9 undef]) W) := Lib.hid fun W cs fr h hs tmps ht =>
  results_ct (p := 8) (u := 9) (ty := 24) rfl tmps W (w.heap.size + 2) _ cs fr _ ht h Tryz.underlying24 rfl (by rw [hs]; kernel_rfl)
  clear hX hg hd hs
  by_cases t0 : text = []
  · have hI : (text == []) = true := by simpa using t0
    have HE : Hid (symlinkL l most room who fr text path = (l, 2)) := Lib.hid (by unfold symlinkL; rw [if_pos t0])
    clear t0
    go_enter Tryz.func19, Tryz.ntmps19
    go_upto_region 1 with (fail)
    refine code_fresh3 ?_
    intro W1 hb hA0 hA1 hA2 hs
    have S1 := Lib.hid (S0.out.new3 hb hA0 hA1 hA2)
    clear hb hA0 hA1 hA2 hs
    go_upto_region 2 with (fail)
    have h_d := (S1.out.at 0 rfl)
    refine wp_region_held_drew (S := fun W => W.heap[w.heap.size]? = some (.cells #[.slice ao l.length cap, .int .i64 most, .int .i64 room] 24 (0, 0)) ∧ W.cell? ⟨0, 0, none⟩ = some (sentV (S 2)) ∧ True) (by kernel_rfl) ⟨(S1.out.at 0 rfl), (HS.out.keep S1.out.bel).e2, trivial⟩ (fun hHeld => ?_)
    clear h_d
    have S2 := Lib.hid (S1.out.call (Below.refl W1.heap.size W1).drew)
    generalize W1.drew = W2 at *
    refine wpAnyH_take (i := 0) rfl (by kernel_rfl) (by kernel_rfl) (by kernel_rfl) (fun _ _ _ h => h) (yieldsIf_load_row (by rfl) 24 _ rfl _ rfl 24 _ (0, 0) _ (fun _ h => h.1) Tryz.underlying24 rfl (by kernel_rfl)) hHeld ?_
    (try simp only [pt, Act.put])
    refine wpAnyH_take (i := 1) (v := ?v1) rfl (by kernel_rfl) (by kernel_rfl) (by kernel_rfl) (fun _ _ _ h => h) (Or.inl ⟨by rfl, ?hy1⟩) hHeld ?rest1
    case hy1 => (intro w hSw; (try dsimp only at hSw); (try go_split_ands); go_simp; first | done | with_reducible rfl)
    (try simp only [pt, Act.put])
    refine wpAnyH_take (i := 2) (v := ?v2) rfl (by kernel_rfl) (by kernel_rfl) (by kernel_rfl) (fun _ _ _ h => h) (Or.inl ⟨by rfl, ?hy2⟩) hHeld ?rest2
    case hy2 => (intro w hSw; (try dsimp only at hSw); (try go_split_ands); go_simp; first | done | with_reducible rfl)
    (try simp only [pt, Act.put])
    refine wpAnyH_take (i := 3) (v := ?v3) rfl (by kernel_rfl) (by kernel_rfl) (by kernel_rfl) (fun _ _ _ h => h) (Or.inl ⟨by rfl, ?hy3⟩) hHeld ?rest3
    case hy3 => (intro w hSw; (try dsimp only at hSw); (try go_split_ands); go_simp; first | done | with_reducible rfl)
    (try simp only [pt, Act.put])
    refine wpAnyH_take (i := 4) (v := ?v4) rfl (by kernel_rfl) (by kernel_rfl) (by kernel_rfl) (fun _ _ _ h => h) (Or.inl ⟨by rfl, ?hy4⟩) hHeld ?rest4
    case hy4 => (intro w hSw; (try dsimp only at hSw); (try go_split_ands); go_simp; first | done | with_reducible rfl)
    (try simp only [pt, Act.put])
    refine wpAnyH_ready (rs := [5]) (by kernel_rfl) (by simp) ?_
    refine AllReadyH.cons rfl (fun K hK => ?_) AllReadyH.nil
    go_simp
    refine (chg_number (HS.out.keep S2.out.bel) (ErrIs.sent 2 (by decide) (bs text))).mono ?_
    rintro e W3 ⟨rfl, hb⟩
    have S3 := Lib.hid (S2.out.call hb)
    clear hb hHeld
    go_wp2_with fail
    refine hK.out _ _ ⟨(S3.out.at 0 rfl), (HS.out.keep S3.out.bel).e2, trivial⟩ (fun hHeld => ?_)
    clear hK K
    (try simp only [pt, Act.put])
    refine wpAnyH_ready (rs := [6]) (by kernel_rfl) (by simp) ?_
    refine AllReadyH.cons rfl (fun K hK => ?_) AllReadyH.nil
    rw [if_pos (by rfl)]
    refine wp_store_row 24 _ _ rfl _ rfl rfl (S3.out.at 2 rfl) rfl (by kernel_rfl) rfl ?_
    intro W4 hb hg hs hn
    have S4 := Lib.hid (S3.out.set 2 rfl hb hg hs hn)
    clear hb hg hs hn hHeld
    refine hK.out _ _ ⟨(S4.out.at 0 rfl), (HS.out.keep S4.out.bel).e2, trivial⟩ (fun hHeld => ?_)
    clear hK K
    (try simp only [pt, Act.put])
    refine wpAnyH_take (i := 7) (v := ?v5) rfl (by kernel_rfl) (by kernel_rfl) (by kernel_rfl) (fun _ _ _ h => h) (Or.inl ⟨by rfl, ?hy5⟩) hHeld ?rest5
    case hy5 => (intro w hSw; (try dsimp only at hSw); (try go_split_ands); go_simp; first | done | with_reducible rfl)
    (try simp only [pt, Act.put])
    refine wpAnyH_done (by kernel_rfl) ?_ _
    go_wp2_with fail
    refine bodyPost_ret (HRET.out _ _ _ (S4.out.at 2 rfl) rfl _ rfl) rfl ?_
    rw [HE.out]
    exact ⟨_, _, rfl, S4.out.gX 0 rfl, S4.out.bel⟩
  have hI : (text == []) = false := by simpa using t0
  by_cases t1 : 100 < text.length
  · have hJ : decide ((100 : Int) < (text.length : Int)) = true := decide_eq_true (by omega)
    have HE : Hid (symlinkL l most room who fr text path = (l, 9)) := Lib.hid (by unfold symlinkL; rw [if_neg t0, if_pos t1])
    clear t0 t1
    go_enter Tryz.func19, Tryz.ntmps19
    go_upto_region 1 with (fail)
    refine code_fresh3 ?_
    intro W1 hb hA0 hA1 hA2 hs
    have S1 := Lib.hid (S0.out.new3 hb hA0 hA1 hA2)
    clear hb hA0 hA1 hA2 hs
    go_upto_region 4 with (fail)
    have h_d := (S1.out.at 0 rfl)
    refine wp_region_held_drew (S := fun W => W.heap[w.heap.size]? = some (.cells #[.slice ao l.length cap, .int .i64 most, .int .i64 room] 24 (0, 0)) ∧ W.cell? ⟨1, 0, none⟩ = some (sentV (S 9)) ∧ True) (by kernel_rfl) ⟨(S1.out.at 0 rfl), (HS.out.keep S1.out.bel).e9, trivial⟩ (fun hHeld => ?_)
    clear h_d
    have S2 := Lib.hid (S1.out.call (Below.refl W1.heap.size W1).drew)
    generalize W1.drew = W2 at *
    refine wpAnyH_take (i := 0) rfl (by kernel_rfl) (by kernel_rfl) (by kernel_rfl) (fun _ _ _ h => h) (yieldsIf_load_row (by rfl) 24 _ rfl _ rfl 24 _ (0, 0) _ (fun _ h => h.1) Tryz.underlying24 rfl (by kernel_rfl)) hHeld ?_
    (try simp only [pt, Act.put])
    refine wpAnyH_take (i := 1) (v := ?v6) rfl (by kernel_rfl) (by kernel_rfl) (by kernel_rfl) (fun _ _ _ h => h) (Or.inl ⟨by rfl, ?hy6⟩) hHeld ?rest6
    case hy6 => (intro w hSw; (try dsimp only at hSw); (try go_split_ands); go_simp; first | done | with_reducible rfl)
    (try simp only [pt, Act.put])
    refine wpAnyH_take (i := 2) (v := ?v7) rfl (by kernel_rfl) (by kernel_rfl) (by kernel_rfl) (fun _ _ _ h => h) (Or.inl ⟨by rfl, ?hy7⟩) hHeld ?rest7
    case hy7 => (intro w hSw; (try dsimp only at hSw); (try go_split_ands); go_simp; first | done | with_reducible rfl)
    (try simp only [pt, Act.put])
    refine wpAnyH_take (i := 3) (v := ?v8) rfl (by kernel_rfl) (by kernel_rfl) (by kernel_rfl) (fun _ _ _ h => h) (Or.inl ⟨by rfl, ?hy8⟩) hHeld ?rest8
    case hy8 => (intro w hSw; (try dsimp only at hSw); (try go_split_ands); go_simp; first | done | with_reducible rfl)
    (try simp only [pt, Act.put])
    refine wpAnyH_take (i := 4) (v := ?v9) rfl (by kernel_rfl) (by kernel_rfl) (by kernel_rfl) (fun _ _ _ h => h) (Or.inl ⟨by rfl, ?hy9⟩) hHeld ?rest9
    case hy9 => (intro w hSw; (try dsimp only at hSw); (try go_split_ands); go_simp; first | done | with_reducible rfl)
    (try simp only [pt, Act.put])
    refine wpAnyH_ready (rs := [5]) (by kernel_rfl) (by simp) ?_
    refine AllReadyH.cons rfl (fun K hK => ?_) AllReadyH.nil
    go_simp
    refine (chg_number (HS.out.keep S2.out.bel) (ErrIs.sent 9 (by decide) (bs text))).mono ?_
    rintro e W3 ⟨rfl, hb⟩
    have S3 := Lib.hid (S2.out.call hb)
    clear hb hHeld
    go_wp2_with fail
    refine hK.out _ _ ⟨(S3.out.at 0 rfl), (HS.out.keep S3.out.bel).e9, trivial⟩ (fun hHeld => ?_)
    clear hK K
    (try simp only [pt, Act.put])
    refine wpAnyH_ready (rs := [6]) (by kernel_rfl) (by simp) ?_
    refine AllReadyH.cons rfl (fun K hK => ?_) AllReadyH.nil
    rw [if_pos (by rfl)]
    refine wp_store_row 24 _ _ rfl _ rfl rfl (S3.out.at 2 rfl) rfl (by kernel_rfl) rfl ?_
    intro W4 hb hg hs hn
    have S4 := Lib.hid (S3.out.set 2 rfl hb hg hs hn)
    clear hb hg hs hn hHeld
    refine hK.out _ _ ⟨(S4.out.at 0 rfl), (HS.out.keep S4.out.bel).e9, trivial⟩ (fun hHeld => ?_)
    clear hK K
    (try simp only [pt, Act.put])
    refine wpAnyH_take (i := 7) (v := ?v10) rfl (by kernel_rfl) (by kernel_rfl) (by kernel_rfl) (fun _ _ _ h => h) (Or.inl ⟨by rfl, ?hy10⟩) hHeld ?rest10
    case hy10 => (intro w hSw; (try dsimp only at hSw); (try go_split_ands); go_simp; first | done | with_reducible rfl)
    (try simp only [pt, Act.put])
    refine wpAnyH_done (by kernel_rfl) ?_ _
    go_wp2_with fail
    refine bodyPost_ret (HRET.out _ _ _ (S4.out.at 2 rfl) rfl _ rfl) rfl ?_
    rw [HE.out]
    exact ⟨_, _, rfl, S4.out.gX 0 rfl, S4.out.bel⟩
  have hJ : decide ((100 : Int) < (text.length : Int)) = false := decide_eq_false (by omega)
  have HT : Hid (text.length ≤ 300) := Lib.hid (by omega)
  have HE := Lib.hid (symlink_eq HD.out most room who fr path t0 t1)
  clear t0 t1
  go_enter Tryz.func19, Tryz.ntmps19
  go_upto_region 1 with (fail)
  refine code_fresh3 ?_
  intro W1 hb hA0 hA1 hA2 hs
  have S1 := Lib.hid (S0.out.new3 hb hA0 hA1 hA2)
  clear hb hA0 hA1 hA2 hs
  have h_d := (S1.out.at 0 rfl)
  have h_a := (S1.out.at 1 rfl)
  go_wp2_with (first | (refine wpList_load_row rfl 24 _ rfl _ rfl 24 _ (0, 0) _ h_d Tryz.underlying24 rfl (by kernel_rfl) ?_) | (refine wpList_load_row rfl 26 _ rfl _ rfl 26 _ (0, 0) _ h_a Tryz.underlying26 rfl (by kernel_rfl) ?_))
  refine (penter_g (m := linkN text) _ l most room who fr path _ _ _ _ W1 S1.out.oldX (S1.out.g 0 rfl) HD.out hplpath (HS.out.keep S1.out.bel) (node_nil rfl) ⟨HT.out, Nat.zero_le _⟩ List.Pairwise.nil (.inr (.inr rfl))).mono ?_
  rintro e W2 ⟨ao1, cp1, rfl, hg1, hb⟩
  clear h_d h_a
  have S2 := Lib.hid ((S1.out.call hb).addG hg1)
  clear hb hg1
  go_upto_region 6 with (first | (refine wpList_fresh1 ?_; intro W3 hb hn hs; have S3 := Lib.hid (S2.out.new1 hb hn); have h_e := S3.out.at 3 rfl; clear hb hn hs) | (refine wpList_store_row rfl 24 _ _ rfl _ rfl rfl h_e rfl (by kernel_rfl) rfl ?_; intro W4 hb hg hs hn; have S4 := Lib.hid (S3.out.set 3 rfl hb hg hs hn); clear hb hg hs hn))
  clear h_e
  have h_e := (S4.out.at 3 rfl)
  have h_r := (S4.out.at 2 rfl)
  go_wp2_with (first | (refine wpList_load_row rfl 24 _ rfl _ rfl 24 _ (0, 0) _ h_e Tryz.underlying24 rfl (by kernel_rfl) ?_) | (refine wpList_store_row rfl 24 _ _ rfl _ rfl rfl h_r rfl (by kernel_rfl) rfl ?_; intro W5 hb hg hs hn; have S5 := Lib.hid (S4.out.set 2 rfl hb hg hs hn); clear hb hg hs hn))
  refine bodyPost_ret (HRET.out _ _ _ (S5.out.at 2 rfl) rfl _ rfl) rfl ?_
  rw [HE.out]
  exact ⟨_, _, rfl, S5.out.gX 1 rfl, S5.out.bel⟩
end Go.Proofs.YtpmhmippoefcfaaGreatDoor
namespace Go.Proofs.YtpmhmippoefcfaaGreatDoor
open Go.RowKit Go.Shelf
attribute [local go_sem ↓] Go.wp_at_zero Go.wp_at_succ
/-- What is wrong with two names of a node, the second of which is to come. -/
def linkedE (l : List NodeL) (who : Int) (old path : Str) (R1 R2 : ResL) : Int :=
  if thereE R1 ≠ 0 then thereE R1 else if ((placeOf l who old R1).nn.kind == 2) = true then 5 else if 20 ≤ (placeOf l who old R1).nn.links then 11
  else if R2.2 ≠ 0 then R2.2 else if toEnterE (placeOf l who path R2) 2 ≠ 0 then toEnterE (placeOf l who path R2) 2 else if (placeOf l who path R2).s.slash = true then 4 else 0
theorem linked_at {l : List NodeL} {who : Int} {old path : Str} {R1 R2 : ResL} {p q : PlaceL} {e f t : Int} (hp : p = placeOf l who old R1) (hq : q = placeOf l who path R2) (he : e = thereE R1) (hf : f = R2.2) (ht : t = toEnterE q 2) :
    linkedE l who old path R1 R2 = if e ≠ 0 then e else if (p.nn.kind == 2) = true then 5 else if 20 ≤ p.nn.links then 11 else if f ≠ 0 then f else if t ≠ 0 then t else if q.s.slash = true then 4 else 0 := by
  subst hp; subst hq; subst he; subst hf; subst ht; rfl
set_option maxRecDepth 100000 in
set_option maxHeartbeats 4000000 in
theorem pchmod_g (X : Nat → Prop) {S : Nat → Addr} (l : List NodeL) (most room who fr : Int) (path : Str) (mode : Int) (ao : Option Addr) (cap : Nat) (w : World) (hX : Old X w) (hg : GivesX X l (.slice ao l.length cap) w) (hd : Dsk l) (hplpath : path.length ≤ 10000) (hs : Sent S w) :
    Calls Tryz.prog 28 #[diskV ao l.length cap most room, asV who fr, .string (bs path), .int .i64 mode] w fun e w' => ChgIs X (chmodL l who fr path mode) most room e w w' := by
  have S0 := Lib.hid (St.start (G := [(l, .slice ao l.length cap)]) (N := []) hX (one_g hg) no_n)
  have HD := Lib.hid hd
  have HS := Lib.hid hs
  have HRET : Hid (∀ (W : World) (cs : Array Value) (fr), W.heap[w.heap.size + 2]? = some (.cells cs 24 fr) → cs.size = 3 → ∀ tmps : Array Value, tmps.getD 8 undef = .pointer (some ⟨w.heap.size + 2, 0, none⟩) → (results Tryz.f28 tmps).run Tryz.prog W = .ok (.tuple #[.agg cs, tmps.getD 9 undef]) W) := Lib.hid fun W cs fr h hs tmps ht =>
  results_ct (p := 8) (u := 9) (ty := 24) rfl tmps W (w.heap.size + 2) _ cs fr _ ht h Tryz.underlying24 rfl (by rw [hs]; kernel_rfl)
  clear hX hg hd hs
  go_enter Tryz.func28, Tryz.ntmps28
  go_upto_region 1 with (fail)
  refine code_fresh3 ?_
  intro W1 hb hA0 hA1 hA2 hs
  have S1 := Lib.hid (S0.out.new3 hb hA0 hA1 hA2)
  clear hb hA0 hA1 hA2 hs
  have h_d := (S1.out.at 0 rfl)
  obtain ⟨a0, a1⟩ := cells2 (S1.out.at 1 rfl)
  go_wp2_with (first | (refine wpList_load_row rfl 24 _ rfl _ rfl 24 _ (0, 0) _ h_d Tryz.underlying24 rfl (by kernel_rfl) ?_))
  refine (xnode_g _ l HD.out most room who fr path true hplpath _ W1 (S1.out.g 0 rfl) (HS.out.keep S1.out.bel).err).mono ?_
  rintro e W2 ⟨rfl, hb⟩
  clear h_d a0 a1
  have S2 := Lib.hid (S1.out.call hb)
  clear hb
  obtain ⟨R, hR⟩ : ∃ R, R = wnodeL (walkL l who fr path true) := ⟨_, rfl⟩
  rw [← hR]
  have HE := Lib.hid (chmod_at (mode := mode) hR)
  clear hR
  obtain ⟨i, n⟩ := R
  dsimp only at HE
  by_cases h0 : n = 0
  · subst h0
    have HE2 := Lib.hid (HE.out.trans (if_neg (by simp)))
    clear HE
    have h_d := (S2.out.at 0 rfl)
    go_wp2_with (first | (refine wpList_load_row rfl 24 _ rfl _ rfl 24 _ (0, 0) _ h_d Tryz.underlying24 rfl (by kernel_rfl) ?_))
    refine (get_g _ l most room i _ W2 S2.out.oldX (S2.out.g 0 rfl) HD.out.len HD.out.ord.nm).mono ?_
    rintro e W3 ⟨ao1, cp1, rfl, hn1, hb⟩
    clear h_d
    have S3 := Lib.hid ((S2.out.call hb).addN hn1)
    clear hb hn1
    have HNM : Hid ((nodeL l i).names.length ≤ 10000) := Lib.hid (HD.out.ord.node i).1
    generalize nodeL l i = m at *
    go_upto_region 5 with (first | (refine wpList_fresh1 ?_; intro W4 hb hn hs; have S4 := Lib.hid (S3.out.new1 hb hn); have h_n := S4.out.at 3 rfl; clear hb hn hs) | (refine wpList_store_row rfl 63 _ _ rfl _ rfl rfl h_n rfl (by kernel_rfl) rfl ?_; intro W5 hb hg hs hn; have S5 := Lib.hid (S4.out.set 3 rfl hb hg hs hn); clear hb hg hs hn))
    clear h_n
    by_cases h1 : who ≠ 0 ∧ who ≠ m.owner
    · have hA : (who != 0) = true := by simpa using h1.1
      have hB : (who != m.owner) = true := by simpa using h1.2
      have HE3 := Lib.hid (HE2.out.trans (if_pos h1))
      clear HE2 h1
      obtain ⟨a0, -⟩ := cells2 (S5.out.at 1 rfl)
      obtain ⟨-, -, n2, -, -, -, -, -⟩ := cells8 (S5.out.at 3 rfl)
      go_upto_region 6 with (fail)
      clear a0 n2
      have h_d := (S5.out.at 0 rfl)
      refine wp_region_held_drew (S := fun W => W.heap[w.heap.size]? = some (.cells #[.slice ao l.length cap, .int .i64 most, .int .i64 room] 24 (0, 0)) ∧ W.cell? ⟨2, 0, none⟩ = some (sentV (S 7)) ∧ True) (by kernel_rfl) ⟨(S5.out.at 0 rfl), (HS.out.keep S5.out.bel).e7, trivial⟩ (fun hHeld => ?_)
      clear h_d
      have S6 := Lib.hid (S5.out.call (Below.refl W5.heap.size W5).drew)
      generalize W5.drew = W6 at *
      refine wpAnyH_take (i := 0) rfl (by kernel_rfl) (by kernel_rfl) (by kernel_rfl) (fun _ _ _ h => h) (yieldsIf_load_row (by rfl) 24 _ rfl _ rfl 24 _ (0, 0) _ (fun _ h => h.1) Tryz.underlying24 rfl (by kernel_rfl)) hHeld ?_
      (try simp only [pt, Act.put])
      refine wpAnyH_take (i := 1) (v := ?v1) rfl (by kernel_rfl) (by kernel_rfl) (by kernel_rfl) (fun _ _ _ h => h) (Or.inl ⟨by rfl, ?hy1⟩) hHeld ?rest1
      case hy1 => (intro w hSw; (try dsimp only at hSw); (try go_split_ands); go_simp; first | done | with_reducible rfl)
      (try simp only [pt, Act.put])
      refine wpAnyH_take (i := 2) (v := ?v2) rfl (by kernel_rfl) (by kernel_rfl) (by kernel_rfl) (fun _ _ _ h => h) (Or.inl ⟨by rfl, ?hy2⟩) hHeld ?rest2
      case hy2 => (intro w hSw; (try dsimp only at hSw); (try go_split_ands); go_simp; first | done | with_reducible rfl)
      (try simp only [pt, Act.put])
      refine wpAnyH_take (i := 3) (v := ?v3) rfl (by kernel_rfl) (by kernel_rfl) (by kernel_rfl) (fun _ _ _ h => h) (Or.inl ⟨by rfl, ?hy3⟩) hHeld ?rest3
      case hy3 => (intro w hSw; (try dsimp only at hSw); (try go_split_ands); go_simp; first | done | with_reducible rfl)
      (try simp only [pt, Act.put])
      refine wpAnyH_take (i := 4) (v := ?v4) rfl (by kernel_rfl) (by kernel_rfl) (by kernel_rfl) (fun _ _ _ h => h) (Or.inl ⟨by rfl, ?hy4⟩) hHeld ?rest4
      case hy4 => (intro w hSw; (try dsimp only at hSw); (try go_split_ands); go_simp; first | done | with_reducible rfl)
      (try simp only [pt, Act.put])
      refine wpAnyH_ready (rs := [5]) (by kernel_rfl) (by simp) ?_
      refine AllReadyH.cons rfl (fun K hK => ?_) AllReadyH.nil
      go_simp
      refine (chg_number (HS.out.keep S6.out.bel) (ErrIs.sent 7 (by decide) (bs path))).mono ?_
      rintro e W7 ⟨rfl, hb⟩
      have S7 := Lib.hid (S6.out.call hb)
      clear hb hHeld
      go_wp2_with fail
      refine hK.out _ _ ⟨(S7.out.at 0 rfl), (HS.out.keep S7.out.bel).e7, trivial⟩ (fun hHeld => ?_)
      clear hK K
      (try simp only [pt, Act.put])
      refine wpAnyH_ready (rs := [6]) (by kernel_rfl) (by simp) ?_
      refine AllReadyH.cons rfl (fun K hK => ?_) AllReadyH.nil
      rw [if_pos (by rfl)]
      refine wp_store_row 24 _ _ rfl _ rfl rfl (S7.out.at 2 rfl) rfl (by kernel_rfl) rfl ?_
      intro W8 hb hg hs hn
      have S8 := Lib.hid (S7.out.set 2 rfl hb hg hs hn)
      clear hb hg hs hn hHeld
      refine hK.out _ _ ⟨(S8.out.at 0 rfl), (HS.out.keep S8.out.bel).e7, trivial⟩ (fun hHeld => ?_)
      clear hK K
      (try simp only [pt, Act.put])
      refine wpAnyH_take (i := 7) (v := ?v5) rfl (by kernel_rfl) (by kernel_rfl) (by kernel_rfl) (fun _ _ _ h => h) (Or.inl ⟨by rfl, ?hy5⟩) hHeld ?rest5
      case hy5 => (intro w hSw; (try dsimp only at hSw); (try go_split_ands); go_simp; first | done | with_reducible rfl)
      (try simp only [pt, Act.put])
      refine wpAnyH_done (by kernel_rfl) ?_ _
      go_wp2_with fail
      refine bodyPost_ret (HRET.out _ _ _ (S8.out.at 2 rfl) rfl _ rfl) rfl ?_
      rw [HE3.out]
      exact ⟨_, _, rfl, S8.out.gX 0 rfl, S8.out.bel⟩
    · have HE3 := Lib.hid (HE2.out.trans (if_neg h1))
      have hA : (who != 0) = false ∨ ((who != 0) = true ∧ (who != m.owner) = false) := by
        by_cases h2 : who = 0
        · exact .inl (by simpa using h2)
        · exact .inr ⟨by simpa using h2, Bool.eq_false_iff.2 fun h3 => h1 ⟨h2, by simpa using h3⟩⟩
      clear HE2 h1
      rcases hA with hA | ⟨hA, hB⟩
      all_goals
        obtain ⟨a0, -⟩ := cells2 (S5.out.at 1 rfl)
        obtain ⟨-, -, n2, -, -, -, -, -⟩ := cells8 (S5.out.at 3 rfl)
        go_wp2_with fail
        refine (six_below mode W5).mono ?_
        rintro e W6 ⟨rfl, hb⟩
        clear a0 n2
        have S6 := Lib.hid (S5.out.call hb)
        clear hb
        obtain ⟨n0, n1, n2, n3, n4, n5, n6, n7⟩ := cells8 (S6.out.at 3 rfl)
        have fn := fun j => Lib.frozen_of_heap (S6.out.at 3 rfl) j
        go_upto_region 8 with (fail)
        refine code_set1 (S6.out.at 3 rfl) ?_
        intro W7 hb hg hs hn
        clear n0 n1 n2 n3 n4 n5 n6 n7 fn
        have S7 := Lib.hid (S6.out.set 3 rfl hb hg hs hn)
        clear hb hg hs hn
        have h_d := (S7.out.at 0 rfl)
        have h_n := (S7.out.at 3 rfl)
        go_wp2_with (first | (refine wpList_load_row rfl 24 _ rfl _ rfl 24 _ (0, 0) _ h_d Tryz.underlying24 rfl (by kernel_rfl) ?_) | (refine wpList_load_row rfl 63 _ rfl _ rfl 63 _ (0, 0) _ h_n Tryz.underlying63 rfl (by kernel_rfl) ?_))
        refine (set_g _ l most room i (modeN m mode) _ _ W7 S7.out.oldX (S7.out.g 0 rfl) HD.out.len ((S7.out.n 0 rfl).same rfl) HNM.out).mono ?_
        rintro e W8 ⟨ao3, cap3, rfl, hg3, hb⟩
        clear h_d h_n
        have S8 := Lib.hid ((S7.out.call hb).addG hg3)
        clear hb hg3
        have h_r := (S8.out.at 2 rfl)
        go_wp2_with (first | (refine wpList_store_row rfl 24 _ _ rfl _ rfl rfl h_r rfl (by kernel_rfl) rfl ?_; intro W9 hb hg hs hn; have S9 := Lib.hid (S8.out.set 2 rfl hb hg hs hn); clear hb hg hs hn))
        refine bodyPost_ret (HRET.out _ _ _ (S9.out.at 2 rfl) rfl _ rfl) rfl ?_
        rw [HE3.out]
        exact ⟨_, _, rfl, S9.out.gX 1 rfl, S9.out.bel⟩
  · have hI : (n != 0) = true := by simpa using h0
    have HE2 := Lib.hid (HE.out.trans (if_pos h0))
    have HB : Hid (n ≠ 0) := Lib.hid h0
    clear HE h0
    go_upto_region 3 with (fail)
    have h_d := (S2.out.at 0 rfl)
    refine wp_region_held_drew (S := fun W => W.heap[w.heap.size]? = some (.cells #[.slice ao l.length cap, .int .i64 most, .int .i64 room] 24 (0, 0)) ∧ True) (by kernel_rfl) ⟨(S2.out.at 0 rfl), trivial⟩ (fun hHeld => ?_)
    clear h_d
    have S3 := Lib.hid (S2.out.call (Below.refl W2.heap.size W2).drew)
    generalize W2.drew = W3 at *
    refine wpAnyH_take (i := 0) rfl (by kernel_rfl) (by kernel_rfl) (by kernel_rfl) (fun _ _ _ h => h) (yieldsIf_load_row (by rfl) 24 _ rfl _ rfl 24 _ (0, 0) _ (fun _ h => h.1) Tryz.underlying24 rfl (by kernel_rfl)) hHeld ?_
    (try simp only [pt, Act.put])
    refine wpAnyH_take (i := 1) (v := ?v6) rfl (by kernel_rfl) (by kernel_rfl) (by kernel_rfl) (fun _ _ _ h => h) (Or.inl ⟨by rfl, ?hy6⟩) hHeld ?rest6
    case hy6 => (intro w hSw; (try dsimp only at hSw); (try go_split_ands); go_simp; first | done | with_reducible rfl)
    (try simp only [pt, Act.put])
    refine wpAnyH_take (i := 2) (v := ?v7) rfl (by kernel_rfl) (by kernel_rfl) (by kernel_rfl) (fun _ _ _ h => h) (Or.inl ⟨by rfl, ?hy7⟩) hHeld ?rest7
    case hy7 => (intro w hSw; (try dsimp only at hSw); (try go_split_ands); go_simp; first | done | with_reducible rfl)
    (try simp only [pt, Act.put])
    refine wpAnyH_take (i := 3) (v := ?v8) rfl (by kernel_rfl) (by kernel_rfl) (by kernel_rfl) (fun _ _ _ h => h) (Or.inl ⟨by rfl, ?hy8⟩) hHeld ?rest8
    case hy8 => (intro w hSw; (try dsimp only at hSw); (try go_split_ands); go_simp; first | done | with_reducible rfl)
    (try simp only [pt, Act.put])
    refine wpAnyH_take (i := 4) (v := ?v9) rfl (by kernel_rfl) (by kernel_rfl) (by kernel_rfl) (fun _ _ _ h => h) (Or.inl ⟨by rfl, ?hy9⟩) hHeld ?rest9
    case hy9 => (intro w hSw; (try dsimp only at hSw); (try go_split_ands); go_simp; first | done | with_reducible rfl)
    (try simp only [pt, Act.put])
    refine wpAnyH_take (i := 5) (v := ?v10) rfl (by kernel_rfl) (by kernel_rfl) (by kernel_rfl) (fun _ _ _ h => h) (Or.inl ⟨by rfl, ?hy10⟩) hHeld ?rest10
    case hy10 => (intro w hSw; (try dsimp only at hSw); (try go_split_ands); go_simp; first | done | with_reducible rfl)
    (try simp only [pt, Act.put])
    refine wpAnyH_ready (rs := [6]) (by kernel_rfl) (by simp) ?_
    refine AllReadyH.cons rfl (fun K hK => ?_) AllReadyH.nil
    go_simp
    refine (chg_number (HS.out.keep S3.out.bel) (ErrIs.below HB.out (bs path))).mono ?_
    rintro e W4 ⟨rfl, hb⟩
    have S4 := Lib.hid (S3.out.call hb)
    clear hb hHeld
    go_wp2_with fail
    refine hK.out _ _ ⟨(S4.out.at 0 rfl), trivial⟩ (fun hHeld => ?_)
    clear hK K
    (try simp only [pt, Act.put])
    refine wpAnyH_ready (rs := [7]) (by kernel_rfl) (by simp) ?_
    refine AllReadyH.cons rfl (fun K hK => ?_) AllReadyH.nil
    rw [if_pos (by rfl)]
    refine wp_store_row 24 _ _ rfl _ rfl rfl (S4.out.at 2 rfl) rfl (by kernel_rfl) rfl ?_
    intro W5 hb hg hs hn
    have S5 := Lib.hid (S4.out.set 2 rfl hb hg hs hn)
    clear hb hg hs hn hHeld
    refine hK.out _ _ ⟨(S5.out.at 0 rfl), trivial⟩ (fun hHeld => ?_)
    clear hK K
    (try simp only [pt, Act.put])
    refine wpAnyH_take (i := 8) (v := ?v11) rfl (by kernel_rfl) (by kernel_rfl) (by kernel_rfl) (fun _ _ _ h => h) (Or.inl ⟨by rfl, ?hy11⟩) hHeld ?rest11
    case hy11 => (intro w hSw; (try dsimp only at hSw); (try go_split_ands); go_simp; first | done | with_reducible rfl)
    (try simp only [pt, Act.put])
    refine wpAnyH_done (by kernel_rfl) ?_ _
    go_wp2_with fail
    refine bodyPost_ret (HRET.out _ _ _ (S5.out.at 2 rfl) rfl _ rfl) rfl ?_
    rw [HE2.out]
    exact ⟨_, _, rfl, S5.out.gX 0 rfl, S5.out.bel⟩
end Go.Proofs.YtpmhmippoefcfaaGreatDoor
