/-
  Names of a directory, plainly: which names may be; what is found, put and dropped.
  Plain facts on stencils: how many blanks a text ends with, letters, signs; what is made; what fits.
  strings.IndexRune, IndexAny, ContainsAny at two plain bytes, in whatever text.
  strings.ContainsAny at the two bytes that no name has; which names may be.
  Which names may be: the program's and the document's.
  Lists of entries in memory; whether they are sorted: the program's and the document's.
  The document's Sorted, Find, Drop, Same, Names; the statements' its; the program's Names.
  The document's Sorted and Same of entries.
  The document's Find, Drop, Put; both Names.
  The document's Put; both Names.
  sort.Search, laid; the closure; where a name begins and ends.
  slices.Grow, laid; slices.Concat; what stands between two places, replaced.
  slices.Concat; what stands between two places, replaced.
  The program's replace, Find, Drop, Put. What is done to a disk, plainly; what is right, by what names what. A disk that is right stays so: what is entered, linked, lost, and whose mode is changed. A disk that is right stays so: what is lost, linked, and whose mode is changed. A disk that is right stays so: what is renamed. A disk that is right stays so, whatever is done to it; and how large it becomes. Ways on a disk to which a name has come, or from which one has gone; what was entered, dropped and renamed. How large a disk becomes. Disks that a change gives may be changed again; the example of the statements on changes, plainly. A statement's state; the small contracts, of whatever reads as these nodes. Are all nodes of one disk as those of another one?
-/
import Derived.RangeFuncNested
import Derived.RangeFuncBound
import Derived.RangeFuncCalls
import Derived.RangeFuncLeaves
import Derived.RangeFuncBox
import Derived.Shelf.Abstract
import Derived.Shelf.RegionOpen
import Derived.WalkKit
import Derived.OwnWalkIn
import Derived.TacticsInMore
import Derived.LoopNIn
import Derived.LoopIn
import Derived.Lib.Hide
import Derived.Outline
import Derived.Deep.QuietTactic
import Derived.Deep.AppendLies
import Derived.BigQuiet
import Derived.Lib.Strings
import Derived.WalkSmall
import Derived.Shelf.Small.Strs
import Derived.Shelf.Strings.Search1
import Derived.Shelf.Strings.Prefix
import Derived.Laws.AppendOwn
import Derived.Laws.OwnMore
import Derived.Laws.AppendOwnNone
import Derived.WideShapes
import Derived.Laws.RangeAny
import Derived.Laws.Runes
import Derived.Lib.Builder
import Derived.Deep.WholeRow
import Derived.WalkMore
import Derived.Lib.OthersKept
import Derived.Lib.QuietBelow
import Derived.Deep.DrawnRows
import Derived.Laws.Cover1
import Derived.Shelf.SlSorted.Search
import Derived.Shelf.Spec.SlicesGrow
import Derived.StillTailTactics
import Derived.Lib.TrimByte
import Derived.Lib.Bytealg
import Derived.Laws.BitsLemmas
import Derived.LaidEql
import Derived.Stop.Asserts
import Derived.RowKitTokens
import Derived.Deep.RegionHeld3
import Derived.Deep.RegionLaw
import Derived.Handy
import Derived.Laws.IdiomCopy
import Derived.Lib.SliceRun
import Derived.Laws.ResultCell
import Derived.Deep.LoopGhost
import Derived.Deep.DeepCutAuto
import Derived.Deep.MidRow
import Derived.BigRegion
import Derived.Test.YtpmhmippoefcfaaGreatDoorProg
import Derived.Test.YtpmhmippoefcfaaGreatDoorShelf
import Derived.Test.YtpmhmippoefcfaaGreatDoorB01
import Derived.Test.YtpmhmippoefcfaaGreatDoorB02
import Derived.Test.YtpmhmippoefcfaaGreatDoorB04
import Derived.Test.YtpmhmippoefcfaaGreatDoorB05
import Derived.Test.YtpmhmippoefcfaaGreatDoorB06
import Derived.Test.YtpmhmippoefcfaaGreatDoorB07
import Derived.Test.YtpmhmippoefcfaaGreatDoorB08
import Derived.Test.YtpmhmippoefcfaaGreatDoorB09
import Derived.Test.YtpmhmippoefcfaaGreatDoorB10
import Derived.Test.YtpmhmippoefcfaaGreatDoorB12
import Derived.Test.YtpmhmippoefcfaaGreatDoorB13
import Derived.Test.YtpmhmippoefcfaaGreatDoorB14
import Derived.Test.YtpmhmippoefcfaaGreatDoorB17
import Derived.Test.YtpmhmippoefcfaaGreatDoorB24
namespace Go.Proofs.YtpmhmippoefcfaaGreatDoor
theorem find_skip (a m c : List EntL) (o : Nm) (hm : ∀ e ∈ m, e.1 ≠ o) : findL (a ++ m ++ c) o = findL (a ++ c) o := by
  have : m.find? (fun e => e.1 == o) = none := List.find?_eq_none.2 fun e he => by simpa using hm e he
  unfold findL
  rw [List.find?_append, List.find?_append, List.find?_append, this, Option.or_none]
theorem sorted_drop {l : List EntL} (h : SortedP l) (n : Nm) : SortedP (dropL l n) := h.sub List.filter_sublist
theorem find_put (l : List EntL) (n : Nm) (i : Int) : findL (putL l (n, i)) n = some i := by
  rw [put_mid]
  exact find_parts _ _ _ _ (fun e he => lt_ne (mem_lo.1 he).2) fun e he => (lt_ne (mem_hi.1 he).2).symm
theorem find_put_other {l : List EntL} (h : Up l) (n o : Nm) (i : Int) (ho : o ≠ n) : findL (putL l (n, i)) o = findL l o := by
  rw [put_mid, find_skip _ _ _ _ fun e he => by rw [mid_name he]; exact ho.symm]
  have := find_skip (lo l n) (mid n (findL l n)) (hi l n) o fun e he => by rw [mid_name he]; exact ho.symm
  rw [← eparts h n] at this
  exact this.symm
theorem drop_put {l : List EntL} (h : Up l) (n : Nm) (i : Int) : dropL (putL l (n, i)) n = dropL l n := by
  have e1 : (lo l n).filter (fun e => !(e.1 == n)) = lo l n := List.filter_eq_self.2 fun e he => by simpa using lt_ne (mem_lo.1 he).2
  have e2 : (hi l n).filter (fun e => !(e.1 == n)) = hi l n := List.filter_eq_self.2 fun e he => by simpa using (lt_ne (mem_hi.1 he).2).symm
  rw [drop_parts h]
  show (putL l (n, i)).filter _ = _
  rw [put_mid, List.filter_append, List.filter_append, e1, e2]
  simp [mid]
end Go.Proofs.YtpmhmippoefcfaaGreatDoor
namespace Go.Proofs.YtpmhmippoefcfaaGreatDoor
end Go.Proofs.YtpmhmippoefcfaaGreatDoor
namespace Go.Proofs.YtpmhmippoefcfaaGreatDoor
open Go.RowKit Go.Shelf
end Go.Proofs.YtpmhmippoefcfaaGreatDoor
namespace Go.Proofs.YtpmhmippoefcfaaGreatDoor
open Go.RowKit Go.Shelf
end Go.Proofs.YtpmhmippoefcfaaGreatDoor
namespace Go.Proofs.YtpmhmippoefcfaaGreatDoor
open Go.RowKit Go.Shelf
end Go.Proofs.YtpmhmippoefcfaaGreatDoor
namespace Go.Proofs.YtpmhmippoefcfaaGreatDoor
open Go.RowKit Go.Shelf
attribute [local go_sem ↓] Go.wp_at_zero Go.wp_at_succ
end Go.Proofs.YtpmhmippoefcfaaGreatDoor
namespace Go.Proofs.YtpmhmippoefcfaaGreatDoor
open Go.RowKit Go.Shelf
attribute [local go_sem ↓] Go.wp_at_zero Go.wp_at_succ
end Go.Proofs.YtpmhmippoefcfaaGreatDoor
namespace Go.Proofs.YtpmhmippoefcfaaGreatDoor
open Go.RowKit Go.Shelf
attribute [local go_sem ↓] Go.wp_at_zero Go.wp_at_succ
end Go.Proofs.YtpmhmippoefcfaaGreatDoor
namespace Go.Proofs.YtpmhmippoefcfaaGreatDoor
open Go.RowKit Go.Shelf
attribute [local go_sem ↓] Go.wp_at_zero Go.wp_at_succ
end Go.Proofs.YtpmhmippoefcfaaGreatDoor
namespace Go.Proofs.YtpmhmippoefcfaaGreatDoor
open Go.RowKit Go.Shelf
attribute [local go_sem ↓] Go.wp_at_zero Go.wp_at_succ
end Go.Proofs.YtpmhmippoefcfaaGreatDoor
namespace Go.Proofs.YtpmhmippoefcfaaGreatDoor
open Go.RowKit Go.Shelf
attribute [local go_sem ↓] Go.wp_at_zero Go.wp_at_succ
end Go.Proofs.YtpmhmippoefcfaaGreatDoor
namespace Go.Proofs.YtpmhmippoefcfaaGreatDoor
open Go.RowKit Go.Shelf
open Go.WideShapes (add_plain)
attribute [local go_sem ↓] Go.wp_at_zero Go.wp_at_succ
end Go.Proofs.YtpmhmippoefcfaaGreatDoor
namespace Go.Proofs.YtpmhmippoefcfaaGreatDoor
open Go.RowKit Go.Shelf
open Go.WideShapes (add_plain)
attribute [local go_sem ↓] Go.wp_at_zero Go.wp_at_succ
end Go.Proofs.YtpmhmippoefcfaaGreatDoor
namespace Go.Proofs.YtpmhmippoefcfaaGreatDoor
open Go.RowKit Go.Shelf
open Go.WideShapes (add_plain)
attribute [local go_sem ↓] Go.wp_at_zero Go.wp_at_succ
end Go.Proofs.YtpmhmippoefcfaaGreatDoor
namespace Go.Proofs.YtpmhmippoefcfaaGreatDoor
theorem nd_app (l : List NodeL) (n : NodeL) (j : Nat) : nd (l ++ [n]) j = if j = l.length then n else nd l j := by
  by_cases h : j < l.length
  · rw [if_neg (by omega), nd_lt (l := l ++ [n]) (by rw [List.length_append]; omega), nd_lt h, List.getElem_append_left]
  · by_cases e : j = l.length
    · subst e; rw [if_pos rfl, nd_lt (l := l ++ [n]) (by simp)]; simp
    · rw [if_neg e, nd_ge (by rw [List.length_append, List.length_singleton]; omega), nd_ge (by omega)]
theorem cnt_pos {l : List NodeL} {j : Int} (h : 0 < cnt l j) : ∃ k, 0 < cntN (nd l k).names j := by
  induction l with
  | nil => exact absurd h (Nat.lt_irrefl 0)
  | cons a l ih =>
    have e : cnt (a :: l) j = cntN a.names j + cnt l j := by simp [cnt]
    by_cases h0 : 0 < cntN a.names j
    · exact ⟨0, h0⟩
    · obtain ⟨k, hk⟩ := ih (by omega)
      exact ⟨k + 1, hk⟩
end Go.Proofs.YtpmhmippoefcfaaGreatDoor
namespace Go.Proofs.YtpmhmippoefcfaaGreatDoor
theorem Rig.cnt_free {l : List NodeL} {E : Nat → Prop} (h : RigE l E) {k : Nat} (hk : (nd l k).kind = 0) (j : Nat) : cntN (nd l j).names k = 0 := by
  rw [cntN_zero]
  intro e he hek
  obtain ⟨i, a, _, c⟩ := h.nam j e he
  rw [hek] at a
  have : k = i := by omega
  subst this
  exact c hk
theorem cnt_zero_of {l : List NodeL} {j : Int} (h : ∀ k, cntN (nd l k).names j = 0) : cnt l j = 0 := by
  refine Nat.eq_zero_of_not_pos fun hp => ?_
  obtain ⟨k, hk⟩ := cnt_pos hp
  have := h k
  omega
/-- A new node, that nothing names yet. -/
theorem add_node {l l' : List NodeL} (h : Rig l) {p : Nat} (hp : (nd l p).kind = 0) (h0 : p ≠ 0) (n : NodeL) (hn : LocOk n) (hnk : n.kind ≠ 0) (hnm : n.names = []) (hnd : ∀ j, nd l' j = if j = p then n else nd l j) (hc : ∀ j, cnt l' j = cnt l j) : RigE l' (fun k => k = p) := by
  have hold : ∀ j, (nd l j).kind ≠ 0 → nd l' j = nd l j := fun j hj => by rw [hnd, if_neg]; intro e; subst e; exact hj hp
  refine ⟨?_, fun j hj => ?_, fun j hj => ?_, fun j e he => ?_, fun j hj0 hj hjk => ?_⟩
  · rw [hnd, if_neg (Ne.symm h0)]; exact h.root
  · rw [hnd] at hj ⊢
    split
    · rename_i e; rw [if_pos e] at hj; exact absurd hj hnk
    · rename_i e; rw [if_neg e] at hj; exact h.zero j hj
  · rw [hnd] at hj ⊢
    split
    · exact hn
    · rename_i e; rw [if_neg e] at hj; exact h.loc j hj
  · rw [hnd] at he
    split at he
    · rw [hnm] at he; cases he
    · obtain ⟨i, a, b, c⟩ := h.nam j e he
      exact ⟨i, a, b, by rw [hold i c]; exact c⟩
  · rw [hnd, if_neg hj] at hjk ⊢
    refine (h.nmd j hj0 (fun h => h) hjk).same (hc j) (fun _ u hu => ?_) fun _ hr => ?_
    · obtain ⟨e, he, _⟩ := cntN_pos.1 hu
      have : (nd l u).kind ≠ 0 := fun hz => by rw [h.zero u hz] at he; cases he
      rw [hold u this]; exact hu
    · exact hr.mono (fun _ => True) (fun k _ hk => by rw [hold k (by rw [hk]; decide)]; exact ⟨hk, rfl, fun _ _ _ => trivial⟩) fun _ _ _ => trivial
/-- A name is dropped; the node that it named is left out. -/
theorem drop_name {l : List NodeL} {E : Nat → Prop} (h : RigE l E) {d x : Nat} (hd : (nd l d).kind = 2) {nm : Nm} (hf : findL (nd l d).names nm = some (x : Int)) : RigE (l.set d (dropN (nd l d) nm)) (fun k => E k ∨ k = x) := by
  have hs := Rig.sorted h d
  refine h.names d hd (dropL (nd l d).names nm) _ (fun _ h => .inl h) (sorted_drop hs nm) (fun e he => h.nam d e (List.mem_filter.1 he).1) (fun j hj => ?_) fun h0 h1 h2 => ?_
  · have := cntN_drop hs.2 hf j
    rw [if_neg (by intro e; exact hj (.inr (by omega)))] at this
    exact this
  · have hn := (h.nmd d h0 (fun he => h1 (.inl he)) (by rw [hd]; decide)).2.2 hd
    have := (hn.1 h2).1
    rw [this] at hf
    cases hf
theorem drop_facts {l : List NodeL} {d x : Nat} (hs : SortedP (nd l d).names) (hd : (nd l d).kind = 2) {nm : Nm} (hf : findL (nd l d).names nm = some (x : Int)) :
    (∀ j, nd (l.set d (dropN (nd l d) nm)) j = if j = d then dropN (nd l d) nm else nd l j) ∧ (∀ j : Nat, cnt (l.set d (dropN (nd l d) nm)) j + (if x = j then 1 else 0) = cnt l j) ∧ (∀ j, (nd (l.set d (dropN (nd l d) nm)) j).kind = (nd l j).kind ∧ (nd (l.set d (dropN (nd l d) nm)) j).up = (nd l j).up) := by
  have hlt : d < l.length := nd_kind (by rw [hd]; decide)
  refine ⟨nd_set hlt _, fun j => ?_, nd_map_set hlt (dropN (nd l d) nm) rfl rfl⟩
  have h1 := cnt_set hlt (dropN (nd l d) nm) j
  have h2 : cntN (dropN (nd l d) nm).names j + (if (x : Int) = j then 1 else 0) = cntN (nd l d).names j := cntN_drop hs.2 hf j
  by_cases hx : x = j
  · subst hx; rw [if_pos rfl] at h2 ⊢; omega
  · rw [if_neg (by omega)] at h2; rw [if_neg hx]; omega
theorem set_loc {n : NodeL} (h : LocOk n) {m : NodeL} (hk : m.kind = n.kind) (hm : 0 ≤ m.mode ∧ m.mode ≤ 63) (ho : m.opn = n.opn) (hd : m.data = n.data) (hn : m.names = n.names) : LocOk m := by
  obtain ⟨a, b, c, d⟩ := h
  unfold plainB at a
  simp only [Bool.and_eq_true, decide_eq_true_iff] at a
  refine ⟨?_, by rw [hk, hn]; exact b, by rw [hk, hd]; exact c, by rw [hn]; exact d⟩
  unfold plainB
  simp only [Bool.and_eq_true, decide_eq_true_iff]
  rw [hk, ho]
  exact ⟨⟨⟨a.1.1.1, hm.1⟩, hm.2⟩, a.2⟩
theorem loc_mode {n : NodeL} (h : LocOk n) : 0 ≤ n.mode ∧ n.mode ≤ 63 := by
  have a := h.1
  unfold plainB at a
  simp only [Bool.and_eq_true, decide_eq_true_iff] at a
  exact ⟨a.1.1.2, a.1.2⟩
theorem add_nd {l : List NodeL} {most room : Int} {n : NodeL} (hR : Rig l) (h0 : 0 < l.length) (hnm : n.names = []) (hE : addE l most room n = 0) :
    ∃ p : Nat, addI l most room n = p ∧ p ≠ 0 ∧ (nd l p).kind = 0 ∧ (∀ j, nd (addL l most room n) j = if j = p then n else nd l j) ∧ (∀ j, cnt (addL l most room n) j = cnt l j) ∧ (l.length ≤ (addL l most room n).length ∧ (addL l most room n).length ≤ l.length + 1 ∧ ((l.length : Int) ≤ most → ((addL l most room n).length : Int) ≤ most)) ∧ ((bytesL (addL l most room n) : Int) ≤ room) := by
  have hno : addNo l most room n = false := by
    unfold addE at hE
    cases hb : addNo l most room n with
    | false => rfl
    | true => rw [hb] at hE; cases hE
  have hno' := hno
  unfold addNo at hno'
  simp only [Bool.or_eq_false_iff, decide_eq_false_iff_not] at hno'
  have hroot : (nd l 0).kind ≠ 0 := by rw [hR.root.1]; decide
  unfold addI addL
  rw [hno]
  rcases idx_cases l 0 with ⟨h, hk⟩ | ⟨j, hj, h, hk, hb⟩
  · have hneg : idxL l 0 < 0 := by omega
    simp only [hneg, if_true, Bool.false_eq_true, if_false]
    have hu : usedL l = l.length := by
      unfold usedL
      rw [List.countP_eq_length]
      intro a ha
      obtain ⟨i, hi, rfl⟩ := List.mem_iff_getElem.1 ha
      simpa using hk i hi
    refine ⟨l.length, rfl, by omega, by rw [nd_ge (Nat.le_refl _)]; rfl, nd_app l n, fun j => by rw [cnt_app, hnm, cntN_nil]; rfl, ⟨by simp, by simp, fun _ => by rw [List.length_append, List.length_singleton]; omega⟩, ?_⟩
    have : bytesL (l ++ [n]) = bytesL l + weightL n := by simp [bytesL]
    omega
  · rw [h, Nat.zero_add]
    have hneg : ¬ ((j : Nat) : Int) < 0 := by omega
    simp only [hneg, if_false, Bool.false_eq_true, Int.toNat_natCast]
    have hjk : (nd l j).kind = 0 := by rw [nd_lt hj]; exact hk
    refine ⟨j, rfl, fun e => by subst e; exact hroot hjk, hjk, nd_set hj n, fun i => ?_, ⟨by simp, by simp, fun h => by rw [List.length_set]; exact h⟩, ?_⟩
    · have := cnt_set hj n i
      rw [hR.zero j hjk, hnm, show zeroN.names = [] from rfl, cntN_nil] at this
      omega
    · have hw : ∀ (l : List NodeL) (j : Nat) (h : j < l.length), bytesL (l.set j n) + weightL l[j] = bytesL l + weightL n := by
        intro l
        induction l with
        | nil => intro j h; simp at h
        | cons a l ih =>
          intro j h
          cases j with
          | zero => simp [bytesL]; omega
          | succ j =>
            have := ih j (by simpa using h)
            simp only [bytesL, List.set_cons_succ, List.map_cons, List.sum_cons, List.getElem_cons_succ] at this ⊢
            omega
      have := hw l j hj
      omega
/-- What is entered leaves a disk right. -/
theorem enter_rig {l : List NodeL} {most room who : Int} {s : SpotL} {n : NodeL} (hr : RightP l) (hs : SpotW l s) (hnk : n.kind ≠ 0) (hn : LocOk (ownN n who)) (hnm : n.names = []) (hup : n.kind = 2 → n.up = s.dir)
    (hF : freeE l who s = 0) (hE : addE l most room (ownN n who) = 0) : ∃ d p : Nat, s.dir = d ∧ (nd l d).kind = 2 ∧ addI l most room (ownN n who) = p ∧ p ≠ 0 ∧ p ≠ d ∧ (nd l p).kind = 0 ∧ legalL s.name = 0 ∧ findL (nd l d).names s.name = none ∧ s.ino = -1
      ∧ (∀ j, nd (enterL l most room who s n).1 j = if j = d then putN (nd l d) s.name p else if j = p then ownN n who else nd l j) ∧ Rig (enterL l most room who s n).1
      ∧ enterL l most room who s n = ((addL l most room (ownN n who)).set d (putN (nd l d) s.name p), (p : Int), 0)
      ∧ (l.length ≤ (enterL l most room who s n).1.length ∧ (enterL l most room who s n).1.length ≤ l.length + 1 ∧ ((l.length : Int) ≤ most → ((enterL l most room who s n).1.length : Int) ≤ most)) ∧ (bytesL (enterL l most room who s n).1 : Int) ≤ room := by
  obtain ⟨hR, h0⟩ := Rig.of hr
  obtain ⟨d, hd, hk⟩ := spot_dir hs
  have hlt : d < l.length := nd_kind (by rw [hk]; decide)
  unfold freeE at hF
  split at hF
  · cases hF
  · rename_i hneg
    split at hF
    · cases hF
    · rename_i hlk
      obtain ⟨hleg, hfn, hino⟩ := spot_new hr hs (by omega) hd hk
      rw [hd, nodeL_nd (by rw [hk]; decide)] at hlk
      obtain ⟨p, hp, hp0, hpk, hnd, hc, ⟨hl1, hl2, hl3⟩, hby⟩ := add_nd (most := most) (room := room) (n := ownN n who) hR h0 hnm hE
      have hpd : p ≠ d := fun e => by subst e; rw [hpk] at hk; cases hk
      have hR1 := add_node (l' := addL l most room (ownN n who)) hR hpk hp0 (ownN n who) hn hnk hnm hnd hc
      generalize hL : addL l most room (ownN n who) = l1 at *
      have hd1 : nd l1 d = nd l d := by rw [hnd, if_neg (Ne.symm hpd)]
      have hk1 : (nd l1 d).kind = 2 := by rw [hd1]; exact hk
      have hlt1 : d < l1.length := by omega
      have hcd : d ≠ 0 → cnt l1 d ≠ 0 := fun hd0 => by
        rw [hc]
        have := (hR.nmd d hd0 (fun h => h) (by rw [hk]; decide)).1
        omega
      have hR2 := put_name hR1 hk1 (x := p) hleg (by rw [hd1]; exact hfn) rfl hp0 (by rw [hnd, if_pos rfl]; exact hnk) fun hd0 _ => hcd hd0
      obtain ⟨f1, f2, f3, f4⟩ := put_facts (x := p) (Rig.sorted hR1 d) hk1 (nm := s.name) (by rw [hd1]; exact hfn)
      have heq : enterL l most room who s n = (l1.set d (putN (nd l d) s.name p), (p : Int), 0) := by
        unfold enterL
        rw [if_neg (by rw [show freeE l who s = 0 by unfold freeE; rw [if_neg hneg, hd, nodeL_nd (by rw [hk]; decide), if_neg hlk]; rw [hd] at hF; exact hF]; simp), if_neg (by rw [hE]; simp), hp, hL]
        unfold namedL
        rw [hd, setL_nat hlt1, nodeL_nd (by rw [hd1, hk]; decide), hd1]
      rw [hd1] at f1 f2 f3 f4 hR2
      have hR3 : Rig (l1.set d (putN (nd l d) s.name p)) := by
        refine hR2.less (E' := fun _ => False) fun k hk0 => .inr fun _ _ => ?_
        subst hk0
        have hc0 : cnt l k = 0 := cnt_zero_of fun j => Rig.cnt_free hR hpk j
        have hck : cnt (l1.set d (putN (nd l d) s.name k)) k = 1 := by rw [f2, hc, hc0, if_pos rfl]
        have hkn : nd (l1.set d (putN (nd l d) s.name k)) k = ownN n who := by rw [f1, if_neg hpd, hnd, if_pos rfl]
        rw [hkn]
        refine ⟨(by rw [hck]; rfl), fun h => (by rw [hck] at h; cases h), fun h2 => ⟨fun h => (by rw [hck] at h; cases h), fun _ => ⟨hck, ⟨d, (hup h2).trans hd, f4⟩, ?_⟩⟩⟩
        have hrd : Rooted l d := by
          by_cases hd0 : d = 0
          · subst hd0; exact .root
          · have hN := hR.nmd d hd0 (fun h => h) (by rw [hk]; decide)
            exact ((hN.2.2 hk).2 (by rw [← hc]; exact hcd hd0)).2.2
        have hrd2 : Rooted (l1.set d (putN (nd l d) s.name k)) d := by
          refine hrd.mono (fun _ => True) (fun j _ hj => ?_) fun _ _ _ => trivial
          have : nd l1 j = nd l j := by rw [hnd, if_neg]; intro e; subst e; rw [hpk] at hj; cases hj
          rw [(f3 j).1, (f3 j).2, this]
          exact ⟨hj, rfl, fun _ _ _ => trivial⟩
        refine .up k (by rw [hkn]; exact h2) ?_
        rw [hkn]
        show Rooted _ n.up
        rw [hup h2, hd]
        exact hrd2
      refine ⟨d, p, hd, hk, hp, hp0, hpd, hpk, hleg, hfn, hino, ?_, ?_, heq, ?_, ?_⟩
      · rw [heq]
        intro j
        rw [f1]
        split
        · rfl
        · rw [hnd]
      · rw [heq]; exact hR3
      · rw [heq]
        simp only [List.length_set]
        exact ⟨hl1, hl2, hl3⟩
      · rw [heq]
        have hw : ∀ (l : List NodeL) (j : Nat) (h : j < l.length) (m : NodeL), weightL m = weightL l[j] → bytesL (l.set j m) = bytesL l := by
          intro l
          induction l with
          | nil => intro j h; simp at h
          | cons a l ih =>
            intro j h m hm
            cases j with
            | zero => simp only [bytesL, List.set_cons_zero, List.map_cons, List.sum_cons]; rw [hm]; rfl
            | succ j =>
              have := ih j (by simpa using h) m hm
              simp only [bytesL, List.set_cons_succ, List.map_cons, List.sum_cons] at this ⊢
              omega
        have := hw l1 d hlt1 (putN (nd l d) s.name p) (by rw [← nd_lt hlt1, hd1]; rfl)
        simp only
        rw [this]
        exact hby
end Go.Proofs.YtpmhmippoefcfaaGreatDoor
namespace Go.Proofs.YtpmhmippoefcfaaGreatDoor
theorem bytes_set {l : List NodeL} {j : Nat} (h : j < l.length) (m : NodeL) : bytesL (l.set j m) + weightL (nd l j) = bytesL l + weightL m := by
  rw [nd_lt h]
  induction l generalizing j with
  | nil => simp at h
  | cons a l ih =>
    cases j with
    | zero => simp [bytesL]; omega
    | succ j =>
      have := ih (j := j) (by simpa using h)
      simp only [bytesL, List.set_cons_succ, List.map_cons, List.sum_cons, List.getElem_cons_succ] at this ⊢
      omega
/-- What is left of a node that has lost a name. -/
def leftN (n : NodeL) : NodeL := if n.links - 1 ≤ 0 ∧ n.opn ≤ 0 then zeroN else lessN n
theorem leftN_kind (n : NodeL) (h : n.kind ≠ 0) : (leftN n).kind = 0 ↔ (n.links - 1 ≤ 0 ∧ n.opn ≤ 0) := by
  unfold leftN
  split
  · rename_i hc; exact ⟨fun _ => hc, fun _ => rfl⟩
  · rename_i hc; exact ⟨fun h1 => absurd h1 h, fun h1 => absurd h1 hc⟩
/-- A name is lost, and what it named. -/
theorem lost_rig {l : List NodeL} {E : Nat → Prop} (h : RigE l E) {s : SpotL} {d y : Nat} (hd : s.dir = d) (hk : (nd l d).kind = 2) (hi : s.ino = y) (hf : findL (nd l d).names s.name = some (y : Int)) (hy0 : y ≠ 0) (hyk : (nd l y).kind ≠ 0) (hyE : ¬ E y)
    (hyn : (nd l y).kind = 2 → (nd l y).names = []) (hup : ∀ k, E k → (nd l k).kind = 2 → (nd l k).up ≠ y) :
    y ≠ d ∧ lostL l s = (l.set d (dropN (nd l d) s.name)).set y (leftN (nd l y)) ∧ (∀ j, nd (lostL l s) j = if j = d then dropN (nd l d) s.name else if j = y then leftN (nd l y) else nd l j) ∧ (∀ j : Nat, cnt (lostL l s) j + (if y = j then 1 else 0) = cnt l j)
      ∧ (lostL l s).length = l.length ∧ bytesL (lostL l s) ≤ bytesL l ∧ (∀ k, k ≠ y → (nd (lostL l s) k).kind = (nd l k).kind ∧ (nd (lostL l s) k).up = (nd l k).up) ∧ RigE (lostL l s) E := by
  have hs := Rig.sorted h d
  have hlt : d < l.length := nd_kind (by rw [hk]; decide)
  have hlty : y < l.length := nd_kind hyk
  have hyd : y ≠ d := by
    rintro rfl
    rw [hyn hk] at hf
    cases hf
  obtain ⟨f1, f2, f3⟩ := drop_facts hs hk hf
  have hR1 := drop_name h hk hf
  generalize hL : l.set d (dropN (nd l d) s.name) = l1 at *
  have hlen1 : l1.length = l.length := by rw [← hL, List.length_set]
  have hy1 : nd l1 y = nd l y := by rw [f1, if_neg hyd]
  have hlty1 : y < l1.length := by omega
  have hdrop : droppedL l s = l1 := by unfold droppedL; rw [hd, setL_nat hlt, nodeL_nd (by rw [hk]; decide), hL]
  have hN := h.nmd y hy0 hyE hyk
  have hcy : 0 < cnt l y := by
    have h1 := cntN_drop hs.2 hf y
    rw [if_pos rfl] at h1
    have := cnt_ge (l := l) d y
    omega
  have hc1 := f2 y
  rw [if_pos rfl] at hc1
  have hlk : (nd l y).links = cnt l y := hN.1
  have hlost : lostL l s = l1.set y (leftN (nd l y)) := by
    unfold lostL settleL
    rw [hdrop, hi, setL_nat hlty1, nodeL_nd (by rw [hy1]; exact hyk), hy1]
    have hnd2 : nd (l1.set y (lessN (nd l y))) y = lessN (nd l y) := by rw [nd_set hlty1, if_pos rfl]
    have hg : gotB (l1.set y (lessN (nd l y))) (y : Int) = true := (got_nd _ y).2 (by rw [hnd2]; exact hyk)
    rw [hg, nodeL_nd (by rw [hnd2]; exact hyk), hnd2]
    unfold leftN
    split
    · rename_i hc
      obtain ⟨-, -, a, b⟩ := hc
      rw [if_pos ⟨a, b⟩, setL_nat (by rw [List.length_set]; exact hlty1), List.set_set]
    · rename_i hc
      rw [if_neg fun ⟨a, b⟩ => hc ⟨rfl, by omega, a, b⟩]
  have hnd : ∀ j, nd (l1.set y (leftN (nd l y))) j = if j = y then leftN (nd l y) else nd l1 j := nd_set hlty1 _
  have hleft : (leftN (nd l y)).names = (nd l1 y).names := by
    rw [hy1]
    unfold leftN
    split
    · by_cases h2 : (nd l y).kind = 2
      · rw [hyn h2]; rfl
      · rw [(h.loc y hyk).2.1 h2]; rfl
    · rfl
  have hcs : ∀ j : Int, cnt (l1.set y (leftN (nd l y))) j = cnt l1 j := fun j => by
    have := cnt_set hlty1 (leftN (nd l y)) j
    rw [hleft] at this
    omega
  have hloc : (leftN (nd l y)).kind ≠ 0 → LocOk (leftN (nd l y)) := fun hne => by
    have h1 := h.loc y hyk
    unfold leftN at hne ⊢
    split
    · rename_i hc; rw [if_pos hc] at hne; exact absurd rfl hne
    · exact set_loc h1 (m := lessN (nd l y)) rfl (loc_mode h1) rfl rfl rfl
  have hnone : (leftN (nd l y)).kind = 0 → ∀ k, cntN (nd l1 k).names y = 0 := fun hz k => by
    obtain ⟨a, _⟩ := (leftN_kind _ hyk).1 hz
    have := cnt_ge (l := l1) k y
    omega
  have hway : ∀ k : Nat, k ≠ 0 → ¬ (E k ∨ k = y) → (nd l1 k).kind = 2 → Rooted l1 k → Rooted (l1.set y (leftN (nd l y))) k := fun k hk0 hkE hk2 hr => by
    refine hr.mono (fun k => (nd l1 k).kind = 2 → k ≠ y) (fun j hj hj2 => ?_) fun j e _ _ => ?_
    · have hjy := hj hj2
      rw [hnd, if_neg hjy]
      refine ⟨hj2, rfl, fun u hu hu0 hu2 => ?_⟩
      rintro rfl
      have hyd2 : (nd l u).kind = 2 := by rw [← hy1]; exact hu2
      by_cases hj0 : j = 0
      · subst hj0
        have := hR1.root.2.1
        omega
      · by_cases hjE : E j
        · exact hup j hjE (by rw [← (f3 j).1]; exact hj2) (by rw [← (f3 j).2]; exact hu)
        · have hNj := (hR1.nmd j hj0 (fun he => he.elim hjE hjy) (by rw [hj2]; decide)).2.2 hj2
          by_cases hcz : cnt l1 j = 0
          · have := (hNj.1 hcz).2
            omega
          · obtain ⟨_, ⟨v, hv, hv2⟩, _⟩ := hNj.2 hcz
            have : v = u := by omega
            subst this
            rw [hy1, hyn hyd2, cntN_nil] at hv2
            exact absurd hv2 (Nat.lt_irrefl 0)
    · obtain rfl : k = j := by omega
      exact fun he => hkE (.inr he)
  have hR2 := hR1.node (y := y) (.inr rfl) hy0 hlty1 (leftN (nd l y)) hleft hloc (fun hz => by
    unfold leftN at hz ⊢
    split
    · rfl
    · rename_i hc; rw [if_neg hc] at hz; exact absurd hz hyk) hnone hway
  have hR3 : RigE (l1.set y (leftN (nd l y))) E := by
    refine hR2.less fun k hkE => ?_
    rcases hkE with hkE | rfl
    · exact .inl hkE
    · refine .inr fun _ hkk => ?_
      have hck := hcs k
      rw [hnd, if_pos rfl] at hkk ⊢
      have hns : ¬ ((nd l k).links - 1 ≤ 0 ∧ (nd l k).opn ≤ 0) := fun hc => hkk ((leftN_kind _ hyk).2 hc)
      have hle : leftN (nd l k) = lessN (nd l k) := by unfold leftN; rw [if_neg hns]
      rw [hle] at hck ⊢
      have e1 : (lessN (nd l k)).links = (nd l k).links - 1 := rfl
      refine ⟨by rw [hck, e1]; omega, fun hz => ?_, fun h2 => ?_⟩
      · show 1 ≤ (nd l k).opn
        omega
      · have h2' : (nd l k).kind = 2 := h2
        have h1 := ((hN.2.2 h2').2 (by omega)).1
        refine ⟨fun _ => ⟨hyn h2', ?_⟩, fun hz => absurd (by omega) hz⟩
        show (if (nd l k).kind = 2 then 0 else (nd l k).up) = 0
        rw [if_pos h2']
  rw [hlost]
  refine ⟨hyd, rfl, fun j => ?_, fun j => ?_, by rw [List.length_set, hlen1], ?_, fun k hky => ?_, hR3⟩
  · rw [hnd]
    by_cases hjy : j = y
    · subst hjy
      rw [if_pos rfl, if_neg hyd, if_pos rfl]
    · rw [if_neg hjy, f1, if_neg hjy]
  · rw [hcs]; exact f2 j
  · have b1 := bytes_set hlt (dropN (nd l d) s.name)
    have b2 := bytes_set hlty1 (leftN (nd l y))
    rw [hL] at b1
    rw [hy1] at b2
    have w1 : weightL (dropN (nd l d) s.name) = weightL (nd l d) := rfl
    have w2 : weightL (leftN (nd l y)) ≤ weightL (nd l y) := by
      unfold leftN
      split
      · exact Nat.zero_le _
      · exact Nat.le_refl _
    omega
  · rw [hnd, if_neg hky]; exact f3 k
end Go.Proofs.YtpmhmippoefcfaaGreatDoor
namespace Go.Proofs.YtpmhmippoefcfaaGreatDoor
theorem drop_none {es : List EntL} {a : Nm} (h : findL es a = none) : dropL es a = es := by
  unfold dropL
  rw [List.filter_eq_self]
  intro e he
  unfold findL at h
  rw [Option.map_eq_none_iff, List.find?_eq_none] at h
  simpa using h e he
end Go.Proofs.YtpmhmippoefcfaaGreatDoor
namespace Go.Proofs.YtpmhmippoefcfaaGreatDoor
theorem own_loc (n : NodeL) (who : Int) (hk : 1 ≤ n.kind ∧ n.kind ≤ 3) (hm : 0 ≤ n.mode ∧ n.mode ≤ 63) (ho : n.opn = 0) (hn : n.names = []) (hd : n.kind = 2 → n.data = []) : LocOk (ownN n who) := by
  refine ⟨?_, fun _ => hn, hd, ?_⟩
  · unfold plainB
    simp only [Bool.and_eq_true, decide_eq_true_iff]
    refine ⟨⟨⟨hk, hm.1⟩, hm.2⟩, ?_⟩
    show 0 ≤ n.opn
    omega
  · show SortedP n.names
    rw [hn]; exact sorted_nil
theorem file_loc (mode who : Int) : LocOk (ownN (fileN mode) who) := own_loc _ _ (show (1 : Int) ≤ 1 ∧ (1 : Int) ≤ 3 by decide) (by show 0 ≤ mode % 64 ∧ mode % 64 ≤ 63; omega) rfl rfl (fun h => rfl)
theorem dir_loc (mode up who : Int) : LocOk (ownN (dirN mode up) who) := own_loc _ _ (show (1 : Int) ≤ 2 ∧ (2 : Int) ≤ 3 by decide) (by show 0 ≤ mode % 64 ∧ mode % 64 ≤ 63; omega) rfl rfl (fun h => rfl)
/-- What is entered: the same disk, or one more node in it. -/
theorem right_enter {l : List NodeL} {most room who : Int} (h : rightR l most room = true) {s : SpotL} (hs : SpotW l s) {n : NodeL} (hnk : n.kind ≠ 0) (hn : LocOk (ownN n who)) (hnm : n.names = []) (hup : n.kind = 2 → n.up = s.dir) : rightR (enterL l most room who s n).1 most room = true := by
  by_cases hF : freeE l who s = 0
  · by_cases hE : addE l most room (ownN n who) = 0
    · obtain ⟨d, p, -, -, -, -, -, -, -, -, -, -, hR, -, ⟨h1, _, h3⟩, hb⟩ := enter_rig (right_RP h) hs hnk hn hnm hup hF hE
      obtain ⟨_, a1, a2, _⟩ := (right_iff l most room).1 h
      exact (right_iff _ most room).2 ⟨hR, by omega, h3 a2, hb⟩
    · unfold enterL
      rw [if_neg (by rw [hF]; simp), if_pos hE]
      exact h
  · unfold enterL
    rw [if_pos hF]
    exact h
section
variable {l : List NodeL} {most room : Int} (h : rightR l most room = true) (who fr : Int) (path : Str)
include h
theorem right_mkfile (mode : Int) : rightR (mkfileL l most room who fr path mode).1 most room = true := by
  unfold mkfileL
  split
  · exact h
  · rename_i hw
    split
    · exact h
    · exact right_enter h (walk_spot (right_RP h) (Decidable.not_not.1 hw)) (show (1 : Int) ≠ 0 by decide) (file_loc mode who) rfl (fun h => by cases h)
theorem right_mkdir (mode : Int) : rightR (mkdirL l most room who fr path mode).1 most room = true := by
  unfold mkdirL
  split
  · exact h
  · rename_i hw
    exact right_enter h (walk_spot (right_RP h) (Decidable.not_not.1 hw)) (show (2 : Int) ≠ 0 by decide) (dir_loc mode _ who) rfl (fun _ => rfl)
end
end Go.Proofs.YtpmhmippoefcfaaGreatDoor
namespace Go.Proofs.YtpmhmippoefcfaaGreatDoor
/-- A disk with a name more. -/
structure MoreD (l l' : List NodeL) (d : Int) (nm : Str) (p : Int) : Prop where
  dir : ∀ i, dirE l i = 0 → dirE l' i = 0
  may : ∀ who i, dirE l i = 0 → mayAt l' who i = mayAt l who i
  look : ∀ i q, dirE l i = 0 → ¬ lookL l i q < 0 → lookL l' i q = lookL l i q
  node : ∀ i, gotB l i = true → (nodeL l' i).kind = (nodeL l i).kind ∧ (nodeL l' i).data = (nodeL l i).data
  new : lookL l' d nm = p
  pos : 0 ≤ p
theorem more_go_ways {l l' : List NodeL} {d : Int} {nm : Str} {p : Int} (hr : RightP l) (m : MoreD l l' d nm p) (who : Int) (sl : Bool) (h3 : (nodeL l' p).kind ≠ 3) (h2 : sl = true → (nodeL l' p).kind = 2) :
    ∀ i ps hops, (goW l who false sl i ps hops).2 = 0 → (goW l who false sl i ps hops).1.ino < 0 → (goW l who false sl i ps hops).1.dir = d → (goW l who false sl i ps hops).1.name = nm → goW l' who false sl i ps hops = (⟨d, nm, p, sl⟩, 0) := by
  refine go_ind l who false sl (fun i ps hops R => R.2 = 0 → R.1.ino < 0 → R.1.dir = d → R.1.name = nm → goW l' who false sl i ps hops = (⟨d, nm, p, sl⟩, 0)) ?_ ?_ ?_ ?_ ?_ ?_ ?_ ?_ ?_ ?_ ?_
  · intro i hops _ hi; exact absurd hi (show ¬ (0 : Int) < 0 by decide)
  · intro i hops q rest hd he; exact absurd he hd
  · intro i hops q rest _ _ he; cases he
  · intro i hops q hd hm hn _ _ e1 e2
    simp only at e1 e2
    subst e1 e2
    have hp := m.new
    rw [go_spot (m.dir i hd) ((m.may who i hd).trans hm) (by rw [hp]; have := m.pos; omega) (by rw [hp]; exact fun h => h3 h.1) rfl (by rw [hp]; exact fun h => h.2 (h2 h.1)), hp]
  · intro i hops q rest _ _ _ _ he; cases he
  · intro i hops q rest _ _ _ _ _ _ he; cases he
  · intro i hops q rest _ _ _ _ _ _ hx he; exact absurd he hx
  · intro i hops q rest R hd hm hn hk hc h8 hx ih he hi e1 e2
    have hl := m.look i q hd hn
    obtain ⟨n1, n2⟩ := m.node _ ((look_got hr hd q).2 hn)
    rw [go_link (m.dir i hd) ((m.may who i hd).trans hm) (by rw [hl]; exact hn) (by rw [hl, n1]; exact hk) hc h8 (by rw [hl, n2]; exact hx), hl, n2]
    exact ih he hi e1 e2
  · intro i hops q _ _ _ _ _ _ he; cases he
  · intro i hops q _ _ hn _ _ _ hi; exact absurd hi hn
  · intro i hops q rest R hd hm hn hk hrest ih he hi e1 e2
    have hl := m.look i q hd hn
    obtain ⟨n1, _⟩ := m.node _ ((look_got hr hd q).2 hn)
    rw [go_on (m.dir i hd) ((m.may who i hd).trans hm) (by rw [hl]; exact hn) (by rw [hl, n1]; exact hk) hrest, hl]
    exact ih he hi e1 e2
theorem more_walk {l l' : List NodeL} {s : SpotL} {p : Int} (hr : RightP l) {who fr : Int} {path : Str} (hw : walkL l who fr path false = (s, 0)) (hi : s.ino < 0) (m : MoreD l l' s.dir s.name p) (h3 : (nodeL l' p).kind ≠ 3) (h2 : s.slash = true → (nodeL l' p).kind = 2) :
    walkL l' who fr path false = (⟨s.dir, s.name, p, s.slash⟩, 0) := by
  unfold walkL at hw ⊢
  split at hw
  · rename_i hc
    have := congrArg Prod.snd hw
    exact absurd this hc
  · rename_i hc
    rw [if_neg hc]
    split at hw
    · rename_i hp
      split at hw
      · rename_i hd
        have := congrArg Prod.snd hw
        exact absurd this hd
      · rename_i hd
        have e := congrArg Prod.fst hw
        simp only at e
        rw [← e] at hi
        have := got_le (dir_got (Decidable.not_not.1 hd)).1
        simp only at hi
        omega
    · rename_i hp
      rw [if_neg hp]
      have hsl : s.slash = Lib.hasSuffix path [47] := by
        have : ∀ i ps hops, (goW l who false (Lib.hasSuffix path [47]) i ps hops).2 = 0 → (goW l who false (Lib.hasSuffix path [47]) i ps hops).1.slash = Lib.hasSuffix path [47] := by
          refine go_ind l who false _ (fun i ps hops R => R.2 = 0 → R.1.slash = Lib.hasSuffix path [47]) ?_ ?_ ?_ ?_ ?_ ?_ ?_ ?_ ?_ ?_ ?_
          · intro i hops _; rfl
          · intro i hops q rest hd he; exact absurd he hd
          · intro i hops q rest _ _ he; cases he
          · intro i hops q _ _ _ _; rfl
          · intro i hops q rest _ _ _ _ he; cases he
          · intro i hops q rest _ _ _ _ _ _ he; cases he
          · intro i hops q rest _ _ _ _ _ _ hx he; exact absurd he hx
          · intro i hops q rest R _ _ _ _ _ _ _ ih; exact ih
          · intro i hops q _ _ _ _ _ _ he; cases he
          · intro i hops q _ _ _ _ _ _; rfl
          · intro i hops q rest R _ _ _ _ _ ih; exact ih
        have h1 := this (firstAt fr path) (parts path) 0
        rw [hw] at h1
        exact h1 rfl
      have h1 := more_go_ways hr m who (Lib.hasSuffix path [47]) h3 (by rw [← hsl]; exact h2) (firstAt fr path) (parts path) 0
      rw [hw] at h1
      rw [h1 rfl hi rfl rfl, hsl]
theorem dirE_nd {l : List NodeL} {k : Nat} : dirE l k = 0 ↔ (nd l k).kind = 2 := by
  constructor
  · intro h
    obtain ⟨hg, hk⟩ := dir_got h
    rw [nodeL_nd ((got_nd l k).1 hg)] at hk
    exact hk
  · intro h
    have h0 : (nd l k).kind ≠ 0 := by rw [h]; decide
    exact got_dir ((got_nd l k).2 h0) (by rw [nodeL_nd h0]; exact h)
theorem dir_nat {l : List NodeL} {i : Int} (h : dirE l i = 0) : ∃ k : Nat, i = k ∧ (nd l k).kind = 2 := by
  obtain ⟨k, e, _, _⟩ := got_nat (dir_got h).1
  subst e
  exact ⟨k, rfl, dirE_nd.1 h⟩
theorem enter_moreD {l l' : List NodeL} {d p : Nat} {nm : Nm} {n : NodeL} (hR : Rig l) (hk : (nd l d).kind = 2) (hpd : p ≠ d) (hpk : (nd l p).kind = 0) (hl : legalL nm = 0) (hf : findL (nd l d).names nm = none) (hnd : ∀ j, nd l' j = if j = d then putN (nd l d) nm p else if j = p then n else nd l j) :
    MoreD l l' d nm p := by
  have hs := (Rig.sorted hR d).2
  have h0 : ∀ j : Nat, (nd l j).kind ≠ 0 → (nd l' j).kind = (nd l j).kind ∧ (nd l' j).data = (nd l j).data ∧ (nd l' j).mode = (nd l j).mode ∧ (nd l' j).owner = (nd l j).owner ∧ (nd l' j).up = (nd l j).up := fun j hj => by
    rw [hnd]
    split
    · rename_i e; subst e; exact ⟨rfl, rfl, rfl, rfl, rfl⟩
    · rw [if_neg (by rintro rfl; exact hj hpk)]; exact ⟨rfl, rfl, rfl, rfl, rfl⟩
  have hdd : nm ≠ [46] ∧ nm ≠ [46, 46] := by
    constructor
    · rintro rfl; exact absurd hl (by decide)
    · rintro rfl; exact absurd hl (by decide)
  have hnl : ∀ j : Nat, (nd l j).kind ≠ 0 → nodeL l' j = nd l' j := fun j hj => nodeL_nd (by rw [(h0 j hj).1]; exact hj)
  have hkd : (nd l d).kind ≠ 0 := by rw [hk]; decide
  refine ⟨fun i hi => ?_, fun who i hi => ?_, fun i q hi hq => ?_, fun i hi => ?_, ?_, by omega⟩
  · obtain ⟨k, rfl, hk2⟩ := dir_nat hi
    exact dirE_nd.2 ((h0 k (by rw [hk2]; decide)).1.trans hk2)
  · obtain ⟨k, rfl, hk2⟩ := dir_nat hi
    have hk0 : (nd l k).kind ≠ 0 := by rw [hk2]; decide
    obtain ⟨_, _, a, b, _⟩ := h0 k hk0
    unfold mayAt
    rw [hnl k hk0, nodeL_nd hk0, a, b]
  · obtain ⟨k, rfl, hk2⟩ := dir_nat hi
    have hk0 : (nd l k).kind ≠ 0 := by rw [hk2]; decide
    unfold lookL at hq ⊢
    rw [hnl k hk0]
    rw [nodeL_nd hk0] at hq ⊢
    rw [(h0 k hk0).2.2.2.2]
    split
    · rfl
    · rename_i q1
      rw [if_neg q1] at hq
      split
      · rfl
      · rename_i q2
        rw [if_neg q2] at hq
        rw [hnd]
        split
        · rename_i e
          subst e
          have hqn : q ≠ nm := by
            rintro rfl
            rw [hf] at hq
            exact hq (show (-1 : Int) < 0 by decide)
          show (findL (putL (nd l k).names (nm, (p : Int))) q).getD (-1) = _
          rw [find_put_other hs _ _ _ hqn]
        · rw [if_neg (by rintro rfl; exact hk0 hpk)]
  · obtain ⟨k, rfl, _, hk0⟩ := got_nat hi
    rw [hnl k hk0, nodeL_nd hk0]
    exact ⟨(h0 k hk0).1, (h0 k hk0).2.1⟩
  · unfold lookL
    rw [if_neg hdd.1, if_neg hdd.2, hnl d hkd, hnd, if_pos rfl]
    show (findL (putL (nd l d).names (nm, (p : Int))) nm).getD (-1) = p
    rw [find_put]
    rfl
/-- What was entered: where it is, and what the disk is. -/
structure Entered (l l' : List NodeL) (who fr : Int) (path : Str) (s : SpotL) (d p : Nat) (n : NodeL) : Prop where
  sd : s.dir = d
  dk : (nd l d).kind = 2
  p0 : p ≠ 0
  pd : p ≠ d
  pk : (nd l p).kind = 0
  leg : legalL s.name = 0
  fn : findL (nd l d).names s.name = none
  si : s.ino = -1
  nds : ∀ j, nd l' j = if j = d then putN (nd l d) s.name p else if j = p then n else nd l j
  rig : Rig l'
  walk : walkL l' who fr path false = (⟨s.dir, s.name, p, s.slash⟩, 0)
  wr : writesL l who d = true
  len : l.length ≤ l'.length ∧ l'.length ≤ l.length + 1
theorem entered_of {l : List NodeL} {most room who fr : Int} (h : rightR l most room = true) {path : Str} {s : SpotL} (hw : walkL l who fr path false = (s, 0)) {n : NodeL} (hnk : n.kind = 1 ∨ n.kind = 2) (hn : LocOk (ownN n who)) (hnm : n.names = []) (hup : n.kind = 2 → n.up = s.dir) (hsl : s.slash = true → n.kind = 2)
    (hE : (enterL l most room who s n).2.2 = 0) : ∃ d p : Nat, Entered l (enterL l most room who s n).1 who fr path s d p (ownN n who) ∧ (enterL l most room who s n).2.1 = p := by
  have hr := right_RP h
  obtain ⟨hR, _⟩ := Rig.of hr
  have hs : SpotW l s := by
    have := walk_spot hr (who := who) (fr := fr) (p := path) (f := false) (by rw [hw])
    rw [hw] at this
    exact this
  have hnk0 : n.kind ≠ 0 := by omega
  have hF : freeE l who s = 0 := by
    refine Decidable.byContradiction fun hF => ?_
    unfold enterL at hE
    rw [if_pos hF] at hE
    exact hF hE
  have hA : addE l most room (ownN n who) = 0 := by
    refine Decidable.byContradiction fun hA => ?_
    unfold enterL at hE
    rw [if_neg (by rw [hF]; simp), if_pos hA] at hE
    exact hA hE
  obtain ⟨d, p, hd, hk, _, hp0, hpd, hpk, hleg, hfn, hino, hnd, hRig, heq, ⟨l1, l2, _⟩, _⟩ := enter_rig hr hs hnk0 hn hnm hup hF hA
  have hm := enter_moreD hR hk hpd hpk hleg hfn hnd
  have hpn : nodeL (enterL l most room who s n).1 p = ownN n who := by
    rw [nodeL_nd (by rw [hnd, if_neg hpd, if_pos rfl]; exact hnk0), hnd, if_neg hpd, if_pos rfl]
  have hkn : (nodeL (enterL l most room who s n).1 p).kind = n.kind := by rw [hpn]; rfl
  have hw' := more_walk hr hw (by omega) (l' := (enterL l most room who s n).1) (p := p) (by rw [hd]; exact hm) (by rw [hkn]; omega) (by rw [hkn]; exact hsl)
  have hwr : writesL l who d = true := by
    unfold freeE at hF
    rw [if_neg (by omega), hd] at hF
    split at hF
    · cases hF
    · split at hF
      · cases hF
      · rename_i hc; exact Bool.not_eq_false _ ▸ hc
  exact ⟨d, p, ⟨hd, hk, hp0, hpd, hpk, hleg, hfn, hino, hnd, hRig, hw', hwr, ⟨l1, l2⟩⟩, by rw [heq]⟩
theorem legal_dots {nm : Nm} (h : legalL nm = 0) : dotsB nm = false := by
  unfold legalL at h
  split at h
  · cases h
  · rename_i hc
    unfold dotsB
    rw [decide_eq_false (fun e => hc (.inl e)), decide_eq_false (fun e => hc (.inr (.inl e))), decide_eq_false (fun e => hc (.inr (.inr (.inl e))))]
    rfl
/-- What was entered is lost again: all is as it was. -/
theorem entered_lost {l l' : List NodeL} {who fr : Int} {path : Str} {s : SpotL} {d p : Nat} {n : NodeL} (hR : Rig l) (e : Entered l l' who fr path s d p (ownN n who)) (hnk : n.kind ≠ 0) (hnm : n.names = []) (ho : n.opn = 0) :
    (∀ j, nd (lostL l' ⟨s.dir, s.name, p, s.slash⟩) j = nd l j) ∧ (lostL l' ⟨s.dir, s.name, p, s.slash⟩).length = l'.length := by
  have hd' : nd l' d = putN (nd l d) s.name p := by rw [e.nds, if_pos rfl]
  have hp' : nd l' p = ownN n who := by rw [e.nds, if_neg e.pd, if_pos rfl]
  obtain ⟨_, _, b3, _, b5, _⟩ := lost_rig (s := ⟨s.dir, s.name, p, s.slash⟩) e.rig e.sd (y := p) (by rw [hd']; exact e.dk) rfl (by rw [hd']; exact find_put _ _ _) e.p0 (by rw [hp']; exact hnk) (fun h => h) (fun _ => by rw [hp']; exact hnm) (fun _ h => h.elim)
  refine ⟨fun j => ?_, b5⟩
  rw [b3]
  split
  · rename_i ej
    subst ej
    rw [hd']
    unfold dropN putN
    simp only
    rw [drop_put (Rig.sorted hR j).2, drop_none e.fn]
  · split
    · rename_i ej
      subst ej
      rw [hp', hR.zero j e.pk]
      unfold leftN
      rw [if_pos ⟨by show (1 : Int) - 1 ≤ 0; decide, by show n.opn ≤ 0; omega⟩]
    · rename_i e1 e2
      rw [e.nds, if_neg e1, if_neg e2]
/-- The file that was made is unlinked. -/
theorem back_file {l : List NodeL} {most room who fr : Int} (h : rightR l most room = true) (path : Str) (mode : Int) (hE : (mkfileL l most room who fr path mode).2.2 = 0) :
    (unlinkL (mkfileL l most room who fr path mode).1 who fr path).2 = 0 ∧ (∀ j, nd (unlinkL (mkfileL l most room who fr path mode).1 who fr path).1 j = nd l j) ∧ (unlinkL (mkfileL l most room who fr path mode).1 who fr path).1.length = (mkfileL l most room who fr path mode).1.length ∧ l.length ≤ (mkfileL l most room who fr path mode).1.length ∧ (mkfileL l most room who fr path mode).1.length ≤ l.length + 1
      ∧ (∃ p : Nat, (mkfileL l most room who fr path mode).2.1 = p ∧ wnodeL (walkL (mkfileL l most room who fr path mode).1 who fr path false) = ((p : Int), 0) ∧ (nd (mkfileL l most room who fr path mode).1 p) = ownN (fileN mode) who)
      ∧ (∀ m, mkfileL (mkfileL l most room who fr path mode).1 most room who fr path m = ((mkfileL l most room who fr path mode).1, 0, 3)) ∧ (∀ m, mkdirL (mkfileL l most room who fr path mode).1 most room who fr path m = ((mkfileL l most room who fr path mode).1, 3)) := by
  obtain ⟨hR, _⟩ := Rig.of (right_RP h)
  obtain ⟨⟨s, e⟩, hW⟩ : ∃ R, walkL l who fr path false = R := ⟨_, rfl⟩
  unfold mkfileL at hE
  rw [hW] at hE
  split at hE
  · rename_i hc; exact absurd hE hc
  · rename_i hc
    have he : e = 0 := Decidable.not_not.1 hc
    subst he
    split at hE
    · cases hE
    · rename_i hsl
      have hs := walk_spot (right_RP h) (who := who) (fr := fr) (p := path) (f := false) (by rw [hW])
      rw [hW] at hs
      have hneg : s.ino < 0 := by
        refine Decidable.byContradiction fun hn => ?_
        have hF : freeE l who s = 3 := by unfold freeE; rw [if_pos (by omega)]
        unfold enterL at hE
        rw [if_pos (by rw [hF]; decide), hF] at hE
        cases hE
      have hslf : s.slash = false := by
        cases hb : s.slash with
        | false => rfl
        | true => exact absurd ⟨hb, hneg⟩ hsl
      obtain ⟨d, p, en, hp⟩ := entered_of h hW (n := fileN mode) (.inl rfl) (file_loc mode who) rfl (fun h => by cases h) (fun h => by rw [hslf] at h; cases h) hE
      have hmk : mkfileL l most room who fr path mode = enterL l most room who s (fileN mode) := by
        unfold mkfileL
        rw [hW, if_neg (by simp), if_neg hsl]
      rw [hmk]
      generalize enterL l most room who s (fileN mode) = X at *
      obtain ⟨l', i, f⟩ := X
      simp only at en hp hE
      subst hp hE
      simp only
      have hd' : nd l' d = putN (nd l d) s.name p := by rw [en.nds, if_pos rfl]
      have hp' : nd l' p = ownN (fileN mode) who := by rw [en.nds, if_neg en.pd, if_pos rfl]
      have hpn : nodeL l' p = ownN (fileN mode) who := by rw [nodeL_nd (by rw [hp']; show (1 : Int) ≠ 0; decide), hp']
      have hkd : (nd l' d).kind ≠ 0 := by rw [hd']; show (nd l d).kind ≠ 0; rw [en.dk]; decide
      have hwr : writesL l' who d = true := by
        have := en.wr
        unfold writesL at this ⊢
        rw [nodeL_nd hkd, hd']
        rwa [nodeL_nd (by rw [en.dk]; decide)] at this
      have hul : unlinkL l' who fr path = (lostL l' ⟨s.dir, s.name, p, s.slash⟩, 0) := by
        unfold unlinkL
        rw [en.walk]
        have ht : thereE ((⟨s.dir, s.name, (p : Int), s.slash⟩ : SpotL), (0 : Int)) = 0 := by
          unfold thereE
          rw [if_neg (by simp), if_neg (by show ¬ (p : Int) < 0; omega)]
        simp only [ht]
        rw [if_neg (by decide), hpn, if_neg (by show ¬ (1 : Int) = 2; decide), en.sd, if_neg (by rw [hwr]; decide)]
      obtain ⟨z1, z2⟩ := entered_lost (n := fileN mode) hR en (by show (1 : Int) ≠ 0; decide) rfl rfl
      rw [hul]
      have hF3 : ∀ s' : SpotL, s'.ino = p → freeE l' who s' = 3 := fun s' hs' => by unfold freeE; rw [if_pos (by omega)]
      refine ⟨rfl, z1, z2, en.len.1, en.len.2, ⟨p, rfl, ?_, hp'⟩, fun m => ?_, fun m => ?_⟩
      · rw [en.walk]
        unfold wnodeL
        rw [if_neg (by simp), if_neg (by show ¬ (p : Int) < 0; omega)]
      · unfold mkfileL
        rw [en.walk]
        simp only
        rw [if_neg (by decide), if_neg (by rintro ⟨_, h⟩; omega)]
        unfold enterL
        rw [hF3 _ rfl, if_pos (by decide)]
      · unfold mkdirL
        rw [en.walk]
        simp only
        rw [if_neg (by decide)]
        unfold enterL
        rw [hF3 _ rfl, if_pos (by decide)]
/-- The directory that was made is removed. -/
theorem back_dir {l : List NodeL} {most room who fr : Int} (h : rightR l most room = true) (path : Str) (mode : Int) (hE : (mkdirL l most room who fr path mode).2 = 0) :
    (rmdirL (mkdirL l most room who fr path mode).1 who fr path).2 = 0 ∧ (∀ j, nd (rmdirL (mkdirL l most room who fr path mode).1 who fr path).1 j = nd l j) ∧ (rmdirL (mkdirL l most room who fr path mode).1 who fr path).1.length = (mkdirL l most room who fr path mode).1.length ∧ l.length ≤ (mkdirL l most room who fr path mode).1.length ∧ (mkdirL l most room who fr path mode).1.length ≤ l.length + 1 := by
  obtain ⟨hR, _⟩ := Rig.of (right_RP h)
  obtain ⟨⟨s, e⟩, hW⟩ : ∃ R, walkL l who fr path false = R := ⟨_, rfl⟩
  unfold mkdirL at hE
  rw [hW] at hE
  split at hE
  · rename_i hc; exact absurd hE hc
  · rename_i hc
    have he : e = 0 := Decidable.not_not.1 hc
    subst he
    simp only at hE
    obtain ⟨d, p, en, hp⟩ := entered_of h hW (n := dirN mode s.dir) (.inr rfl) (dir_loc mode _ who) rfl (fun _ => rfl) (fun _ => rfl) hE
    have hmk : mkdirL l most room who fr path mode = ((enterL l most room who s (dirN mode s.dir)).1, (enterL l most room who s (dirN mode s.dir)).2.2) := by
      unfold mkdirL
      rw [hW, if_neg (by simp)]
    rw [hmk]
    generalize enterL l most room who s (dirN mode s.dir) = X at *
    obtain ⟨l', i, f⟩ := X
    simp only at en hp hE
    subst hp hE
    simp only
    have hd' : nd l' d = putN (nd l d) s.name p := by rw [en.nds, if_pos rfl]
    have hp' : nd l' p = ownN (dirN mode s.dir) who := by rw [en.nds, if_neg en.pd, if_pos rfl]
    have hpn : nodeL l' p = ownN (dirN mode s.dir) who := by rw [nodeL_nd (by rw [hp']; show (2 : Int) ≠ 0; decide), hp']
    have hkd : (nd l' d).kind ≠ 0 := by rw [hd']; show (nd l d).kind ≠ 0; rw [en.dk]; decide
    have hwr : writesL l' who d = true := by
      have := en.wr
      unfold writesL at this ⊢
      rw [nodeL_nd hkd, hd']
      rwa [nodeL_nd (by rw [en.dk]; decide)] at this
    have hdt := legal_dots en.leg
    unfold dotsB at hdt
    simp only [Bool.or_eq_false_iff, decide_eq_false_iff_not] at hdt
    have hul : rmdirL l' who fr path = (lostL l' ⟨s.dir, s.name, p, s.slash⟩, 0) := by
      unfold rmdirL
      rw [en.walk]
      have ht : thereE ((⟨s.dir, s.name, (p : Int), s.slash⟩ : SpotL), (0 : Int)) = 0 := by
        unfold thereE
        rw [if_neg (by simp), if_neg (by show ¬ (p : Int) < 0; omega)]
      have hE : rmdirE l' who ⟨s.dir, s.name, (p : Int), s.slash⟩ = 0 := by
        unfold rmdirE
        simp only
        rw [hpn, if_neg (by show ¬ (2 : Int) ≠ 2; decide), if_neg (fun h => h.elim hdt.1.1 hdt.1.2), if_neg hdt.2, en.sd, if_neg (by rw [hwr]; decide), if_neg (by show ¬ ([] : List EntL) ≠ []; decide)]
      simp only [ht, hE]
      rfl
    obtain ⟨z1, z2⟩ := entered_lost (n := dirN mode s.dir) hR en (by show (2 : Int) ≠ 0; decide) rfl rfl
    rw [hul]
    exact ⟨rfl, z1, z2, en.len.1, en.len.2⟩
end Go.Proofs.YtpmhmippoefcfaaGreatDoor
namespace Go.Proofs.YtpmhmippoefcfaaGreatDoor
section
variable {a c : Nat} {l : List NodeL} (h : Siz a c l) (most room who fr : Int) (path : Str)
include h
theorem siz_mkfile (mode : Int) : Siz (a + 1) (2 * c + 1) (mkfileL l most room who fr path mode).1 := by
  unfold mkfileL
  split
  · exact siz_same h
  · split
    · exact siz_same h
    · exact h.enter ⟨Nat.zero_le _, Nat.zero_le _⟩ _ _ _ _
theorem siz_mkdir (mode : Int) : Siz (a + 1) (2 * c + 1) (mkdirL l most room who fr path mode).1 := by
  unfold mkdirL
  split
  · exact siz_same h
  · exact h.enter ⟨Nat.zero_le _, Nat.zero_le _⟩ _ _ _ _
end
end Go.Proofs.YtpmhmippoefcfaaGreatDoor
namespace Go.Proofs.YtpmhmippoefcfaaGreatDoor
open Go.RowKit Go.Shelf
section
variable {l : List NodeL} {most room : Int} (h : rightQ l most room = true) (who fr : Int) (path : Str)
include h
theorem q_aft : Aft l most room := ⟨q_right h, q_dsk h⟩
theorem aft_mkfile (mode : Int) : Aft (mkfileL l most room who fr path mode).1 most room := aft_of (right_mkfile (q_right h) who fr path mode) (siz_mkfile (q_siz h) most room who fr path mode)
theorem aft_mkdir (mode : Int) : Aft (mkdirL l most room who fr path mode).1 most room := aft_of (right_mkdir (q_right h) who fr path mode) (siz_mkdir (q_siz h) most room who fr path mode)
end
end Go.Proofs.YtpmhmippoefcfaaGreatDoor
namespace Go.Proofs.YtpmhmippoefcfaaGreatDoor
open Go.RowKit Go.Shelf
attribute [local go_sem ↓] Go.wp_at_zero Go.wp_at_succ
section
variable {w W W' : World} {B : List Bl} {G : List (List NodeL × Value)} {N : List (NodeL × Value)}
theorem Sn.two {l l2 : List NodeL} {v v2 : Value} (hG : GivesN l v w) (hG2 : GivesN l2 v2 w) : Sn w [] [(l, v), (l2, v2)] [] w := ⟨Below.refl _ _, (fun _ h => by cases h), (fun x hx => by
  simp only [List.mem_cons, List.not_mem_nil, or_false] at hx
  rcases hx with rfl | rfl
  · exact hG
  · exact hG2), (fun _ h => by cases h)⟩
end
end Go.Proofs.YtpmhmippoefcfaaGreatDoor
namespace Go.Proofs.YtpmhmippoefcfaaGreatDoor
open Go.RowKit Go.Shelf
attribute [local go_sem ↓] Go.wp_at_zero Go.wp_at_succ
theorem node_of {l : List NodeL} {ao : Option Addr} {cap : Nat} {W : World} (h : GivesN l (.slice ao l.length cap) W) (k : Nat) (hk : k < l.length) :
    ∃ (b off : Nat) (aon : Option Addr) (capn : Nat), ao = some ⟨b, off, none⟩ ∧ b < W.heap.size ∧ RdNm W.heap.size (nd l k, .slice aon (nd l k).names.length capn) W
      ∧ W.cell? ⟨b, off + k * 8, none⟩ = some (.int .i64 (nd l k).kind) ∧ W.cell? ⟨b, off + k * 8 + 1, none⟩ = some (.int .i64 (nd l k).mode) ∧ W.cell? ⟨b, off + k * 8 + 2, none⟩ = some (.int .i64 (nd l k).owner) ∧ W.cell? ⟨b, off + k * 8 + 3, none⟩ = some (.int .i64 (nd l k).links) ∧ W.cell? ⟨b, off + k * 8 + 4, none⟩ = some (.int .i64 (nd l k).opn) ∧ W.cell? ⟨b, off + k * 8 + 5, none⟩ = some (.int .i64 (nd l k).up) ∧ W.cell? ⟨b, off + k * 8 + 6, none⟩ = some (.string (bs (nd l k).data)) ∧ W.cell? ⟨b, off + k * 8 + 7, none⟩ = some (.slice aon (nd l k).names.length capn) := by
  obtain ⟨ms, rfl, hv⟩ := h
  rw [pl_len] at hv hk
  obtain ⟨b, off, n, aon, capn, e1, hb, hn, -, hr, cs⟩ := node_at hv k hk
  have e : nd (pl ms) k = n := by rw [nd_lt (by rw [pl_len]; exact hk), hn]
  rw [e]
  exact ⟨b, off, aon, capn, e1, hb, hr, cs⟩
theorem node_g8 (n : NodeL) (hl : n.names.length ≤ 10000) (v : Value) (W : World) (hg : RdNm W.heap.size (n, v) W) :
    Calls Tryz.prog 38 #[nval n v] W fun e w' => ∃ v', e = .returned (nval n v') ∧ RdNm w'.heap.size (n, v') w' ∧ Below W.heap.size W w' :=
  (node_any n v W hg hl).mono fun _ _ ⟨v', h1, h2, h3⟩ => ⟨v', h1, Rd.own h2 (Nat.le_refl _), h3⟩
theorem alike_g8 (n : NodeL) (hl : n.names.length ≤ 10000) (v v' : Value) (W : World) (hg : RdNm W.heap.size (n, v) W) (hg' : RdNm W.heap.size (n, v') W) :
    Calls Tryz.prog 47 #[nval n v, nval n v'] W fun e w' => e = .returned (.bool true) ∧ Below W.heap.size W w' := by
  have := alike_any n n v v' W hg hg' hl hl
  simpa using this
theorem nd_names {l : List NodeL} (h : ∀ n ∈ l, n.names.length ≤ 10000) (k : Nat) : (nd l k).names.length ≤ 10000 := by
  rcases Nat.lt_or_ge k l.length with hk | hk
  · rw [nd_lt hk]; exact h _ (List.getElem_mem _)
  · rw [nd_ge hk]; exact Nat.zero_le _
set_option maxRecDepth 100000 in
set_option maxHeartbeats 4000000 in
theorem before_any (la lb : List NodeL) (m1 r1 m2 r2 : Int) (aoa aob : Option Addr) (capa capb : Nat) (w : World) (ha : GivesN la (.slice aoa la.length capa) w) (hb : GivesN lb (.slice aob lb.length capb) w)
    (hlen : lb.length ≤ la.length) (hla : la.length ≤ 110) (hna : ∀ n ∈ la, n.names.length ≤ 10000) (heq : ∀ j, nd la j = nd lb j) :
    Calls Tryz.prog 33 #[diskV aoa la.length capa m1 r1, diskV aob lb.length capb m2 r2] w fun e w' => e = .returned (.bool true) ∧ Below w.heap.size w w' := by
  have S0 := Lib.hid (Sn.two ha hb)
  have HE := Lib.hid heq
  have HNA := Lib.hid hna
  clear ha hb heq hna
  go_enter Tryz.func33, Tryz.ntmps33
  go_upto_region 1 with (fail)
  refine code_fresh2 ?_
  intro W1 hb hA0 hA1 hs
  have S1 := Lib.hid (S0.out.new2 hb hA0 hA1)
  clear hb hA0 hA1 hs
  obtain ⟨a0, -, -⟩ := cells3 (S1.out.at 0 rfl)
  obtain ⟨b0, -, -⟩ := cells3 (S1.out.at 1 rfl)
  have i1 : decide (la.length < lb.length) = false := decide_eq_false (by omega)
  have i2 : decide ((110 : Int) < (la.length : Int)) = false := decide_eq_false (by omega)
  go_wp2_with fail
  clear a0 b0
  go_loopw [5] (fun i' wr => ∃ k : Nat, i' = .int .i64 k ∧ k ≤ la.length ∧ Below W1.heap.size W1 wr) (fun i' _ => la.length - (intOf i').toNat)
  case atStart => exact ⟨0, rfl, Nat.zero_le _, Below.refl _ _⟩
  case round =>
    obtain ⟨k, rfl, hk, hBr⟩ := hrel
    have SR := Lib.hid (S1.out.call hBr)
    obtain ⟨a0, -, -⟩ := cells3 (SR.out.at 0 rfl)
    obtain ⟨b0, -, -⟩ := cells3 (SR.out.at 1 rfl)
    by_cases hlt : k < la.length
    · have hI : decide (k < la.length) = true := by simpa using hlt
      have k0 : (0 : Int) ≤ (k : Int) := by omega
      have k1 : (k : Int) < (la.length : Int) := by omega
      have HX := Lib.hid (HE.out k)
      have HNX := Lib.hid (nd_names HNA.out k)
      go_upto_region 7 with (fail)
      refine code_fresh1 ?_
      intro W3 hb hA hs
      clear a0 b0
      have T3 := Lib.hid (SR.out.st.new1 hb hA)
      clear hb hA hs
      by_cases hk2 : k < lb.length
      · have hI2 : decide (k < lb.length) = true := by simpa using hk2
        have k2 : (k : Int) < (lb.length : Int) := by omega
        obtain ⟨bb, ob, aoy, cpy, hab, hbb, hr0, y0, y1, y2, y3, y4, y5, y6, y7⟩ := node_of (SR.out.g 1 rfl) k hk2
        subst hab
        obtain ⟨x, hx⟩ : ∃ x, x = nd lb k := ⟨_, rfl⟩
        rw [← hx] at hr0 y0 y1 y2 y3 y4 y5 y6 y7
        have hnx : x.names.length ≤ 10000 := by rw [hx, ← HX.out]; exact HNX.out
        have HR0 := Lib.hid hr0
        have hX := Lib.hid hx
        replace y0 := (T3.out.bel.cell hbb).trans y0
        replace y1 := (T3.out.bel.cell hbb).trans y1
        replace y2 := (T3.out.bel.cell hbb).trans y2
        replace y3 := (T3.out.bel.cell hbb).trans y3
        replace y4 := (T3.out.bel.cell hbb).trans y4
        replace y5 := (T3.out.bel.cell hbb).trans y5
        replace y6 := (T3.out.bel.cell hbb).trans y6
        replace y7 := (T3.out.bel.cell hbb).trans y7
        clear hr0 hx hbb
        obtain ⟨b0, -, -⟩ := cells3 (SR.out.at' T3.out.bel 1 rfl)
        have h_n := (T3.out.at 0 rfl)
        go_upto_region 9 with (first | (refine wpList_store_row rfl 63 _ _ rfl _ rfl rfl h_n rfl (by kernel_rfl) rfl ?_; intro W4 hb hg hs hn; have T4 := Lib.hid (T3.out.set 0 rfl hb hg hs hn); have hry : RdNm W4.heap.size (x, .slice aoy x.names.length cpy) W4 := (by rw [hs]; exact rd_other (rdnm_keep HR0.out T3.out.bel) (rd_far HR0.out (Nat.le_refl _)) hg); clear hb hg hs hn))
        clear h_n b0 y0 y1 y2 y3 y4 y5 y6 y7
        have hx := hX.out
        obtain ⟨ba, oa, aon, cpn, haa, hba, hra, c0, c1, c2, c3, c4, c5, c6, c7⟩ := node_of ((T4.out.g 0 rfl).gives) k hlt
        subst haa
        rw [HX.out] at hra c0 c1 c2 c3 c4 c5 c6 c7
        rw [← hx] at hra c0 c1 c2 c3 c4 c5 c6 c7
        have HSS : Hid (∀ W, Below W4.heap.size W4 W → W.cell? ⟨w.heap.size, 0, none⟩ = some (.slice (some ⟨ba, oa, none⟩) la.length capa) ∧ W.cell? ⟨ba, oa + k * 8, none⟩ = some (.int .i64 x.kind) ∧ W.cell? ⟨ba, oa + k * 8 + 1, none⟩ = some (.int .i64 x.mode) ∧ W.cell? ⟨ba, oa + k * 8 + 2, none⟩ = some (.int .i64 x.owner) ∧ W.cell? ⟨ba, oa + k * 8 + 3, none⟩ = some (.int .i64 x.links) ∧ W.cell? ⟨ba, oa + k * 8 + 4, none⟩ = some (.int .i64 x.opn) ∧ W.cell? ⟨ba, oa + k * 8 + 5, none⟩ = some (.int .i64 x.up) ∧ W.cell? ⟨ba, oa + k * 8 + 6, none⟩ = some (.string (bs x.data)) ∧ W.cell? ⟨ba, oa + k * 8 + 7, none⟩ = some (.slice aon x.names.length cpn) ∧ W.cell? ⟨wr.heap.size, 0, none⟩ = some (.int .i64 x.kind) ∧ W.cell? ⟨wr.heap.size, 1, none⟩ = some (.int .i64 x.mode) ∧ W.cell? ⟨wr.heap.size, 2, none⟩ = some (.int .i64 x.owner) ∧ W.cell? ⟨wr.heap.size, 3, none⟩ = some (.int .i64 x.links) ∧ W.cell? ⟨wr.heap.size, 4, none⟩ = some (.int .i64 x.opn) ∧ W.cell? ⟨wr.heap.size, 5, none⟩ = some (.int .i64 x.up) ∧ W.cell? ⟨wr.heap.size, 6, none⟩ = some (.string (bs x.data)) ∧ W.cell? ⟨wr.heap.size, 7, none⟩ = some (.slice aoy x.names.length cpy)) := Lib.hid fun W hw => by
          obtain ⟨n0, n1, n2, n3, n4, n5, n6, n7⟩ := cells8 ((T4.out.call hw).at 0 rfl)
          exact ⟨(cells3 (SR.out.at' (ret_tr T4.out.bel hw) 0 rfl)).1, (hw.cell hba).trans c0, (hw.cell hba).trans c1, (hw.cell hba).trans c2, (hw.cell hba).trans c3, (hw.cell hba).trans c4, (hw.cell hba).trans c5, (hw.cell hba).trans c6, (hw.cell hba).trans c7, n0, n1, n2, n3, n4, n5, n6, n7⟩
        have HNx := Lib.hid fun W (hw : Below W4.heap.size W4 W) => node_g8 x hnx (.slice aon x.names.length cpn) W (rdnm_keep hra hw)
        have HNy := Lib.hid fun W (hw : Below W4.heap.size W4 W) => node_g8 x hnx (.slice aoy x.names.length cpy) W (rdnm_keep hry hw)
        have HAl := Lib.hid (alike_g8 x hnx)
        have bw : Below W4.heap.size W4 W4 := Below.refl _ _
        have bd : Below W4.heap.size W4 W4.drew := (Below.refl _ _).drew
        clear hra hry c0 c1 c2 c3 c4 c5 c6 c7 hx
        go_region_held3 (fun W => W.cell? ⟨w.heap.size, 0, none⟩ = some (.slice (some ⟨ba, oa, none⟩) la.length capa) ∧ W.cell? ⟨ba, oa + k * 8, none⟩ = some (.int .i64 x.kind) ∧ W.cell? ⟨ba, oa + k * 8 + 1, none⟩ = some (.int .i64 x.mode) ∧ W.cell? ⟨ba, oa + k * 8 + 2, none⟩ = some (.int .i64 x.owner) ∧ W.cell? ⟨ba, oa + k * 8 + 3, none⟩ = some (.int .i64 x.links) ∧ W.cell? ⟨ba, oa + k * 8 + 4, none⟩ = some (.int .i64 x.opn) ∧ W.cell? ⟨ba, oa + k * 8 + 5, none⟩ = some (.int .i64 x.up) ∧ W.cell? ⟨ba, oa + k * 8 + 6, none⟩ = some (.string (bs x.data)) ∧ W.cell? ⟨ba, oa + k * 8 + 7, none⟩ = some (.slice aon x.names.length cpn) ∧ W.cell? ⟨wr.heap.size, 0, none⟩ = some (.int .i64 x.kind) ∧ W.cell? ⟨wr.heap.size, 1, none⟩ = some (.int .i64 x.mode) ∧ W.cell? ⟨wr.heap.size, 2, none⟩ = some (.int .i64 x.owner) ∧ W.cell? ⟨wr.heap.size, 3, none⟩ = some (.int .i64 x.links) ∧ W.cell? ⟨wr.heap.size, 4, none⟩ = some (.int .i64 x.opn) ∧ W.cell? ⟨wr.heap.size, 5, none⟩ = some (.int .i64 x.up) ∧ W.cell? ⟨wr.heap.size, 6, none⟩ = some (.string (bs x.data)) ∧ W.cell? ⟨wr.heap.size, 7, none⟩ = some (.slice aoy x.names.length cpy))
          (first
            | exact HSS.out _ (by assumption)
            | (go_keep; done))
          (first
            | (go_at_call 38; (with_reducible refine (HNx.out _ (by assumption)).mono ?_); rintro e WX ⟨vX, rfl, gX, hbX⟩; have bX := ret_tr (w := W4) (by assumption) hbX; (try replace gY := rdnm_keep gY hbX))
            | (go_at_call 38; (with_reducible refine (HNy.out _ (by assumption)).mono ?_); rintro e WX ⟨vY, rfl, gY, hbX⟩; have bX := ret_tr (w := W4) (by assumption) hbX; (try replace gX := rdnm_keep gX hbX))
            | (go_at_call 47; (with_reducible refine (HAl.out vX vY _ gX gY).mono ?_); rintro e WX ⟨rfl, hbX⟩; have bX := ret_tr (w := W4) (by assumption) hbX)
            | fail)
        all_goals (
          go_wp2_with fail
          go_roundw
          case rel => exact ⟨k + 1, by go_num, hlt, ret_tr hBr (ret_tr T4.out.bel (by assumption))⟩
          case measure => simp [intOf]; omega)
      · have hI2 : decide (k < lb.length) = false := by simp; omega
        have HZ : Hid (nd lb k = zeroN) := Lib.hid (nd_ge (by omega))
        have hnx : zeroN.names.length ≤ 10000 := Nat.zero_le _
        have hry : RdNm W3.heap.size (zeroN, .slice none zeroN.names.length 0) W3 := Rd.none0 _ _ _
        obtain ⟨b0, -, -⟩ := cells3 (SR.out.at' T3.out.bel 1 rfl)
        go_upto_region 9 with (fail)
        clear b0
        obtain ⟨ba, oa, aon, cpn, haa, hba, hra, c0, c1, c2, c3, c4, c5, c6, c7⟩ := node_of ((T3.out.g 0 rfl).gives) k hlt
        subst haa
        rw [HX.out] at hra c0 c1 c2 c3 c4 c5 c6 c7
        rw [HZ.out] at hra c0 c1 c2 c3 c4 c5 c6 c7
        have HSS : Hid (∀ W, Below W3.heap.size W3 W → W.cell? ⟨w.heap.size, 0, none⟩ = some (.slice (some ⟨ba, oa, none⟩) la.length capa) ∧ W.cell? ⟨ba, oa + k * 8, none⟩ = some (.int .i64 zeroN.kind) ∧ W.cell? ⟨ba, oa + k * 8 + 1, none⟩ = some (.int .i64 zeroN.mode) ∧ W.cell? ⟨ba, oa + k * 8 + 2, none⟩ = some (.int .i64 zeroN.owner) ∧ W.cell? ⟨ba, oa + k * 8 + 3, none⟩ = some (.int .i64 zeroN.links) ∧ W.cell? ⟨ba, oa + k * 8 + 4, none⟩ = some (.int .i64 zeroN.opn) ∧ W.cell? ⟨ba, oa + k * 8 + 5, none⟩ = some (.int .i64 zeroN.up) ∧ W.cell? ⟨ba, oa + k * 8 + 6, none⟩ = some (.string (bs zeroN.data)) ∧ W.cell? ⟨ba, oa + k * 8 + 7, none⟩ = some (.slice aon zeroN.names.length cpn) ∧ W.cell? ⟨wr.heap.size, 0, none⟩ = some (.int .i64 zeroN.kind) ∧ W.cell? ⟨wr.heap.size, 1, none⟩ = some (.int .i64 zeroN.mode) ∧ W.cell? ⟨wr.heap.size, 2, none⟩ = some (.int .i64 zeroN.owner) ∧ W.cell? ⟨wr.heap.size, 3, none⟩ = some (.int .i64 zeroN.links) ∧ W.cell? ⟨wr.heap.size, 4, none⟩ = some (.int .i64 zeroN.opn) ∧ W.cell? ⟨wr.heap.size, 5, none⟩ = some (.int .i64 zeroN.up) ∧ W.cell? ⟨wr.heap.size, 6, none⟩ = some (.string (bs zeroN.data)) ∧ W.cell? ⟨wr.heap.size, 7, none⟩ = some (.slice none zeroN.names.length 0)) := Lib.hid fun W hw => by
          obtain ⟨n0, n1, n2, n3, n4, n5, n6, n7⟩ := cells8 ((T3.out.call hw).at 0 rfl)
          exact ⟨(cells3 (SR.out.at' (ret_tr T3.out.bel hw) 0 rfl)).1, (hw.cell hba).trans c0, (hw.cell hba).trans c1, (hw.cell hba).trans c2, (hw.cell hba).trans c3, (hw.cell hba).trans c4, (hw.cell hba).trans c5, (hw.cell hba).trans c6, (hw.cell hba).trans c7, n0, n1, n2, n3, n4, n5, n6, n7⟩
        have HNx := Lib.hid fun W (hw : Below W3.heap.size W3 W) => node_g8 zeroN hnx (.slice aon zeroN.names.length cpn) W (rdnm_keep hra hw)
        have HNy := Lib.hid fun W (hw : Below W3.heap.size W3 W) => node_g8 zeroN hnx (.slice none zeroN.names.length 0) W (rdnm_keep hry hw)
        have HAl := Lib.hid (alike_g8 zeroN hnx)
        have bw : Below W3.heap.size W3 W3 := Below.refl _ _
        have bd : Below W3.heap.size W3 W3.drew := (Below.refl _ _).drew
        clear hra hry c0 c1 c2 c3 c4 c5 c6 c7
        go_region_held3 (fun W => W.cell? ⟨w.heap.size, 0, none⟩ = some (.slice (some ⟨ba, oa, none⟩) la.length capa) ∧ W.cell? ⟨ba, oa + k * 8, none⟩ = some (.int .i64 zeroN.kind) ∧ W.cell? ⟨ba, oa + k * 8 + 1, none⟩ = some (.int .i64 zeroN.mode) ∧ W.cell? ⟨ba, oa + k * 8 + 2, none⟩ = some (.int .i64 zeroN.owner) ∧ W.cell? ⟨ba, oa + k * 8 + 3, none⟩ = some (.int .i64 zeroN.links) ∧ W.cell? ⟨ba, oa + k * 8 + 4, none⟩ = some (.int .i64 zeroN.opn) ∧ W.cell? ⟨ba, oa + k * 8 + 5, none⟩ = some (.int .i64 zeroN.up) ∧ W.cell? ⟨ba, oa + k * 8 + 6, none⟩ = some (.string (bs zeroN.data)) ∧ W.cell? ⟨ba, oa + k * 8 + 7, none⟩ = some (.slice aon zeroN.names.length cpn) ∧ W.cell? ⟨wr.heap.size, 0, none⟩ = some (.int .i64 zeroN.kind) ∧ W.cell? ⟨wr.heap.size, 1, none⟩ = some (.int .i64 zeroN.mode) ∧ W.cell? ⟨wr.heap.size, 2, none⟩ = some (.int .i64 zeroN.owner) ∧ W.cell? ⟨wr.heap.size, 3, none⟩ = some (.int .i64 zeroN.links) ∧ W.cell? ⟨wr.heap.size, 4, none⟩ = some (.int .i64 zeroN.opn) ∧ W.cell? ⟨wr.heap.size, 5, none⟩ = some (.int .i64 zeroN.up) ∧ W.cell? ⟨wr.heap.size, 6, none⟩ = some (.string (bs zeroN.data)) ∧ W.cell? ⟨wr.heap.size, 7, none⟩ = some (.slice none zeroN.names.length 0))
          (first
            | exact HSS.out _ (by assumption)
            | (go_keep; done))
          (first
            | (go_at_call 38; (with_reducible refine (HNx.out _ (by assumption)).mono ?_); rintro e WX ⟨vX, rfl, gX, hbX⟩; have bX := ret_tr (w := W3) (by assumption) hbX; (try replace gY := rdnm_keep gY hbX))
            | (go_at_call 38; (with_reducible refine (HNy.out _ (by assumption)).mono ?_); rintro e WX ⟨vY, rfl, gY, hbX⟩; have bX := ret_tr (w := W3) (by assumption) hbX; (try replace gX := rdnm_keep gX hbX))
            | (go_at_call 47; (with_reducible refine (HAl.out vX vY _ gX gY).mono ?_); rintro e WX ⟨rfl, hbX⟩; have bX := ret_tr (w := W3) (by assumption) hbX)
            | fail)
        all_goals (
          go_wp2_with fail
          go_roundw
          case rel => exact ⟨k + 1, by go_num, hlt, ret_tr hBr (ret_tr T3.out.bel (by assumption))⟩
          case measure => simp [intOf]; omega)
    · have hI2 : decide (k < la.length) = false := by simp; omega
      clear hlt
      go_wp2_with fail
      go_ret
      exact ⟨rfl, SR.out.bel⟩
end Go.Proofs.YtpmhmippoefcfaaGreatDoor
