/-
  A statement's state; the small contracts, of whatever reads as these nodes.
-/
import Derived.RangeFuncNested
import Derived.RangeFuncBound
import Derived.RangeFuncCalls
import Derived.RangeFuncLeaves
import Derived.RangeFuncBox
import Derived.Shelf.Abstract
import Derived.Shelf.RegionOpen
import Derived.WalkKit
import Derived.OwnWalkIn
import Derived.TacticsInMore
import Derived.LoopNIn
import Derived.LoopIn
import Derived.Lib.Hide
import Derived.Outline
import Derived.Deep.QuietTactic
import Derived.Deep.AppendLies
import Derived.BigQuiet
import Derived.Lib.Strings
import Derived.WalkSmall
import Derived.Shelf.Small.Strs
import Derived.Shelf.Strings.Search1
import Derived.Shelf.Strings.Prefix
import Derived.Laws.AppendOwn
import Derived.Laws.OwnMore
import Derived.Laws.AppendOwnNone
import Derived.WideShapes
import Derived.Lib.TrimByte
import Derived.Lib.Bytealg
import Derived.Lib.QuietBelow
import Derived.Deep.DrawnRows
import Derived.Laws.Cover1
import Derived.WalkMore
import Derived.Shelf.Spec.SlicesGrow
import Derived.StillTailTactics
import Derived.Laws.BitsLemmas
import Derived.Laws.RangeAny
import Derived.Laws.Runes
import Derived.Lib.Builder
import Derived.Deep.WholeRow
import Derived.Lib.OthersKept
import Derived.Shelf.SlSorted.Search
import Derived.LaidEql
import Derived.Stop.Asserts
import Derived.RowKitTokens
import Derived.Deep.RegionHeld3
import Derived.Deep.RegionLaw
import Derived.Handy
import Derived.Laws.IdiomCopy
import Derived.Lib.SliceRun
import Derived.Laws.ResultCell
import Derived.Deep.LoopGhost
import Derived.Deep.DeepCutAuto
import Derived.Deep.MidRow
import Derived.BigRegion
import Derived.Test.YtpmhmippoefcfaaGreatDoorProg
import Derived.Test.YtpmhmippoefcfaaGreatDoorShelf
import Derived.Test.YtpmhmippoefcfaaGreatDoorB01
import Derived.Test.YtpmhmippoefcfaaGreatDoorB02
import Derived.Test.YtpmhmippoefcfaaGreatDoorB04
import Derived.Test.YtpmhmippoefcfaaGreatDoorB07
import Derived.Test.YtpmhmippoefcfaaGreatDoorB08
import Derived.Test.YtpmhmippoefcfaaGreatDoorB12
import Derived.Test.YtpmhmippoefcfaaGreatDoorB13
import Derived.Test.YtpmhmippoefcfaaGreatDoorB14
import Derived.Test.YtpmhmippoefcfaaGreatDoorB17
import Derived.Test.YtpmhmippoefcfaaGreatDoorB24
import Derived.Test.YtpmhmippoefcfaaGreatDoorChangeDropsE01
namespace Go.Proofs.YtpmhmippoefcfaaGreatDoor
open Go.RowKit Go.Shelf
attribute [local go_sem ↓] Go.wp_at_zero Go.wp_at_succ
theorem its_f (l : List NodeL) (a b : Int) (hl : l.length ≤ 10000) (hnl : ∀ n ∈ l, n.names.length ≤ 10000) (v : Value) (W : World) (hg : GivesN l v W) :
    Calls Tryz.prog 13 #[.agg #[v, .int .i64 a, .int .i64 b]] W fun e w' => ∃ ao cap, e = .returned (diskV ao l.length cap a b) ∧ GivesN l (.slice ao l.length cap) w' ∧ Below W.heap.size W w' := by
  refine (its_g l a b hl hnl v W hg).mono ?_
  rintro e w' ⟨v', rfl, h1, h2⟩
  obtain ⟨ao, cap, rfl⟩ := gives_form (gives_no h1)
  exact ⟨ao, cap, rfl, h1, h2⟩
theorem same_g (l : List NodeL) (a b : Int) (hl : l.length ≤ 10000) (hnl : ∀ n ∈ l, n.names.length ≤ 10000) (v v' : Value) (W : World) (hg : GivesN l v W) (hg' : GivesN l v' W) :
    Calls Tryz.prog 21 #[.agg #[v, .int .i64 a, .int .i64 b], .agg #[v', .int .i64 a, .int .i64 b]] W fun e w' => e = .returned (.bool true) ∧ Below W.heap.size W w' := by
  obtain ⟨m, rfl, h⟩ := hg
  obtain ⟨m', h1, h'⟩ := hg'
  have := sameD_any v v' m m' a b a b W h h' (by rw [← pl_len]; exact hl) hnl (by rw [h1]; exact hnl)
  rw [h1] at this
  have e : sameD (pl m) (pl m) a b a b = true := by unfold sameD; simp
  rw [e] at this
  exact this
/-- A disk, told with an error, in no block of X. -/
def ChgX (X : Nat → Prop) (l : List NodeL) (n most room : Int) (e : Ending) (w w' : World) : Prop :=
  ∃ ao cap, e = .returned (.tuple #[diskV ao l.length cap most room, .int .i64 n]) ∧ GivesX X l (.slice ao l.length cap) w' ∧ Below w.heap.size w w'
/-- What a region that draws leaves: a disk in a new block. -/
def CutD (W : World) (l : List NodeL) (most room : Int) (t : TypeId) (s : Value) (W' : World) : Prop :=
  ∃ b ao cap, s = .pointer (some ⟨b, 0, none⟩) ∧ W'.heap[b]? = some (.cells #[.slice ao l.length cap, .int .i64 most, .int .i64 room] t (0, 0)) ∧ GivesN l (.slice ao l.length cap) W' ∧ Below W.heap.size W W'
theorem Sn.add1 {w W W' : World} {B : List Bl} {G : List (List NodeL × Value)} {N : List (NodeL × Value)} (h : Sn w B G N W) (hb : Below W.heap.size W W') {b : Nat} {cs : Array Value} {t : TypeId} (h0 : W'.heap[b]? = some (.cells cs t (0, 0))) : Sn w (B ++ [(b, cs, t)]) G N W' :=
  h.news hb _ (fun x hx => by
    simp only [List.mem_cons, List.not_mem_nil, or_false] at hx
    subst hx
    exact h0)
end Go.Proofs.YtpmhmippoefcfaaGreatDoor
