/-
  A disk that is right stays so, whatever is done to it; and how large it becomes.
-/
import Derived.RangeFuncNested
import Derived.RangeFuncBound
import Derived.RangeFuncCalls
import Derived.RangeFuncLeaves
import Derived.RangeFuncBox
import Derived.Shelf.Abstract
import Derived.Shelf.RegionOpen
import Derived.WalkKit
import Derived.OwnWalkIn
import Derived.TacticsInMore
import Derived.LoopNIn
import Derived.LoopIn
import Derived.Lib.Hide
import Derived.Outline
import Derived.Deep.QuietTactic
import Derived.Deep.AppendLies
import Derived.BigQuiet
import Derived.Lib.Strings
import Derived.WalkSmall
import Derived.Shelf.Small.Strs
import Derived.Shelf.Strings.Search1
import Derived.Shelf.Strings.Prefix
import Derived.Laws.AppendOwn
import Derived.Laws.OwnMore
import Derived.Laws.AppendOwnNone
import Derived.WideShapes
import Derived.Lib.TrimByte
import Derived.Lib.Bytealg
import Derived.Laws.BitsLemmas
import Derived.Laws.RangeAny
import Derived.Laws.Runes
import Derived.Lib.Builder
import Derived.Deep.WholeRow
import Derived.WalkMore
import Derived.Lib.OthersKept
import Derived.Lib.QuietBelow
import Derived.Deep.DrawnRows
import Derived.Laws.Cover1
import Derived.Shelf.SlSorted.Search
import Derived.Shelf.Spec.SlicesGrow
import Derived.StillTailTactics
import Derived.Test.YtpmhmippoefcfaaGreatDoorProg
import Derived.Test.YtpmhmippoefcfaaGreatDoorShelf
import Derived.Test.YtpmhmippoefcfaaGreatDoorB01
import Derived.Test.YtpmhmippoefcfaaGreatDoorB02
import Derived.Test.YtpmhmippoefcfaaGreatDoorB12
import Derived.Test.YtpmhmippoefcfaaGreatDoorChangeRenamesE03
namespace Go.Proofs.YtpmhmippoefcfaaGreatDoor
theorem right_back {l l' : List NodeL} {most room : Int} (h : rightR l most room = true) (hr : Rig l') (hl : l'.length = l.length) (hb : bytesL l' ≤ bytesL l) : rightR l' most room = true := by
  obtain ⟨_, h1, h2, h3⟩ := (right_iff l most room).1 h
  exact (right_iff l' most room).2 ⟨hr, by omega, by omega, by omega⟩
section
variable {l : List NodeL} {most room : Int} (h : rightR l most room = true) (who fr : Int) (path : Str)
include h
omit h in
theorem there_zero {R : ResL} (h : thereE R = 0) : R.2 = 0 ∧ 0 ≤ R.1.ino := by
  unfold thereE at h
  split at h
  · rename_i hc; exact absurd h hc
  · rename_i hc
    split at h
    · cases h
    · exact ⟨Decidable.not_not.1 hc, by omega⟩
theorem right_rename (who2 fr2 : Int) (old : Str) : rightR (renameL l who fr who2 fr2 old path).1 most room = true := by
  unfold renameL
  split
  · exact h
  · rename_i ht
    obtain ⟨hw, hi⟩ := there_zero (Decidable.not_not.1 ht)
    split
    · exact h
    · rename_i hw2
      split
      · exact h
      · split
        · exact h
        · rename_i hE
          obtain ⟨hR, _⟩ := Rig.of (right_RP h)
          obtain ⟨d1, d2, x, m⟩ := move_of (right_RP h) (walk_spot (right_RP h) hw) (walk_spot (right_RP h) (Decidable.not_not.1 hw2)) hi (Decidable.not_not.1 hE)
          obtain ⟨a, b, c, _⟩ := move_rig hR m
          exact right_back h a b c
end
end Go.Proofs.YtpmhmippoefcfaaGreatDoor
