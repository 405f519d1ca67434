/-
  A disk that is right stays so, whatever is done to it; and how large it becomes.
-/
import Derived.RangeFuncNested
import Derived.RangeFuncBound
import Derived.RangeFuncCalls
import Derived.RangeFuncLeaves
import Derived.RangeFuncBox
import Derived.Shelf.Abstract
import Derived.Shelf.RegionOpen
import Derived.WalkKit
import Derived.OwnWalkIn
import Derived.TacticsInMore
import Derived.LoopNIn
import Derived.LoopIn
import Derived.Lib.Hide
import Derived.Outline
import Derived.Deep.QuietTactic
import Derived.Deep.AppendLies
import Derived.BigQuiet
import Derived.Lib.Strings
import Derived.WalkSmall
import Derived.Shelf.Small.Strs
import Derived.Shelf.Strings.Search1
import Derived.Shelf.Strings.Prefix
import Derived.Laws.AppendOwn
import Derived.Laws.OwnMore
import Derived.Laws.AppendOwnNone
import Derived.WideShapes
import Derived.Lib.TrimByte
import Derived.Lib.Bytealg
import Derived.Laws.BitsLemmas
import Derived.Laws.RangeAny
import Derived.Laws.Runes
import Derived.Lib.Builder
import Derived.Deep.WholeRow
import Derived.WalkMore
import Derived.Lib.OthersKept
import Derived.Lib.QuietBelow
import Derived.Deep.DrawnRows
import Derived.Laws.Cover1
import Derived.Shelf.SlSorted.Search
import Derived.Shelf.Spec.SlicesGrow
import Derived.StillTailTactics
import Derived.Test.YtpmhmippoefcfaaGreatDoorProg
import Derived.Test.YtpmhmippoefcfaaGreatDoorShelf
import Derived.Test.YtpmhmippoefcfaaGreatDoorB01
import Derived.Test.YtpmhmippoefcfaaGreatDoorB02
import Derived.Test.YtpmhmippoefcfaaGreatDoorB10
import Derived.Test.YtpmhmippoefcfaaGreatDoorB12
import Derived.Test.YtpmhmippoefcfaaGreatDoorChangeDropsE01
import Derived.Test.YtpmhmippoefcfaaGreatDoorChangeDropsE04
namespace Go.Proofs.YtpmhmippoefcfaaGreatDoor
theorem right_back {l l' : List NodeL} {most room : Int} (h : rightR l most room = true) (hr : Rig l') (hl : l'.length = l.length) (hb : bytesL l' ≤ bytesL l) : rightR l' most room = true := by
  obtain ⟨_, h1, h2, h3⟩ := (right_iff l most room).1 h
  exact (right_iff l' most room).2 ⟨hr, by omega, by omega, by omega⟩
section
variable {l : List NodeL} {most room : Int} (h : rightR l most room = true) (who fr : Int) (path : Str)
include h
/-- A node to which a way leads. -/
theorem wnode_got (f : Bool) (he : (wnodeL (walkL l who fr path f)).2 = 0) : ∃ i : Nat, (wnodeL (walkL l who fr path f)).1 = i ∧ (nd l i).kind ≠ 0 ∧ (walkL l who fr path f).2 = 0 ∧ (walkL l who fr path f).1.ino = i := by
  have hn : wnodeL (walkL l who fr path f) = ((wnodeL (walkL l who fr path f)).1, 0) := by rw [← he]
  obtain ⟨a, b, c⟩ := node_ok hn
  have hi := (walk_ino (right_RP h) who fr path f a).resolve_left (by omega)
  obtain ⟨i, e1, _, e2⟩ := got_nat hi
  exact ⟨i, by rw [← c]; exact e1, e2, a, e1⟩
/-- The last part, where what it names is no directory, is one of the directory's names. -/
theorem spot_nodir {s : SpotL} (hs : SpotW l s) {i : Nat} (hi : s.ino = i) (hk : (nd l i).kind ≠ 0) (h2 : (nd l i).kind ≠ 2) : dotsB s.name = false := by
  cases hb : dotsB s.name with
  | false => rfl
  | true =>
    have := (spot_dots (right_RP h) hs hb).2
    rw [hi, nodeL_nd hk] at this
    exact absurd this h2
theorem right_link (old : Str) : rightR (linkL l who fr old path).1 most room = true := by
  unfold linkL
  split
  · exact h
  · rename_i hw
    obtain ⟨i, hi, hik, hw0, hino⟩ := wnode_got h who fr old false (Decidable.not_not.1 hw)
    rw [hi, nodeL_nd hik]
    split
    · exact h
    · rename_i hi2
      split
      · exact h
      · split
        · exact h
        · rename_i hsp
          have hsp := Decidable.not_not.1 hsp
          split
          · exact h
          · unfold spotE at hsp
            split at hsp
            · rename_i hc; exact absurd hsp hc
            · rename_i hc
              have hs := walk_spot (right_RP h) (Decidable.not_not.1 hc)
              obtain ⟨d, hd, hk⟩ := spot_dir hs
              obtain ⟨hR, _⟩ := Rig.of (right_RP h)
              have hso := walk_spot (right_RP h) hw0
              have hdo := spot_nodir h hso hino hik hi2
              obtain ⟨d', hd', hk'⟩ := spot_dir hso
              obtain ⟨_, y, hy, _, hy0, _⟩ := spot_old (right_RP h) hso (by omega) hdo hd' hk'
              have hi0 : i ≠ 0 := by omega
              unfold freeE at hsp
              split at hsp
              · cases hsp
              · rename_i hneg
                obtain ⟨hleg, hfn, _⟩ := spot_new (right_RP h) hs (by omega) hd hk
                split at hsp
                · cases hsp
                · rename_i hlk
                  rw [hd, nodeL_nd (by rw [hk]; decide)] at hlk
                  obtain ⟨_, e, a, b⟩ := link_rig hR hd hk hi0 hik hi2 hfn hleg (by omega)
                  rw [nodeL_nd hik] at e a b
                  refine right_back h a ?_ (Nat.le_of_eq b)
                  rw [e, List.length_set, List.length_set]
/-- What is lost under a name. -/
theorem right_lost {s : SpotL} (hs : SpotW l s) (hn : 0 ≤ s.ino) (hdt : dotsB s.name = false) (hyn : (nodeL l s.ino).kind = 2 → (nodeL l s.ino).names = []) : rightR (lostL l s) most room = true := by
  obtain ⟨hR, _⟩ := Rig.of (right_RP h)
  obtain ⟨d, hd, hk⟩ := spot_dir hs
  obtain ⟨_, y, hy, hf, hy0, hyk⟩ := spot_old (right_RP h) hs hn hdt hd hk
  rw [hy, nodeL_nd hyk] at hyn
  obtain ⟨_, _, _, _, a, b, _, c⟩ := lost_rig hR hd hk hy hf hy0 hyk (fun h => h) hyn (fun _ h => h.elim)
  exact right_back h c a b
omit h in
theorem there_zero {R : ResL} (h : thereE R = 0) : R.2 = 0 ∧ 0 ≤ R.1.ino := by
  unfold thereE at h
  split at h
  · rename_i hc; exact absurd h hc
  · rename_i hc
    split at h
    · cases h
    · exact ⟨Decidable.not_not.1 hc, by omega⟩
theorem right_unlink : rightR (unlinkL l who fr path).1 most room = true := by
  unfold unlinkL
  split
  · exact h
  · rename_i ht
    obtain ⟨hw, hi⟩ := there_zero (Decidable.not_not.1 ht)
    have hs := walk_spot (right_RP h) hw
    split
    · exact h
    · rename_i h2
      split
      · exact h
      · obtain ⟨i, hi', hik⟩ : ∃ i : Nat, (walkL l who fr path false).1.ino = i ∧ (nd l i).kind ≠ 0 := by
          obtain ⟨i, a, _, b⟩ := got_nat ((walk_ino (right_RP h) who fr path false hw).resolve_left (by omega))
          exact ⟨i, a, b⟩
        refine right_lost h hs hi (spot_nodir h hs hi' hik (by rw [hi', nodeL_nd hik] at h2; exact h2)) fun h3 => absurd h3 h2
omit h in
theorem rmdir_zero {s : SpotL} (h : rmdirE l who s = 0) : (nodeL l s.ino).kind = 2 ∧ dotsB s.name = false ∧ writesL l who s.dir = true ∧ (nodeL l s.ino).names = [] := by
  unfold rmdirE at h
  split at h
  · cases h
  · rename_i h1
    split at h
    · cases h
    · rename_i h2
      split at h
      · cases h
      · rename_i h3
        split at h
        · cases h
        · rename_i h4
          split at h
          · cases h
          · rename_i h5
            refine ⟨Decidable.not_not.1 h1, ?_, Bool.not_eq_false _ ▸ h4, Decidable.not_not.1 h5⟩
            unfold dotsB
            rw [decide_eq_false (fun e => h2 (.inl e)), decide_eq_false (fun e => h2 (.inr e)), decide_eq_false h3]
            rfl
theorem right_rmdir : rightR (rmdirL l who fr path).1 most room = true := by
  unfold rmdirL
  split
  · exact h
  · rename_i ht
    obtain ⟨hw, hi⟩ := there_zero (Decidable.not_not.1 ht)
    split
    · exact h
    · rename_i hE
      obtain ⟨_, hd, _, hn⟩ := rmdir_zero who (Decidable.not_not.1 hE)
      exact right_lost h (walk_spot (right_RP h) hw) hi hd fun _ => hn
theorem right_chmod (mode : Int) : rightR (chmodL l who fr path mode).1 most room = true := by
  unfold chmodL
  split
  · exact h
  · rename_i hw
    obtain ⟨i, hi, hik, _, _⟩ := wnode_got h who fr path true (Decidable.not_not.1 hw)
    rw [hi, nodeL_nd hik]
    split
    · exact h
    · obtain ⟨hR, _⟩ := Rig.of (right_RP h)
      obtain ⟨a, b⟩ := mode_rig hR hik mode
      rw [setL_nat (nd_kind hik)]
      exact right_back h a List.length_set (Nat.le_of_eq b)
end
end Go.Proofs.YtpmhmippoefcfaaGreatDoor
