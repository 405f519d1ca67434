/-
  How large a disk becomes. The document's enter, Make, Mkdir, Symlink. errors.Is at errors of errors.New's make: the same one; another one.
-/
import Derived.RangeFuncNested
import Derived.RangeFuncBound
import Derived.RangeFuncCalls
import Derived.RangeFuncLeaves
import Derived.RangeFuncBox
import Derived.Shelf.Abstract
import Derived.Shelf.RegionOpen
import Derived.WalkKit
import Derived.OwnWalkIn
import Derived.TacticsInMore
import Derived.LoopNIn
import Derived.LoopIn
import Derived.Lib.Hide
import Derived.Outline
import Derived.Deep.QuietTactic
import Derived.Deep.AppendLies
import Derived.BigQuiet
import Derived.Lib.Strings
import Derived.WalkSmall
import Derived.Shelf.Small.Strs
import Derived.Shelf.Strings.Search1
import Derived.Shelf.Strings.Prefix
import Derived.Laws.AppendOwn
import Derived.Laws.OwnMore
import Derived.Laws.AppendOwnNone
import Derived.WideShapes
import Derived.Lib.TrimByte
import Derived.Lib.Bytealg
import Derived.Laws.BitsLemmas
import Derived.Laws.RangeAny
import Derived.Laws.Runes
import Derived.Lib.Builder
import Derived.Deep.WholeRow
import Derived.WalkMore
import Derived.Lib.OthersKept
import Derived.Lib.QuietBelow
import Derived.Deep.DrawnRows
import Derived.Laws.Cover1
import Derived.Shelf.SlSorted.Search
import Derived.Shelf.Spec.SlicesGrow
import Derived.StillTailTactics
import Derived.LaidEql
import Derived.Stop.Asserts
import Derived.RowKitTokens
import Derived.Deep.RegionHeld3
import Derived.Deep.RegionLaw
import Derived.Handy
import Derived.Laws.IdiomCopy
import Derived.Lib.SliceRun
import Derived.Laws.ResultCell
import Derived.Deep.LoopGhost
import Derived.Deep.DeepCutAuto
import Derived.Deep.MidRow
import Derived.BigRegion
import Derived.Test.YtpmhmippoefcfaaGreatDoorProg
import Derived.Test.YtpmhmippoefcfaaGreatDoorShelf
import Derived.Test.YtpmhmippoefcfaaGreatDoorB01
import Derived.Test.YtpmhmippoefcfaaGreatDoorB02
import Derived.Test.YtpmhmippoefcfaaGreatDoorB06
import Derived.Test.YtpmhmippoefcfaaGreatDoorB12
namespace Go.Proofs.YtpmhmippoefcfaaGreatDoor
/-- At most a nodes, of at most c names each. -/
def Siz (a c : Nat) (l : List NodeL) : Prop := l.length ≤ a ∧ ∀ n ∈ l, n.data.length ≤ 300 ∧ n.names.length ≤ c
theorem Siz.mono {a c a' c' : Nat} {l : List NodeL} (h : Siz a c l) (ha : a ≤ a') (hc : c ≤ c') : Siz a' c' l :=
  ⟨Nat.le_trans h.1 ha, fun n hn => ⟨(h.2 n hn).1, Nat.le_trans (h.2 n hn).2 hc⟩⟩
theorem Siz.set {a c : Nat} {l : List NodeL} (h : Siz a c l) {n : NodeL} (hn : n.data.length ≤ 300 ∧ n.names.length ≤ c) (i : Int) : Siz a c (setL l i n) := by
  unfold setL
  split
  · refine ⟨by rw [List.length_set]; exact h.1, fun m hm => ?_⟩
    rcases List.mem_or_eq_of_mem_set hm with hm | rfl
    · exact h.2 m hm
    · exact hn
  · exact h
theorem Siz.node {a c : Nat} {l : List NodeL} (h : Siz a c l) (i : Int) : (nodeL l i).data.length ≤ 300 ∧ (nodeL l i).names.length ≤ c := by
  unfold nodeL
  split
  · rename_i hg
    obtain ⟨k, rfl, hlt, _⟩ := got_nat hg
    rw [at_nd, nd_lt hlt]
    exact h.2 _ (List.getElem_mem hlt)
  · exact ⟨Nat.zero_le _, Nat.zero_le _⟩
theorem Siz.named {a c : Nat} {l : List NodeL} (h : Siz a c l) (s : SpotL) (i : Int) : Siz a (2 * c + 1) (namedL l s i) := by
  have h0 : Siz a (2 * c + 1) l := h.mono (Nat.le_refl _) (by omega)
  refine h0.set (n := putN (nodeL l s.dir) s.name i) ⟨(h.node s.dir).1, ?_⟩ s.dir
  have h1 := put_len (nodeL l s.dir).names (s.name, i)
  have h2 := (h.node s.dir).2
  show (putL (nodeL l s.dir).names (s.name, i)).length ≤ _
  omega
theorem Siz.dropped {a c : Nat} {l : List NodeL} (h : Siz a c l) (s : SpotL) : Siz a c (droppedL l s) :=
  h.set (n := dropN (nodeL l s.dir) s.name) ⟨(h.node s.dir).1, Nat.le_trans (List.length_filter_le _ _) (h.node s.dir).2⟩ s.dir
theorem Siz.settle {a c : Nat} {l : List NodeL} (h : Siz a c l) (i : Int) : Siz a c (settleL l i) := by
  unfold settleL
  split
  · exact h.set ⟨Nat.zero_le _, Nat.zero_le _⟩ i
  · exact h
theorem Siz.lost {a c : Nat} {l : List NodeL} (h : Siz a c l) (s : SpotL) : Siz a c (lostL l s) :=
  ((h.dropped s).set (n := lessN (nodeL (droppedL l s) s.ino)) ((h.dropped s).node s.ino) s.ino).settle s.ino
theorem Siz.add {a c : Nat} {l : List NodeL} (h : Siz a c l) {n : NodeL} (hn : n.data.length ≤ 300 ∧ n.names.length ≤ c) (most room : Int) : Siz (a + 1) c (addL l most room n) := by
  unfold addL
  split
  · exact h.mono (Nat.le_succ a) (Nat.le_refl c)
  · split
    · refine ⟨by rw [List.length_append, List.length_singleton]; have := h.1; omega, fun m hm => ?_⟩
      rcases List.mem_append.1 hm with hm | hm
      · exact h.2 m hm
      · obtain rfl := List.mem_singleton.1 hm
        exact hn
    · refine ⟨by rw [List.length_set]; have := h.1; omega, fun m hm => ?_⟩
      rcases List.mem_or_eq_of_mem_set hm with hm | rfl
      · exact h.2 m hm
      · exact hn
theorem Siz.enter {a c : Nat} {l : List NodeL} (h : Siz a c l) {n : NodeL} (hn : n.data.length ≤ 300 ∧ n.names.length ≤ c) (most room who : Int) (s : SpotL) : Siz (a + 1) (2 * c + 1) (enterL l most room who s n).1 := by
  unfold enterL
  split
  · exact h.mono (by omega) (by omega)
  · split
    · exact h.mono (by omega) (by omega)
    · exact (h.add (n := ownN n who) hn most room).named s _
section
variable {a c : Nat} {l : List NodeL} (h : Siz a c l) (most room who fr : Int) (path : Str)
include h
theorem siz_same : Siz (a + 1) (2 * c + 1) l := h.mono (by omega) (by omega)
end
end Go.Proofs.YtpmhmippoefcfaaGreatDoor
namespace Go.Proofs.YtpmhmippoefcfaaGreatDoor
open Go.RowKit Go.Shelf
attribute [local go_sem ↓] Go.wp_at_zero Go.wp_at_succ
theorem one_g {X : Nat → Prop} {w : World} {l : List NodeL} {v : Value} (hg : GivesX X l v w) : ∀ x ∈ [(l, v)], GivesX X x.1 x.2 w := fun x hx => by rw [List.mem_singleton] at hx; subst hx; exact hg
theorem one_n {X : Nat → Prop} {w : World} {n : NodeL} {v : Value} (hg : NodeX X n v w) : ∀ x ∈ [(n, v)], NodeX X x.1 x.2 w := fun x hx => by rw [List.mem_singleton] at hx; subst hx; exact hg
theorem no_n {X : Nat → Prop} {w : World} : ∀ x ∈ ([] : List (NodeL × Value)), NodeX X x.1 x.2 w := fun _ h => by cases h
end Go.Proofs.YtpmhmippoefcfaaGreatDoor
namespace Go.Proofs.YtpmhmippoefcfaaGreatDoor
open Go.RowKit Go.Shelf Go.Lib
theorem isTypeOf (v : Value) (w : World) : (Extern.ReflectliteType.typeOf #[.iface 220 v]).run Tryz.prog w = .ok (.iface 190 (.agg #[.pointer (some ⟨12, 220, none⟩)])) w := by kernel_rfl
def compE : Array Value → Sem Value := Extern.ReflectliteType.method fun t => do Extern.Rtype.noPackHeld "Comparable" t; pure (.bool (← typeInfo t).comparable)
theorem isComparable (w : World) : (compE #[.agg #[.pointer (some ⟨12, 220, none⟩)]]).run Tryz.prog w = .ok (.bool true) w := by kernel_rfl
theorem isMethodComparable (v : Value) (w : World) : (Go.method 353 190 v "Comparable").run Tryz.prog w = .ok (182, v) w := by kernel_rfl
theorem isComp : (Tryz.prog.info? 220).map (·.comparable) = some true := by kernel_rfl
theorem isSize : (Tryz.prog.info? 242).map (·.size) = some 1 := by kernel_rfl
theorem noIsE (v : Value) (xT : TypeId) (w : World) : (Instr.typeAssert (.iface 220 v) xT 201 true).run Tryz.prog w = .ok (.tuple #[.nilIface, .bool false]) w := run_typeAssert_lacksB Tryz.underlying201 (by kernel_rfl) (by kernel_rfl) v xT w
theorem noUnwrapE (v : Value) (xT : TypeId) (w : World) : (Instr.typeAssert (.iface 220 v) xT 197 true).run Tryz.prog w = .ok (.tuple #[.nilIface, .bool false]) w := run_typeAssert_lacksB Tryz.underlying197 (by kernel_rfl) (by kernel_rfl) v xT w
theorem noUnwrapsE (v : Value) (xT : TypeId) (w : World) : (Instr.typeAssert (.iface 220 v) xT 198 true).run Tryz.prog w = .ok (.tuple #[.nilIface, .bool false]) w := run_typeAssert_lacksB Tryz.underlying198 (by kernel_rfl) (by kernel_rfl) v xT w
end Go.Proofs.YtpmhmippoefcfaaGreatDoor
