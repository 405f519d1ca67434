/-
  The sentinels of package change in memory; the number of an error. Places of package change: what their methods tell. What keeps a place of package change from being entered, dropped, moved, taken. The ways up: the document's beneath, the program's within.
-/
import Derived.RangeFuncNested
import Derived.RangeFuncBound
import Derived.RangeFuncCalls
import Derived.RangeFuncLeaves
import Derived.RangeFuncBox
import Derived.Shelf.Abstract
import Derived.Shelf.RegionOpen
import Derived.WalkKit
import Derived.OwnWalkIn
import Derived.TacticsInMore
import Derived.LoopNIn
import Derived.LoopIn
import Derived.Lib.Hide
import Derived.Outline
import Derived.Deep.QuietTactic
import Derived.Deep.AppendLies
import Derived.BigQuiet
import Derived.Lib.Strings
import Derived.WalkSmall
import Derived.Shelf.Small.Strs
import Derived.Shelf.Strings.Search1
import Derived.Shelf.Strings.Prefix
import Derived.Laws.AppendOwn
import Derived.Laws.OwnMore
import Derived.Laws.AppendOwnNone
import Derived.WideShapes
import Derived.Laws.RangeAny
import Derived.Laws.Runes
import Derived.Lib.Builder
import Derived.Deep.WholeRow
import Derived.WalkMore
import Derived.Lib.OthersKept
import Derived.Lib.QuietBelow
import Derived.Deep.DrawnRows
import Derived.Laws.Cover1
import Derived.Shelf.SlSorted.Search
import Derived.Shelf.Spec.SlicesGrow
import Derived.StillTailTactics
import Derived.LaidEql
import Derived.Stop.Asserts
import Derived.RowKitTokens
import Derived.Lib.TrimByte
import Derived.Lib.Bytealg
import Derived.Laws.BitsLemmas
import Derived.Deep.RegionHeld3
import Derived.Deep.RegionLaw
import Derived.Handy
import Derived.Laws.IdiomCopy
import Derived.Lib.SliceRun
import Derived.Laws.ResultCell
import Derived.Deep.LoopGhost
import Derived.Deep.DeepCutAuto
import Derived.Deep.MidRow
import Derived.BigRegion
import Derived.Test.YtpmhmippoefcfaaGreatDoorProg
import Derived.Test.YtpmhmippoefcfaaGreatDoorShelf
import Derived.Test.YtpmhmippoefcfaaGreatDoorB01
import Derived.Test.YtpmhmippoefcfaaGreatDoorB02
import Derived.Test.YtpmhmippoefcfaaGreatDoorB03
import Derived.Test.YtpmhmippoefcfaaGreatDoorB04
import Derived.Test.YtpmhmippoefcfaaGreatDoorB05
import Derived.Test.YtpmhmippoefcfaaGreatDoorB07
import Derived.Test.YtpmhmippoefcfaaGreatDoorB08
import Derived.Test.YtpmhmippoefcfaaGreatDoorB09
import Derived.Test.YtpmhmippoefcfaaGreatDoorB12
import Derived.Test.YtpmhmippoefcfaaGreatDoorB13
import Derived.Test.YtpmhmippoefcfaaGreatDoorB14
import Derived.Test.YtpmhmippoefcfaaGreatDoorB15
namespace Go.Proofs.YtpmhmippoefcfaaGreatDoor
open Go.RowKit Go.Shelf
abbrev codes : List Nat := [1, 2, 3, 4, 5, 6, 7, 9, 11, 15]
/-- The sentinels, laid, and the handle of type error. -/
structure Sent (S : Nat → Addr) (W : World) : Prop where
  e1 : W.cell? ⟨3, 0, none⟩ = some (sentV (S 1))
  e2 : W.cell? ⟨0, 0, none⟩ = some (sentV (S 2))
  e3 : W.cell? ⟨4, 0, none⟩ = some (sentV (S 3))
  e4 : W.cell? ⟨5, 0, none⟩ = some (sentV (S 4))
  e5 : W.cell? ⟨6, 0, none⟩ = some (sentV (S 5))
  e6 : W.cell? ⟨7, 0, none⟩ = some (sentV (S 6))
  e7 : W.cell? ⟨2, 0, none⟩ = some (sentV (S 7))
  e9 : W.cell? ⟨1, 0, none⟩ = some (sentV (S 9))
  e11 : W.cell? ⟨8, 0, none⟩ = some (sentV (S 11))
  e15 : W.cell? ⟨9, 0, none⟩ = some (sentV (S 15))
  blk : ∀ k ∈ codes, ∃ c t, W.heap[(S k).block]? = some (.cells c t (0, 0))
  inj : ∀ j ∈ codes, ∀ k ∈ codes, j ≠ k → S j ≠ S k
  err : W.cell? ⟨10, 0, none⟩ = some errTypeV
theorem Sent.keep {S : Nat → Addr} {W W' : World} (h : Sent S W) (hb : Below W.heap.size W W') : Sent S W' where
  e1 := (hb.cell (p := ⟨3, 0, none⟩) (World.block_lt_of_cell? W _ h.e1)).trans h.e1
  e2 := (hb.cell (p := ⟨0, 0, none⟩) (World.block_lt_of_cell? W _ h.e2)).trans h.e2
  e3 := (hb.cell (p := ⟨4, 0, none⟩) (World.block_lt_of_cell? W _ h.e3)).trans h.e3
  e4 := (hb.cell (p := ⟨5, 0, none⟩) (World.block_lt_of_cell? W _ h.e4)).trans h.e4
  e5 := (hb.cell (p := ⟨6, 0, none⟩) (World.block_lt_of_cell? W _ h.e5)).trans h.e5
  e6 := (hb.cell (p := ⟨7, 0, none⟩) (World.block_lt_of_cell? W _ h.e6)).trans h.e6
  e7 := (hb.cell (p := ⟨2, 0, none⟩) (World.block_lt_of_cell? W _ h.e7)).trans h.e7
  e9 := (hb.cell (p := ⟨1, 0, none⟩) (World.block_lt_of_cell? W _ h.e9)).trans h.e9
  e11 := (hb.cell (p := ⟨8, 0, none⟩) (World.block_lt_of_cell? W _ h.e11)).trans h.e11
  e15 := (hb.cell (p := ⟨9, 0, none⟩) (World.block_lt_of_cell? W _ h.e15)).trans h.e15
  blk := fun k hk => by
    obtain ⟨c, t, hc⟩ := h.blk k hk
    exact ⟨c, t, (hb.block _ (Array.getElem?_eq_some_iff.1 hc).1).trans hc⟩
  inj := h.inj
  err := (hb.cell (p := ⟨10, 0, none⟩) (World.block_lt_of_cell? W _ h.err)).trans h.err
/-- An error of this number. -/
def ErrIs (S : Nat → Addr) (n : Int) (v : Value) : Prop :=
  (n = 0 ∧ v = .nilIface) ∨ (n ≠ 0 ∧ ∃ p, v = unmetV p (belowV n)) ∨ (∃ k ∈ codes, n = (k : Int) ∧ ∃ p, v = unmetV p (sentV (S k)))
theorem ErrIs.nil {S : Nat → Addr} : ErrIs S 0 .nilIface := .inl ⟨rfl, rfl⟩
theorem ErrIs.sent {S : Nat → Addr} (k : Nat) (hk : k ∈ codes) (p : ByteArray) : ErrIs S (k : Int) (unmetV p (sentV (S k))) := .inr (.inr ⟨k, hk, rfl, p, rfl⟩)
theorem ErrIs.below {S : Nat → Addr} {n : Int} (h : n ≠ 0) (p : ByteArray) : ErrIs S n (unmetV p (belowV n)) := .inr (.inl ⟨h, p, rfl⟩)
theorem code_pos {k : Nat} (h : k ∈ codes) : k ≠ 0 := by rintro rfl; revert h; decide
theorem ErrIs.form {S : Nat → Addr} {n : Int} {v : Value} (h : ErrIs S n v) : (n = 0 ∧ v = .nilIface) ∨ (n ≠ 0 ∧ ∃ p c, v = unmetV p c) := by
  rcases h with h | ⟨h, p, rfl⟩ | ⟨k, hk, rfl, p, rfl⟩
  · exact .inl h
  · exact .inr ⟨h, p, _, rfl⟩
  · exact .inr ⟨by have := code_pos hk; omega, p, _, rfl⟩
theorem is_no {S : Nat → Addr} {w : World} (hs : Sent S w) (p : ByteArray) {k j : Nat} (hk : k ∈ codes) (hj : j ∈ codes) (h : k ≠ j) :
    Calls Tryz.prog 89 #[unmetV p (sentV (S k)), sentV (S j)] w fun e w' => e = .returned (.bool false) ∧ Below w.heap.size w w' := by
  obtain ⟨c, t, hc⟩ := hs.blk k hk
  obtain ⟨d, u, hd⟩ := hs.blk j hj
  exact is_unmet_other p (S k) (S j) c d t u w (hs.inj k hk j hj h) hc hd
theorem as_sent0 (p : ByteArray) (a : Addr) (w : World) (hg : w.cell? ⟨10, 0, none⟩ = some errTypeV) :
    Calls Tryz.prog 88 #[unmetV p (sentV a), .iface 141 (.pointer (some ⟨w.heap.size, 0, none⟩))] (w.alloc (.cells #[.int .i64 0] 111)) fun e w' => e = .returned (.bool false) ∧ Below w.heap.size w w' := by
  have hlt : 10 < w.heap.size := World.block_lt_of_cell? w _ hg
  have hg1 : (w.alloc (.cells #[.int .i64 0] 111)).cell? ⟨10, 0, none⟩ = some errTypeV := by
    rw [World.cell?_alloc_lt _ _ ⟨10, 0, none⟩ hlt]; exact hg
  refine (as_sent p a ⟨w.heap.size, 0, none⟩ (.int .i64 0) _ hg1 (by simp)).mono ?_
  rintro e w' ⟨rfl, hb⟩
  exact ⟨rfl, bel_al (Below.refl _ w) hb⟩
set_option maxRecDepth 100000 in
set_option maxHeartbeats 4000000 in
theorem number_1 {S : Nat → Addr} {w : World} (hs : Sent S w) (p : ByteArray) : Calls Tryz.prog 46 #[unmetV p (sentV (S 1))] w fun e w' => NumIs 1 e w w' := by
  have HS := Lib.hid hs
  have HA := Lib.hid (as_sent0 p (S 1) w hs.err)
  clear hs
  go_enter Tryz.func46, Tryz.ntmps46
  go_wp2_with fail
  refine HA.out.mono ?_
  rintro e w0 ⟨rfl, hb0⟩
  have HB0 := Lib.hid hb0
  clear hb0
  have HS1 := Lib.hid (HS.out.keep HB0.out)
  have g1 := HS1.out.e1
  go_wp2_with fail
  refine (is_unmet_same p (S 1) _).mono ?_
  rintro e w1 ⟨rfl, hb1⟩
  have HB1 := Lib.hid (ret_tr HB0.out hb1)
  clear g1 hb1
  go_wp2_with fail
  go_ret
  exact ⟨rfl, HB1.out⟩
set_option maxRecDepth 100000 in
set_option maxHeartbeats 4000000 in
theorem number_2 {S : Nat → Addr} {w : World} (hs : Sent S w) (p : ByteArray) : Calls Tryz.prog 46 #[unmetV p (sentV (S 2))] w fun e w' => NumIs 2 e w w' := by
  have HS := Lib.hid hs
  have HA := Lib.hid (as_sent0 p (S 2) w hs.err)
  clear hs
  go_enter Tryz.func46, Tryz.ntmps46
  go_wp2_with fail
  refine HA.out.mono ?_
  rintro e w0 ⟨rfl, hb0⟩
  have HB0 := Lib.hid hb0
  clear hb0
  have HS1 := Lib.hid (HS.out.keep HB0.out)
  have g1 := HS1.out.e1
  go_wp2_with fail
  refine (is_no HS1.out p (k := 2) (j := 1) (by decide) (by decide) (by decide)).mono ?_
  rintro e w1 ⟨rfl, hb1⟩
  have HB1 := Lib.hid (ret_tr HB0.out hb1)
  clear g1 hb1
  have HS2 := Lib.hid (HS.out.keep HB1.out)
  have g2 := HS2.out.e2
  go_wp2_with fail
  refine (is_unmet_same p (S 2) _).mono ?_
  rintro e w2 ⟨rfl, hb2⟩
  have HB2 := Lib.hid (ret_tr HB1.out hb2)
  clear g2 hb2
  go_wp2_with fail
  go_ret
  exact ⟨rfl, HB2.out⟩
set_option maxRecDepth 100000 in
set_option maxHeartbeats 4000000 in
theorem number_3 {S : Nat → Addr} {w : World} (hs : Sent S w) (p : ByteArray) : Calls Tryz.prog 46 #[unmetV p (sentV (S 3))] w fun e w' => NumIs 3 e w w' := by
  have HS := Lib.hid hs
  have HA := Lib.hid (as_sent0 p (S 3) w hs.err)
  clear hs
  go_enter Tryz.func46, Tryz.ntmps46
  go_wp2_with fail
  refine HA.out.mono ?_
  rintro e w0 ⟨rfl, hb0⟩
  have HB0 := Lib.hid hb0
  clear hb0
  have HS1 := Lib.hid (HS.out.keep HB0.out)
  have g1 := HS1.out.e1
  go_wp2_with fail
  refine (is_no HS1.out p (k := 3) (j := 1) (by decide) (by decide) (by decide)).mono ?_
  rintro e w1 ⟨rfl, hb1⟩
  have HB1 := Lib.hid (ret_tr HB0.out hb1)
  clear g1 hb1
  have HS2 := Lib.hid (HS.out.keep HB1.out)
  have g2 := HS2.out.e2
  go_wp2_with fail
  refine (is_no HS2.out p (k := 3) (j := 2) (by decide) (by decide) (by decide)).mono ?_
  rintro e w2 ⟨rfl, hb2⟩
  have HB2 := Lib.hid (ret_tr HB1.out hb2)
  clear g2 hb2
  have HS3 := Lib.hid (HS.out.keep HB2.out)
  have g3 := HS3.out.e3
  go_wp2_with fail
  refine (is_unmet_same p (S 3) _).mono ?_
  rintro e w3 ⟨rfl, hb3⟩
  have HB3 := Lib.hid (ret_tr HB2.out hb3)
  clear g3 hb3
  go_wp2_with fail
  go_ret
  exact ⟨rfl, HB3.out⟩
set_option maxRecDepth 100000 in
set_option maxHeartbeats 4000000 in
theorem number_4 {S : Nat → Addr} {w : World} (hs : Sent S w) (p : ByteArray) : Calls Tryz.prog 46 #[unmetV p (sentV (S 4))] w fun e w' => NumIs 4 e w w' := by
  have HS := Lib.hid hs
  have HA := Lib.hid (as_sent0 p (S 4) w hs.err)
  clear hs
  go_enter Tryz.func46, Tryz.ntmps46
  go_wp2_with fail
  refine HA.out.mono ?_
  rintro e w0 ⟨rfl, hb0⟩
  have HB0 := Lib.hid hb0
  clear hb0
  have HS1 := Lib.hid (HS.out.keep HB0.out)
  have g1 := HS1.out.e1
  go_wp2_with fail
  refine (is_no HS1.out p (k := 4) (j := 1) (by decide) (by decide) (by decide)).mono ?_
  rintro e w1 ⟨rfl, hb1⟩
  have HB1 := Lib.hid (ret_tr HB0.out hb1)
  clear g1 hb1
  have HS2 := Lib.hid (HS.out.keep HB1.out)
  have g2 := HS2.out.e2
  go_wp2_with fail
  refine (is_no HS2.out p (k := 4) (j := 2) (by decide) (by decide) (by decide)).mono ?_
  rintro e w2 ⟨rfl, hb2⟩
  have HB2 := Lib.hid (ret_tr HB1.out hb2)
  clear g2 hb2
  have HS3 := Lib.hid (HS.out.keep HB2.out)
  have g3 := HS3.out.e3
  go_wp2_with fail
  refine (is_no HS3.out p (k := 4) (j := 3) (by decide) (by decide) (by decide)).mono ?_
  rintro e w3 ⟨rfl, hb3⟩
  have HB3 := Lib.hid (ret_tr HB2.out hb3)
  clear g3 hb3
  have HS4 := Lib.hid (HS.out.keep HB3.out)
  have g4 := HS4.out.e4
  go_wp2_with fail
  refine (is_unmet_same p (S 4) _).mono ?_
  rintro e w4 ⟨rfl, hb4⟩
  have HB4 := Lib.hid (ret_tr HB3.out hb4)
  clear g4 hb4
  go_wp2_with fail
  go_ret
  exact ⟨rfl, HB4.out⟩
set_option maxRecDepth 100000 in
set_option maxHeartbeats 4000000 in
theorem number_5 {S : Nat → Addr} {w : World} (hs : Sent S w) (p : ByteArray) : Calls Tryz.prog 46 #[unmetV p (sentV (S 5))] w fun e w' => NumIs 5 e w w' := by
  have HS := Lib.hid hs
  have HA := Lib.hid (as_sent0 p (S 5) w hs.err)
  clear hs
  go_enter Tryz.func46, Tryz.ntmps46
  go_wp2_with fail
  refine HA.out.mono ?_
  rintro e w0 ⟨rfl, hb0⟩
  have HB0 := Lib.hid hb0
  clear hb0
  have HS1 := Lib.hid (HS.out.keep HB0.out)
  have g1 := HS1.out.e1
  go_wp2_with fail
  refine (is_no HS1.out p (k := 5) (j := 1) (by decide) (by decide) (by decide)).mono ?_
  rintro e w1 ⟨rfl, hb1⟩
  have HB1 := Lib.hid (ret_tr HB0.out hb1)
  clear g1 hb1
  have HS2 := Lib.hid (HS.out.keep HB1.out)
  have g2 := HS2.out.e2
  go_wp2_with fail
  refine (is_no HS2.out p (k := 5) (j := 2) (by decide) (by decide) (by decide)).mono ?_
  rintro e w2 ⟨rfl, hb2⟩
  have HB2 := Lib.hid (ret_tr HB1.out hb2)
  clear g2 hb2
  have HS3 := Lib.hid (HS.out.keep HB2.out)
  have g3 := HS3.out.e3
  go_wp2_with fail
  refine (is_no HS3.out p (k := 5) (j := 3) (by decide) (by decide) (by decide)).mono ?_
  rintro e w3 ⟨rfl, hb3⟩
  have HB3 := Lib.hid (ret_tr HB2.out hb3)
  clear g3 hb3
  have HS4 := Lib.hid (HS.out.keep HB3.out)
  have g4 := HS4.out.e4
  go_wp2_with fail
  refine (is_no HS4.out p (k := 5) (j := 4) (by decide) (by decide) (by decide)).mono ?_
  rintro e w4 ⟨rfl, hb4⟩
  have HB4 := Lib.hid (ret_tr HB3.out hb4)
  clear g4 hb4
  have HS5 := Lib.hid (HS.out.keep HB4.out)
  have g5 := HS5.out.e5
  go_wp2_with fail
  refine (is_unmet_same p (S 5) _).mono ?_
  rintro e w5 ⟨rfl, hb5⟩
  have HB5 := Lib.hid (ret_tr HB4.out hb5)
  clear g5 hb5
  go_wp2_with fail
  go_ret
  exact ⟨rfl, HB5.out⟩
set_option maxRecDepth 100000 in
set_option maxHeartbeats 4000000 in
theorem number_6 {S : Nat → Addr} {w : World} (hs : Sent S w) (p : ByteArray) : Calls Tryz.prog 46 #[unmetV p (sentV (S 6))] w fun e w' => NumIs 6 e w w' := by
  have HS := Lib.hid hs
  have HA := Lib.hid (as_sent0 p (S 6) w hs.err)
  clear hs
  go_enter Tryz.func46, Tryz.ntmps46
  go_wp2_with fail
  refine HA.out.mono ?_
  rintro e w0 ⟨rfl, hb0⟩
  have HB0 := Lib.hid hb0
  clear hb0
  have HS1 := Lib.hid (HS.out.keep HB0.out)
  have g1 := HS1.out.e1
  go_wp2_with fail
  refine (is_no HS1.out p (k := 6) (j := 1) (by decide) (by decide) (by decide)).mono ?_
  rintro e w1 ⟨rfl, hb1⟩
  have HB1 := Lib.hid (ret_tr HB0.out hb1)
  clear g1 hb1
  have HS2 := Lib.hid (HS.out.keep HB1.out)
  have g2 := HS2.out.e2
  go_wp2_with fail
  refine (is_no HS2.out p (k := 6) (j := 2) (by decide) (by decide) (by decide)).mono ?_
  rintro e w2 ⟨rfl, hb2⟩
  have HB2 := Lib.hid (ret_tr HB1.out hb2)
  clear g2 hb2
  have HS3 := Lib.hid (HS.out.keep HB2.out)
  have g3 := HS3.out.e3
  go_wp2_with fail
  refine (is_no HS3.out p (k := 6) (j := 3) (by decide) (by decide) (by decide)).mono ?_
  rintro e w3 ⟨rfl, hb3⟩
  have HB3 := Lib.hid (ret_tr HB2.out hb3)
  clear g3 hb3
  have HS4 := Lib.hid (HS.out.keep HB3.out)
  have g4 := HS4.out.e4
  go_wp2_with fail
  refine (is_no HS4.out p (k := 6) (j := 4) (by decide) (by decide) (by decide)).mono ?_
  rintro e w4 ⟨rfl, hb4⟩
  have HB4 := Lib.hid (ret_tr HB3.out hb4)
  clear g4 hb4
  have HS5 := Lib.hid (HS.out.keep HB4.out)
  have g5 := HS5.out.e5
  go_wp2_with fail
  refine (is_no HS5.out p (k := 6) (j := 5) (by decide) (by decide) (by decide)).mono ?_
  rintro e w5 ⟨rfl, hb5⟩
  have HB5 := Lib.hid (ret_tr HB4.out hb5)
  clear g5 hb5
  have HS6 := Lib.hid (HS.out.keep HB5.out)
  have g6 := HS6.out.e6
  go_wp2_with fail
  refine (is_unmet_same p (S 6) _).mono ?_
  rintro e w6 ⟨rfl, hb6⟩
  have HB6 := Lib.hid (ret_tr HB5.out hb6)
  clear g6 hb6
  go_wp2_with fail
  go_ret
  exact ⟨rfl, HB6.out⟩
set_option maxRecDepth 100000 in
set_option maxHeartbeats 4000000 in
theorem number_7 {S : Nat → Addr} {w : World} (hs : Sent S w) (p : ByteArray) : Calls Tryz.prog 46 #[unmetV p (sentV (S 7))] w fun e w' => NumIs 7 e w w' := by
  have HS := Lib.hid hs
  have HA := Lib.hid (as_sent0 p (S 7) w hs.err)
  clear hs
  go_enter Tryz.func46, Tryz.ntmps46
  go_wp2_with fail
  refine HA.out.mono ?_
  rintro e w0 ⟨rfl, hb0⟩
  have HB0 := Lib.hid hb0
  clear hb0
  have HS1 := Lib.hid (HS.out.keep HB0.out)
  have g1 := HS1.out.e1
  go_wp2_with fail
  refine (is_no HS1.out p (k := 7) (j := 1) (by decide) (by decide) (by decide)).mono ?_
  rintro e w1 ⟨rfl, hb1⟩
  have HB1 := Lib.hid (ret_tr HB0.out hb1)
  clear g1 hb1
  have HS2 := Lib.hid (HS.out.keep HB1.out)
  have g2 := HS2.out.e2
  go_wp2_with fail
  refine (is_no HS2.out p (k := 7) (j := 2) (by decide) (by decide) (by decide)).mono ?_
  rintro e w2 ⟨rfl, hb2⟩
  have HB2 := Lib.hid (ret_tr HB1.out hb2)
  clear g2 hb2
  have HS3 := Lib.hid (HS.out.keep HB2.out)
  have g3 := HS3.out.e3
  go_wp2_with fail
  refine (is_no HS3.out p (k := 7) (j := 3) (by decide) (by decide) (by decide)).mono ?_
  rintro e w3 ⟨rfl, hb3⟩
  have HB3 := Lib.hid (ret_tr HB2.out hb3)
  clear g3 hb3
  have HS4 := Lib.hid (HS.out.keep HB3.out)
  have g4 := HS4.out.e4
  go_wp2_with fail
  refine (is_no HS4.out p (k := 7) (j := 4) (by decide) (by decide) (by decide)).mono ?_
  rintro e w4 ⟨rfl, hb4⟩
  have HB4 := Lib.hid (ret_tr HB3.out hb4)
  clear g4 hb4
  have HS5 := Lib.hid (HS.out.keep HB4.out)
  have g5 := HS5.out.e5
  go_wp2_with fail
  refine (is_no HS5.out p (k := 7) (j := 5) (by decide) (by decide) (by decide)).mono ?_
  rintro e w5 ⟨rfl, hb5⟩
  have HB5 := Lib.hid (ret_tr HB4.out hb5)
  clear g5 hb5
  have HS6 := Lib.hid (HS.out.keep HB5.out)
  have g6 := HS6.out.e6
  go_wp2_with fail
  refine (is_no HS6.out p (k := 7) (j := 6) (by decide) (by decide) (by decide)).mono ?_
  rintro e w6 ⟨rfl, hb6⟩
  have HB6 := Lib.hid (ret_tr HB5.out hb6)
  clear g6 hb6
  have HS7 := Lib.hid (HS.out.keep HB6.out)
  have g7 := HS7.out.e7
  go_wp2_with fail
  refine (is_unmet_same p (S 7) _).mono ?_
  rintro e w7 ⟨rfl, hb7⟩
  have HB7 := Lib.hid (ret_tr HB6.out hb7)
  clear g7 hb7
  go_wp2_with fail
  go_ret
  exact ⟨rfl, HB7.out⟩
set_option maxRecDepth 100000 in
set_option maxHeartbeats 4000000 in
theorem number_9 {S : Nat → Addr} {w : World} (hs : Sent S w) (p : ByteArray) : Calls Tryz.prog 46 #[unmetV p (sentV (S 9))] w fun e w' => NumIs 9 e w w' := by
  have HS := Lib.hid hs
  have HA := Lib.hid (as_sent0 p (S 9) w hs.err)
  clear hs
  go_enter Tryz.func46, Tryz.ntmps46
  go_wp2_with fail
  refine HA.out.mono ?_
  rintro e w0 ⟨rfl, hb0⟩
  have HB0 := Lib.hid hb0
  clear hb0
  have HS1 := Lib.hid (HS.out.keep HB0.out)
  have g1 := HS1.out.e1
  go_wp2_with fail
  refine (is_no HS1.out p (k := 9) (j := 1) (by decide) (by decide) (by decide)).mono ?_
  rintro e w1 ⟨rfl, hb1⟩
  have HB1 := Lib.hid (ret_tr HB0.out hb1)
  clear g1 hb1
  have HS2 := Lib.hid (HS.out.keep HB1.out)
  have g2 := HS2.out.e2
  go_wp2_with fail
  refine (is_no HS2.out p (k := 9) (j := 2) (by decide) (by decide) (by decide)).mono ?_
  rintro e w2 ⟨rfl, hb2⟩
  have HB2 := Lib.hid (ret_tr HB1.out hb2)
  clear g2 hb2
  have HS3 := Lib.hid (HS.out.keep HB2.out)
  have g3 := HS3.out.e3
  go_wp2_with fail
  refine (is_no HS3.out p (k := 9) (j := 3) (by decide) (by decide) (by decide)).mono ?_
  rintro e w3 ⟨rfl, hb3⟩
  have HB3 := Lib.hid (ret_tr HB2.out hb3)
  clear g3 hb3
  have HS4 := Lib.hid (HS.out.keep HB3.out)
  have g4 := HS4.out.e4
  go_wp2_with fail
  refine (is_no HS4.out p (k := 9) (j := 4) (by decide) (by decide) (by decide)).mono ?_
  rintro e w4 ⟨rfl, hb4⟩
  have HB4 := Lib.hid (ret_tr HB3.out hb4)
  clear g4 hb4
  have HS5 := Lib.hid (HS.out.keep HB4.out)
  have g5 := HS5.out.e5
  go_wp2_with fail
  refine (is_no HS5.out p (k := 9) (j := 5) (by decide) (by decide) (by decide)).mono ?_
  rintro e w5 ⟨rfl, hb5⟩
  have HB5 := Lib.hid (ret_tr HB4.out hb5)
  clear g5 hb5
  have HS6 := Lib.hid (HS.out.keep HB5.out)
  have g6 := HS6.out.e6
  go_wp2_with fail
  refine (is_no HS6.out p (k := 9) (j := 6) (by decide) (by decide) (by decide)).mono ?_
  rintro e w6 ⟨rfl, hb6⟩
  have HB6 := Lib.hid (ret_tr HB5.out hb6)
  clear g6 hb6
  have HS7 := Lib.hid (HS.out.keep HB6.out)
  have g7 := HS7.out.e7
  go_wp2_with fail
  refine (is_no HS7.out p (k := 9) (j := 7) (by decide) (by decide) (by decide)).mono ?_
  rintro e w7 ⟨rfl, hb7⟩
  have HB7 := Lib.hid (ret_tr HB6.out hb7)
  clear g7 hb7
  have HS8 := Lib.hid (HS.out.keep HB7.out)
  have g8 := HS8.out.e9
  go_wp2_with fail
  refine (is_unmet_same p (S 9) _).mono ?_
  rintro e w8 ⟨rfl, hb8⟩
  have HB8 := Lib.hid (ret_tr HB7.out hb8)
  clear g8 hb8
  go_wp2_with fail
  go_ret
  exact ⟨rfl, HB8.out⟩
set_option maxRecDepth 100000 in
set_option maxHeartbeats 4000000 in
theorem number_11 {S : Nat → Addr} {w : World} (hs : Sent S w) (p : ByteArray) : Calls Tryz.prog 46 #[unmetV p (sentV (S 11))] w fun e w' => NumIs 11 e w w' := by
  have HS := Lib.hid hs
  have HA := Lib.hid (as_sent0 p (S 11) w hs.err)
  clear hs
  go_enter Tryz.func46, Tryz.ntmps46
  go_wp2_with fail
  refine HA.out.mono ?_
  rintro e w0 ⟨rfl, hb0⟩
  have HB0 := Lib.hid hb0
  clear hb0
  have HS1 := Lib.hid (HS.out.keep HB0.out)
  have g1 := HS1.out.e1
  go_wp2_with fail
  refine (is_no HS1.out p (k := 11) (j := 1) (by decide) (by decide) (by decide)).mono ?_
  rintro e w1 ⟨rfl, hb1⟩
  have HB1 := Lib.hid (ret_tr HB0.out hb1)
  clear g1 hb1
  have HS2 := Lib.hid (HS.out.keep HB1.out)
  have g2 := HS2.out.e2
  go_wp2_with fail
  refine (is_no HS2.out p (k := 11) (j := 2) (by decide) (by decide) (by decide)).mono ?_
  rintro e w2 ⟨rfl, hb2⟩
  have HB2 := Lib.hid (ret_tr HB1.out hb2)
  clear g2 hb2
  have HS3 := Lib.hid (HS.out.keep HB2.out)
  have g3 := HS3.out.e3
  go_wp2_with fail
  refine (is_no HS3.out p (k := 11) (j := 3) (by decide) (by decide) (by decide)).mono ?_
  rintro e w3 ⟨rfl, hb3⟩
  have HB3 := Lib.hid (ret_tr HB2.out hb3)
  clear g3 hb3
  have HS4 := Lib.hid (HS.out.keep HB3.out)
  have g4 := HS4.out.e4
  go_wp2_with fail
  refine (is_no HS4.out p (k := 11) (j := 4) (by decide) (by decide) (by decide)).mono ?_
  rintro e w4 ⟨rfl, hb4⟩
  have HB4 := Lib.hid (ret_tr HB3.out hb4)
  clear g4 hb4
  have HS5 := Lib.hid (HS.out.keep HB4.out)
  have g5 := HS5.out.e5
  go_wp2_with fail
  refine (is_no HS5.out p (k := 11) (j := 5) (by decide) (by decide) (by decide)).mono ?_
  rintro e w5 ⟨rfl, hb5⟩
  have HB5 := Lib.hid (ret_tr HB4.out hb5)
  clear g5 hb5
  have HS6 := Lib.hid (HS.out.keep HB5.out)
  have g6 := HS6.out.e6
  go_wp2_with fail
  refine (is_no HS6.out p (k := 11) (j := 6) (by decide) (by decide) (by decide)).mono ?_
  rintro e w6 ⟨rfl, hb6⟩
  have HB6 := Lib.hid (ret_tr HB5.out hb6)
  clear g6 hb6
  have HS7 := Lib.hid (HS.out.keep HB6.out)
  have g7 := HS7.out.e7
  go_wp2_with fail
  refine (is_no HS7.out p (k := 11) (j := 7) (by decide) (by decide) (by decide)).mono ?_
  rintro e w7 ⟨rfl, hb7⟩
  have HB7 := Lib.hid (ret_tr HB6.out hb7)
  clear g7 hb7
  have HS8 := Lib.hid (HS.out.keep HB7.out)
  have g8 := HS8.out.e9
  go_wp2_with fail
  refine (is_no HS8.out p (k := 11) (j := 9) (by decide) (by decide) (by decide)).mono ?_
  rintro e w8 ⟨rfl, hb8⟩
  have HB8 := Lib.hid (ret_tr HB7.out hb8)
  clear g8 hb8
  have HS9 := Lib.hid (HS.out.keep HB8.out)
  have g9 := HS9.out.e11
  go_wp2_with fail
  refine (is_unmet_same p (S 11) _).mono ?_
  rintro e w9 ⟨rfl, hb9⟩
  have HB9 := Lib.hid (ret_tr HB8.out hb9)
  clear g9 hb9
  go_wp2_with fail
  go_ret
  exact ⟨rfl, HB9.out⟩
set_option maxRecDepth 100000 in
set_option maxHeartbeats 4000000 in
theorem number_15 {S : Nat → Addr} {w : World} (hs : Sent S w) (p : ByteArray) : Calls Tryz.prog 46 #[unmetV p (sentV (S 15))] w fun e w' => NumIs 15 e w w' := by
  have HS := Lib.hid hs
  have HA := Lib.hid (as_sent0 p (S 15) w hs.err)
  clear hs
  go_enter Tryz.func46, Tryz.ntmps46
  go_wp2_with fail
  refine HA.out.mono ?_
  rintro e w0 ⟨rfl, hb0⟩
  have HB0 := Lib.hid hb0
  clear hb0
  have HS1 := Lib.hid (HS.out.keep HB0.out)
  have g1 := HS1.out.e1
  go_wp2_with fail
  refine (is_no HS1.out p (k := 15) (j := 1) (by decide) (by decide) (by decide)).mono ?_
  rintro e w1 ⟨rfl, hb1⟩
  have HB1 := Lib.hid (ret_tr HB0.out hb1)
  clear g1 hb1
  have HS2 := Lib.hid (HS.out.keep HB1.out)
  have g2 := HS2.out.e2
  go_wp2_with fail
  refine (is_no HS2.out p (k := 15) (j := 2) (by decide) (by decide) (by decide)).mono ?_
  rintro e w2 ⟨rfl, hb2⟩
  have HB2 := Lib.hid (ret_tr HB1.out hb2)
  clear g2 hb2
  have HS3 := Lib.hid (HS.out.keep HB2.out)
  have g3 := HS3.out.e3
  go_wp2_with fail
  refine (is_no HS3.out p (k := 15) (j := 3) (by decide) (by decide) (by decide)).mono ?_
  rintro e w3 ⟨rfl, hb3⟩
  have HB3 := Lib.hid (ret_tr HB2.out hb3)
  clear g3 hb3
  have HS4 := Lib.hid (HS.out.keep HB3.out)
  have g4 := HS4.out.e4
  go_wp2_with fail
  refine (is_no HS4.out p (k := 15) (j := 4) (by decide) (by decide) (by decide)).mono ?_
  rintro e w4 ⟨rfl, hb4⟩
  have HB4 := Lib.hid (ret_tr HB3.out hb4)
  clear g4 hb4
  have HS5 := Lib.hid (HS.out.keep HB4.out)
  have g5 := HS5.out.e5
  go_wp2_with fail
  refine (is_no HS5.out p (k := 15) (j := 5) (by decide) (by decide) (by decide)).mono ?_
  rintro e w5 ⟨rfl, hb5⟩
  have HB5 := Lib.hid (ret_tr HB4.out hb5)
  clear g5 hb5
  have HS6 := Lib.hid (HS.out.keep HB5.out)
  have g6 := HS6.out.e6
  go_wp2_with fail
  refine (is_no HS6.out p (k := 15) (j := 6) (by decide) (by decide) (by decide)).mono ?_
  rintro e w6 ⟨rfl, hb6⟩
  have HB6 := Lib.hid (ret_tr HB5.out hb6)
  clear g6 hb6
  have HS7 := Lib.hid (HS.out.keep HB6.out)
  have g7 := HS7.out.e7
  go_wp2_with fail
  refine (is_no HS7.out p (k := 15) (j := 7) (by decide) (by decide) (by decide)).mono ?_
  rintro e w7 ⟨rfl, hb7⟩
  have HB7 := Lib.hid (ret_tr HB6.out hb7)
  clear g7 hb7
  have HS8 := Lib.hid (HS.out.keep HB7.out)
  have g8 := HS8.out.e9
  go_wp2_with fail
  refine (is_no HS8.out p (k := 15) (j := 9) (by decide) (by decide) (by decide)).mono ?_
  rintro e w8 ⟨rfl, hb8⟩
  have HB8 := Lib.hid (ret_tr HB7.out hb8)
  clear g8 hb8
  have HS9 := Lib.hid (HS.out.keep HB8.out)
  have g9 := HS9.out.e11
  go_wp2_with fail
  refine (is_no HS9.out p (k := 15) (j := 11) (by decide) (by decide) (by decide)).mono ?_
  rintro e w9 ⟨rfl, hb9⟩
  have HB9 := Lib.hid (ret_tr HB8.out hb9)
  clear g9 hb9
  have HS10 := Lib.hid (HS.out.keep HB9.out)
  have g10 := HS10.out.e15
  go_wp2_with fail
  refine (is_unmet_same p (S 15) _).mono ?_
  rintro e w10 ⟨rfl, hb10⟩
  have HB10 := Lib.hid (ret_tr HB9.out hb10)
  clear g10 hb10
  go_wp2_with fail
  go_ret
  exact ⟨rfl, HB10.out⟩
set_option maxRecDepth 100000 in
set_option maxHeartbeats 4000000 in
theorem number_nil {S : Nat → Addr} {w : World} (hs : Sent S w) : Calls Tryz.prog 46 #[.nilIface] w fun e w' => NumIs 0 e w w' := by
  have hs0 := hs.keep ((Below.refl _ w).alloc (Nat.le_refl _) (.cells #[.int .i64 0] 111))
  have HB : Hid (Below w.heap.size w (w.alloc (.cells #[.int .i64 0] 111))) := Lib.hid ((Below.refl _ w).alloc (Nat.le_refl _) _)
  have g1 := hs0.e1
  have g2 := hs0.e2
  have g3 := hs0.e3
  have g4 := hs0.e4
  have g5 := hs0.e5
  have g6 := hs0.e6
  have g7 := hs0.e7
  have g9 := hs0.e9
  have g11 := hs0.e11
  have g15 := hs0.e15
  clear hs0 hs
  go_enter Tryz.func46, Tryz.ntmps46
  go_wp2_with fail
  refine (as_nil _ _).mono ?_
  rintro e w' ⟨rfl, rfl⟩
  go_wp2_with fail
  refine (is_nil _ _).mono ?_
  rintro e w1 ⟨rfl, rfl⟩
  go_wp2_with fail
  refine (is_nil _ _).mono ?_
  rintro e w2 ⟨rfl, rfl⟩
  go_wp2_with fail
  refine (is_nil _ _).mono ?_
  rintro e w3 ⟨rfl, rfl⟩
  go_wp2_with fail
  refine (is_nil _ _).mono ?_
  rintro e w4 ⟨rfl, rfl⟩
  go_wp2_with fail
  refine (is_nil _ _).mono ?_
  rintro e w5 ⟨rfl, rfl⟩
  go_wp2_with fail
  refine (is_nil _ _).mono ?_
  rintro e w6 ⟨rfl, rfl⟩
  go_wp2_with fail
  refine (is_nil _ _).mono ?_
  rintro e w7 ⟨rfl, rfl⟩
  go_wp2_with fail
  refine (is_nil _ _).mono ?_
  rintro e w9 ⟨rfl, rfl⟩
  go_wp2_with fail
  refine (is_nil _ _).mono ?_
  rintro e w11 ⟨rfl, rfl⟩
  go_wp2_with fail
  refine (is_nil _ _).mono ?_
  rintro e w15 ⟨rfl, rfl⟩
  go_wp2_with fail
  go_ret
  exact ⟨rfl, HB.out⟩
set_option maxRecDepth 100000 in
set_option maxHeartbeats 4000000 in
theorem number_below {S : Nat → Addr} {w : World} (hs : Sent S w) (p : ByteArray) (n : Int) : Calls Tryz.prog 46 #[unmetV p (belowV n)] w fun e w' => NumIs n e w w' := by
  have hlt : 10 < w.heap.size := World.block_lt_of_cell? w _ hs.err
  have hA : Calls Tryz.prog 88 #[unmetV p (belowV n), .iface 141 (.pointer (some ⟨w.heap.size, 0, none⟩))] (w.alloc (.cells #[.int .i64 0] 111)) fun e w' => AsIs ⟨w.heap.size, 0, none⟩ n e (w.alloc (.cells #[.int .i64 0] 111)) w' := by
    have hg1 : (w.alloc (.cells #[.int .i64 0] 111)).cell? ⟨10, 0, none⟩ = some errTypeV := by
      rw [World.cell?_alloc_lt _ _ ⟨10, 0, none⟩ hlt]; exact hs.err
    exact as_below p n _ (.int .i64 0) _ hg1 (by simp) (by simp)
  have HA := Lib.hid hA
  clear hs hA
  go_enter Tryz.func46, Tryz.ntmps46
  go_wp2_with fail
  refine HA.out.mono ?_
  rintro e w1 ⟨rfl, hc, hgr⟩
  have hb : Below w.heap.size w w1 := ((Below.refl _ w).alloc (Nat.le_refl _) _).grown hgr (by simp) (fun k hk => by cases hk; exact Nat.le_refl _)
  clear hgr
  go_wp2_with fail
  go_ret
  exact ⟨rfl, hb⟩
theorem chg_number {S : Nat → Addr} {w : World} (hs : Sent S w) {n : Int} {v : Value} (hv : ErrIs S n v) : Calls Tryz.prog 46 #[v] w fun e w' => NumIs n e w w' := by
  rcases hv with ⟨rfl, rfl⟩ | ⟨_, p, rfl⟩ | ⟨k, hk, rfl, p, rfl⟩
  · exact number_nil hs
  · exact number_below hs p n
  · simp only [List.mem_cons, List.not_mem_nil, or_false] at hk
    rcases hk with rfl | rfl | rfl | rfl | rfl | rfl | rfl | rfl | rfl | rfl
    · exact number_1 hs p
    · exact number_2 hs p
    · exact number_3 hs p
    · exact number_4 hs p
    · exact number_5 hs p
    · exact number_6 hs p
    · exact number_7 hs p
    · exact number_9 hs p
    · exact number_11 hs p
    · exact number_15 hs p
end Go.Proofs.YtpmhmippoefcfaaGreatDoor
namespace Go.Proofs.YtpmhmippoefcfaaGreatDoor
open Go.RowKit Go.Shelf
attribute [local go_sem ↓] Go.wp_at_zero Go.wp_at_succ
/-- Where a path leads, for who. -/
structure PlaceL where
  who : Int
  path : Str
  s : SpotL
  dn : NodeL
  nn : NodeL
abbrev pcells (p : PlaceL) (vd vn : Value) : Array Value :=
  #[.int .i64 p.who, .string (bs p.path), .int .i64 p.s.dir, .string (bs p.s.name), .int .i64 p.s.ino, .bool p.s.slash, .int .i64 p.dn.kind, .int .i64 p.dn.mode, .int .i64 p.dn.owner, .int .i64 p.dn.links, .int .i64 p.dn.opn, .int .i64 p.dn.up, .string (bs p.dn.data), vd,
    .int .i64 p.nn.kind, .int .i64 p.nn.mode, .int .i64 p.nn.owner, .int .i64 p.nn.links, .int .i64 p.nn.opn, .int .i64 p.nn.up, .string (bs p.nn.data), vn]
theorem cells22 {W : World} {b : Nat} {u0 u1 u2 u3 u4 u5 u6 u7 u8 u9 u10 u11 u12 u13 u14 u15 u16 u17 u18 u19 u20 u21 : Value} {t : TypeId} {f : Nat × Nat} (h : W.heap[b]? = some (.cells #[u0, u1, u2, u3, u4, u5, u6, u7, u8, u9, u10, u11, u12, u13, u14, u15, u16, u17, u18, u19, u20, u21] t f)) :
    W.cell? ⟨b, 0, none⟩ = some u0 ∧ W.cell? ⟨b, 1, none⟩ = some u1 ∧ W.cell? ⟨b, 2, none⟩ = some u2 ∧ W.cell? ⟨b, 3, none⟩ = some u3 ∧ W.cell? ⟨b, 4, none⟩ = some u4 ∧ W.cell? ⟨b, 5, none⟩ = some u5 ∧ W.cell? ⟨b, 6, none⟩ = some u6 ∧ W.cell? ⟨b, 7, none⟩ = some u7 ∧ W.cell? ⟨b, 8, none⟩ = some u8 ∧ W.cell? ⟨b, 9, none⟩ = some u9 ∧ W.cell? ⟨b, 10, none⟩ = some u10 ∧ W.cell? ⟨b, 11, none⟩ = some u11 ∧ W.cell? ⟨b, 12, none⟩ = some u12 ∧ W.cell? ⟨b, 13, none⟩ = some u13 ∧ W.cell? ⟨b, 14, none⟩ = some u14 ∧ W.cell? ⟨b, 15, none⟩ = some u15 ∧ W.cell? ⟨b, 16, none⟩ = some u16 ∧ W.cell? ⟨b, 17, none⟩ = some u17 ∧ W.cell? ⟨b, 18, none⟩ = some u18 ∧ W.cell? ⟨b, 19, none⟩ = some u19 ∧ W.cell? ⟨b, 20, none⟩ = some u20 ∧ W.cell? ⟨b, 21, none⟩ = some u21 := by
  refine ⟨?_, ?_, ?_, ?_, ?_, ?_, ?_, ?_, ?_, ?_, ?_, ?_, ?_, ?_, ?_, ?_, ?_, ?_, ?_, ?_, ?_, ?_⟩ <;> (rw [Lib.cell_of_heap h]; rfl)
/-- What a method tells that only looks. -/
def Tells (v : Value) (e : Ending) (w w' : World) : Prop := e = .returned v ∧ Below w.heap.size w w'
def isNameB (p : PlaceL) : Bool := !dotsB p.s.name
theorem dots_nm (nm : Nm) : dotsB nm = (nm == [] || nm == [46] || nm == [46, 46]) := by
  unfold dotsB
  by_cases h1 : nm = [] <;> by_cases h2 : nm = [46] <;> by_cases h3 : nm = [46, 46] <;> simp [h1, h2, h3]
set_option maxHeartbeats 2000000 in
theorem there_any (p : PlaceL) (vd vn : Value) (w : World) : Calls Tryz.prog 65 #[.agg (pcells p vd vn)] w fun e w' => Tells (.bool (p.s.ino != -1)) e w w' := by
  go_enter Tryz.func65, Tryz.ntmps65
  go_wp2_with fail
  go_ret
  exact ⟨rfl, (Below.refl _ w).alloc (Nat.le_refl _) _⟩
set_option maxHeartbeats 2000000 in
theorem isdir_any (p : PlaceL) (vd vn : Value) (w : World) : Calls Tryz.prog 66 #[.agg (pcells p vd vn)] w fun e w' => Tells (.bool (p.nn.kind == 2)) e w w' := by
  go_enter Tryz.func66, Tryz.ntmps66
  go_wp2_with fail
  go_ret
  exact ⟨rfl, (Below.refl _ w).alloc (Nat.le_refl _) _⟩
set_option maxHeartbeats 2000000 in
theorem gone_any (p : PlaceL) (vd vn : Value) (w : World) : Calls Tryz.prog 98 #[.agg (pcells p vd vn)] w fun e w' => Tells (.bool (decide (p.dn.links < 1))) e w w' := by
  go_enter Tryz.func98, Tryz.ntmps98
  go_wp2_with fail
  go_ret
  exact ⟨rfl, (Below.refl _ w).alloc (Nat.le_refl _) _⟩
set_option maxHeartbeats 2000000 in
theorem writable_any (p : PlaceL) (vd vn : Value) (w : World) : Calls Tryz.prog 93 #[.agg (pcells p vd vn)] w fun e w' => Tells (.bool (mayB p.dn.mode p.dn.owner p.who 2)) e w w' := by
  have HM := Lib.hid fun W => may_any p.dn.mode p.dn.owner p.who 2 W
  go_enter Tryz.func93, Tryz.ntmps93
  go_wp2_with fail
  refine (HM.out _).mono ?_
  rintro e w' ⟨rfl, rfl⟩
  go_wp2_with fail
  go_ret
  exact ⟨rfl, (Below.refl _ w).alloc (Nat.le_refl _) _⟩
set_option maxHeartbeats 2000000 in
theorem isname_any (p : PlaceL) (vd vn : Value) (w : World) : Calls Tryz.prog 96 #[.agg (pcells p vd vn)] w fun e w' => Tells (.bool (isNameB p)) e w w' := by
  have HB : Hid (isNameB p = !(p.s.name == [] || p.s.name == [46] || p.s.name == [46, 46])) := Lib.hid (by unfold isNameB; rw [dots_nm])
  by_cases h1 : p.s.name = []
  · have hI : (p.s.name == []) = true := by simpa using h1
    have HI : Hid (isNameB p = false) := Lib.hid (by rw [HB.out, hI]; rfl)
    clear h1
    go_enter Tryz.func96, Tryz.ntmps96
    go_wp2_with fail
    go_ret
    exact ⟨by rw [HI.out]; rfl, (Below.refl _ w).alloc (Nat.le_refl _) _⟩
  have hI1 : (p.s.name == []) = false := by simpa using h1
  by_cases h2 : p.s.name = [46]
  · have hI : (p.s.name == [46]) = true := by simpa using h2
    have HI : Hid (isNameB p = false) := Lib.hid (by rw [HB.out, hI, Bool.or_true, Bool.true_or]; rfl)
    clear h1 h2
    go_enter Tryz.func96, Tryz.ntmps96
    go_wp2_with fail
    go_ret
    exact ⟨by rw [HI.out]; rfl, (Below.refl _ w).alloc (Nat.le_refl _) _⟩
  have hI2 : (p.s.name == [46]) = false := by simpa using h2
  by_cases h3 : p.s.name = [46, 46]
  · have hI : (p.s.name == [46, 46]) = true := by simpa using h3
    have HI : Hid (isNameB p = false) := Lib.hid (by rw [HB.out, hI, Bool.or_true]; rfl)
    clear h1 h2 h3
    go_enter Tryz.func96, Tryz.ntmps96
    go_wp2_with fail
    go_ret
    exact ⟨by rw [HI.out]; rfl, (Below.refl _ w).alloc (Nat.le_refl _) _⟩
  have hI3 : (p.s.name == [46, 46]) = false := by simpa using h3
  have HI : Hid (isNameB p = true) := Lib.hid (by rw [HB.out, hI1, hI2, hI3]; rfl)
  clear h1 h2 h3
  go_enter Tryz.func96, Tryz.ntmps96
  go_wp2_with fail
  go_ret
  exact ⟨by rw [HI.out]; rfl, (Below.refl _ w).alloc (Nat.le_refl _) _⟩
set_option maxHeartbeats 2000000 in
theorem fault_any (p : PlaceL) (vd vn : Value) (t : TypeId) (d : Value) (w : World) : Calls Tryz.prog 85 #[.agg (pcells p vd vn), .iface t d] w fun e w' => Tells (unmetV (bs p.path) (.iface t d)) e w w' := by
  go_enter Tryz.func85, Tryz.ntmps85
  go_wp2_with fail
  go_ret
  exact ⟨rfl, (Below.refl _ w).alloc (Nat.le_refl _) _⟩
end Go.Proofs.YtpmhmippoefcfaaGreatDoor
namespace Go.Proofs.YtpmhmippoefcfaaGreatDoor
open Go.RowKit Go.Shelf
attribute [local go_sem ↓] Go.wp_at_zero Go.wp_at_succ
/-- A method that tells an error. -/
def TellsE (S : Nat → Addr) (n : Int) (e : Ending) (w w' : World) : Prop := ∃ v, e = .returned v ∧ ErrIs S n v ∧ Below w.heap.size w w'
theorem TellsE.of {S : Nat → Addr} {n m : Int} {v : Value} {w w' : World} (h : m = n) (hv : ErrIs S n v) (hb : Below w.heap.size w w') : TellsE S m (.returned v) w w' := ⟨v, rfl, by rw [h]; exact hv, hb⟩
def toEnterE (p : PlaceL) (k : Int) : Int :=
  if (p.s.ino != -1) = true then 3 else if k = 1 ∧ p.s.slash = true then 5 else if k = 3 ∧ p.s.slash = true then 4 else if decide (p.dn.links < 1) = true then 2 else if mayB p.dn.mode p.dn.owner p.who 2 = false then 7 else 0
def toUnlinkE (p : PlaceL) : Int := if (p.nn.kind == 2) = true then 5 else if mayB p.dn.mode p.dn.owner p.who 2 = false then 7 else 0
def toRmdirE (p : PlaceL) : Int :=
  if (p.nn.kind == 2) = false then 4 else if (p.s.name == [46, 46]) = true then 6 else if isNameB p = false then 1 else if mayB p.dn.mode p.dn.owner p.who 2 = false then 7 else if decide (0 < p.nn.names.length) = true then 6 else 0
def toMoveE (p q : PlaceL) : Int :=
  if isNameB p = false then 1 else if isNameB q = false then 1 else if mayB p.dn.mode p.dn.owner p.who 2 = false then 7 else if mayB q.dn.mode q.dn.owner q.who 2 = false then 7 else 0
set_option maxRecDepth 100000 in
set_option maxHeartbeats 4000000 in
theorem tounlink_any {S : Nat → Addr} (p : PlaceL) (vd vn : Value) (w : World) (hs : Sent S w) : Calls Tryz.prog 56 #[.agg (pcells p vd vn)] w fun e w' => TellsE S (toUnlinkE p) e w w' := by
  have HS := Lib.hid hs
  have S0 := Lib.hid (St.start (X := fun _ => False) (G := []) (N := []) (w := w) (fun _ h => h.elim) (fun _ h => by cases h) (fun _ h => by cases h))
  clear hs
  go_enter Tryz.func56, Tryz.ntmps56
  go_upto_region 1 with (fail)
  refine code_fresh1 ?_
  intro W1 hb hA0 hs
  have S1 := Lib.hid (S0.out.new1 hb hA0)
  clear hb hA0 hs
  have h_p := (S1.out.at 0 rfl)
  go_wp2_with (first | (refine wpList_load_row rfl 93 _ rfl _ rfl 93 _ (0, 0) _ h_p Tryz.underlying93 rfl (by kernel_rfl) ?_))
  refine (isdir_any p vd vn W1).mono ?_
  rintro e W2 ⟨rfl, hb⟩
  clear h_p
  have S2 := Lib.hid (S1.out.call hb)
  clear hb
  cases h1 : (p.nn.kind == 2) with
  | true =>
    have HE := Lib.hid (show toUnlinkE p = 5 by simp [toUnlinkE, h1])
    have h_p := (S2.out.at 0 rfl)
    have g5 := (HS.out.keep S2.out.bel).e5
    go_wp2_with (first | (refine wpList_load_row rfl 93 _ rfl _ rfl 93 _ (0, 0) _ h_p Tryz.underlying93 rfl (by kernel_rfl) ?_))
    refine (fault_any p vd vn _ _ W2).mono ?_
    rintro e W3 ⟨rfl, hb⟩
    go_wp2_with fail
    go_ret
    exact TellsE.of HE.out (ErrIs.sent 5 (by decide) _) (S2.out.call hb).bel
  | false =>
    have h_p := (S2.out.at 0 rfl)
    go_wp2_with (first | (refine wpList_load_row rfl 93 _ rfl _ rfl 93 _ (0, 0) _ h_p Tryz.underlying93 rfl (by kernel_rfl) ?_))
    refine (writable_any p vd vn W2).mono ?_
    rintro e W3 ⟨rfl, hb⟩
    clear h_p
    have S3 := Lib.hid (S2.out.call hb)
    clear hb
    cases h2 : mayB p.dn.mode p.dn.owner p.who 2 with
    | false =>
      have HE := Lib.hid (show toUnlinkE p = 7 by simp [toUnlinkE, h1, h2])
      have h_p := (S3.out.at 0 rfl)
      have g7 := (HS.out.keep S3.out.bel).e7
      go_wp2_with (first | (refine wpList_load_row rfl 93 _ rfl _ rfl 93 _ (0, 0) _ h_p Tryz.underlying93 rfl (by kernel_rfl) ?_))
      refine (fault_any p vd vn _ _ W3).mono ?_
      rintro e W4 ⟨rfl, hb⟩
      go_wp2_with fail
      go_ret
      exact TellsE.of HE.out (ErrIs.sent 7 (by decide) _) (S3.out.call hb).bel
    | true =>
      have HE := Lib.hid (show toUnlinkE p = 0 by simp [toUnlinkE, h1, h2])
      go_wp2_with fail
      go_ret
      exact TellsE.of HE.out ErrIs.nil S3.out.bel
set_option maxRecDepth 100000 in
set_option maxHeartbeats 4000000 in
theorem tormdir_any {S : Nat → Addr} (p : PlaceL) (vd : Value) (aon : Option Addr) (capn : Nat) (w : World) (hs : Sent S w) : Calls Tryz.prog 61 #[.agg (pcells p vd (.slice aon p.nn.names.length capn))] w fun e w' => TellsE S (toRmdirE p) e w w' := by
  have HS := Lib.hid hs
  have S0 := Lib.hid (St.start (X := fun _ => False) (G := []) (N := []) (w := w) (fun _ h => h.elim) (fun _ h => by cases h) (fun _ h => by cases h))
  clear hs
  go_enter Tryz.func61, Tryz.ntmps61
  go_upto_region 1 with (fail)
  refine code_fresh1 ?_
  intro W1 hb hA0 hs
  have S1 := Lib.hid (S0.out.new1 hb hA0)
  clear hb hA0 hs
  have h_p := (S1.out.at 0 rfl)
  go_wp2_with (first | (refine wpList_load_row rfl 93 _ rfl _ rfl 93 _ (0, 0) _ h_p Tryz.underlying93 rfl (by kernel_rfl) ?_))
  refine (isdir_any p vd (.slice aon p.nn.names.length capn) W1).mono ?_
  rintro e W2 ⟨rfl, hb⟩
  clear h_p
  have S2 := Lib.hid (S1.out.call hb)
  clear hb
  cases h1 : (p.nn.kind == 2) with
  | false =>
    have HE := Lib.hid (show toRmdirE p = 4 by simp [toRmdirE, h1])
    have h_p := (S2.out.at 0 rfl)
    have g4 := (HS.out.keep S2.out.bel).e4
    go_wp2_with (first | (refine wpList_load_row rfl 93 _ rfl _ rfl 93 _ (0, 0) _ h_p Tryz.underlying93 rfl (by kernel_rfl) ?_))
    refine (fault_any p vd (.slice aon p.nn.names.length capn) _ _ W2).mono ?_
    rintro e W3 ⟨rfl, hb⟩
    go_wp2_with fail
    go_ret
    exact TellsE.of HE.out (ErrIs.sent 4 (by decide) _) (S2.out.call hb).bel
  | true =>
    obtain ⟨-, -, -, p3, -, -, -, -, -, -, -, -, -, -, -, -, -, -, -, -, -, -⟩ := cells22 (S2.out.at 0 rfl)
    cases h2 : (p.s.name == [46, 46]) with
    | true =>
      have HE := Lib.hid (show toRmdirE p = 6 by simp [toRmdirE, h1, h2])
      have h_p := (S2.out.at 0 rfl)
      have g6 := (HS.out.keep S2.out.bel).e6
      go_wp2_with (first | (refine wpList_load_row rfl 93 _ rfl _ rfl 93 _ (0, 0) _ h_p Tryz.underlying93 rfl (by kernel_rfl) ?_))
      refine (fault_any p vd (.slice aon p.nn.names.length capn) _ _ W2).mono ?_
      rintro e W3 ⟨rfl, hb⟩
      go_wp2_with fail
      go_ret
      exact TellsE.of HE.out (ErrIs.sent 6 (by decide) _) (S2.out.call hb).bel
    | false =>
      have h_p := (S2.out.at 0 rfl)
      go_wp2_with (first | (refine wpList_load_row rfl 93 _ rfl _ rfl 93 _ (0, 0) _ h_p Tryz.underlying93 rfl (by kernel_rfl) ?_))
      refine (isname_any p vd (.slice aon p.nn.names.length capn) W2).mono ?_
      rintro e W3 ⟨rfl, hb⟩
      clear p3 h_p
      have S3 := Lib.hid (S2.out.call hb)
      clear hb
      cases h3 : isNameB p with
      | false =>
        have HE := Lib.hid (show toRmdirE p = 1 by simp [toRmdirE, h1, h2, h3])
        have h_p := (S3.out.at 0 rfl)
        have g1 := (HS.out.keep S3.out.bel).e1
        go_wp2_with (first | (refine wpList_load_row rfl 93 _ rfl _ rfl 93 _ (0, 0) _ h_p Tryz.underlying93 rfl (by kernel_rfl) ?_))
        refine (fault_any p vd (.slice aon p.nn.names.length capn) _ _ W3).mono ?_
        rintro e W4 ⟨rfl, hb⟩
        go_wp2_with fail
        go_ret
        exact TellsE.of HE.out (ErrIs.sent 1 (by decide) _) (S3.out.call hb).bel
      | true =>
        have h_p := (S3.out.at 0 rfl)
        go_wp2_with (first | (refine wpList_load_row rfl 93 _ rfl _ rfl 93 _ (0, 0) _ h_p Tryz.underlying93 rfl (by kernel_rfl) ?_))
        refine (writable_any p vd (.slice aon p.nn.names.length capn) W3).mono ?_
        rintro e W4 ⟨rfl, hb⟩
        clear h_p
        have S4 := Lib.hid (S3.out.call hb)
        clear hb
        cases h4 : mayB p.dn.mode p.dn.owner p.who 2 with
        | false =>
          have HE := Lib.hid (show toRmdirE p = 7 by simp [toRmdirE, h1, h2, h3, h4])
          have h_p := (S4.out.at 0 rfl)
          have g7 := (HS.out.keep S4.out.bel).e7
          go_wp2_with (first | (refine wpList_load_row rfl 93 _ rfl _ rfl 93 _ (0, 0) _ h_p Tryz.underlying93 rfl (by kernel_rfl) ?_))
          refine (fault_any p vd (.slice aon p.nn.names.length capn) _ _ W4).mono ?_
          rintro e W5 ⟨rfl, hb⟩
          go_wp2_with fail
          go_ret
          exact TellsE.of HE.out (ErrIs.sent 7 (by decide) _) (S4.out.call hb).bel
        | true =>
          obtain ⟨-, -, -, -, -, -, -, -, -, -, -, -, -, -, -, -, -, -, -, -, -, p21⟩ := cells22 (S4.out.at 0 rfl)
          cases h5 : decide (0 < p.nn.names.length) with
          | true =>
            have HE := Lib.hid (show toRmdirE p = 6 by (unfold toRmdirE; rw [h1, h2, h3, h4, h5]; rfl))
            have h_p := (S4.out.at 0 rfl)
            have g6 := (HS.out.keep S4.out.bel).e6
            go_wp2_with (first | (refine wpList_load_row rfl 93 _ rfl _ rfl 93 _ (0, 0) _ h_p Tryz.underlying93 rfl (by kernel_rfl) ?_))
            refine (fault_any p vd (.slice aon p.nn.names.length capn) _ _ W4).mono ?_
            rintro e W5 ⟨rfl, hb⟩
            go_wp2_with fail
            go_ret
            exact TellsE.of HE.out (ErrIs.sent 6 (by decide) _) (S4.out.call hb).bel
          | false =>
            have HE := Lib.hid (show toRmdirE p = 0 by (unfold toRmdirE; rw [h1, h2, h3, h4, h5]; rfl))
            go_wp2_with fail
            go_ret
            exact TellsE.of HE.out ErrIs.nil S4.out.bel
set_option maxRecDepth 100000 in
set_option maxHeartbeats 4000000 in
theorem tomove_any {S : Nat → Addr} (p q : PlaceL) (vd vn ud un : Value) (w : World) (hs : Sent S w) : Calls Tryz.prog 97 #[.agg (pcells p vd vn), .agg (pcells q ud un)] w fun e w' => TellsE S (toMoveE p q) e w w' := by
  have HS := Lib.hid hs
  have S0 := Lib.hid (St.start (X := fun _ => False) (G := []) (N := []) (w := w) (fun _ h => h.elim) (fun _ h => by cases h) (fun _ h => by cases h))
  clear hs
  go_enter Tryz.func97, Tryz.ntmps97
  go_upto_region 1 with (fail)
  refine code_fresh2 ?_
  intro W1 hb hA0 hA1 hs
  have S1 := Lib.hid (S0.out.new2 hb hA0 hA1)
  clear hb hA0 hA1 hs
  have h_p := (S1.out.at 0 rfl)
  go_wp2_with (first | (refine wpList_load_row rfl 93 _ rfl _ rfl 93 _ (0, 0) _ h_p Tryz.underlying93 rfl (by kernel_rfl) ?_))
  refine (isname_any p vd vn W1).mono ?_
  rintro e W2 ⟨rfl, hb⟩
  clear h_p
  have S2 := Lib.hid (S1.out.call hb)
  clear hb
  cases h1 : isNameB p with
  | false =>
    have HE := Lib.hid (show toMoveE p q = 1 by simp [toMoveE, h1])
    have h_p := (S2.out.at 0 rfl)
    have g1 := (HS.out.keep S2.out.bel).e1
    go_wp2_with (first | (refine wpList_load_row rfl 93 _ rfl _ rfl 93 _ (0, 0) _ h_p Tryz.underlying93 rfl (by kernel_rfl) ?_))
    refine (fault_any p vd vn _ _ W2).mono ?_
    rintro e W3 ⟨rfl, hb⟩
    go_wp2_with fail
    go_ret
    exact TellsE.of HE.out (ErrIs.sent 1 (by decide) _) (S2.out.call hb).bel
  | true =>
    have h_q := (S2.out.at 1 rfl)
    go_wp2_with (first | (refine wpList_load_row rfl 93 _ rfl _ rfl 93 _ (0, 0) _ h_q Tryz.underlying93 rfl (by kernel_rfl) ?_))
    refine (isname_any q ud un W2).mono ?_
    rintro e W3 ⟨rfl, hb⟩
    clear h_q
    have S3 := Lib.hid (S2.out.call hb)
    clear hb
    cases h2 : isNameB q with
    | false =>
      have HE := Lib.hid (show toMoveE p q = 1 by simp [toMoveE, h1, h2])
      have h_q := (S3.out.at 1 rfl)
      have g1 := (HS.out.keep S3.out.bel).e1
      go_wp2_with (first | (refine wpList_load_row rfl 93 _ rfl _ rfl 93 _ (0, 0) _ h_q Tryz.underlying93 rfl (by kernel_rfl) ?_))
      refine (fault_any q ud un _ _ W3).mono ?_
      rintro e W4 ⟨rfl, hb⟩
      go_wp2_with fail
      go_ret
      exact TellsE.of HE.out (ErrIs.sent 1 (by decide) _) (S3.out.call hb).bel
    | true =>
      have h_p := (S3.out.at 0 rfl)
      go_wp2_with (first | (refine wpList_load_row rfl 93 _ rfl _ rfl 93 _ (0, 0) _ h_p Tryz.underlying93 rfl (by kernel_rfl) ?_))
      refine (writable_any p vd vn W3).mono ?_
      rintro e W4 ⟨rfl, hb⟩
      clear h_p
      have S4 := Lib.hid (S3.out.call hb)
      clear hb
      cases h3 : mayB p.dn.mode p.dn.owner p.who 2 with
      | false =>
        have HE := Lib.hid (show toMoveE p q = 7 by simp [toMoveE, h1, h2, h3])
        have h_p := (S4.out.at 0 rfl)
        have g7 := (HS.out.keep S4.out.bel).e7
        go_wp2_with (first | (refine wpList_load_row rfl 93 _ rfl _ rfl 93 _ (0, 0) _ h_p Tryz.underlying93 rfl (by kernel_rfl) ?_))
        refine (fault_any p vd vn _ _ W4).mono ?_
        rintro e W5 ⟨rfl, hb⟩
        go_wp2_with fail
        go_ret
        exact TellsE.of HE.out (ErrIs.sent 7 (by decide) _) (S4.out.call hb).bel
      | true =>
        have h_q := (S4.out.at 1 rfl)
        go_wp2_with (first | (refine wpList_load_row rfl 93 _ rfl _ rfl 93 _ (0, 0) _ h_q Tryz.underlying93 rfl (by kernel_rfl) ?_))
        refine (writable_any q ud un W4).mono ?_
        rintro e W5 ⟨rfl, hb⟩
        clear h_q
        have S5 := Lib.hid (S4.out.call hb)
        clear hb
        cases h4 : mayB q.dn.mode q.dn.owner q.who 2 with
        | false =>
          have HE := Lib.hid (show toMoveE p q = 7 by simp [toMoveE, h1, h2, h3, h4])
          have h_q := (S5.out.at 1 rfl)
          have g7 := (HS.out.keep S5.out.bel).e7
          go_wp2_with (first | (refine wpList_load_row rfl 93 _ rfl _ rfl 93 _ (0, 0) _ h_q Tryz.underlying93 rfl (by kernel_rfl) ?_))
          refine (fault_any q ud un _ _ W5).mono ?_
          rintro e W6 ⟨rfl, hb⟩
          go_wp2_with fail
          go_ret
          exact TellsE.of HE.out (ErrIs.sent 7 (by decide) _) (S5.out.call hb).bel
        | true =>
          have HE := Lib.hid (show toMoveE p q = 0 by simp [toMoveE, h1, h2, h3, h4])
          go_wp2_with fail
          go_ret
          exact TellsE.of HE.out ErrIs.nil S5.out.bel
set_option maxRecDepth 100000 in
set_option maxHeartbeats 4000000 in
theorem toenter1_any {S : Nat → Addr} (p : PlaceL) (vd vn : Value) (w : World) (hs : Sent S w) : Calls Tryz.prog 83 #[.agg (pcells p vd vn), .int .i64 1] w fun e w' => TellsE S (toEnterE p 1) e w w' := by
  have HS := Lib.hid hs
  have S0 := Lib.hid (St.start (X := fun _ => False) (G := []) (N := []) (w := w) (fun _ h => h.elim) (fun _ h => by cases h) (fun _ h => by cases h))
  clear hs
  go_enter Tryz.func83, Tryz.ntmps83
  go_upto_region 1 with (fail)
  refine code_fresh1 ?_
  intro W1 hb hA0 hs
  have S1 := Lib.hid (S0.out.new1 hb hA0)
  clear hb hA0 hs
  have h_p := (S1.out.at 0 rfl)
  go_wp2_with (first | (refine wpList_load_row rfl 93 _ rfl _ rfl 93 _ (0, 0) _ h_p Tryz.underlying93 rfl (by kernel_rfl) ?_))
  refine (there_any p vd vn W1).mono ?_
  rintro e W2 ⟨rfl, hb⟩
  clear h_p
  have S2 := Lib.hid (S1.out.call hb)
  clear hb
  cases h1 : (p.s.ino != -1) with
  | true =>
    have HE := Lib.hid (show toEnterE p 1 = 3 by simp [toEnterE, h1])
    have h_p := (S2.out.at 0 rfl)
    have g3 := (HS.out.keep S2.out.bel).e3
    go_wp2_with (first | (refine wpList_load_row rfl 93 _ rfl _ rfl 93 _ (0, 0) _ h_p Tryz.underlying93 rfl (by kernel_rfl) ?_))
    refine (fault_any p vd vn _ _ W2).mono ?_
    rintro e W3 ⟨rfl, hb⟩
    go_wp2_with fail
    go_ret
    exact TellsE.of HE.out (ErrIs.sent 3 (by decide) _) (S2.out.call hb).bel
  | false =>
    cases h2 : p.s.slash with
    | true =>
      obtain ⟨-, -, -, -, -, p5, -, -, -, -, -, -, -, -, -, -, -, -, -, -, -, -⟩ := cells22 (S2.out.at 0 rfl)
      rw [h2] at p5
      have HE := Lib.hid (show toEnterE p 1 = 5 by simp [toEnterE, h1, h2])
      have h_p := (S2.out.at 0 rfl)
      have g5 := (HS.out.keep S2.out.bel).e5
      go_wp2_with (first | (refine wpList_load_row rfl 93 _ rfl _ rfl 93 _ (0, 0) _ h_p Tryz.underlying93 rfl (by kernel_rfl) ?_))
      refine (fault_any p vd vn _ _ W2).mono ?_
      rintro e W3 ⟨rfl, hb⟩
      go_wp2_with fail
      go_ret
      exact TellsE.of HE.out (ErrIs.sent 5 (by decide) _) (S2.out.call hb).bel
    | false =>
      obtain ⟨-, -, -, -, -, p5, -, -, -, -, -, -, -, -, -, -, -, -, -, -, -, -⟩ := cells22 (S2.out.at 0 rfl)
      rw [h2] at p5
      have h_p := (S2.out.at 0 rfl)
      go_wp2_with (first | (refine wpList_load_row rfl 93 _ rfl _ rfl 93 _ (0, 0) _ h_p Tryz.underlying93 rfl (by kernel_rfl) ?_))
      refine (gone_any p vd vn W2).mono ?_
      rintro e W3 ⟨rfl, hb⟩
      clear p5 h_p
      have S3 := Lib.hid (S2.out.call hb)
      clear hb
      cases h3 : decide (p.dn.links < 1) with
      | true =>
        have HE := Lib.hid (show toEnterE p 1 = 2 by (unfold toEnterE; rw [h1, h2, h3]; simp))
        have h_p := (S3.out.at 0 rfl)
        have g2 := (HS.out.keep S3.out.bel).e2
        go_wp2_with (first | (refine wpList_load_row rfl 93 _ rfl _ rfl 93 _ (0, 0) _ h_p Tryz.underlying93 rfl (by kernel_rfl) ?_))
        refine (fault_any p vd vn _ _ W3).mono ?_
        rintro e W4 ⟨rfl, hb⟩
        go_wp2_with fail
        go_ret
        exact TellsE.of HE.out (ErrIs.sent 2 (by decide) _) (S3.out.call hb).bel
      | false =>
        have h_p := (S3.out.at 0 rfl)
        go_wp2_with (first | (refine wpList_load_row rfl 93 _ rfl _ rfl 93 _ (0, 0) _ h_p Tryz.underlying93 rfl (by kernel_rfl) ?_))
        refine (writable_any p vd vn W3).mono ?_
        rintro e W4 ⟨rfl, hb⟩
        clear h_p
        have S4 := Lib.hid (S3.out.call hb)
        clear hb
        cases h4 : mayB p.dn.mode p.dn.owner p.who 2 with
        | false =>
          have HE := Lib.hid (show toEnterE p 1 = 7 by (unfold toEnterE; rw [h1, h2, h3, h4]; simp))
          have h_p := (S4.out.at 0 rfl)
          have g7 := (HS.out.keep S4.out.bel).e7
          go_wp2_with (first | (refine wpList_load_row rfl 93 _ rfl _ rfl 93 _ (0, 0) _ h_p Tryz.underlying93 rfl (by kernel_rfl) ?_))
          refine (fault_any p vd vn _ _ W4).mono ?_
          rintro e W5 ⟨rfl, hb⟩
          go_wp2_with fail
          go_ret
          exact TellsE.of HE.out (ErrIs.sent 7 (by decide) _) (S4.out.call hb).bel
        | true =>
          have HE := Lib.hid (show toEnterE p 1 = 0 by (unfold toEnterE; rw [h1, h2, h3, h4]; simp))
          go_wp2_with fail
          go_ret
          exact TellsE.of HE.out ErrIs.nil S4.out.bel
set_option maxRecDepth 100000 in
set_option maxHeartbeats 4000000 in
theorem toenter2_any {S : Nat → Addr} (p : PlaceL) (vd vn : Value) (w : World) (hs : Sent S w) : Calls Tryz.prog 83 #[.agg (pcells p vd vn), .int .i64 2] w fun e w' => TellsE S (toEnterE p 2) e w w' := by
  have HS := Lib.hid hs
  have S0 := Lib.hid (St.start (X := fun _ => False) (G := []) (N := []) (w := w) (fun _ h => h.elim) (fun _ h => by cases h) (fun _ h => by cases h))
  clear hs
  go_enter Tryz.func83, Tryz.ntmps83
  go_upto_region 1 with (fail)
  refine code_fresh1 ?_
  intro W1 hb hA0 hs
  have S1 := Lib.hid (S0.out.new1 hb hA0)
  clear hb hA0 hs
  have h_p := (S1.out.at 0 rfl)
  go_wp2_with (first | (refine wpList_load_row rfl 93 _ rfl _ rfl 93 _ (0, 0) _ h_p Tryz.underlying93 rfl (by kernel_rfl) ?_))
  refine (there_any p vd vn W1).mono ?_
  rintro e W2 ⟨rfl, hb⟩
  clear h_p
  have S2 := Lib.hid (S1.out.call hb)
  clear hb
  cases h1 : (p.s.ino != -1) with
  | true =>
    have HE := Lib.hid (show toEnterE p 2 = 3 by simp [toEnterE, h1])
    have h_p := (S2.out.at 0 rfl)
    have g3 := (HS.out.keep S2.out.bel).e3
    go_wp2_with (first | (refine wpList_load_row rfl 93 _ rfl _ rfl 93 _ (0, 0) _ h_p Tryz.underlying93 rfl (by kernel_rfl) ?_))
    refine (fault_any p vd vn _ _ W2).mono ?_
    rintro e W3 ⟨rfl, hb⟩
    go_wp2_with fail
    go_ret
    exact TellsE.of HE.out (ErrIs.sent 3 (by decide) _) (S2.out.call hb).bel
  | false =>
    have h_p := (S2.out.at 0 rfl)
    go_wp2_with (first | (refine wpList_load_row rfl 93 _ rfl _ rfl 93 _ (0, 0) _ h_p Tryz.underlying93 rfl (by kernel_rfl) ?_))
    refine (gone_any p vd vn W2).mono ?_
    rintro e W3 ⟨rfl, hb⟩
    clear h_p
    have S3 := Lib.hid (S2.out.call hb)
    clear hb
    cases h3 : decide (p.dn.links < 1) with
    | true =>
      have HE := Lib.hid (show toEnterE p 2 = 2 by (unfold toEnterE; rw [h1, h3]; simp))
      have h_p := (S3.out.at 0 rfl)
      have g2 := (HS.out.keep S3.out.bel).e2
      go_wp2_with (first | (refine wpList_load_row rfl 93 _ rfl _ rfl 93 _ (0, 0) _ h_p Tryz.underlying93 rfl (by kernel_rfl) ?_))
      refine (fault_any p vd vn _ _ W3).mono ?_
      rintro e W4 ⟨rfl, hb⟩
      go_wp2_with fail
      go_ret
      exact TellsE.of HE.out (ErrIs.sent 2 (by decide) _) (S3.out.call hb).bel
    | false =>
      have h_p := (S3.out.at 0 rfl)
      go_wp2_with (first | (refine wpList_load_row rfl 93 _ rfl _ rfl 93 _ (0, 0) _ h_p Tryz.underlying93 rfl (by kernel_rfl) ?_))
      refine (writable_any p vd vn W3).mono ?_
      rintro e W4 ⟨rfl, hb⟩
      clear h_p
      have S4 := Lib.hid (S3.out.call hb)
      clear hb
      cases h4 : mayB p.dn.mode p.dn.owner p.who 2 with
      | false =>
        have HE := Lib.hid (show toEnterE p 2 = 7 by (unfold toEnterE; rw [h1, h3, h4]; simp))
        have h_p := (S4.out.at 0 rfl)
        have g7 := (HS.out.keep S4.out.bel).e7
        go_wp2_with (first | (refine wpList_load_row rfl 93 _ rfl _ rfl 93 _ (0, 0) _ h_p Tryz.underlying93 rfl (by kernel_rfl) ?_))
        refine (fault_any p vd vn _ _ W4).mono ?_
        rintro e W5 ⟨rfl, hb⟩
        go_wp2_with fail
        go_ret
        exact TellsE.of HE.out (ErrIs.sent 7 (by decide) _) (S4.out.call hb).bel
      | true =>
        have HE := Lib.hid (show toEnterE p 2 = 0 by (unfold toEnterE; rw [h1, h3, h4]; simp))
        go_wp2_with fail
        go_ret
        exact TellsE.of HE.out ErrIs.nil S4.out.bel
set_option maxRecDepth 100000 in
set_option maxHeartbeats 4000000 in
theorem toenter3_any {S : Nat → Addr} (p : PlaceL) (vd vn : Value) (w : World) (hs : Sent S w) : Calls Tryz.prog 83 #[.agg (pcells p vd vn), .int .i64 3] w fun e w' => TellsE S (toEnterE p 3) e w w' := by
  have HS := Lib.hid hs
  have S0 := Lib.hid (St.start (X := fun _ => False) (G := []) (N := []) (w := w) (fun _ h => h.elim) (fun _ h => by cases h) (fun _ h => by cases h))
  clear hs
  go_enter Tryz.func83, Tryz.ntmps83
  go_upto_region 1 with (fail)
  refine code_fresh1 ?_
  intro W1 hb hA0 hs
  have S1 := Lib.hid (S0.out.new1 hb hA0)
  clear hb hA0 hs
  have h_p := (S1.out.at 0 rfl)
  go_wp2_with (first | (refine wpList_load_row rfl 93 _ rfl _ rfl 93 _ (0, 0) _ h_p Tryz.underlying93 rfl (by kernel_rfl) ?_))
  refine (there_any p vd vn W1).mono ?_
  rintro e W2 ⟨rfl, hb⟩
  clear h_p
  have S2 := Lib.hid (S1.out.call hb)
  clear hb
  cases h1 : (p.s.ino != -1) with
  | true =>
    have HE := Lib.hid (show toEnterE p 3 = 3 by simp [toEnterE, h1])
    have h_p := (S2.out.at 0 rfl)
    have g3 := (HS.out.keep S2.out.bel).e3
    go_wp2_with (first | (refine wpList_load_row rfl 93 _ rfl _ rfl 93 _ (0, 0) _ h_p Tryz.underlying93 rfl (by kernel_rfl) ?_))
    refine (fault_any p vd vn _ _ W2).mono ?_
    rintro e W3 ⟨rfl, hb⟩
    go_wp2_with fail
    go_ret
    exact TellsE.of HE.out (ErrIs.sent 3 (by decide) _) (S2.out.call hb).bel
  | false =>
    cases h2 : p.s.slash with
    | true =>
      obtain ⟨-, -, -, -, -, p5, -, -, -, -, -, -, -, -, -, -, -, -, -, -, -, -⟩ := cells22 (S2.out.at 0 rfl)
      rw [h2] at p5
      have HE := Lib.hid (show toEnterE p 3 = 4 by simp [toEnterE, h1, h2])
      have h_p := (S2.out.at 0 rfl)
      have g4 := (HS.out.keep S2.out.bel).e4
      go_wp2_with (first | (refine wpList_load_row rfl 93 _ rfl _ rfl 93 _ (0, 0) _ h_p Tryz.underlying93 rfl (by kernel_rfl) ?_))
      refine (fault_any p vd vn _ _ W2).mono ?_
      rintro e W3 ⟨rfl, hb⟩
      go_wp2_with fail
      go_ret
      exact TellsE.of HE.out (ErrIs.sent 4 (by decide) _) (S2.out.call hb).bel
    | false =>
      obtain ⟨-, -, -, -, -, p5, -, -, -, -, -, -, -, -, -, -, -, -, -, -, -, -⟩ := cells22 (S2.out.at 0 rfl)
      rw [h2] at p5
      have h_p := (S2.out.at 0 rfl)
      go_wp2_with (first | (refine wpList_load_row rfl 93 _ rfl _ rfl 93 _ (0, 0) _ h_p Tryz.underlying93 rfl (by kernel_rfl) ?_))
      refine (gone_any p vd vn W2).mono ?_
      rintro e W3 ⟨rfl, hb⟩
      clear p5 h_p
      have S3 := Lib.hid (S2.out.call hb)
      clear hb
      cases h3 : decide (p.dn.links < 1) with
      | true =>
        have HE := Lib.hid (show toEnterE p 3 = 2 by (unfold toEnterE; rw [h1, h2, h3]; simp))
        have h_p := (S3.out.at 0 rfl)
        have g2 := (HS.out.keep S3.out.bel).e2
        go_wp2_with (first | (refine wpList_load_row rfl 93 _ rfl _ rfl 93 _ (0, 0) _ h_p Tryz.underlying93 rfl (by kernel_rfl) ?_))
        refine (fault_any p vd vn _ _ W3).mono ?_
        rintro e W4 ⟨rfl, hb⟩
        go_wp2_with fail
        go_ret
        exact TellsE.of HE.out (ErrIs.sent 2 (by decide) _) (S3.out.call hb).bel
      | false =>
        have h_p := (S3.out.at 0 rfl)
        go_wp2_with (first | (refine wpList_load_row rfl 93 _ rfl _ rfl 93 _ (0, 0) _ h_p Tryz.underlying93 rfl (by kernel_rfl) ?_))
        refine (writable_any p vd vn W3).mono ?_
        rintro e W4 ⟨rfl, hb⟩
        clear h_p
        have S4 := Lib.hid (S3.out.call hb)
        clear hb
        cases h4 : mayB p.dn.mode p.dn.owner p.who 2 with
        | false =>
          have HE := Lib.hid (show toEnterE p 3 = 7 by (unfold toEnterE; rw [h1, h2, h3, h4]; simp))
          have h_p := (S4.out.at 0 rfl)
          have g7 := (HS.out.keep S4.out.bel).e7
          go_wp2_with (first | (refine wpList_load_row rfl 93 _ rfl _ rfl 93 _ (0, 0) _ h_p Tryz.underlying93 rfl (by kernel_rfl) ?_))
          refine (fault_any p vd vn _ _ W4).mono ?_
          rintro e W5 ⟨rfl, hb⟩
          go_wp2_with fail
          go_ret
          exact TellsE.of HE.out (ErrIs.sent 7 (by decide) _) (S4.out.call hb).bel
        | true =>
          have HE := Lib.hid (show toEnterE p 3 = 0 by (unfold toEnterE; rw [h1, h2, h3, h4]; simp))
          go_wp2_with fail
          go_ret
          exact TellsE.of HE.out ErrIs.nil S4.out.bel
end Go.Proofs.YtpmhmippoefcfaaGreatDoor
namespace Go.Proofs.YtpmhmippoefcfaaGreatDoor
open Go.RowKit Go.Shelf
attribute [local go_sem ↓] Go.wp_at_zero Go.wp_at_succ
def climbI (l : List NodeL) (top : Int) : Nat → Int → Int
  | 0, i => i
  | f + 1, i => if i = top ∨ i = 0 then i else climbI l top f (nodeL l i).up
def withinQ (l : List NodeL) (i top : Int) : Bool := decide (climbI l top (usedL l) i = top)
theorem rootR_got {l : List NodeL} {f : Nat} {i : Int} (h : rootR l (f + 1) i = true) (h0 : i ≠ 0) : rootR l f (nodeL l i).up = true := by
  rcases rootR_up h with e | ⟨hg, _, h2⟩
  · exact absurd e h0
  · unfold nodeL; rw [if_pos hg]; exact h2
theorem climb_beneath {l : List NodeL} (top : Int) : ∀ (f : Nat) (i : Int), rootR l f i = true → decide (climbI l top f i = top) = beneathL l f i top := by
  intro f
  induction f with
  | zero => intro i h; cases h
  | succ f ih =>
    intro i h
    unfold climbI beneathL
    by_cases h1 : i = top
    · rw [if_pos (.inl h1), if_pos h1]; exact decide_eq_true h1
    · by_cases h2 : i = 0
      · rw [if_pos (.inr h2), if_neg h1, if_pos h2]; exact decide_eq_false h1
      · rw [if_neg (by simp [h1, h2]), if_neg h1, if_neg h2]
        exact ih _ (rootR_got h h2)
theorem beneath_more {l : List NodeL} (top : Int) : ∀ (f : Nat) (i : Int), rootR l f i = true → ∀ d, beneathL l (f + d) i top = beneathL l f i top := by
  intro f
  induction f with
  | zero => intro i h; cases h
  | succ f ih =>
    intro i h d
    rw [show f + 1 + d = (f + d) + 1 by omega]
    unfold beneathL
    by_cases h1 : i = top
    · rw [if_pos h1, if_pos h1]
    · by_cases h2 : i = 0
      · rw [if_neg h1, if_neg h1, if_pos h2, if_pos h2]
      · rw [if_neg h1, if_neg h1, if_neg h2, if_neg h2]
        exact ih _ (rootR_got h h2) d
theorem nodup_le : ∀ (L M : List Nat), L.Nodup → (∀ x ∈ L, x ∈ M) → L.length ≤ M.length
  | [], _, _, _ => Nat.zero_le _
  | x :: L, M, hn, hs => by
    have hx := hs x List.mem_cons_self
    have h1 := nodup_le L (M.erase x) (List.nodup_cons.1 hn).2 fun y hy => (List.mem_erase_of_ne (fun e => (List.nodup_cons.1 hn).1 (by rw [← e]; exact hy))).2 (hs y (List.mem_cons_of_mem _ hy))
    rw [List.length_erase_of_mem hx] at h1
    have := List.length_pos_of_mem hx
    rw [List.length_cons]
    omega
theorem used_filter (l : List NodeL) : ((List.range l.length).filter fun k => !decide ((nd l k).kind = 0)).length = usedL l := by
  unfold usedL
  rw [← List.countP_eq_length_filter]
  have h : l = (List.range l.length).map (nd l) := by
    apply List.ext_getElem (by simp)
    intro k h1 h2
    simp [nd_lt h1]
  conv => rhs; rw [h]
  rw [List.countP_map]
  rfl
theorem rooted_used {l : List NodeL} (h0 : 0 < l.length) (hk : (nd l 0).kind = 2) : ∀ (f : Nat) (i : Int), rootR l f i = true → rootR l (usedL l) i = true := by
  have mono : ∀ (f : Nat) (i : Int), rootR l f i = true → ∀ d, rootR l (f + d) i = true := by
    intro f i h d
    induction d with
    | zero => exact h
    | succ d ih => exact rootR_mono l _ _ ih
  intro f
  induction f with
  | zero => intro i h; cases h
  | succ f ih =>
    intro i h
    cases hc : rootR l f i with
    | true => exact ih i hc
    | false =>
      obtain ⟨L, a1, a2, a3, a4⟩ := rootR_path l h0 f i h hc
      have h1 := nodup_le L ((List.range l.length).filter fun k => !decide ((nd l k).kind = 0)) a2 fun x hx => by
        rw [List.mem_filter]
        refine ⟨List.mem_range.2 (a3 x hx), ?_⟩
        rcases rootR_up (a4 x hx) with e | ⟨hg, _, _⟩
        · have : x = 0 := by omega
          subst this
          rw [hk]; rfl
        · have := (got_nd l x).1 hg
          simp [this]
      rw [used_filter, a1] at h1
      have := mono (f + 1) i h (usedL l - (f + 1))
      rwa [show f + 1 + (usedL l - (f + 1)) = usedL l by omega] at this
theorem dir_rooted {l : List NodeL} (hR : Rig l) {d : Nat} (hk : (nd l d).kind = 2) : Rooted l d := by
  by_cases h0 : d = 0
  · subst h0; exact .root
  · have hn := hR.nmd d h0 id (by rw [hk]; decide)
    have hp := hn.2.2 hk
    by_cases hc : cnt l d = 0
    · exact .up d hk (by rw [(hp.1 hc).2]; exact .root)
    · exact (hp.2 hc).2.2
theorem within_eq {l : List NodeL} (hr : RightP l) {d : Nat} (hk : (nd l d).kind = 2) (top : Int) : withinQ l d top = beneathL l (l.length + 1) d top := by
  obtain ⟨hR, h0⟩ := Rig.of hr
  have h1 := Rooted_rootR h0 (dir_rooted hR hk)
  have h2 := rooted_used h0 hR.root.1 _ _ h1
  have h3 : usedL l ≤ l.length + 1 := Nat.le_succ_of_le List.countP_le_length
  have h4 := beneath_more top _ _ h2 (l.length + 1 - usedL l)
  rw [show usedL l + (l.length + 1 - usedL l) = l.length + 1 by omega] at h4
  unfold withinQ
  rw [climb_beneath top _ _ h2, h4]
theorem used_g (l : List NodeL) (a b : Int) (hl : l.length ≤ 10000) (v : Value) (W : World) (hg : GivesN l v W) : Calls Tryz.prog 42 #[.agg #[v, .int .i64 a, .int .i64 b]] W fun e w' => e = .returned (.int .i64 (usedL l)) ∧ Below W.heap.size W w' := by
  obtain ⟨m, rfl, h⟩ := hg
  exact used_any v m a b W h (by rw [← pl_len]; exact hl)
set_option maxRecDepth 100000 in
set_option maxHeartbeats 4000000 in
theorem within_g (l : List NodeL) (most room i top : Int) (ao : Option Addr) (cap : Nat) (w : World) (hg : GivesX (fun _ => False) l (.slice ao l.length cap) w) (hl : l.length ≤ 10000) (hnl : ∀ n ∈ l, n.names.length ≤ 10000) :
    Calls Tryz.prog 124 #[diskV ao l.length cap most room, .int .i64 i, .int .i64 top] w fun e w' => e = .returned (.bool (withinQ l i top)) ∧ Below w.heap.size w w' := by
  have S0 := Lib.hid (St.start (G := [(l, .slice ao l.length cap)]) (N := []) (w := w) (fun _ h => h.elim) (one_g hg) no_n)
  have HU : usedL l ≤ 10000 := Nat.le_trans List.countP_le_length hl
  clear hg
  go_enter Tryz.func124, Tryz.ntmps124
  go_upto_region 1 with (fail)
  refine code_fresh1 ?_
  intro W1 hb hA0 hs
  have S1 := Lib.hid (S0.out.new1 hb hA0)
  clear hb hA0 hs
  have h_d := (S1.out.at 0 rfl)
  go_wp2_with (first | (refine wpList_load_row rfl 24 _ rfl _ rfl 24 _ (0, 0) _ h_d Tryz.underlying24 rfl (by kernel_rfl) ?_))
  refine (used_g l most room hl _ W1 (S1.out.g 0 rfl).gives).mono ?_
  rintro e W2 ⟨rfl, hb⟩
  clear h_d
  have S2 := Lib.hid (S1.out.call hb)
  clear hb
  have HW : Hid (withinQ l i top = decide (climbI l top (usedL l) i = top)) := Lib.hid rfl
  generalize usedL l = u at *
  go_wp2_with fail
  go_loopw [1, 11] (fun j' k' wr => ∃ (k : Nat) (j : Int), j' = .int .i64 j ∧ k' = .int .i64 k ∧ k ≤ u ∧ Hid (climbI l top u i = climbI l top (u - k) j) ∧ Below W2.heap.size W2 wr) (fun _ k' _ => u - (intOf k').toNat)
  case atStart => exact ⟨0, i, rfl, rfl, Nat.zero_le _, Lib.hid rfl, Below.refl _ _⟩
  case round =>
    obtain ⟨k, j, rfl, rfl, hk, hR, hBr⟩ := hrel
    have S9 := Lib.hid (S2.out.call hBr)
    by_cases hlt : k < u
    · have hI : decide (k < u) = true := by simpa using hlt
      obtain ⟨f, hf, hf2⟩ : ∃ f, u - k = f + 1 ∧ f = u - (k + 1) := ⟨u - k - 1, by omega, by omega⟩
      have hR' := hR.out
      rw [hf] at hR'
      rw [show climbI l top (f + 1) j = if j = top ∨ j = 0 then j else climbI l top f (nodeL l j).up from rfl] at hR'
      by_cases h1 : j = top
      · have hJ : (j == top) = true := by simpa using h1
        have HF := Lib.hid (hR'.trans (if_pos (.inl h1)))
        have HQ : Hid (withinQ l i top = (j == top)) := Lib.hid (by rw [HW.out, HF.out]; cases h9 : decide (j = top) with | true => simpa using h9 | false => simpa using h9)
        clear hR' h1 hf hf2
        go_wp2_with fail
        go_ret
        exact ⟨ret_bool (by rw [HQ.out]; first | rfl | exact hJ.symm | simp [hJ]), S9.out.bel⟩
      have hJ : (j == top) = false := by simpa using h1
      by_cases h2 : j = 0
      · have hJ2 : (j == 0) = true := by simpa using h2
        have HF := Lib.hid (hR'.trans (if_pos (.inr h2)))
        have HQ : Hid (withinQ l i top = (j == top)) := Lib.hid (by rw [HW.out, HF.out]; cases h9 : decide (j = top) with | true => simpa using h9 | false => simpa using h9)
        clear hR' h1 h2 hf hf2
        go_wp2_with fail
        go_ret
        exact ⟨ret_bool (by rw [HQ.out]; first | rfl | exact hJ.symm | simp [hJ]), S9.out.bel⟩
      have hJ2 : (j == 0) = false := by simpa using h2
      have HX := Lib.hid (hR'.trans (if_neg (by simp [h1, h2])))
      clear hR' h1 h2 hf
      have h_d := (S9.out.at 0 rfl)
      go_wp2_with (first | (refine wpList_load_row rfl 24 _ rfl _ rfl 24 _ (0, 0) _ h_d Tryz.underlying24 rfl (by kernel_rfl) ?_))
      refine (get_g _ l most room j _ wr S9.out.oldX (S9.out.g 0 rfl) hl hnl).mono ?_
      rintro e W10 ⟨ao1, cp1, rfl, -, hb⟩
      have hB1 := ret_tr hBr hb
      clear hb
      clear h_d
      generalize nodeL l j = n at *
      go_wp2_with fail
      go_roundw
      case rel => exact ⟨k + 1, n.up, rfl, by go_num, by omega, Lib.hid (by rw [← hf2]; exact HX.out), hB1.alloc hB1.size _⟩
      case measure => simp [intOf]; omega
    · have hke : k = u := by omega
      have HF : Hid (climbI l top u i = j) := Lib.hid (by rw [hR.out, hke, Nat.sub_self]; rfl)
      have HQ : Hid (withinQ l i top = (j == top)) := Lib.hid (by rw [HW.out, HF.out]; cases h9 : decide (j = top) with | true => simpa using h9 | false => simpa using h9)
      have hI2 : decide (k < u) = false := by simp; omega
      clear hke hlt
      go_wp2_with fail
      go_ret
      exact ⟨ret_bool (by rw [HQ.out]), S9.out.bel⟩
end Go.Proofs.YtpmhmippoefcfaaGreatDoor
