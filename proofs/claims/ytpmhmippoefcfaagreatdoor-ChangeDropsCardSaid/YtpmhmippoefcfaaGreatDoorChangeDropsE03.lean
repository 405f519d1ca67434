/-
  The document's writes, free, named.
-/
import Derived.RangeFuncNested
import Derived.RangeFuncBound
import Derived.RangeFuncCalls
import Derived.RangeFuncLeaves
import Derived.RangeFuncBox
import Derived.Shelf.Abstract
import Derived.Shelf.RegionOpen
import Derived.WalkKit
import Derived.OwnWalkIn
import Derived.TacticsInMore
import Derived.LoopNIn
import Derived.LoopIn
import Derived.Lib.Hide
import Derived.Outline
import Derived.Deep.QuietTactic
import Derived.Deep.AppendLies
import Derived.BigQuiet
import Derived.Lib.Strings
import Derived.WalkSmall
import Derived.Shelf.Small.Strs
import Derived.Shelf.Strings.Search1
import Derived.Shelf.Strings.Prefix
import Derived.Laws.AppendOwn
import Derived.Laws.OwnMore
import Derived.Laws.AppendOwnNone
import Derived.WideShapes
import Derived.Lib.TrimByte
import Derived.Lib.Bytealg
import Derived.Lib.QuietBelow
import Derived.Deep.DrawnRows
import Derived.Laws.Cover1
import Derived.WalkMore
import Derived.Shelf.Spec.SlicesGrow
import Derived.StillTailTactics
import Derived.Laws.BitsLemmas
import Derived.Laws.RangeAny
import Derived.Laws.Runes
import Derived.Lib.Builder
import Derived.Deep.WholeRow
import Derived.Lib.OthersKept
import Derived.Shelf.SlSorted.Search
import Derived.LaidEql
import Derived.Stop.Asserts
import Derived.RowKitTokens
import Derived.Deep.RegionHeld3
import Derived.Deep.RegionLaw
import Derived.Handy
import Derived.Laws.IdiomCopy
import Derived.Lib.SliceRun
import Derived.Laws.ResultCell
import Derived.Deep.LoopGhost
import Derived.Deep.DeepCutAuto
import Derived.Test.YtpmhmippoefcfaaGreatDoorProg
import Derived.Test.YtpmhmippoefcfaaGreatDoorShelf
import Derived.Test.YtpmhmippoefcfaaGreatDoorB01
import Derived.Test.YtpmhmippoefcfaaGreatDoorB02
import Derived.Test.YtpmhmippoefcfaaGreatDoorB04
import Derived.Test.YtpmhmippoefcfaaGreatDoorB06
import Derived.Test.YtpmhmippoefcfaaGreatDoorB07
import Derived.Test.YtpmhmippoefcfaaGreatDoorB08
import Derived.Test.YtpmhmippoefcfaaGreatDoorB09
import Derived.Test.YtpmhmippoefcfaaGreatDoorB10
import Derived.Test.YtpmhmippoefcfaaGreatDoorB12
import Derived.Test.YtpmhmippoefcfaaGreatDoorChangeDropsE01
import Derived.Test.YtpmhmippoefcfaaGreatDoorChangeDropsE02
namespace Go.Proofs.YtpmhmippoefcfaaGreatDoor
open Go.RowKit Go.Shelf
attribute [local go_sem ↓] Go.wp_at_zero Go.wp_at_succ
set_option maxRecDepth 100000 in
set_option maxHeartbeats 4000000 in
theorem rwrites_g (l : List NodeL) (most room who d : Int) (ao : Option Addr) (cap : Nat) (w : World) (hg : GivesX (fun _ => False) l (.slice ao l.length cap) w) (hl : l.length ≤ 10000) :
    Calls Tryz.prog 59 #[diskV ao l.length cap most room, .int .i64 who, .int .i64 d] w fun e w' => e = .returned (.bool (writesL l who d)) ∧ Below w.heap.size w w' := by
  have HG := Lib.hid hg
  clear hg
  go_enter Tryz.func59, Tryz.ntmps59
  go_upto_region 1 with (fail)
  refine code_fresh1 ?_
  intro W0 hb0 hP hs0
  obtain ⟨p0, p1, p2⟩ := cells3 hP
  go_wp2_with fail
  refine (rget_g _ l most room d _ W0 (HG.out.keep hb0) hl).mono ?_
  rintro e W1 ⟨ao1, cp1, rfl, hr1, hb1⟩
  have HB1 := Lib.hid (ret_tr hb0 hb1)
  have HW : Hid (writesL l who d = mayB (nodeL l d).mode (nodeL l d).owner who 2) := Lib.hid rfl
  generalize nodeL l d = n at *
  clear p0 p1 p2 hb0 hb1 hP hr1
  go_upto_region 2 with (fail)
  refine code_fresh1 ?_
  intro W2 hb2 hn2 hs2
  have HB2 := Lib.hid (ret_tr HB1.out hb2)
  obtain ⟨n0, n1, n2, n3, n4, n5, n6, n7⟩ := cells8 hn2
  clear hn2 hb2
  go_wp2_with fail
  refine (rmay_any n.mode n.owner who 2 W2).mono ?_
  rintro e w' ⟨rfl, rfl⟩
  go_wp2_with fail
  go_ret
  exact ⟨by rw [HW.out]; rfl, HB2.out⟩
set_option maxRecDepth 100000 in
set_option maxHeartbeats 4000000 in
theorem rfree_g (l : List NodeL) (most room who fr : Int) (s : SpotL) (ao : Option Addr) (cap : Nat) (w : World) (hg : GivesX (fun _ => False) l (.slice ao l.length cap) w) (hl : l.length ≤ 10000) :
    Calls Tryz.prog 52 #[diskV ao l.length cap most room, .agg #[.int .i64 who, .int .i64 fr], spotV s] w fun e w' => e = .returned (.int .i64 (freeE l who s)) ∧ Below w.heap.size w w' := by
  have HG := Lib.hid hg
  clear hg
  go_enter Tryz.func52, Tryz.ntmps52
  go_upto_region 1 with (fail)
  refine code_fresh3 ?_
  intro W0 hb0 hP hA hS hs0
  obtain ⟨s0, s1, s2, s3⟩ := cells4 hS
  by_cases h0 : 0 ≤ s.ino
  · have hI : decide (0 ≤ s.ino) = true := decide_eq_true h0
    have HF : Hid (freeE l who s = 3) := Lib.hid (by unfold freeE; rw [if_pos h0])
    clear h0
    go_wp2_with fail
    go_ret
    exact ⟨by rw [HF.out]; rfl, hb0⟩
  · have hI : decide (0 ≤ s.ino) = false := decide_eq_false h0
    have HF : Hid (freeE l who s = if (nodeL l s.dir).links < 1 then 2 else if writesL l who s.dir = false then 7 else 0) := Lib.hid (by unfold freeE; rw [if_neg h0])
    clear h0
    obtain ⟨p0, p1, p2⟩ := cells3 hP
    go_wp2_with fail
    refine (rget_g _ l most room s.dir _ W0 (HG.out.keep hb0) hl).mono ?_
    rintro e W1 ⟨ao1, cp1, rfl, hr1, hb1⟩
    have HB1 := Lib.hid (ret_tr hb0 hb1)
    have hs1 := hb1.size
    have HP1 := Lib.hid ((hb1.block _ (by omega)).trans hP)
    have HA1 := Lib.hid ((hb1.block _ (by omega)).trans hA)
    have HS1 := Lib.hid ((hb1.block _ (by omega)).trans hS)
    clear p0 p1 p2 s0 s1 s2 s3 hb0 hb1 hP hA hS hr1
    go_upto_region 4 with (fail)
    refine code_fresh1 ?_
    intro W2 hb2 hn2 hs2
    have HB2 := Lib.hid (ret_tr HB1.out hb2)
    obtain ⟨n0, n1, n2, n3, n4, n5, n6, n7⟩ := cells8 hn2
    obtain ⟨p0, p1, p2⟩ := cells3 ((hb2.block _ (show w.heap.size < W1.heap.size by omega)).trans HP1.out)
    have hA2 := (hb2.block _ (show w.heap.size + 1 < W1.heap.size by omega)).trans HA1.out
    have a0 : W2.cell? ⟨w.heap.size + 1, 0, none⟩ = some (.int .i64 who) := by rw [Lib.cell_of_heap hA2]; rfl
    obtain ⟨s0, s1, s2, s3⟩ := cells4 ((hb2.block _ (show w.heap.size + 2 < W1.heap.size by omega)).trans HS1.out)
    clear hn2 hb2 hA2
    by_cases h1 : (nodeL l s.dir).links < 1
    · have hI1 : decide ((nodeL l s.dir).links < 1) = true := decide_eq_true h1
      have HF2 : Hid (freeE l who s = 2) := Lib.hid (by rw [HF.out, if_pos h1])
      clear h1
      go_wp2_with fail
      go_ret
      exact ⟨by rw [HF2.out]; rfl, HB2.out⟩
    · have hI1 : decide ((nodeL l s.dir).links < 1) = false := decide_eq_false h1
      have HF2 : Hid (freeE l who s = if writesL l who s.dir = false then 7 else 0) := Lib.hid (by rw [HF.out, if_neg h1])
      clear h1
      go_wp2_with fail
      refine (rwrites_g l most room who s.dir ao cap W2 (HG.out.keep HB2.out) hl).mono ?_
      rintro e W3 ⟨rfl, hb3⟩
      have HB3 := Lib.hid (ret_tr HB2.out hb3)
      cases hw : writesL l who s.dir with
      | false =>
        have HF3 : Hid (freeE l who s = 7) := Lib.hid (by rw [HF2.out, hw]; rfl)
        clear hw hb3
        go_wp2_with fail
        go_ret
        exact ⟨by rw [HF3.out]; rfl, HB3.out⟩
      | true =>
        have HF3 : Hid (freeE l who s = 0) := Lib.hid (by rw [HF2.out, hw]; rfl)
        clear hw hb3
        go_wp2_with fail
        go_ret
        exact ⟨by rw [HF3.out]; rfl, HB3.out⟩
set_option maxRecDepth 100000 in
set_option maxHeartbeats 4000000 in
theorem rnamed_g (X : Nat → Prop) (l : List NodeL) (most room i : Int) (s : SpotL) (ao : Option Addr) (cap : Nat) (w : World) (hX : Old X w) (hg : GivesX X l (.slice ao l.length cap) w) (hl : l.length ≤ 10000) (hnl : (nodeL l s.dir).names.length ≤ 10000) :
    Calls Tryz.prog 53 #[diskV ao l.length cap most room, spotV s, .int .i64 i] w fun e w' => RDiskIs X (namedL l s i) most room e w w' := by
  have HG := Lib.hid hg
  have HX := Lib.hid hX
  have hret : ∀ (W : World) (cs : Array Value) (fr), W.heap[w.heap.size + 2]? = some (.cells cs 32 fr) → cs.size = 3 → ∀ tmps : Array Value, tmps.getD 6 undef = .pointer (some ⟨w.heap.size + 2, 0, none⟩) → (results Tryz.f53 tmps).run Tryz.prog W = .ok (.agg cs) W := fun W cs fr h hs tmps ht =>
    results_cell_row (p := 6) (ty := 32) rfl tmps W (w.heap.size + 2) _ cs fr _ ht h Tryz.underlying32 rfl (by rw [hs]; kernel_rfl)
  have HRET := Lib.hid hret
  clear hg hX hret
  go_enter Tryz.func53, Tryz.ntmps53
  go_upto_region 1 with (fail)
  refine code_fresh3 ?_
  intro W0 hb0 hP hS hR hs0
  obtain ⟨p0, p1, p2⟩ := cells3 hP
  obtain ⟨s0, s1, s2, s3⟩ := cells4 hS
  have HG0 : Hid (GivesX (fun g => X g ∨ g = w.heap.size + 2) l (.slice ao l.length cap) W0) := Lib.hid (HG.out.add hb0 fun g hg => hg.imp id fun h => by omega)
  go_wp2_with fail
  refine (rget_g _ l most room s.dir _ W0 HG0.out hl).mono ?_
  rintro e W1 ⟨ao1, cp1, rfl, hr1, hb1⟩
  have HB1 := Lib.hid (ret_tr hb0 hb1)
  have hs1 := hb1.size
  have HP1 := Lib.hid ((hb1.block _ (by omega)).trans hP)
  have HS1 := Lib.hid ((hb1.block _ (by omega)).trans hS)
  have HR1 := Lib.hid ((hb1.block _ (by omega)).trans hR)
  have HG1 := Lib.hid (HG0.out.keep hb1)
  have HN1 := Lib.hid hr1
  have HNM : Hid (namedL l s i = setL l s.dir (putN (nodeL l s.dir) s.name i)) := Lib.hid rfl
  generalize nodeL l s.dir = n at *
  clear p0 p1 p2 s0 s1 s2 s3 hb0 hb1 hP hS hR hr1
  go_upto_region 2 with (fail)
  refine code_fresh1 ?_
  intro W2 hb2 hn2 hs2
  have hsw : w.heap.size + 2 < W2.heap.size := by omega
  have HB2 := Lib.hid (ret_tr HB1.out hb2)
  have HP2 := Lib.hid ((hb2.block _ (show w.heap.size < W1.heap.size by omega)).trans HP1.out)
  have HS2 := Lib.hid ((hb2.block _ (show w.heap.size + 1 < W1.heap.size by omega)).trans HS1.out)
  have HR2 := Lib.hid ((hb2.block _ (show w.heap.size + 2 < W1.heap.size by omega)).trans HR1.out)
  have HN2 := Lib.hid hn2
  obtain ⟨n0, n1, n2, n3, n4, n5, n6, n7⟩ := cells8 hn2
  obtain ⟨s0, s1, s2, s3⟩ := cells4 HS2.out
  have HG2 : Hid (GivesX (fun g => (X g ∨ g = w.heap.size + 2) ∨ g = W1.heap.size) l (.slice ao l.length cap) W2) := Lib.hid (HG1.out.add hb2 fun g hg => hg.imp id fun h => by omega)
  have HV2 : Hid (NodeX (fun g => (X g ∨ g = w.heap.size + 2) ∨ g = W1.heap.size) n (.slice ao1 n.names.length cp1) W2) := Lib.hid (HN1.out.add hb2 fun g hg => hg.imp id fun h => by omega)
  have HO2 : Hid (Old (fun g => (X g ∨ g = w.heap.size + 2) ∨ g = W1.heap.size) W2) := Lib.hid fun g hg => by
    rcases hg with (h | h) | h
    · exact Nat.lt_of_lt_of_le (HX.out g h) (by omega)
    · omega
    · omega
  clear hn2 hb2 HP1 HS1 HR1
  go_wp2_with fail
  refine (rput_g _ n _ s.name i W2 HO2.out HV2.out hnl).mono ?_
  rintro e W3 ⟨ao3, cp3, rfl, hv3, hb3⟩
  have hs3 := hb3.size
  have HB3 := Lib.hid (ret_tr HB2.out hb3)
  have HP3 := Lib.hid ((hb3.block _ (show w.heap.size < W2.heap.size by omega)).trans HP2.out)
  have HS3 := Lib.hid ((hb3.block _ (show w.heap.size + 1 < W2.heap.size by omega)).trans HS2.out)
  have HR3 := Lib.hid ((hb3.block _ (show w.heap.size + 2 < W2.heap.size by omega)).trans HR2.out)
  have hN3 := (hb3.block _ (show W1.heap.size < W2.heap.size by omega)).trans HN2.out
  have HN3 := Lib.hid hN3
  have HG3 := Lib.hid (HG2.out.keep hb3)
  have HV3 := Lib.hid hv3
  have rf := fun j => Lib.frozen_of_heap hN3 j
  clear n0 n1 n2 n3 n4 n5 n6 n7 s0 s1 s2 s3 hb3 HP2 HS2 HR2 HN2 hv3
  obtain ⟨n0, n1, n2, n3, n4, n5, n6, n7⟩ := cells8 hN3
  clear hN3
  go_upto_region 3 with (fail)
  refine code_set1 HN3.out ?_
  intro W4 hb4 hg4 hs4 hn4
  have HP4 := (hg4 _ (by omega)).trans HP3.out
  have HS4 := (hg4 _ (by omega)).trans HS3.out
  have HR4 := Lib.hid ((hg4 _ (by omega)).trans HR3.out)
  have HG4 := Lib.hid (HG3.out.other (b := W1.heap.size) (.inr rfl) hs4 hg4)
  have HV4 := Lib.hid (HV3.out.other (b := W1.heap.size) (.inr rfl) hs4 hg4)
  have HB4 := Lib.hid (HB3.out.trans (hb4.mono (by omega)))
  clear n0 n1 n2 n3 n4 n5 n6 n7 rf
  obtain ⟨n0, n1, n2, n3, n4, n5, n6, n7⟩ := cells8 hn4
  obtain ⟨p0, p1, p2⟩ := cells3 HP4
  obtain ⟨s0, s1, s2, s3⟩ := cells4 HS4
  go_wp2_with fail
  refine (rset_g _ l most room s.dir (putN n s.name i) _ _ W4 (HO2.out.keep (by omega)) HG4.out hl HV4.out).mono ?_
  rintro e W5 ⟨ao5, cp5, rfl, hg5, hb5⟩
  have hR5 := (hb5.block _ (show w.heap.size + 2 < W4.heap.size by omega)).trans HR4.out
  have hB5 := ret_tr HB4.out hb5
  obtain ⟨q0, q1, q2⟩ := cells3 hR5
  have rf := fun j => Lib.frozen_of_heap hR5 j
  clear n0 n1 n2 n3 n4 n5 n6 n7 p0 p1 p2 s0 s1 s2 s3
  go_wp2_with fail
  refine post_sets3 hR5 ?_
  intro W6 hb6 hg6 hs6 hR6
  refine bodyPost_ret (HRET.out _ _ _ hR6 rfl _ rfl) rfl ?_
  rw [HNM.out]
  exact ⟨_, _, rfl, (hg5.other (.inl (.inr rfl)) hs6 hg6).sub fun g h => .inl (.inl h), hB5.trans (hb6.mono (by omega))⟩
end Go.Proofs.YtpmhmippoefcfaaGreatDoor
