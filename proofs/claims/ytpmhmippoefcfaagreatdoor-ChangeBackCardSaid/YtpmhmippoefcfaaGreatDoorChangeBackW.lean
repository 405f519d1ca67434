/-
  The walk of ChangeBack.
-/
import Derived.RangeFuncNested
import Derived.RangeFuncBound
import Derived.RangeFuncCalls
import Derived.RangeFuncLeaves
import Derived.RangeFuncBox
import Derived.Shelf.Abstract
import Derived.Shelf.RegionOpen
import Derived.WalkKit
import Derived.OwnWalkIn
import Derived.TacticsInMore
import Derived.LoopNIn
import Derived.LoopIn
import Derived.Lib.Hide
import Derived.Outline
import Derived.Deep.QuietTactic
import Derived.Deep.AppendLies
import Derived.BigQuiet
import Derived.Lib.Strings
import Derived.WalkSmall
import Derived.Shelf.Small.Strs
import Derived.Shelf.Strings.Search1
import Derived.Shelf.Strings.Prefix
import Derived.Laws.AppendOwn
import Derived.Laws.OwnMore
import Derived.Laws.AppendOwnNone
import Derived.WideShapes
import Derived.Lib.TrimByte
import Derived.Lib.Bytealg
import Derived.Lib.QuietBelow
import Derived.Deep.DrawnRows
import Derived.Laws.Cover1
import Derived.WalkMore
import Derived.Shelf.Spec.SlicesGrow
import Derived.StillTailTactics
import Derived.Laws.BitsLemmas
import Derived.Laws.RangeAny
import Derived.Laws.Runes
import Derived.Lib.Builder
import Derived.Deep.WholeRow
import Derived.Lib.OthersKept
import Derived.Shelf.SlSorted.Search
import Derived.LaidEql
import Derived.Stop.Asserts
import Derived.RowKitTokens
import Derived.Deep.RegionHeld3
import Derived.Deep.RegionLaw
import Derived.Handy
import Derived.Laws.IdiomCopy
import Derived.Lib.SliceRun
import Derived.Laws.ResultCell
import Derived.Deep.LoopGhost
import Derived.Deep.DeepCutAuto
import Derived.Deep.MidRow
import Derived.BigRegion
import Derived.Test.YtpmhmippoefcfaaGreatDoorProg
import Derived.Test.YtpmhmippoefcfaaGreatDoorShelf
import Derived.Test.YtpmhmippoefcfaaGreatDoorB01
import Derived.Test.YtpmhmippoefcfaaGreatDoorB02
import Derived.Test.YtpmhmippoefcfaaGreatDoorB04
import Derived.Test.YtpmhmippoefcfaaGreatDoorB07
import Derived.Test.YtpmhmippoefcfaaGreatDoorB08
import Derived.Test.YtpmhmippoefcfaaGreatDoorB09
import Derived.Test.YtpmhmippoefcfaaGreatDoorB11
import Derived.Test.YtpmhmippoefcfaaGreatDoorB12
import Derived.Test.YtpmhmippoefcfaaGreatDoorB13
import Derived.Test.YtpmhmippoefcfaaGreatDoorB14
import Derived.Test.YtpmhmippoefcfaaGreatDoorB16
import Derived.Test.YtpmhmippoefcfaaGreatDoorB17
import Derived.Test.YtpmhmippoefcfaaGreatDoorB21
import Derived.Test.YtpmhmippoefcfaaGreatDoorB24
import Derived.Test.YtpmhmippoefcfaaGreatDoorChangeBackE01
namespace Go.Proofs.YtpmhmippoefcfaaGreatDoor
open Go.RowKit Go.Shelf
attribute [local go_sem ↓] Go.wp_at_zero Go.wp_at_succ
/-- The names of nodes that are as others. -/
theorem names_as {la lb : List NodeL} (heq : ∀ j, nd la j = nd lb j) (hb : ∀ n ∈ lb, n.names.length ≤ 10000) : ∀ n ∈ la, n.names.length ≤ 10000 := fun n hn => by
  obtain ⟨k, hk, rfl⟩ := List.mem_iff_getElem.1 hn
  rw [← nd_lt hk, heq]
  exact nd_names hb k
set_option maxRecDepth 100000 in
set_option maxHeartbeats 4000000 in
theorem back_l (l : List NodeL) (most room : Int) (who fr : Int) (path : Str) (mode : Int) (ao : Option Addr) (cap : Nat) (w : World) (hg : GivesN l (.slice ao l.length cap) w) (hfit : FitD l) {S : Nat → Addr} (hs : Sent S w) :
    Calls Tryz.prog 7 #[diskV ao l.length cap most room, asV who fr, .string (bs path), .int .i64 mode] w fun e w' => e = .returned (.bool true) ∧ Below w.heap.size w w' := by
  have S0 := Lib.hid (Sn.start hg)
  have HS := Lib.hid hs
  have HQ := Lib.hid fun v W (hgv : GivesN l v W) => right_g l most room v W hgv hfit
  have HSh := Lib.hid fun W (hs : Sent S W) => shown_any W hs
  clear hg hs hfit
  go_enter Tryz.func7, Tryz.ntmps7
  go_upto_region 1 with (fail)
  refine code_fresh2 ?_
  intro W1 hb hA0 hA1 hs
  have S1 := Lib.hid (S0.out.new2 hb hA0 hA1)
  clear hb hA0 hA1 hs
  obtain ⟨d0, d1, d2⟩ := cells3 (S1.out.at 0 rfl)
  go_wp2_with fail
  refine (HQ.out _ W1 (S1.out.g 0 rfl)).mono ?_
  rintro e W2 ⟨rfl, hb⟩
  clear d0 d1 d2
  have S2 := Lib.hid (S1.out.call hb)
  clear hb
  cases hq : rightQ l most room with
  | false =>
    clear hq
    go_wp2_with fail
    refine (HSh.out W2 (HS.out.keep S2.out.bel)).mono ?_
    rintro e WZ ⟨rfl, hb⟩
    go_wp2_with fail
    go_ret
    exact ⟨rfl, ret_tr S2.out.bel hb⟩
  | true =>
    have HR := Lib.hid hq
    clear hq
    go_wp2_with fail
    refine calls_fresh1 ?_
    intro WS hb hA hs
    have SS := Lib.hid (S2.out.call hb)
    clear hb hs
    refine (short_n [path] 1 rfl (by decide) WS hA).mono ?_
    rintro e _ ⟨rfl, rfl⟩
    clear hA
    cases hsh : shortB [path] with
    | false =>
      clear hsh
      go_wp2_with fail
      refine (HSh.out WS (HS.out.keep SS.out.bel)).mono ?_
      rintro e WZ ⟨rfl, hb⟩
      go_wp2_with fail
      go_ret
      exact ⟨rfl, ret_tr SS.out.bel hb⟩
    | true =>
      have hplpath : path.length ≤ 10000 := Nat.le_trans (short_yes hsh path (by simp)) (by decide)
      clear hsh
      go_wp2_with fail
      refine (HSh.out WS (HS.out.keep SS.out.bel)).mono ?_
      rintro e W3 ⟨rfl, hb⟩
      have S3 := Lib.hid (SS.out.call hb)
      clear hb
      have hB := back_file (q_right HR.out) (who := who) (fr := fr) path mode
      have hp := fun (W : World) (ao : Option Addr) (cap : Nat) (h : GivesX (fun _ => False) l (.slice ao l.length cap) W) (hs : Sent S W) => (pmake_g (fun _ => False) l most room who fr path mode ao cap W old_no h (q_dsk HR.out) hplpath hs).mono fun _ _ h => makT h
      have ha := aft_mkfile HR.out who fr path mode
      generalize mkfileL l most room who fr path mode = R at hp ha hB
      obtain ⟨L1, i1, f1⟩ := R
      dsimp only at hp ha hB
      have HP1 := Lib.hid hp
      have HA1 := Lib.hid ha
      clear hp ha
      have HB1 := Lib.hid hB
      clear hB
      have hB := back_dir (q_right HR.out) (who := who) (fr := fr) path mode
      have hp := fun (W : World) (ao : Option Addr) (cap : Nat) (h : GivesX (fun _ => False) l (.slice ao l.length cap) W) (hs : Sent S W) => (pmkdir_g (fun _ => False) l most room who fr path mode ao cap W old_no h (q_dsk HR.out) hplpath hs).mono fun _ _ h => chgT h
      have ha := aft_mkdir HR.out who fr path mode
      generalize mkdirL l most room who fr path mode = R at hp ha hB
      obtain ⟨L2, f2⟩ := R
      dsimp only at hp ha hB
      have HP2 := Lib.hid hp
      have HA2 := Lib.hid ha
      clear hp ha
      have HB2 := Lib.hid hB
      clear hB
      have HA := Lib.hid (q_aft HR.out)
      have HL := Lib.hid (q_siz HR.out).1
      obtain ⟨d0, d1, d2⟩ := cells3 (S3.out.at 0 rfl)
      obtain ⟨a0, a1⟩ := cells2 (S3.out.at 1 rfl)
      go_wp2_with fail
      refine (HP1.out W3 _ _ (S3.out.gx 0 rfl) (HS.out.keep S3.out.bel)).mono ?_
      rintro e W4 ⟨ao1, cp1, rfl, hg1, hb⟩
      clear d0 d1 d2 a0 a1
      have S4 := Lib.hid ((S3.out.call hb).addG hg1)
      clear hb hg1
      go_upto_region 4 with (fail)
      refine code_fresh1 ?_
      intro W5 hb hA0 hs
      have S5 := Lib.hid (S4.out.new1 hb hA0)
      clear hb hA0 hs
      obtain ⟨d0, d1, d2⟩ := cells3 (S5.out.at 0 rfl)
      obtain ⟨a0, a1⟩ := cells2 (S5.out.at 1 rfl)
      go_wp2_with fail
      refine (HP2.out W5 _ _ (S5.out.gx 0 rfl) (HS.out.keep S5.out.bel)).mono ?_
      rintro e W6 ⟨ao2, cp2, rfl, hg1, hb⟩
      clear d0 d1 d2 a0 a1
      have S6 := Lib.hid ((S5.out.call hb).addG hg1)
      clear hb hg1
      go_upto_region 5 with (fail)
      refine code_fresh1 ?_
      intro W7 hb hA0 hs
      have S7 := Lib.hid (S6.out.new1 hb hA0)
      clear hb hA0 hs
      by_cases hf1 : f1 = 0
      · subst hf1
        go_upto_region 6 with (fail)
        obtain ⟨k1, k2, k3, k4, k5, -⟩ := HB1.out rfl
        have hp := fun (W : World) (ao : Option Addr) (cap : Nat) (h : GivesN L1 (.slice ao L1.length cap) W) (hs : Sent S W) => (punlink_g (fun _ => False) L1 most room who fr path ao cap W old_no (gives_no h) HA1.out.dsk hplpath hs).mono fun _ _ h => chgT h
        generalize unlinkL L1 who fr path = R at hp k1 k2 k3
        obtain ⟨M1, g1⟩ := R
        dsimp only at hp k1 k2 k3
        subst k1
        have HP := Lib.hid hp
        have HK2 := Lib.hid k2
        have hm1 : l.length ≤ M1.length := by omega
        have hm2 : M1.length ≤ 110 := by have := HL.out; omega
        have HM1 := Lib.hid hm1
        have HM2 := Lib.hid hm2
        clear hp k2 k3 k4 k5 hm1 hm2
        obtain ⟨x0, x1, x2⟩ := cells3 (S7.out.at 2 rfl)
        obtain ⟨a0, a1⟩ := cells2 (S7.out.at 1 rfl)
        go_wp2_with fail
        refine (HP.out W7 _ _ (S7.out.g 1 rfl) (HS.out.keep S7.out.bel)).mono ?_
        rintro e W8 ⟨ao1m, cp1m, rfl, hg1, hb⟩
        clear x0 x1 x2 a0 a1
        have S8 := Lib.hid ((S7.out.call hb).addG hg1)
        clear hb hg1
        go_upto_region 7 with (fail)
        refine code_fresh1 ?_
        intro W9 hb hA0 hs
        have S9 := Lib.hid (S8.out.new1 hb hA0)
        clear hb hA0 hs
        obtain ⟨m0, m1, m2⟩ := cells3 (S9.out.at 4 rfl)
        obtain ⟨d0, d1, d2⟩ := cells3 (S9.out.at 0 rfl)
        go_wp2_with fail
        refine (before_any M1 l most room most room _ _ _ _ W9 (S9.out.g 3 rfl) (S9.out.g 0 rfl) HM1.out HM2.out (names_as HK2.out HA.out.names) HK2.out).mono ?_
        rintro e W10 ⟨rfl, hb⟩
        clear m0 m1 m2 d0 d1 d2
        have S10 := Lib.hid (S9.out.call hb)
        clear hb
        go_upto_region 9 with (fail)
        by_cases hf2 : f2 = 0
        · subst hf2
          go_upto_region 10 with (fail)
          obtain ⟨k1, k2, k3, k4, k5⟩ := HB2.out rfl
          have hp := fun (W : World) (ao : Option Addr) (cap : Nat) (h : GivesN L2 (.slice ao L2.length cap) W) (hs : Sent S W) => (prmdir_g (fun _ => False) L2 most room who fr path ao cap W old_no (gives_no h) HA2.out.dsk hplpath hs).mono fun _ _ h => chgT h
          generalize rmdirL L2 who fr path = R at hp k1 k2 k3
          obtain ⟨M2, g2⟩ := R
          dsimp only at hp k1 k2 k3
          subst k1
          have HP := Lib.hid hp
          have HK2 := Lib.hid k2
          have hm1 : l.length ≤ M2.length := by omega
          have hm2 : M2.length ≤ 110 := by have := HL.out; omega
          have HM1 := Lib.hid hm1
          have HM2 := Lib.hid hm2
          clear hp k2 k3 k4 k5 hm1 hm2
          obtain ⟨y0, y1, y2⟩ := cells3 (S10.out.at 3 rfl)
          obtain ⟨a0, a1⟩ := cells2 (S10.out.at 1 rfl)
          go_wp2_with fail
          refine (HP.out W10 _ _ (S10.out.g 2 rfl) (HS.out.keep S10.out.bel)).mono ?_
          rintro e W11 ⟨ao2m, cp2m, rfl, hg1, hb⟩
          clear y0 y1 y2 a0 a1
          have S11 := Lib.hid ((S10.out.call hb).addG hg1)
          clear hb hg1
          go_upto_region 11 with (fail)
          refine code_fresh1 ?_
          intro W12 hb hA0 hs
          have S12 := Lib.hid (S11.out.new1 hb hA0)
          clear hb hA0 hs
          obtain ⟨n0, n1, n2⟩ := cells3 (S12.out.at 5 rfl)
          obtain ⟨d0, d1, d2⟩ := cells3 (S12.out.at 0 rfl)
          go_wp2_with fail
          refine (before_any M2 l most room most room _ _ _ _ W12 (S12.out.g 4 rfl) (S12.out.g 0 rfl) HM1.out HM2.out (names_as HK2.out HA.out.names) HK2.out).mono ?_
          rintro e W13 ⟨rfl, hb⟩
          clear n0 n1 n2 d0 d1 d2
          have S13 := Lib.hid (S12.out.call hb)
          clear hb
          go_wp2_with fail
          go_ret
          exact ⟨rfl, S13.out.bel⟩
        · have qf21 : (f2 == 0) = false := by simpa using hf2
          have qf22 : (f2 != 0) = true := by simpa using hf2
          have qf23 : decide (f2 = 0) = false := by simpa using hf2
          clear hf2
          go_wp2_with fail
          go_ret
          exact ⟨rfl, S10.out.bel⟩
      · have qf11 : (f1 == 0) = false := by simpa using hf1
        have qf12 : (f1 != 0) = true := by simpa using hf1
        have qf13 : decide (f1 = 0) = false := by simpa using hf1
        clear hf1
        go_upto_region 9 with (fail)
        by_cases hf2 : f2 = 0
        · subst hf2
          go_upto_region 10 with (fail)
          obtain ⟨k1, k2, k3, k4, k5⟩ := HB2.out rfl
          have hp := fun (W : World) (ao : Option Addr) (cap : Nat) (h : GivesN L2 (.slice ao L2.length cap) W) (hs : Sent S W) => (prmdir_g (fun _ => False) L2 most room who fr path ao cap W old_no (gives_no h) HA2.out.dsk hplpath hs).mono fun _ _ h => chgT h
          generalize rmdirL L2 who fr path = R at hp k1 k2 k3
          obtain ⟨M2, g2⟩ := R
          dsimp only at hp k1 k2 k3
          subst k1
          have HP := Lib.hid hp
          have HK2 := Lib.hid k2
          have hm1 : l.length ≤ M2.length := by omega
          have hm2 : M2.length ≤ 110 := by have := HL.out; omega
          have HM1 := Lib.hid hm1
          have HM2 := Lib.hid hm2
          clear hp k2 k3 k4 k5 hm1 hm2
          obtain ⟨y0, y1, y2⟩ := cells3 (S7.out.at 3 rfl)
          obtain ⟨a0, a1⟩ := cells2 (S7.out.at 1 rfl)
          go_wp2_with fail
          refine (HP.out W7 _ _ (S7.out.g 2 rfl) (HS.out.keep S7.out.bel)).mono ?_
          rintro e W8 ⟨ao2m, cp2m, rfl, hg1, hb⟩
          clear y0 y1 y2 a0 a1
          have S8 := Lib.hid ((S7.out.call hb).addG hg1)
          clear hb hg1
          go_upto_region 11 with (fail)
          refine code_fresh1 ?_
          intro W9 hb hA0 hs
          have S9 := Lib.hid (S8.out.new1 hb hA0)
          clear hb hA0 hs
          obtain ⟨n0, n1, n2⟩ := cells3 (S9.out.at 4 rfl)
          obtain ⟨d0, d1, d2⟩ := cells3 (S9.out.at 0 rfl)
          go_wp2_with fail
          refine (before_any M2 l most room most room _ _ _ _ W9 (S9.out.g 3 rfl) (S9.out.g 0 rfl) HM1.out HM2.out (names_as HK2.out HA.out.names) HK2.out).mono ?_
          rintro e W10 ⟨rfl, hb⟩
          clear n0 n1 n2 d0 d1 d2
          have S10 := Lib.hid (S9.out.call hb)
          clear hb
          go_wp2_with fail
          go_ret
          exact ⟨rfl, S10.out.bel⟩
        · have qf21 : (f2 == 0) = false := by simpa using hf2
          have qf22 : (f2 != 0) = true := by simpa using hf2
          have qf23 : decide (f2 = 0) = false := by simpa using hf2
          clear hf2
          go_wp2_with fail
          go_ret
          exact ⟨rfl, S7.out.bel⟩
end Go.Proofs.YtpmhmippoefcfaaGreatDoor
