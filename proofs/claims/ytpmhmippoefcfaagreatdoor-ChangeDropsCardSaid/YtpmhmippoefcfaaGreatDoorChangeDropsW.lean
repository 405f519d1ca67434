/-
  The walk of ChangeDrops.
-/
import Derived.RangeFuncNested
import Derived.RangeFuncBound
import Derived.RangeFuncCalls
import Derived.RangeFuncLeaves
import Derived.RangeFuncBox
import Derived.Shelf.Abstract
import Derived.Shelf.RegionOpen
import Derived.WalkKit
import Derived.OwnWalkIn
import Derived.TacticsInMore
import Derived.LoopNIn
import Derived.LoopIn
import Derived.Lib.Hide
import Derived.Outline
import Derived.Deep.QuietTactic
import Derived.Deep.AppendLies
import Derived.BigQuiet
import Derived.Lib.Strings
import Derived.WalkSmall
import Derived.Shelf.Small.Strs
import Derived.Shelf.Strings.Search1
import Derived.Shelf.Strings.Prefix
import Derived.Laws.AppendOwn
import Derived.Laws.OwnMore
import Derived.Laws.AppendOwnNone
import Derived.WideShapes
import Derived.Lib.TrimByte
import Derived.Lib.Bytealg
import Derived.Lib.QuietBelow
import Derived.Deep.DrawnRows
import Derived.Laws.Cover1
import Derived.WalkMore
import Derived.Shelf.Spec.SlicesGrow
import Derived.StillTailTactics
import Derived.Laws.BitsLemmas
import Derived.Laws.RangeAny
import Derived.Laws.Runes
import Derived.Lib.Builder
import Derived.Deep.WholeRow
import Derived.Lib.OthersKept
import Derived.Shelf.SlSorted.Search
import Derived.LaidEql
import Derived.Stop.Asserts
import Derived.RowKitTokens
import Derived.Deep.RegionHeld3
import Derived.Deep.RegionLaw
import Derived.Handy
import Derived.Laws.IdiomCopy
import Derived.Lib.SliceRun
import Derived.Laws.ResultCell
import Derived.Deep.LoopGhost
import Derived.Deep.DeepCutAuto
import Derived.Deep.MidRow
import Derived.BigRegion
import Derived.Test.YtpmhmippoefcfaaGreatDoorProg
import Derived.Test.YtpmhmippoefcfaaGreatDoorShelf
import Derived.Test.YtpmhmippoefcfaaGreatDoorB01
import Derived.Test.YtpmhmippoefcfaaGreatDoorB02
import Derived.Test.YtpmhmippoefcfaaGreatDoorB04
import Derived.Test.YtpmhmippoefcfaaGreatDoorB05
import Derived.Test.YtpmhmippoefcfaaGreatDoorB07
import Derived.Test.YtpmhmippoefcfaaGreatDoorB08
import Derived.Test.YtpmhmippoefcfaaGreatDoorB09
import Derived.Test.YtpmhmippoefcfaaGreatDoorB10
import Derived.Test.YtpmhmippoefcfaaGreatDoorB11
import Derived.Test.YtpmhmippoefcfaaGreatDoorB12
import Derived.Test.YtpmhmippoefcfaaGreatDoorB13
import Derived.Test.YtpmhmippoefcfaaGreatDoorB14
import Derived.Test.YtpmhmippoefcfaaGreatDoorB16
import Derived.Test.YtpmhmippoefcfaaGreatDoorB17
import Derived.Test.YtpmhmippoefcfaaGreatDoorB21
import Derived.Test.YtpmhmippoefcfaaGreatDoorB24
import Derived.Test.YtpmhmippoefcfaaGreatDoorChangeDropsE01
import Derived.Test.YtpmhmippoefcfaaGreatDoorChangeDropsE07
import Derived.Test.YtpmhmippoefcfaaGreatDoorChangeDropsE08
import Derived.Test.YtpmhmippoefcfaaGreatDoorChangeDropsE10
import Derived.Test.YtpmhmippoefcfaaGreatDoorChangeDropsE11
import Derived.Test.YtpmhmippoefcfaaGreatDoorChangeDropsE12
namespace Go.Proofs.YtpmhmippoefcfaaGreatDoor
open Go.RowKit Go.Shelf
attribute [local go_sem ↓] Go.wp_at_zero Go.wp_at_succ
set_option maxRecDepth 100000 in
set_option maxHeartbeats 4000000 in
theorem drops_l (l : List NodeL) (most room : Int) (who fr : Int) (old path : Str) (mode : Int) (ao : Option Addr) (cap : Nat) (w : World) (hg : GivesN l (.slice ao l.length cap) w) (hfit : FitD l) {S : Nat → Addr} (hs : Sent S w) :
    Calls Tryz.prog 4 #[diskV ao l.length cap most room, asV who fr, .string (bs old), .string (bs path), .int .i64 mode] w fun e w' => e = .returned (.bool true) ∧ Below w.heap.size w w' := by
  have S0 := Lib.hid (Sn.start hg)
  have HS := Lib.hid hs
  have HQ := Lib.hid fun v W (hgv : GivesN l v W) => right_g l most room v W hgv hfit
  have HSh := Lib.hid fun W (hs : Sent S W) => shown_any W hs
  clear hg hs hfit
  go_enter Tryz.func4, Tryz.ntmps4
  go_upto_region 1 with (fail)
  refine code_fresh2 ?_
  intro W1 hb hA0 hA1 hs
  have S1 := Lib.hid (S0.out.new2 hb hA0 hA1)
  clear hb hA0 hA1 hs
  obtain ⟨d0, d1, d2⟩ := cells3 (S1.out.at 0 rfl)
  go_wp2_with fail
  refine (HQ.out _ W1 (S1.out.g 0 rfl)).mono ?_
  rintro e W2 ⟨rfl, hb⟩
  clear d0 d1 d2
  have S2 := Lib.hid (S1.out.call hb)
  clear hb
  cases hq : rightQ l most room with
  | false =>
    clear hq
    go_wp2_with fail
    refine (HSh.out W2 (HS.out.keep S2.out.bel)).mono ?_
    rintro e WZ ⟨rfl, hb⟩
    go_wp2_with fail
    go_ret
    exact ⟨rfl, ret_tr S2.out.bel hb⟩
  | true =>
    have HR := Lib.hid hq
    clear hq
    go_wp2_with fail
    refine calls_fresh1 ?_
    intro WS hb hA hs
    have SS := Lib.hid (S2.out.call hb)
    clear hb hs
    refine (short_n [path, old] 2 rfl (by decide) WS hA).mono ?_
    rintro e _ ⟨rfl, rfl⟩
    clear hA
    cases hsh : shortB [path, old] with
    | false =>
      clear hsh
      go_wp2_with fail
      refine (HSh.out WS (HS.out.keep SS.out.bel)).mono ?_
      rintro e WZ ⟨rfl, hb⟩
      go_wp2_with fail
      go_ret
      exact ⟨rfl, ret_tr SS.out.bel hb⟩
    | true =>
      have hplpath : path.length ≤ 10000 := Nat.le_trans (short_yes hsh path (by simp)) (by decide)
      have hplold : old.length ≤ 10000 := Nat.le_trans (short_yes hsh old (by simp)) (by decide)
      clear hsh
      go_wp2_with fail
      refine (HSh.out WS (HS.out.keep SS.out.bel)).mono ?_
      rintro e W3 ⟨rfl, hb⟩
      have S3 := Lib.hid (SS.out.call hb)
      clear hb
      have hp := fun (W : World) (ao : Option Addr) (cap : Nat) (h : GivesX (fun _ => False) l (.slice ao l.length cap) W) (hs : Sent S W) => (plink_g (fun _ => False) l most room who fr old path ao cap W old_no h (q_dsk HR.out) hplpath hs hplold).mono fun _ _ h => chgT h
      have hr := fun (X : Nat → Prop) (W : World) (ao : Option Addr) (cap : Nat) (hX : Old X W) (h : GivesX X l (.slice ao l.length cap) W) => (rlink_g X l most room who fr old path ao cap W hX h (q_dsk HR.out) hplold hplpath).mono fun _ _ h => (show ChgX X _ _ most room _ _ _ from h)
      have ha := aft_link HR.out who fr path old
      generalize linkL l who fr old path = R at hp hr ha
      obtain ⟨L1, f1⟩ := R
      dsimp only at hp hr ha
      have HP1 := Lib.hid hp
      have HR1 := Lib.hid hr
      have HA1 := Lib.hid ha
      clear hp hr ha
      have hp := fun (W : World) (ao : Option Addr) (cap : Nat) (h : GivesX (fun _ => False) l (.slice ao l.length cap) W) (hs : Sent S W) => (punlink_g (fun _ => False) l most room who fr path ao cap W old_no h (q_dsk HR.out) hplpath hs).mono fun _ _ h => chgT h
      have hr := fun (X : Nat → Prop) (W : World) (ao : Option Addr) (cap : Nat) (hX : Old X W) (h : GivesX X l (.slice ao l.length cap) W) => (runlink_g X l most room who fr path ao cap W hX h (q_dsk HR.out) hplpath).mono fun _ _ h => (show ChgX X _ _ most room _ _ _ from h)
      have ha := aft_unlink HR.out who fr path
      generalize unlinkL l who fr path = R at hp hr ha
      obtain ⟨L2, f2⟩ := R
      dsimp only at hp hr ha
      have HP2 := Lib.hid hp
      have HR2 := Lib.hid hr
      have HA2 := Lib.hid ha
      clear hp hr ha
      have hp := fun (W : World) (ao : Option Addr) (cap : Nat) (h : GivesX (fun _ => False) l (.slice ao l.length cap) W) (hs : Sent S W) => (prmdir_g (fun _ => False) l most room who fr path ao cap W old_no h (q_dsk HR.out) hplpath hs).mono fun _ _ h => chgT h
      have hr := fun (X : Nat → Prop) (W : World) (ao : Option Addr) (cap : Nat) (hX : Old X W) (h : GivesX X l (.slice ao l.length cap) W) => (rrmdir_g X l most room who fr path ao cap W hX h (q_dsk HR.out) hplpath).mono fun _ _ h => (show ChgX X _ _ most room _ _ _ from h)
      have ha := aft_rmdir HR.out who fr path
      generalize rmdirL l who fr path = R at hp hr ha
      obtain ⟨L3, f3⟩ := R
      dsimp only at hp hr ha
      have HP3 := Lib.hid hp
      have HR3 := Lib.hid hr
      have HA3 := Lib.hid ha
      clear hp hr ha
      have hp := fun (W : World) (ao : Option Addr) (cap : Nat) (h : GivesX (fun _ => False) l (.slice ao l.length cap) W) (hs : Sent S W) => (pchmod_g (fun _ => False) l most room who fr path mode ao cap W old_no h (q_dsk HR.out) hplpath hs).mono fun _ _ h => chgT h
      have hr := fun (X : Nat → Prop) (W : World) (ao : Option Addr) (cap : Nat) (hX : Old X W) (h : GivesX X l (.slice ao l.length cap) W) => (rchmod_g X l most room who fr path mode ao cap W hX h (q_dsk HR.out) hplpath).mono fun _ _ h => (show ChgX X _ _ most room _ _ _ from h)
      have ha := aft_chmod HR.out who fr path mode
      generalize chmodL l who fr path mode = R at hp hr ha
      obtain ⟨L4, f4⟩ := R
      dsimp only at hp hr ha
      have HP4 := Lib.hid hp
      have HR4 := Lib.hid hr
      have HA4 := Lib.hid ha
      clear hp hr ha
      have HA := Lib.hid (q_aft HR.out)
      obtain ⟨d0, d1, d2⟩ := cells3 (S3.out.at 0 rfl)
      go_wp2_with fail
      refine (its_f l most room HA.out.dsk.len HA.out.names _ W3 (S3.out.g 0 rfl)).mono ?_
      rintro e W4 ⟨aoe, cpe, rfl, hg1, hb⟩
      clear d0 d1 d2
      have S4 := Lib.hid ((S3.out.call hb).addG hg1)
      clear hb hg1
      go_upto_region 4 with (fail)
      refine code_fresh1 ?_
      intro W5 hb hA0 hs
      have S5 := Lib.hid (S4.out.new1 hb hA0)
      clear hb hA0 hs
      obtain ⟨d0, d1, d2⟩ := cells3 (S5.out.at 0 rfl)
      obtain ⟨a0, a1⟩ := cells2 (S5.out.at 1 rfl)
      go_wp2_with fail
      refine (HP1.out W5 _ _ (S5.out.gx 0 rfl) (HS.out.keep S5.out.bel)).mono ?_
      rintro e W6 ⟨ao1, cp1, rfl, hg1, hb⟩
      clear d0 d1 d2 a0 a1
      have S6 := Lib.hid ((S5.out.call hb).addG hg1)
      clear hb hg1
      go_upto_region 5 with (fail)
      refine code_fresh1 ?_
      intro W7 hb hA0 hs
      have S7 := Lib.hid (S6.out.new1 hb hA0)
      clear hb hA0 hs
      go_upto_region 5 with (fail)
      go_cut [14, 15] from 53 to 61 (fun s14 s15 wx => s15 = .int .i64 f1 ∧ CutD W7 L1 most room 32 s14 wx)
      case first =>
        have S8 := Lib.hid S7.out.st
        have h_e := (S7.out.at' S8.out.bel 2 rfl)
        have h_a := (S7.out.at' S8.out.bel 1 rfl)
        refine wp_region_held_drew (S := fun W => W.heap[W4.heap.size]? = some (.cells #[.slice aoe l.length cpe, .int .i64 most, .int .i64 room] 32 (0, 0)) ∧ W.heap[w.heap.size + 1]? = some (.cells #[.int .i64 who, .int .i64 fr] 26 (0, 0)) ∧ True) (by kernel_rfl) ⟨(S7.out.at' S8.out.bel 2 rfl), (S7.out.at' S8.out.bel 1 rfl), trivial⟩ (fun hHeld => ?_)
        clear h_e h_a
        have S9 := Lib.hid (S8.out.call (Below.refl W7.heap.size W7).drew)
        generalize W7.drew = W9 at *
        refine wpAnyH_take (i := 0) rfl (by kernel_rfl) (by kernel_rfl) (by kernel_rfl) (fun _ _ _ h => h) (yieldsIf_load_row (by rfl) 32 _ rfl _ rfl 32 _ (0, 0) _ (fun _ h => h.1) Tryz.underlying32 rfl (by kernel_rfl)) hHeld ?_
        (try simp only [pt, Act.put])
        refine wpAnyH_take (i := 1) rfl (by kernel_rfl) (by kernel_rfl) (by kernel_rfl) (fun _ _ _ h => h) (yieldsIf_load_row (by rfl) 26 _ rfl _ rfl 26 _ (0, 0) _ (fun _ h => h.2.1) Tryz.underlying26 rfl (by kernel_rfl)) hHeld ?_
        (try simp only [pt, Act.put])
        refine wpAnyH_take (i := 3) (v := ?v76) rfl (by kernel_rfl) (by kernel_rfl) (by kernel_rfl) (fun _ _ _ h => h) (Or.inl ⟨by rfl, ?hy76⟩) hHeld ?rest76
        case hy76 => (intro w hSw; (try dsimp only at hSw); (try go_split_ands); go_simp; first | done | with_reducible rfl)
        (try simp only [pt, Act.put])
        refine wpAnyH_take (i := 4) (v := ?v77) rfl (by kernel_rfl) (by kernel_rfl) (by kernel_rfl) (fun _ _ _ h => h) (Or.inl ⟨by rfl, ?hy77⟩) hHeld ?rest77
        case hy77 => (intro w hSw; (try dsimp only at hSw); (try go_split_ands); go_simp; first | done | with_reducible rfl)
        (try simp only [pt, Act.put])
        refine wpAnyH_ready (rs := [2, 9]) (by kernel_rfl) (by simp) ?_
        refine AllReadyH.cons rfl (fun K hK => ?_) (AllReadyH.cons rfl (fun K hK => ?_) AllReadyH.nil)
        · skip
          go_simp
          refine (as_any who fr W9).mono ?_
          rintro e W10 ⟨rfl, hb⟩
          have S10 := Lib.hid (S9.out.call hb)
          clear hb hHeld
          go_wp2_with fail
          refine hK.out _ _ ⟨(S7.out.at' S10.out.bel 2 rfl), (S7.out.at' S10.out.bel 1 rfl), trivial⟩ (fun hHeld => ?_)
          clear hK K
          (try simp only [pt, Act.put])
          refine wpAnyH_ready (rs := [5, 9]) (by kernel_rfl) (by simp) ?_
          refine AllReadyH.cons rfl (fun K hK => ?_) (AllReadyH.cons rfl (fun K hK => ?_) AllReadyH.nil)
          · skip
            go_simp
            refine (HR1.out _ W10 _ _ S10.out.oldX (S10.out.g 1 rfl)).mono ?_
            rintro e W11 ⟨aoy, cpy, rfl, hgy, hb⟩
            have S11 := Lib.hid ((S10.out.call hb).addG hgy)
            clear hb hHeld hgy
            go_wp2_with fail
            refine hK.out _ _ ⟨(S7.out.at' S11.out.bel 2 rfl), (S7.out.at' S11.out.bel 1 rfl), trivial⟩ (fun hHeld => ?_)
            clear hK K
            (try simp only [pt, Act.put])
            refine wpAnyH_take (i := 6) (v := ?v78) rfl (by kernel_rfl) (by kernel_rfl) (by kernel_rfl) (fun _ _ _ h => h) (Or.inl ⟨by rfl, ?hy78⟩) hHeld ?rest78
            case hy78 => (intro w hSw; (try dsimp only at hSw); (try go_split_ands); go_simp; first | done | with_reducible rfl)
            (try simp only [pt, Act.put])
            refine wpAnyH_take (i := 7) (v := ?v79) rfl (by kernel_rfl) (by kernel_rfl) (by kernel_rfl) (fun _ _ _ h => h) (Or.inl ⟨by rfl, ?hy79⟩) hHeld ?rest79
            case hy79 => (intro w hSw; (try dsimp only at hSw); (try go_split_ands); go_simp; first | done | with_reducible rfl)
            (try simp only [pt, Act.put])
            refine wpAnyH_take (i := 8) (v := ?v80) rfl (by kernel_rfl) (by kernel_rfl) (by kernel_rfl) (fun _ _ _ h => h) (Or.inl ⟨by rfl, ?hy80⟩) hHeld ?rest80
            case hy80 => (intro w hSw; (try dsimp only at hSw); (try go_split_ands); go_simp; first | done | with_reducible rfl)
            (try simp only [pt, Act.put])
            refine wpAnyH_ready (rs := [9]) (by kernel_rfl) (by simp) ?_
            refine AllReadyH.cons rfl (fun K hK => ?_) AllReadyH.nil
            go_simp
            refine fresh1 (P := fun W => K _ W) ?_
            intro W12 hb hn hs
            have S12 := Lib.hid (S11.out.new1 hb hn)
            clear hb hn hs hHeld
            refine hK.out _ _ ⟨(S7.out.at' S12.out.bel 2 rfl), (S7.out.at' S12.out.bel 1 rfl), trivial⟩ (fun hHeld => ?_)
            clear hK K
            (try simp only [pt, Act.put])
            refine wpAnyH_ready (rs := [10]) (by kernel_rfl) (by simp) ?_
            refine AllReadyH.cons rfl (fun K hK => ?_) AllReadyH.nil
            rw [if_pos (by rfl)]
            refine wp_store_row 32 _ _ rfl _ rfl rfl (S12.out.at 0 rfl) rfl (by kernel_rfl) rfl ?_
            intro W13 hb hg hs hn
            have S13 := Lib.hid (S12.out.set 0 rfl hb hg hs hn)
            clear hb hg hs hn hHeld
            refine hK.out _ _ ⟨(S7.out.at' S13.out.bel 2 rfl), (S7.out.at' S13.out.bel 1 rfl), trivial⟩ (fun hHeld => ?_)
            clear hK K
            (try simp only [pt, Act.put])
            refine wpAnyH_take (i := 11) (v := ?v81) rfl (by kernel_rfl) (by kernel_rfl) (by kernel_rfl) (fun _ _ _ h => h) (Or.inl ⟨by rfl, ?hy81⟩) hHeld ?rest81
            case hy81 => (intro w hSw; (try dsimp only at hSw); (try go_split_ands); go_simp; first | done | with_reducible rfl)
            (try simp only [pt, Act.put])
            refine wpAnyH_done (by kernel_rfl) ?_ _
            go_wp2_with fail
            go_meet
            exact ⟨rfl, _, _, _, rfl, S13.out.at 0 rfl, (S13.out.g 3 rfl).gives, S13.out.bel⟩
          · skip
            go_simp
            refine fresh1 (P := fun W => K _ W) ?_
            intro W11 hb hn hs
            have S11 := Lib.hid (S10.out.new1 hb hn)
            clear hb hn hs hHeld
            refine hK.out _ _ ⟨(S7.out.at' S11.out.bel 2 rfl), (S7.out.at' S11.out.bel 1 rfl), trivial⟩ (fun hHeld => ?_)
            clear hK K
            (try simp only [pt, Act.put])
            refine wpAnyH_ready (rs := [5]) (by kernel_rfl) (by simp) ?_
            refine AllReadyH.cons rfl (fun K hK => ?_) AllReadyH.nil
            go_simp
            refine (HR1.out _ W11 _ _ S11.out.oldX (S11.out.g 1 rfl)).mono ?_
            rintro e W12 ⟨aoy, cpy, rfl, hgy, hb⟩
            have S12 := Lib.hid ((S11.out.call hb).addG hgy)
            clear hb hHeld hgy
            go_wp2_with fail
            refine hK.out _ _ ⟨(S7.out.at' S12.out.bel 2 rfl), (S7.out.at' S12.out.bel 1 rfl), trivial⟩ (fun hHeld => ?_)
            clear hK K
            (try simp only [pt, Act.put])
            refine wpAnyH_take (i := 6) (v := ?v82) rfl (by kernel_rfl) (by kernel_rfl) (by kernel_rfl) (fun _ _ _ h => h) (Or.inl ⟨by rfl, ?hy82⟩) hHeld ?rest82
            case hy82 => (intro w hSw; (try dsimp only at hSw); (try go_split_ands); go_simp; first | done | with_reducible rfl)
            (try simp only [pt, Act.put])
            refine wpAnyH_take (i := 7) (v := ?v83) rfl (by kernel_rfl) (by kernel_rfl) (by kernel_rfl) (fun _ _ _ h => h) (Or.inl ⟨by rfl, ?hy83⟩) hHeld ?rest83
            case hy83 => (intro w hSw; (try dsimp only at hSw); (try go_split_ands); go_simp; first | done | with_reducible rfl)
            (try simp only [pt, Act.put])
            refine wpAnyH_take (i := 8) (v := ?v84) rfl (by kernel_rfl) (by kernel_rfl) (by kernel_rfl) (fun _ _ _ h => h) (Or.inl ⟨by rfl, ?hy84⟩) hHeld ?rest84
            case hy84 => (intro w hSw; (try dsimp only at hSw); (try go_split_ands); go_simp; first | done | with_reducible rfl)
            (try simp only [pt, Act.put])
            refine wpAnyH_ready (rs := [10]) (by kernel_rfl) (by simp) ?_
            refine AllReadyH.cons rfl (fun K hK => ?_) AllReadyH.nil
            rw [if_pos (by rfl)]
            refine wp_store_row 32 _ _ rfl _ rfl rfl (S12.out.at 0 rfl) rfl (by kernel_rfl) rfl ?_
            intro W13 hb hg hs hn
            have S13 := Lib.hid (S12.out.set 0 rfl hb hg hs hn)
            clear hb hg hs hn hHeld
            refine hK.out _ _ ⟨(S7.out.at' S13.out.bel 2 rfl), (S7.out.at' S13.out.bel 1 rfl), trivial⟩ (fun hHeld => ?_)
            clear hK K
            (try simp only [pt, Act.put])
            refine wpAnyH_take (i := 11) (v := ?v85) rfl (by kernel_rfl) (by kernel_rfl) (by kernel_rfl) (fun _ _ _ h => h) (Or.inl ⟨by rfl, ?hy85⟩) hHeld ?rest85
            case hy85 => (intro w hSw; (try dsimp only at hSw); (try go_split_ands); go_simp; first | done | with_reducible rfl)
            (try simp only [pt, Act.put])
            refine wpAnyH_done (by kernel_rfl) ?_ _
            go_wp2_with fail
            go_meet
            exact ⟨rfl, _, _, _, rfl, S13.out.at 0 rfl, (S13.out.g 3 rfl).gives, S13.out.bel⟩
        · skip
          go_simp
          refine fresh1 (P := fun W => K _ W) ?_
          intro W10 hb hn hs
          have S10 := Lib.hid (S9.out.new1 hb hn)
          clear hb hn hs hHeld
          refine hK.out _ _ ⟨(S7.out.at' S10.out.bel 2 rfl), (S7.out.at' S10.out.bel 1 rfl), trivial⟩ (fun hHeld => ?_)
          clear hK K
          (try simp only [pt, Act.put])
          refine wpAnyH_ready (rs := [2]) (by kernel_rfl) (by simp) ?_
          refine AllReadyH.cons rfl (fun K hK => ?_) AllReadyH.nil
          go_simp
          refine (as_any who fr W10).mono ?_
          rintro e W11 ⟨rfl, hb⟩
          have S11 := Lib.hid (S10.out.call hb)
          clear hb hHeld
          go_wp2_with fail
          refine hK.out _ _ ⟨(S7.out.at' S11.out.bel 2 rfl), (S7.out.at' S11.out.bel 1 rfl), trivial⟩ (fun hHeld => ?_)
          clear hK K
          (try simp only [pt, Act.put])
          refine wpAnyH_ready (rs := [5]) (by kernel_rfl) (by simp) ?_
          refine AllReadyH.cons rfl (fun K hK => ?_) AllReadyH.nil
          go_simp
          refine (HR1.out _ W11 _ _ S11.out.oldX (S11.out.g 1 rfl)).mono ?_
          rintro e W12 ⟨aoy, cpy, rfl, hgy, hb⟩
          have S12 := Lib.hid ((S11.out.call hb).addG hgy)
          clear hb hHeld hgy
          go_wp2_with fail
          refine hK.out _ _ ⟨(S7.out.at' S12.out.bel 2 rfl), (S7.out.at' S12.out.bel 1 rfl), trivial⟩ (fun hHeld => ?_)
          clear hK K
          (try simp only [pt, Act.put])
          refine wpAnyH_take (i := 6) (v := ?v86) rfl (by kernel_rfl) (by kernel_rfl) (by kernel_rfl) (fun _ _ _ h => h) (Or.inl ⟨by rfl, ?hy86⟩) hHeld ?rest86
          case hy86 => (intro w hSw; (try dsimp only at hSw); (try go_split_ands); go_simp; first | done | with_reducible rfl)
          (try simp only [pt, Act.put])
          refine wpAnyH_take (i := 7) (v := ?v87) rfl (by kernel_rfl) (by kernel_rfl) (by kernel_rfl) (fun _ _ _ h => h) (Or.inl ⟨by rfl, ?hy87⟩) hHeld ?rest87
          case hy87 => (intro w hSw; (try dsimp only at hSw); (try go_split_ands); go_simp; first | done | with_reducible rfl)
          (try simp only [pt, Act.put])
          refine wpAnyH_take (i := 8) (v := ?v88) rfl (by kernel_rfl) (by kernel_rfl) (by kernel_rfl) (fun _ _ _ h => h) (Or.inl ⟨by rfl, ?hy88⟩) hHeld ?rest88
          case hy88 => (intro w hSw; (try dsimp only at hSw); (try go_split_ands); go_simp; first | done | with_reducible rfl)
          (try simp only [pt, Act.put])
          refine wpAnyH_ready (rs := [10]) (by kernel_rfl) (by simp) ?_
          refine AllReadyH.cons rfl (fun K hK => ?_) AllReadyH.nil
          rw [if_pos (by rfl)]
          refine wp_store_row 32 _ _ rfl _ rfl rfl (S12.out.at 0 rfl) rfl (by kernel_rfl) rfl ?_
          intro W13 hb hg hs hn
          have S13 := Lib.hid (S12.out.set 0 rfl hb hg hs hn)
          clear hb hg hs hn hHeld
          refine hK.out _ _ ⟨(S7.out.at' S13.out.bel 2 rfl), (S7.out.at' S13.out.bel 1 rfl), trivial⟩ (fun hHeld => ?_)
          clear hK K
          (try simp only [pt, Act.put])
          refine wpAnyH_take (i := 11) (v := ?v89) rfl (by kernel_rfl) (by kernel_rfl) (by kernel_rfl) (fun _ _ _ h => h) (Or.inl ⟨by rfl, ?hy89⟩) hHeld ?rest89
          case hy89 => (intro w hSw; (try dsimp only at hSw); (try go_split_ands); go_simp; first | done | with_reducible rfl)
          (try simp only [pt, Act.put])
          refine wpAnyH_done (by kernel_rfl) ?_ _
          go_wp2_with fail
          go_meet
          exact ⟨rfl, _, _, _, rfl, S13.out.at 0 rfl, (S13.out.g 3 rfl).gives, S13.out.bel⟩
      case rest =>
      obtain ⟨rfl, bY, aoY, cpY, rfl, hblk, hgY, hbY⟩ := hcut
      have S8 := Lib.hid ((S7.out.add1 hbY hblk).addG hgY)
      clear hbY hblk hgY
      generalize wc = W8 at *
      generalize bY = blky at *
      generalize aoY = aoy at *
      generalize cpY = cpy at *
      obtain ⟨d0, d1, d2⟩ := cells3 (S8.out.at 0 rfl)
      obtain ⟨a0, a1⟩ := cells2 (S8.out.at 1 rfl)
      go_wp2_with fail
      refine (HP2.out W8 _ _ (S8.out.gx 0 rfl) (HS.out.keep S8.out.bel)).mono ?_
      rintro e W9 ⟨ao2, cp2, rfl, hg1, hb⟩
      clear d0 d1 d2 a0 a1
      have S9 := Lib.hid ((S8.out.call hb).addG hg1)
      clear hb hg1
      go_upto_region 7 with (fail)
      refine code_fresh1 ?_
      intro W10 hb hA0 hs
      have S10 := Lib.hid (S9.out.new1 hb hA0)
      clear hb hA0 hs
      go_upto_region 7 with (fail)
      go_cut [18, 19] from 69 to 76 (fun s18 s19 wx => s19 = .int .i64 f2 ∧ CutD W10 L2 most room 32 s18 wx)
      case first =>
        have S11 := Lib.hid S10.out.st
        have h_e := (S10.out.at' S11.out.bel 2 rfl)
        have h_a := (S10.out.at' S11.out.bel 1 rfl)
        refine wp_region_held_drew (S := fun W => W.heap[W4.heap.size]? = some (.cells #[.slice aoe l.length cpe, .int .i64 most, .int .i64 room] 32 (0, 0)) ∧ W.heap[w.heap.size + 1]? = some (.cells #[.int .i64 who, .int .i64 fr] 26 (0, 0)) ∧ True) (by kernel_rfl) ⟨(S10.out.at' S11.out.bel 2 rfl), (S10.out.at' S11.out.bel 1 rfl), trivial⟩ (fun hHeld => ?_)
        clear h_e h_a
        have S12 := Lib.hid (S11.out.call (Below.refl W10.heap.size W10).drew)
        generalize W10.drew = W12 at *
        refine wpAnyH_take (i := 0) rfl (by kernel_rfl) (by kernel_rfl) (by kernel_rfl) (fun _ _ _ h => h) (yieldsIf_load_row (by rfl) 32 _ rfl _ rfl 32 _ (0, 0) _ (fun _ h => h.1) Tryz.underlying32 rfl (by kernel_rfl)) hHeld ?_
        (try simp only [pt, Act.put])
        refine wpAnyH_take (i := 1) rfl (by kernel_rfl) (by kernel_rfl) (by kernel_rfl) (fun _ _ _ h => h) (yieldsIf_load_row (by rfl) 26 _ rfl _ rfl 26 _ (0, 0) _ (fun _ h => h.2.1) Tryz.underlying26 rfl (by kernel_rfl)) hHeld ?_
        (try simp only [pt, Act.put])
        refine wpAnyH_take (i := 3) (v := ?v90) rfl (by kernel_rfl) (by kernel_rfl) (by kernel_rfl) (fun _ _ _ h => h) (Or.inl ⟨by rfl, ?hy90⟩) hHeld ?rest90
        case hy90 => (intro w hSw; (try dsimp only at hSw); (try go_split_ands); go_simp; first | done | with_reducible rfl)
        (try simp only [pt, Act.put])
        refine wpAnyH_ready (rs := [2, 8]) (by kernel_rfl) (by simp) ?_
        refine AllReadyH.cons rfl (fun K hK => ?_) (AllReadyH.cons rfl (fun K hK => ?_) AllReadyH.nil)
        · skip
          go_simp
          refine (as_any who fr W12).mono ?_
          rintro e W13 ⟨rfl, hb⟩
          have S13 := Lib.hid (S12.out.call hb)
          clear hb hHeld
          go_wp2_with fail
          refine hK.out _ _ ⟨(S10.out.at' S13.out.bel 2 rfl), (S10.out.at' S13.out.bel 1 rfl), trivial⟩ (fun hHeld => ?_)
          clear hK K
          (try simp only [pt, Act.put])
          refine wpAnyH_ready (rs := [4, 8]) (by kernel_rfl) (by simp) ?_
          refine AllReadyH.cons rfl (fun K hK => ?_) (AllReadyH.cons rfl (fun K hK => ?_) AllReadyH.nil)
          · skip
            go_simp
            refine (HR2.out _ W13 _ _ S13.out.oldX (S13.out.g 1 rfl)).mono ?_
            rintro e W14 ⟨aoy, cpy, rfl, hgy, hb⟩
            have S14 := Lib.hid ((S13.out.call hb).addG hgy)
            clear hb hHeld hgy
            go_wp2_with fail
            refine hK.out _ _ ⟨(S10.out.at' S14.out.bel 2 rfl), (S10.out.at' S14.out.bel 1 rfl), trivial⟩ (fun hHeld => ?_)
            clear hK K
            (try simp only [pt, Act.put])
            refine wpAnyH_take (i := 5) (v := ?v91) rfl (by kernel_rfl) (by kernel_rfl) (by kernel_rfl) (fun _ _ _ h => h) (Or.inl ⟨by rfl, ?hy91⟩) hHeld ?rest91
            case hy91 => (intro w hSw; (try dsimp only at hSw); (try go_split_ands); go_simp; first | done | with_reducible rfl)
            (try simp only [pt, Act.put])
            refine wpAnyH_take (i := 6) (v := ?v92) rfl (by kernel_rfl) (by kernel_rfl) (by kernel_rfl) (fun _ _ _ h => h) (Or.inl ⟨by rfl, ?hy92⟩) hHeld ?rest92
            case hy92 => (intro w hSw; (try dsimp only at hSw); (try go_split_ands); go_simp; first | done | with_reducible rfl)
            (try simp only [pt, Act.put])
            refine wpAnyH_take (i := 7) (v := ?v93) rfl (by kernel_rfl) (by kernel_rfl) (by kernel_rfl) (fun _ _ _ h => h) (Or.inl ⟨by rfl, ?hy93⟩) hHeld ?rest93
            case hy93 => (intro w hSw; (try dsimp only at hSw); (try go_split_ands); go_simp; first | done | with_reducible rfl)
            (try simp only [pt, Act.put])
            refine wpAnyH_ready (rs := [8]) (by kernel_rfl) (by simp) ?_
            refine AllReadyH.cons rfl (fun K hK => ?_) AllReadyH.nil
            go_simp
            refine fresh1 (P := fun W => K _ W) ?_
            intro W15 hb hn hs
            have S15 := Lib.hid (S14.out.new1 hb hn)
            clear hb hn hs hHeld
            refine hK.out _ _ ⟨(S10.out.at' S15.out.bel 2 rfl), (S10.out.at' S15.out.bel 1 rfl), trivial⟩ (fun hHeld => ?_)
            clear hK K
            (try simp only [pt, Act.put])
            refine wpAnyH_ready (rs := [9]) (by kernel_rfl) (by simp) ?_
            refine AllReadyH.cons rfl (fun K hK => ?_) AllReadyH.nil
            rw [if_pos (by rfl)]
            refine wp_store_row 32 _ _ rfl _ rfl rfl (S15.out.at 0 rfl) rfl (by kernel_rfl) rfl ?_
            intro W16 hb hg hs hn
            have S16 := Lib.hid (S15.out.set 0 rfl hb hg hs hn)
            clear hb hg hs hn hHeld
            refine hK.out _ _ ⟨(S10.out.at' S16.out.bel 2 rfl), (S10.out.at' S16.out.bel 1 rfl), trivial⟩ (fun hHeld => ?_)
            clear hK K
            (try simp only [pt, Act.put])
            refine wpAnyH_take (i := 10) (v := ?v94) rfl (by kernel_rfl) (by kernel_rfl) (by kernel_rfl) (fun _ _ _ h => h) (Or.inl ⟨by rfl, ?hy94⟩) hHeld ?rest94
            case hy94 => (intro w hSw; (try dsimp only at hSw); (try go_split_ands); go_simp; first | done | with_reducible rfl)
            (try simp only [pt, Act.put])
            refine wpAnyH_done (by kernel_rfl) ?_ _
            go_wp2_with fail
            go_meet
            exact ⟨rfl, _, _, _, rfl, S16.out.at 0 rfl, (S16.out.g 5 rfl).gives, S16.out.bel⟩
          · skip
            go_simp
            refine fresh1 (P := fun W => K _ W) ?_
            intro W14 hb hn hs
            have S14 := Lib.hid (S13.out.new1 hb hn)
            clear hb hn hs hHeld
            refine hK.out _ _ ⟨(S10.out.at' S14.out.bel 2 rfl), (S10.out.at' S14.out.bel 1 rfl), trivial⟩ (fun hHeld => ?_)
            clear hK K
            (try simp only [pt, Act.put])
            refine wpAnyH_ready (rs := [4]) (by kernel_rfl) (by simp) ?_
            refine AllReadyH.cons rfl (fun K hK => ?_) AllReadyH.nil
            go_simp
            refine (HR2.out _ W14 _ _ S14.out.oldX (S14.out.g 1 rfl)).mono ?_
            rintro e W15 ⟨aoy, cpy, rfl, hgy, hb⟩
            have S15 := Lib.hid ((S14.out.call hb).addG hgy)
            clear hb hHeld hgy
            go_wp2_with fail
            refine hK.out _ _ ⟨(S10.out.at' S15.out.bel 2 rfl), (S10.out.at' S15.out.bel 1 rfl), trivial⟩ (fun hHeld => ?_)
            clear hK K
            (try simp only [pt, Act.put])
            refine wpAnyH_take (i := 5) (v := ?v95) rfl (by kernel_rfl) (by kernel_rfl) (by kernel_rfl) (fun _ _ _ h => h) (Or.inl ⟨by rfl, ?hy95⟩) hHeld ?rest95
            case hy95 => (intro w hSw; (try dsimp only at hSw); (try go_split_ands); go_simp; first | done | with_reducible rfl)
            (try simp only [pt, Act.put])
            refine wpAnyH_take (i := 6) (v := ?v96) rfl (by kernel_rfl) (by kernel_rfl) (by kernel_rfl) (fun _ _ _ h => h) (Or.inl ⟨by rfl, ?hy96⟩) hHeld ?rest96
            case hy96 => (intro w hSw; (try dsimp only at hSw); (try go_split_ands); go_simp; first | done | with_reducible rfl)
            (try simp only [pt, Act.put])
            refine wpAnyH_take (i := 7) (v := ?v97) rfl (by kernel_rfl) (by kernel_rfl) (by kernel_rfl) (fun _ _ _ h => h) (Or.inl ⟨by rfl, ?hy97⟩) hHeld ?rest97
            case hy97 => (intro w hSw; (try dsimp only at hSw); (try go_split_ands); go_simp; first | done | with_reducible rfl)
            (try simp only [pt, Act.put])
            refine wpAnyH_ready (rs := [9]) (by kernel_rfl) (by simp) ?_
            refine AllReadyH.cons rfl (fun K hK => ?_) AllReadyH.nil
            rw [if_pos (by rfl)]
            refine wp_store_row 32 _ _ rfl _ rfl rfl (S15.out.at 0 rfl) rfl (by kernel_rfl) rfl ?_
            intro W16 hb hg hs hn
            have S16 := Lib.hid (S15.out.set 0 rfl hb hg hs hn)
            clear hb hg hs hn hHeld
            refine hK.out _ _ ⟨(S10.out.at' S16.out.bel 2 rfl), (S10.out.at' S16.out.bel 1 rfl), trivial⟩ (fun hHeld => ?_)
            clear hK K
            (try simp only [pt, Act.put])
            refine wpAnyH_take (i := 10) (v := ?v98) rfl (by kernel_rfl) (by kernel_rfl) (by kernel_rfl) (fun _ _ _ h => h) (Or.inl ⟨by rfl, ?hy98⟩) hHeld ?rest98
            case hy98 => (intro w hSw; (try dsimp only at hSw); (try go_split_ands); go_simp; first | done | with_reducible rfl)
            (try simp only [pt, Act.put])
            refine wpAnyH_done (by kernel_rfl) ?_ _
            go_wp2_with fail
            go_meet
            exact ⟨rfl, _, _, _, rfl, S16.out.at 0 rfl, (S16.out.g 5 rfl).gives, S16.out.bel⟩
        · skip
          go_simp
          refine fresh1 (P := fun W => K _ W) ?_
          intro W13 hb hn hs
          have S13 := Lib.hid (S12.out.new1 hb hn)
          clear hb hn hs hHeld
          refine hK.out _ _ ⟨(S10.out.at' S13.out.bel 2 rfl), (S10.out.at' S13.out.bel 1 rfl), trivial⟩ (fun hHeld => ?_)
          clear hK K
          (try simp only [pt, Act.put])
          refine wpAnyH_ready (rs := [2]) (by kernel_rfl) (by simp) ?_
          refine AllReadyH.cons rfl (fun K hK => ?_) AllReadyH.nil
          go_simp
          refine (as_any who fr W13).mono ?_
          rintro e W14 ⟨rfl, hb⟩
          have S14 := Lib.hid (S13.out.call hb)
          clear hb hHeld
          go_wp2_with fail
          refine hK.out _ _ ⟨(S10.out.at' S14.out.bel 2 rfl), (S10.out.at' S14.out.bel 1 rfl), trivial⟩ (fun hHeld => ?_)
          clear hK K
          (try simp only [pt, Act.put])
          refine wpAnyH_ready (rs := [4]) (by kernel_rfl) (by simp) ?_
          refine AllReadyH.cons rfl (fun K hK => ?_) AllReadyH.nil
          go_simp
          refine (HR2.out _ W14 _ _ S14.out.oldX (S14.out.g 1 rfl)).mono ?_
          rintro e W15 ⟨aoy, cpy, rfl, hgy, hb⟩
          have S15 := Lib.hid ((S14.out.call hb).addG hgy)
          clear hb hHeld hgy
          go_wp2_with fail
          refine hK.out _ _ ⟨(S10.out.at' S15.out.bel 2 rfl), (S10.out.at' S15.out.bel 1 rfl), trivial⟩ (fun hHeld => ?_)
          clear hK K
          (try simp only [pt, Act.put])
          refine wpAnyH_take (i := 5) (v := ?v99) rfl (by kernel_rfl) (by kernel_rfl) (by kernel_rfl) (fun _ _ _ h => h) (Or.inl ⟨by rfl, ?hy99⟩) hHeld ?rest99
          case hy99 => (intro w hSw; (try dsimp only at hSw); (try go_split_ands); go_simp; first | done | with_reducible rfl)
          (try simp only [pt, Act.put])
          refine wpAnyH_take (i := 6) (v := ?v100) rfl (by kernel_rfl) (by kernel_rfl) (by kernel_rfl) (fun _ _ _ h => h) (Or.inl ⟨by rfl, ?hy100⟩) hHeld ?rest100
          case hy100 => (intro w hSw; (try dsimp only at hSw); (try go_split_ands); go_simp; first | done | with_reducible rfl)
          (try simp only [pt, Act.put])
          refine wpAnyH_take (i := 7) (v := ?v101) rfl (by kernel_rfl) (by kernel_rfl) (by kernel_rfl) (fun _ _ _ h => h) (Or.inl ⟨by rfl, ?hy101⟩) hHeld ?rest101
          case hy101 => (intro w hSw; (try dsimp only at hSw); (try go_split_ands); go_simp; first | done | with_reducible rfl)
          (try simp only [pt, Act.put])
          refine wpAnyH_ready (rs := [9]) (by kernel_rfl) (by simp) ?_
          refine AllReadyH.cons rfl (fun K hK => ?_) AllReadyH.nil
          rw [if_pos (by rfl)]
          refine wp_store_row 32 _ _ rfl _ rfl rfl (S15.out.at 0 rfl) rfl (by kernel_rfl) rfl ?_
          intro W16 hb hg hs hn
          have S16 := Lib.hid (S15.out.set 0 rfl hb hg hs hn)
          clear hb hg hs hn hHeld
          refine hK.out _ _ ⟨(S10.out.at' S16.out.bel 2 rfl), (S10.out.at' S16.out.bel 1 rfl), trivial⟩ (fun hHeld => ?_)
          clear hK K
          (try simp only [pt, Act.put])
          refine wpAnyH_take (i := 10) (v := ?v102) rfl (by kernel_rfl) (by kernel_rfl) (by kernel_rfl) (fun _ _ _ h => h) (Or.inl ⟨by rfl, ?hy102⟩) hHeld ?rest102
          case hy102 => (intro w hSw; (try dsimp only at hSw); (try go_split_ands); go_simp; first | done | with_reducible rfl)
          (try simp only [pt, Act.put])
          refine wpAnyH_done (by kernel_rfl) ?_ _
          go_wp2_with fail
          go_meet
          exact ⟨rfl, _, _, _, rfl, S16.out.at 0 rfl, (S16.out.g 5 rfl).gives, S16.out.bel⟩
      case rest =>
      obtain ⟨rfl, bY, aoY, cpY, rfl, hblk, hgY, hbY⟩ := hcut
      have S11 := Lib.hid ((S10.out.add1 hbY hblk).addG hgY)
      clear hbY hblk hgY
      generalize wc = W11 at *
      generalize bY = blku at *
      generalize aoY = aou at *
      generalize cpY = cpu at *
      obtain ⟨d0, d1, d2⟩ := cells3 (S11.out.at 0 rfl)
      obtain ⟨a0, a1⟩ := cells2 (S11.out.at 1 rfl)
      go_wp2_with fail
      refine (HP3.out W11 _ _ (S11.out.gx 0 rfl) (HS.out.keep S11.out.bel)).mono ?_
      rintro e W12 ⟨ao3, cp3, rfl, hg1, hb⟩
      clear d0 d1 d2 a0 a1
      have S12 := Lib.hid ((S11.out.call hb).addG hg1)
      clear hb hg1
      go_upto_region 9 with (fail)
      refine code_fresh1 ?_
      intro W13 hb hA0 hs
      have S13 := Lib.hid (S12.out.new1 hb hA0)
      clear hb hA0 hs
      go_upto_region 9 with (fail)
      go_cut [22, 23] from 84 to 91 (fun s22 s23 wx => s23 = .int .i64 f3 ∧ CutD W13 L3 most room 32 s22 wx)
      case first =>
        have S14 := Lib.hid S13.out.st
        have h_e := (S13.out.at' S14.out.bel 2 rfl)
        have h_a := (S13.out.at' S14.out.bel 1 rfl)
        refine wp_region_held_drew (S := fun W => W.heap[W4.heap.size]? = some (.cells #[.slice aoe l.length cpe, .int .i64 most, .int .i64 room] 32 (0, 0)) ∧ W.heap[w.heap.size + 1]? = some (.cells #[.int .i64 who, .int .i64 fr] 26 (0, 0)) ∧ True) (by kernel_rfl) ⟨(S13.out.at' S14.out.bel 2 rfl), (S13.out.at' S14.out.bel 1 rfl), trivial⟩ (fun hHeld => ?_)
        clear h_e h_a
        have S15 := Lib.hid (S14.out.call (Below.refl W13.heap.size W13).drew)
        generalize W13.drew = W15 at *
        refine wpAnyH_take (i := 0) rfl (by kernel_rfl) (by kernel_rfl) (by kernel_rfl) (fun _ _ _ h => h) (yieldsIf_load_row (by rfl) 32 _ rfl _ rfl 32 _ (0, 0) _ (fun _ h => h.1) Tryz.underlying32 rfl (by kernel_rfl)) hHeld ?_
        (try simp only [pt, Act.put])
        refine wpAnyH_take (i := 1) rfl (by kernel_rfl) (by kernel_rfl) (by kernel_rfl) (fun _ _ _ h => h) (yieldsIf_load_row (by rfl) 26 _ rfl _ rfl 26 _ (0, 0) _ (fun _ h => h.2.1) Tryz.underlying26 rfl (by kernel_rfl)) hHeld ?_
        (try simp only [pt, Act.put])
        refine wpAnyH_take (i := 3) (v := ?v103) rfl (by kernel_rfl) (by kernel_rfl) (by kernel_rfl) (fun _ _ _ h => h) (Or.inl ⟨by rfl, ?hy103⟩) hHeld ?rest103
        case hy103 => (intro w hSw; (try dsimp only at hSw); (try go_split_ands); go_simp; first | done | with_reducible rfl)
        (try simp only [pt, Act.put])
        refine wpAnyH_ready (rs := [2, 8]) (by kernel_rfl) (by simp) ?_
        refine AllReadyH.cons rfl (fun K hK => ?_) (AllReadyH.cons rfl (fun K hK => ?_) AllReadyH.nil)
        · skip
          go_simp
          refine (as_any who fr W15).mono ?_
          rintro e W16 ⟨rfl, hb⟩
          have S16 := Lib.hid (S15.out.call hb)
          clear hb hHeld
          go_wp2_with fail
          refine hK.out _ _ ⟨(S13.out.at' S16.out.bel 2 rfl), (S13.out.at' S16.out.bel 1 rfl), trivial⟩ (fun hHeld => ?_)
          clear hK K
          (try simp only [pt, Act.put])
          refine wpAnyH_ready (rs := [4, 8]) (by kernel_rfl) (by simp) ?_
          refine AllReadyH.cons rfl (fun K hK => ?_) (AllReadyH.cons rfl (fun K hK => ?_) AllReadyH.nil)
          · skip
            go_simp
            refine (HR3.out _ W16 _ _ S16.out.oldX (S16.out.g 1 rfl)).mono ?_
            rintro e W17 ⟨aoy, cpy, rfl, hgy, hb⟩
            have S17 := Lib.hid ((S16.out.call hb).addG hgy)
            clear hb hHeld hgy
            go_wp2_with fail
            refine hK.out _ _ ⟨(S13.out.at' S17.out.bel 2 rfl), (S13.out.at' S17.out.bel 1 rfl), trivial⟩ (fun hHeld => ?_)
            clear hK K
            (try simp only [pt, Act.put])
            refine wpAnyH_take (i := 5) (v := ?v104) rfl (by kernel_rfl) (by kernel_rfl) (by kernel_rfl) (fun _ _ _ h => h) (Or.inl ⟨by rfl, ?hy104⟩) hHeld ?rest104
            case hy104 => (intro w hSw; (try dsimp only at hSw); (try go_split_ands); go_simp; first | done | with_reducible rfl)
            (try simp only [pt, Act.put])
            refine wpAnyH_take (i := 6) (v := ?v105) rfl (by kernel_rfl) (by kernel_rfl) (by kernel_rfl) (fun _ _ _ h => h) (Or.inl ⟨by rfl, ?hy105⟩) hHeld ?rest105
            case hy105 => (intro w hSw; (try dsimp only at hSw); (try go_split_ands); go_simp; first | done | with_reducible rfl)
            (try simp only [pt, Act.put])
            refine wpAnyH_take (i := 7) (v := ?v106) rfl (by kernel_rfl) (by kernel_rfl) (by kernel_rfl) (fun _ _ _ h => h) (Or.inl ⟨by rfl, ?hy106⟩) hHeld ?rest106
            case hy106 => (intro w hSw; (try dsimp only at hSw); (try go_split_ands); go_simp; first | done | with_reducible rfl)
            (try simp only [pt, Act.put])
            refine wpAnyH_ready (rs := [8]) (by kernel_rfl) (by simp) ?_
            refine AllReadyH.cons rfl (fun K hK => ?_) AllReadyH.nil
            go_simp
            refine fresh1 (P := fun W => K _ W) ?_
            intro W18 hb hn hs
            have S18 := Lib.hid (S17.out.new1 hb hn)
            clear hb hn hs hHeld
            refine hK.out _ _ ⟨(S13.out.at' S18.out.bel 2 rfl), (S13.out.at' S18.out.bel 1 rfl), trivial⟩ (fun hHeld => ?_)
            clear hK K
            (try simp only [pt, Act.put])
            refine wpAnyH_ready (rs := [9]) (by kernel_rfl) (by simp) ?_
            refine AllReadyH.cons rfl (fun K hK => ?_) AllReadyH.nil
            rw [if_pos (by rfl)]
            refine wp_store_row 32 _ _ rfl _ rfl rfl (S18.out.at 0 rfl) rfl (by kernel_rfl) rfl ?_
            intro W19 hb hg hs hn
            have S19 := Lib.hid (S18.out.set 0 rfl hb hg hs hn)
            clear hb hg hs hn hHeld
            refine hK.out _ _ ⟨(S13.out.at' S19.out.bel 2 rfl), (S13.out.at' S19.out.bel 1 rfl), trivial⟩ (fun hHeld => ?_)
            clear hK K
            (try simp only [pt, Act.put])
            refine wpAnyH_take (i := 10) (v := ?v107) rfl (by kernel_rfl) (by kernel_rfl) (by kernel_rfl) (fun _ _ _ h => h) (Or.inl ⟨by rfl, ?hy107⟩) hHeld ?rest107
            case hy107 => (intro w hSw; (try dsimp only at hSw); (try go_split_ands); go_simp; first | done | with_reducible rfl)
            (try simp only [pt, Act.put])
            refine wpAnyH_done (by kernel_rfl) ?_ _
            go_wp2_with fail
            go_meet
            exact ⟨rfl, _, _, _, rfl, S19.out.at 0 rfl, (S19.out.g 7 rfl).gives, S19.out.bel⟩
          · skip
            go_simp
            refine fresh1 (P := fun W => K _ W) ?_
            intro W17 hb hn hs
            have S17 := Lib.hid (S16.out.new1 hb hn)
            clear hb hn hs hHeld
            refine hK.out _ _ ⟨(S13.out.at' S17.out.bel 2 rfl), (S13.out.at' S17.out.bel 1 rfl), trivial⟩ (fun hHeld => ?_)
            clear hK K
            (try simp only [pt, Act.put])
            refine wpAnyH_ready (rs := [4]) (by kernel_rfl) (by simp) ?_
            refine AllReadyH.cons rfl (fun K hK => ?_) AllReadyH.nil
            go_simp
            refine (HR3.out _ W17 _ _ S17.out.oldX (S17.out.g 1 rfl)).mono ?_
            rintro e W18 ⟨aoy, cpy, rfl, hgy, hb⟩
            have S18 := Lib.hid ((S17.out.call hb).addG hgy)
            clear hb hHeld hgy
            go_wp2_with fail
            refine hK.out _ _ ⟨(S13.out.at' S18.out.bel 2 rfl), (S13.out.at' S18.out.bel 1 rfl), trivial⟩ (fun hHeld => ?_)
            clear hK K
            (try simp only [pt, Act.put])
            refine wpAnyH_take (i := 5) (v := ?v108) rfl (by kernel_rfl) (by kernel_rfl) (by kernel_rfl) (fun _ _ _ h => h) (Or.inl ⟨by rfl, ?hy108⟩) hHeld ?rest108
            case hy108 => (intro w hSw; (try dsimp only at hSw); (try go_split_ands); go_simp; first | done | with_reducible rfl)
            (try simp only [pt, Act.put])
            refine wpAnyH_take (i := 6) (v := ?v109) rfl (by kernel_rfl) (by kernel_rfl) (by kernel_rfl) (fun _ _ _ h => h) (Or.inl ⟨by rfl, ?hy109⟩) hHeld ?rest109
            case hy109 => (intro w hSw; (try dsimp only at hSw); (try go_split_ands); go_simp; first | done | with_reducible rfl)
            (try simp only [pt, Act.put])
            refine wpAnyH_take (i := 7) (v := ?v110) rfl (by kernel_rfl) (by kernel_rfl) (by kernel_rfl) (fun _ _ _ h => h) (Or.inl ⟨by rfl, ?hy110⟩) hHeld ?rest110
            case hy110 => (intro w hSw; (try dsimp only at hSw); (try go_split_ands); go_simp; first | done | with_reducible rfl)
            (try simp only [pt, Act.put])
            refine wpAnyH_ready (rs := [9]) (by kernel_rfl) (by simp) ?_
            refine AllReadyH.cons rfl (fun K hK => ?_) AllReadyH.nil
            rw [if_pos (by rfl)]
            refine wp_store_row 32 _ _ rfl _ rfl rfl (S18.out.at 0 rfl) rfl (by kernel_rfl) rfl ?_
            intro W19 hb hg hs hn
            have S19 := Lib.hid (S18.out.set 0 rfl hb hg hs hn)
            clear hb hg hs hn hHeld
            refine hK.out _ _ ⟨(S13.out.at' S19.out.bel 2 rfl), (S13.out.at' S19.out.bel 1 rfl), trivial⟩ (fun hHeld => ?_)
            clear hK K
            (try simp only [pt, Act.put])
            refine wpAnyH_take (i := 10) (v := ?v111) rfl (by kernel_rfl) (by kernel_rfl) (by kernel_rfl) (fun _ _ _ h => h) (Or.inl ⟨by rfl, ?hy111⟩) hHeld ?rest111
            case hy111 => (intro w hSw; (try dsimp only at hSw); (try go_split_ands); go_simp; first | done | with_reducible rfl)
            (try simp only [pt, Act.put])
            refine wpAnyH_done (by kernel_rfl) ?_ _
            go_wp2_with fail
            go_meet
            exact ⟨rfl, _, _, _, rfl, S19.out.at 0 rfl, (S19.out.g 7 rfl).gives, S19.out.bel⟩
        · skip
          go_simp
          refine fresh1 (P := fun W => K _ W) ?_
          intro W16 hb hn hs
          have S16 := Lib.hid (S15.out.new1 hb hn)
          clear hb hn hs hHeld
          refine hK.out _ _ ⟨(S13.out.at' S16.out.bel 2 rfl), (S13.out.at' S16.out.bel 1 rfl), trivial⟩ (fun hHeld => ?_)
          clear hK K
          (try simp only [pt, Act.put])
          refine wpAnyH_ready (rs := [2]) (by kernel_rfl) (by simp) ?_
          refine AllReadyH.cons rfl (fun K hK => ?_) AllReadyH.nil
          go_simp
          refine (as_any who fr W16).mono ?_
          rintro e W17 ⟨rfl, hb⟩
          have S17 := Lib.hid (S16.out.call hb)
          clear hb hHeld
          go_wp2_with fail
          refine hK.out _ _ ⟨(S13.out.at' S17.out.bel 2 rfl), (S13.out.at' S17.out.bel 1 rfl), trivial⟩ (fun hHeld => ?_)
          clear hK K
          (try simp only [pt, Act.put])
          refine wpAnyH_ready (rs := [4]) (by kernel_rfl) (by simp) ?_
          refine AllReadyH.cons rfl (fun K hK => ?_) AllReadyH.nil
          go_simp
          refine (HR3.out _ W17 _ _ S17.out.oldX (S17.out.g 1 rfl)).mono ?_
          rintro e W18 ⟨aoy, cpy, rfl, hgy, hb⟩
          have S18 := Lib.hid ((S17.out.call hb).addG hgy)
          clear hb hHeld hgy
          go_wp2_with fail
          refine hK.out _ _ ⟨(S13.out.at' S18.out.bel 2 rfl), (S13.out.at' S18.out.bel 1 rfl), trivial⟩ (fun hHeld => ?_)
          clear hK K
          (try simp only [pt, Act.put])
          refine wpAnyH_take (i := 5) (v := ?v112) rfl (by kernel_rfl) (by kernel_rfl) (by kernel_rfl) (fun _ _ _ h => h) (Or.inl ⟨by rfl, ?hy112⟩) hHeld ?rest112
          case hy112 => (intro w hSw; (try dsimp only at hSw); (try go_split_ands); go_simp; first | done | with_reducible rfl)
          (try simp only [pt, Act.put])
          refine wpAnyH_take (i := 6) (v := ?v113) rfl (by kernel_rfl) (by kernel_rfl) (by kernel_rfl) (fun _ _ _ h => h) (Or.inl ⟨by rfl, ?hy113⟩) hHeld ?rest113
          case hy113 => (intro w hSw; (try dsimp only at hSw); (try go_split_ands); go_simp; first | done | with_reducible rfl)
          (try simp only [pt, Act.put])
          refine wpAnyH_take (i := 7) (v := ?v114) rfl (by kernel_rfl) (by kernel_rfl) (by kernel_rfl) (fun _ _ _ h => h) (Or.inl ⟨by rfl, ?hy114⟩) hHeld ?rest114
          case hy114 => (intro w hSw; (try dsimp only at hSw); (try go_split_ands); go_simp; first | done | with_reducible rfl)
          (try simp only [pt, Act.put])
          refine wpAnyH_ready (rs := [9]) (by kernel_rfl) (by simp) ?_
          refine AllReadyH.cons rfl (fun K hK => ?_) AllReadyH.nil
          rw [if_pos (by rfl)]
          refine wp_store_row 32 _ _ rfl _ rfl rfl (S18.out.at 0 rfl) rfl (by kernel_rfl) rfl ?_
          intro W19 hb hg hs hn
          have S19 := Lib.hid (S18.out.set 0 rfl hb hg hs hn)
          clear hb hg hs hn hHeld
          refine hK.out _ _ ⟨(S13.out.at' S19.out.bel 2 rfl), (S13.out.at' S19.out.bel 1 rfl), trivial⟩ (fun hHeld => ?_)
          clear hK K
          (try simp only [pt, Act.put])
          refine wpAnyH_take (i := 10) (v := ?v115) rfl (by kernel_rfl) (by kernel_rfl) (by kernel_rfl) (fun _ _ _ h => h) (Or.inl ⟨by rfl, ?hy115⟩) hHeld ?rest115
          case hy115 => (intro w hSw; (try dsimp only at hSw); (try go_split_ands); go_simp; first | done | with_reducible rfl)
          (try simp only [pt, Act.put])
          refine wpAnyH_done (by kernel_rfl) ?_ _
          go_wp2_with fail
          go_meet
          exact ⟨rfl, _, _, _, rfl, S19.out.at 0 rfl, (S19.out.g 7 rfl).gives, S19.out.bel⟩
      case rest =>
      obtain ⟨rfl, bY, aoY, cpY, rfl, hblk, hgY, hbY⟩ := hcut
      have S14 := Lib.hid ((S13.out.add1 hbY hblk).addG hgY)
      clear hbY hblk hgY
      generalize wc = W14 at *
      generalize bY = blkt at *
      generalize aoY = aot at *
      generalize cpY = cpt at *
      obtain ⟨d0, d1, d2⟩ := cells3 (S14.out.at 0 rfl)
      obtain ⟨a0, a1⟩ := cells2 (S14.out.at 1 rfl)
      go_wp2_with fail
      refine (HP4.out W14 _ _ (S14.out.gx 0 rfl) (HS.out.keep S14.out.bel)).mono ?_
      rintro e W15 ⟨ao4, cp4, rfl, hg1, hb⟩
      clear d0 d1 d2 a0 a1
      have S15 := Lib.hid ((S14.out.call hb).addG hg1)
      clear hb hg1
      go_upto_region 11 with (fail)
      refine code_fresh1 ?_
      intro W16 hb hA0 hs
      have S16 := Lib.hid (S15.out.new1 hb hA0)
      clear hb hA0 hs
      go_upto_region 11 with (fail)
      go_cut [26, 27] from 100 to 108 (fun s26 s27 wx => s27 = .int .i64 f4 ∧ CutD W16 L4 most room 32 s26 wx)
      case first =>
        have S17 := Lib.hid S16.out.st
        have h_e := (S16.out.at' S17.out.bel 2 rfl)
        have h_a := (S16.out.at' S17.out.bel 1 rfl)
        refine wp_region_held_drew (S := fun W => W.heap[W4.heap.size]? = some (.cells #[.slice aoe l.length cpe, .int .i64 most, .int .i64 room] 32 (0, 0)) ∧ W.heap[w.heap.size + 1]? = some (.cells #[.int .i64 who, .int .i64 fr] 26 (0, 0)) ∧ True) (by kernel_rfl) ⟨(S16.out.at' S17.out.bel 2 rfl), (S16.out.at' S17.out.bel 1 rfl), trivial⟩ (fun hHeld => ?_)
        clear h_e h_a
        have S18 := Lib.hid (S17.out.call (Below.refl W16.heap.size W16).drew)
        generalize W16.drew = W18 at *
        refine wpAnyH_take (i := 0) rfl (by kernel_rfl) (by kernel_rfl) (by kernel_rfl) (fun _ _ _ h => h) (yieldsIf_load_row (by rfl) 32 _ rfl _ rfl 32 _ (0, 0) _ (fun _ h => h.1) Tryz.underlying32 rfl (by kernel_rfl)) hHeld ?_
        (try simp only [pt, Act.put])
        refine wpAnyH_take (i := 1) rfl (by kernel_rfl) (by kernel_rfl) (by kernel_rfl) (fun _ _ _ h => h) (yieldsIf_load_row (by rfl) 26 _ rfl _ rfl 26 _ (0, 0) _ (fun _ h => h.2.1) Tryz.underlying26 rfl (by kernel_rfl)) hHeld ?_
        (try simp only [pt, Act.put])
        refine wpAnyH_take (i := 3) (v := ?v116) rfl (by kernel_rfl) (by kernel_rfl) (by kernel_rfl) (fun _ _ _ h => h) (Or.inl ⟨by rfl, ?hy116⟩) hHeld ?rest116
        case hy116 => (intro w hSw; (try dsimp only at hSw); (try go_split_ands); go_simp; first | done | with_reducible rfl)
        (try simp only [pt, Act.put])
        refine wpAnyH_take (i := 4) (v := ?v117) rfl (by kernel_rfl) (by kernel_rfl) (by kernel_rfl) (fun _ _ _ h => h) (Or.inl ⟨by rfl, ?hy117⟩) hHeld ?rest117
        case hy117 => (intro w hSw; (try dsimp only at hSw); (try go_split_ands); go_simp; first | done | with_reducible rfl)
        (try simp only [pt, Act.put])
        refine wpAnyH_ready (rs := [2, 9]) (by kernel_rfl) (by simp) ?_
        refine AllReadyH.cons rfl (fun K hK => ?_) (AllReadyH.cons rfl (fun K hK => ?_) AllReadyH.nil)
        · skip
          go_simp
          refine (as_any who fr W18).mono ?_
          rintro e W19 ⟨rfl, hb⟩
          have S19 := Lib.hid (S18.out.call hb)
          clear hb hHeld
          go_wp2_with fail
          refine hK.out _ _ ⟨(S16.out.at' S19.out.bel 2 rfl), (S16.out.at' S19.out.bel 1 rfl), trivial⟩ (fun hHeld => ?_)
          clear hK K
          (try simp only [pt, Act.put])
          refine wpAnyH_ready (rs := [5, 9]) (by kernel_rfl) (by simp) ?_
          refine AllReadyH.cons rfl (fun K hK => ?_) (AllReadyH.cons rfl (fun K hK => ?_) AllReadyH.nil)
          · skip
            go_simp
            refine (HR4.out _ W19 _ _ S19.out.oldX (S19.out.g 1 rfl)).mono ?_
            rintro e W20 ⟨aoy, cpy, rfl, hgy, hb⟩
            have S20 := Lib.hid ((S19.out.call hb).addG hgy)
            clear hb hHeld hgy
            go_wp2_with fail
            refine hK.out _ _ ⟨(S16.out.at' S20.out.bel 2 rfl), (S16.out.at' S20.out.bel 1 rfl), trivial⟩ (fun hHeld => ?_)
            clear hK K
            (try simp only [pt, Act.put])
            refine wpAnyH_take (i := 6) (v := ?v118) rfl (by kernel_rfl) (by kernel_rfl) (by kernel_rfl) (fun _ _ _ h => h) (Or.inl ⟨by rfl, ?hy118⟩) hHeld ?rest118
            case hy118 => (intro w hSw; (try dsimp only at hSw); (try go_split_ands); go_simp; first | done | with_reducible rfl)
            (try simp only [pt, Act.put])
            refine wpAnyH_take (i := 7) (v := ?v119) rfl (by kernel_rfl) (by kernel_rfl) (by kernel_rfl) (fun _ _ _ h => h) (Or.inl ⟨by rfl, ?hy119⟩) hHeld ?rest119
            case hy119 => (intro w hSw; (try dsimp only at hSw); (try go_split_ands); go_simp; first | done | with_reducible rfl)
            (try simp only [pt, Act.put])
            refine wpAnyH_take (i := 8) (v := ?v120) rfl (by kernel_rfl) (by kernel_rfl) (by kernel_rfl) (fun _ _ _ h => h) (Or.inl ⟨by rfl, ?hy120⟩) hHeld ?rest120
            case hy120 => (intro w hSw; (try dsimp only at hSw); (try go_split_ands); go_simp; first | done | with_reducible rfl)
            (try simp only [pt, Act.put])
            refine wpAnyH_ready (rs := [9]) (by kernel_rfl) (by simp) ?_
            refine AllReadyH.cons rfl (fun K hK => ?_) AllReadyH.nil
            go_simp
            refine fresh1 (P := fun W => K _ W) ?_
            intro W21 hb hn hs
            have S21 := Lib.hid (S20.out.new1 hb hn)
            clear hb hn hs hHeld
            refine hK.out _ _ ⟨(S16.out.at' S21.out.bel 2 rfl), (S16.out.at' S21.out.bel 1 rfl), trivial⟩ (fun hHeld => ?_)
            clear hK K
            (try simp only [pt, Act.put])
            refine wpAnyH_ready (rs := [10]) (by kernel_rfl) (by simp) ?_
            refine AllReadyH.cons rfl (fun K hK => ?_) AllReadyH.nil
            rw [if_pos (by rfl)]
            refine wp_store_row 32 _ _ rfl _ rfl rfl (S21.out.at 0 rfl) rfl (by kernel_rfl) rfl ?_
            intro W22 hb hg hs hn
            have S22 := Lib.hid (S21.out.set 0 rfl hb hg hs hn)
            clear hb hg hs hn hHeld
            refine hK.out _ _ ⟨(S16.out.at' S22.out.bel 2 rfl), (S16.out.at' S22.out.bel 1 rfl), trivial⟩ (fun hHeld => ?_)
            clear hK K
            (try simp only [pt, Act.put])
            refine wpAnyH_take (i := 11) (v := ?v121) rfl (by kernel_rfl) (by kernel_rfl) (by kernel_rfl) (fun _ _ _ h => h) (Or.inl ⟨by rfl, ?hy121⟩) hHeld ?rest121
            case hy121 => (intro w hSw; (try dsimp only at hSw); (try go_split_ands); go_simp; first | done | with_reducible rfl)
            (try simp only [pt, Act.put])
            refine wpAnyH_done (by kernel_rfl) ?_ _
            go_wp2_with fail
            go_meet
            exact ⟨rfl, _, _, _, rfl, S22.out.at 0 rfl, (S22.out.g 9 rfl).gives, S22.out.bel⟩
          · skip
            go_simp
            refine fresh1 (P := fun W => K _ W) ?_
            intro W20 hb hn hs
            have S20 := Lib.hid (S19.out.new1 hb hn)
            clear hb hn hs hHeld
            refine hK.out _ _ ⟨(S16.out.at' S20.out.bel 2 rfl), (S16.out.at' S20.out.bel 1 rfl), trivial⟩ (fun hHeld => ?_)
            clear hK K
            (try simp only [pt, Act.put])
            refine wpAnyH_ready (rs := [5]) (by kernel_rfl) (by simp) ?_
            refine AllReadyH.cons rfl (fun K hK => ?_) AllReadyH.nil
            go_simp
            refine (HR4.out _ W20 _ _ S20.out.oldX (S20.out.g 1 rfl)).mono ?_
            rintro e W21 ⟨aoy, cpy, rfl, hgy, hb⟩
            have S21 := Lib.hid ((S20.out.call hb).addG hgy)
            clear hb hHeld hgy
            go_wp2_with fail
            refine hK.out _ _ ⟨(S16.out.at' S21.out.bel 2 rfl), (S16.out.at' S21.out.bel 1 rfl), trivial⟩ (fun hHeld => ?_)
            clear hK K
            (try simp only [pt, Act.put])
            refine wpAnyH_take (i := 6) (v := ?v122) rfl (by kernel_rfl) (by kernel_rfl) (by kernel_rfl) (fun _ _ _ h => h) (Or.inl ⟨by rfl, ?hy122⟩) hHeld ?rest122
            case hy122 => (intro w hSw; (try dsimp only at hSw); (try go_split_ands); go_simp; first | done | with_reducible rfl)
            (try simp only [pt, Act.put])
            refine wpAnyH_take (i := 7) (v := ?v123) rfl (by kernel_rfl) (by kernel_rfl) (by kernel_rfl) (fun _ _ _ h => h) (Or.inl ⟨by rfl, ?hy123⟩) hHeld ?rest123
            case hy123 => (intro w hSw; (try dsimp only at hSw); (try go_split_ands); go_simp; first | done | with_reducible rfl)
            (try simp only [pt, Act.put])
            refine wpAnyH_take (i := 8) (v := ?v124) rfl (by kernel_rfl) (by kernel_rfl) (by kernel_rfl) (fun _ _ _ h => h) (Or.inl ⟨by rfl, ?hy124⟩) hHeld ?rest124
            case hy124 => (intro w hSw; (try dsimp only at hSw); (try go_split_ands); go_simp; first | done | with_reducible rfl)
            (try simp only [pt, Act.put])
            refine wpAnyH_ready (rs := [10]) (by kernel_rfl) (by simp) ?_
            refine AllReadyH.cons rfl (fun K hK => ?_) AllReadyH.nil
            rw [if_pos (by rfl)]
            refine wp_store_row 32 _ _ rfl _ rfl rfl (S21.out.at 0 rfl) rfl (by kernel_rfl) rfl ?_
            intro W22 hb hg hs hn
            have S22 := Lib.hid (S21.out.set 0 rfl hb hg hs hn)
            clear hb hg hs hn hHeld
            refine hK.out _ _ ⟨(S16.out.at' S22.out.bel 2 rfl), (S16.out.at' S22.out.bel 1 rfl), trivial⟩ (fun hHeld => ?_)
            clear hK K
            (try simp only [pt, Act.put])
            refine wpAnyH_take (i := 11) (v := ?v125) rfl (by kernel_rfl) (by kernel_rfl) (by kernel_rfl) (fun _ _ _ h => h) (Or.inl ⟨by rfl, ?hy125⟩) hHeld ?rest125
            case hy125 => (intro w hSw; (try dsimp only at hSw); (try go_split_ands); go_simp; first | done | with_reducible rfl)
            (try simp only [pt, Act.put])
            refine wpAnyH_done (by kernel_rfl) ?_ _
            go_wp2_with fail
            go_meet
            exact ⟨rfl, _, _, _, rfl, S22.out.at 0 rfl, (S22.out.g 9 rfl).gives, S22.out.bel⟩
        · skip
          go_simp
          refine fresh1 (P := fun W => K _ W) ?_
          intro W19 hb hn hs
          have S19 := Lib.hid (S18.out.new1 hb hn)
          clear hb hn hs hHeld
          refine hK.out _ _ ⟨(S16.out.at' S19.out.bel 2 rfl), (S16.out.at' S19.out.bel 1 rfl), trivial⟩ (fun hHeld => ?_)
          clear hK K
          (try simp only [pt, Act.put])
          refine wpAnyH_ready (rs := [2]) (by kernel_rfl) (by simp) ?_
          refine AllReadyH.cons rfl (fun K hK => ?_) AllReadyH.nil
          go_simp
          refine (as_any who fr W19).mono ?_
          rintro e W20 ⟨rfl, hb⟩
          have S20 := Lib.hid (S19.out.call hb)
          clear hb hHeld
          go_wp2_with fail
          refine hK.out _ _ ⟨(S16.out.at' S20.out.bel 2 rfl), (S16.out.at' S20.out.bel 1 rfl), trivial⟩ (fun hHeld => ?_)
          clear hK K
          (try simp only [pt, Act.put])
          refine wpAnyH_ready (rs := [5]) (by kernel_rfl) (by simp) ?_
          refine AllReadyH.cons rfl (fun K hK => ?_) AllReadyH.nil
          go_simp
          refine (HR4.out _ W20 _ _ S20.out.oldX (S20.out.g 1 rfl)).mono ?_
          rintro e W21 ⟨aoy, cpy, rfl, hgy, hb⟩
          have S21 := Lib.hid ((S20.out.call hb).addG hgy)
          clear hb hHeld hgy
          go_wp2_with fail
          refine hK.out _ _ ⟨(S16.out.at' S21.out.bel 2 rfl), (S16.out.at' S21.out.bel 1 rfl), trivial⟩ (fun hHeld => ?_)
          clear hK K
          (try simp only [pt, Act.put])
          refine wpAnyH_take (i := 6) (v := ?v126) rfl (by kernel_rfl) (by kernel_rfl) (by kernel_rfl) (fun _ _ _ h => h) (Or.inl ⟨by rfl, ?hy126⟩) hHeld ?rest126
          case hy126 => (intro w hSw; (try dsimp only at hSw); (try go_split_ands); go_simp; first | done | with_reducible rfl)
          (try simp only [pt, Act.put])
          refine wpAnyH_take (i := 7) (v := ?v127) rfl (by kernel_rfl) (by kernel_rfl) (by kernel_rfl) (fun _ _ _ h => h) (Or.inl ⟨by rfl, ?hy127⟩) hHeld ?rest127
          case hy127 => (intro w hSw; (try dsimp only at hSw); (try go_split_ands); go_simp; first | done | with_reducible rfl)
          (try simp only [pt, Act.put])
          refine wpAnyH_take (i := 8) (v := ?v128) rfl (by kernel_rfl) (by kernel_rfl) (by kernel_rfl) (fun _ _ _ h => h) (Or.inl ⟨by rfl, ?hy128⟩) hHeld ?rest128
          case hy128 => (intro w hSw; (try dsimp only at hSw); (try go_split_ands); go_simp; first | done | with_reducible rfl)
          (try simp only [pt, Act.put])
          refine wpAnyH_ready (rs := [10]) (by kernel_rfl) (by simp) ?_
          refine AllReadyH.cons rfl (fun K hK => ?_) AllReadyH.nil
          rw [if_pos (by rfl)]
          refine wp_store_row 32 _ _ rfl _ rfl rfl (S21.out.at 0 rfl) rfl (by kernel_rfl) rfl ?_
          intro W22 hb hg hs hn
          have S22 := Lib.hid (S21.out.set 0 rfl hb hg hs hn)
          clear hb hg hs hn hHeld
          refine hK.out _ _ ⟨(S16.out.at' S22.out.bel 2 rfl), (S16.out.at' S22.out.bel 1 rfl), trivial⟩ (fun hHeld => ?_)
          clear hK K
          (try simp only [pt, Act.put])
          refine wpAnyH_take (i := 11) (v := ?v129) rfl (by kernel_rfl) (by kernel_rfl) (by kernel_rfl) (fun _ _ _ h => h) (Or.inl ⟨by rfl, ?hy129⟩) hHeld ?rest129
          case hy129 => (intro w hSw; (try dsimp only at hSw); (try go_split_ands); go_simp; first | done | with_reducible rfl)
          (try simp only [pt, Act.put])
          refine wpAnyH_done (by kernel_rfl) ?_ _
          go_wp2_with fail
          go_meet
          exact ⟨rfl, _, _, _, rfl, S22.out.at 0 rfl, (S22.out.g 9 rfl).gives, S22.out.bel⟩
      case rest =>
      obtain ⟨rfl, bY, aoY, cpY, rfl, hblk, hgY, hbY⟩ := hcut
      have S17 := Lib.hid ((S16.out.add1 hbY hblk).addG hgY)
      clear hbY hblk hgY
      generalize wc = W17 at *
      generalize bY = blkr at *
      generalize aoY = aor at *
      generalize cpY = cpr at *
      go_upto_region 12 with (fail)
      have h_x := (S17.out.at 3 rfl)
      have h_y := (S17.out.at 4 rfl)
      have h_z := (S17.out.at 5 rfl)
      have h_u := (S17.out.at 6 rfl)
      have h_v := (S17.out.at 7 rfl)
      have h_t := (S17.out.at 8 rfl)
      have h_p := (S17.out.at 9 rfl)
      have h_r := (S17.out.at 10 rfl)
      have h_d := (S17.out.at 0 rfl)
      have h_e := (S17.out.at 2 rfl)
      refine wp_region_held_drew (S := fun W => W.heap[W6.heap.size]? = some (.cells #[.slice ao1 L1.length cp1, .int .i64 most, .int .i64 room] 24 (0, 0)) ∧ W.heap[blky]? = some (.cells #[.slice aoy L1.length cpy, .int .i64 most, .int .i64 room] 32 (0, 0)) ∧ W.heap[W9.heap.size]? = some (.cells #[.slice ao2 L2.length cp2, .int .i64 most, .int .i64 room] 24 (0, 0)) ∧ W.heap[blku]? = some (.cells #[.slice aou L2.length cpu, .int .i64 most, .int .i64 room] 32 (0, 0)) ∧ W.heap[W12.heap.size]? = some (.cells #[.slice ao3 L3.length cp3, .int .i64 most, .int .i64 room] 24 (0, 0)) ∧ W.heap[blkt]? = some (.cells #[.slice aot L3.length cpt, .int .i64 most, .int .i64 room] 32 (0, 0)) ∧ W.heap[W15.heap.size]? = some (.cells #[.slice ao4 L4.length cp4, .int .i64 most, .int .i64 room] 24 (0, 0)) ∧ W.heap[blkr]? = some (.cells #[.slice aor L4.length cpr, .int .i64 most, .int .i64 room] 32 (0, 0)) ∧ W.heap[w.heap.size]? = some (.cells #[.slice ao l.length cap, .int .i64 most, .int .i64 room] 24 (0, 0)) ∧ W.heap[W4.heap.size]? = some (.cells #[.slice aoe l.length cpe, .int .i64 most, .int .i64 room] 32 (0, 0)) ∧ True) (by kernel_rfl) ⟨(S17.out.at 3 rfl), (S17.out.at 4 rfl), (S17.out.at 5 rfl), (S17.out.at 6 rfl), (S17.out.at 7 rfl), (S17.out.at 8 rfl), (S17.out.at 9 rfl), (S17.out.at 10 rfl), (S17.out.at 0 rfl), (S17.out.at 2 rfl), trivial⟩ (fun hHeld => ?_)
      clear h_x h_y h_z h_u h_v h_t h_p h_r h_d h_e
      have S18 := Lib.hid (S17.out.call (Below.refl W17.heap.size W17).drew)
      generalize W17.drew = W18 at *
      refine wpAnyH_take (i := 0) rfl (by kernel_rfl) (by kernel_rfl) (by kernel_rfl) (fun _ _ _ h => h) (yieldsIf_load_row (by rfl) 24 _ rfl _ rfl 24 _ (0, 0) _ (fun _ h => h.1) Tryz.underlying24 rfl (by kernel_rfl)) hHeld ?_
      (try simp only [pt, Act.put])
      refine wpAnyH_take (i := 2) rfl (by kernel_rfl) (by kernel_rfl) (by kernel_rfl) (fun _ _ _ h => h) (yieldsIf_load_row (by rfl) 32 _ rfl _ rfl 32 _ (0, 0) _ (fun _ h => h.2.1) Tryz.underlying32 rfl (by kernel_rfl)) hHeld ?_
      (try simp only [pt, Act.put])
      refine wpAnyH_ready (rs := [1]) (by kernel_rfl) (by simp) ?_
      refine AllReadyH.cons rfl (fun K hK => ?_) AllReadyH.nil
      go_simp
      refine (its_f L1 most room HA1.out.dsk.len HA1.out.names _ W18 (S18.out.g 2 rfl)).mono ?_
      rintro e W19 ⟨aoz0, cpz0, rfl, hgz, hb⟩
      have S19 := Lib.hid ((S18.out.call hb).addG hgz)
      clear hb hHeld hgz
      go_wp2_with fail
      refine hK.out _ _ ⟨(S19.out.at 3 rfl), (S19.out.at 4 rfl), (S19.out.at 5 rfl), (S19.out.at 6 rfl), (S19.out.at 7 rfl), (S19.out.at 8 rfl), (S19.out.at 9 rfl), (S19.out.at 10 rfl), (S19.out.at 0 rfl), (S19.out.at 2 rfl), trivial⟩ (fun hHeld => ?_)
      clear hK K
      (try simp only [pt, Act.put])
      refine wpAnyH_ready (rs := [3]) (by kernel_rfl) (by simp) ?_
      refine AllReadyH.cons rfl (fun K hK => ?_) AllReadyH.nil
      go_simp
      refine (same_g L1 most room HA1.out.dsk.len HA1.out.names _ _ W19 (S19.out.g 10 rfl) (S19.out.g 3 rfl)).mono ?_
      rintro e W20 ⟨rfl, hb⟩
      have S20 := Lib.hid (S19.out.call hb)
      clear hb hHeld
      go_wp2_with fail
      refine hK.out _ _ ⟨(S20.out.at 3 rfl), (S20.out.at 4 rfl), (S20.out.at 5 rfl), (S20.out.at 6 rfl), (S20.out.at 7 rfl), (S20.out.at 8 rfl), (S20.out.at 9 rfl), (S20.out.at 10 rfl), (S20.out.at 0 rfl), (S20.out.at 2 rfl), trivial⟩ (fun hHeld => ?_)
      clear hK K
      (try simp only [pt, Act.put])
      refine wpAnyH_take (i := 4) (v := ?v130) rfl (by kernel_rfl) (by kernel_rfl) (by kernel_rfl) (fun _ _ _ h => h) (Or.inl ⟨by rfl, ?hy130⟩) hHeld ?rest130
      case hy130 => (intro w hSw; (try dsimp only at hSw); (try go_split_ands); go_simp; first | done | with_reducible rfl)
      (try simp only [pt, Act.put])
      refine wpAnyH_take (i := 5) (v := ?v131) rfl (by kernel_rfl) (by kernel_rfl) (by kernel_rfl) (fun _ _ _ h => h) (Or.inl ⟨by rfl, ?hy131⟩) hHeld ?rest131
      case hy131 => (intro w hSw; (try dsimp only at hSw); (try go_split_ands); go_simp; first | done | with_reducible rfl)
      (try simp only [pt, Act.put])
      refine wpAnyH_take (i := 6) (v := ?v132) rfl (by kernel_rfl) (by kernel_rfl) (by kernel_rfl) (fun _ _ _ h => h) (Or.inl ⟨by rfl, ?hy132⟩) hHeld ?rest132
      case hy132 => (intro w hSw; (try dsimp only at hSw); (try go_split_ands); go_simp; first | done | with_reducible rfl)
      (try simp only [pt, Act.put])
      refine wpAnyH_take (i := 7) (v := ?v133) rfl (by kernel_rfl) (by kernel_rfl) (by kernel_rfl) (fun _ _ _ h => h) (Or.inl ⟨by rfl, ?hy133⟩) hHeld ?rest133
      case hy133 => (intro w hSw; (try dsimp only at hSw); (try go_split_ands); go_simp; first | done | with_reducible rfl)
      (try simp only [pt, Act.put])
      refine wpAnyH_take (i := 8) (v := ?v134) rfl (by kernel_rfl) (by kernel_rfl) (by kernel_rfl) (fun _ _ _ h => h) (Or.inl ⟨by rfl, ?hy134⟩) hHeld ?rest134
      case hy134 => (intro w hSw; (try dsimp only at hSw); (try go_split_ands); go_simp; first | done | with_reducible rfl)
      (try simp only [pt, Act.put])
      refine wpAnyH_take (i := 9) (v := ?v135) rfl (by kernel_rfl) (by kernel_rfl) (by kernel_rfl) (fun _ _ _ h => h) (Or.inl ⟨by rfl, ?hy135⟩) hHeld ?rest135
      case hy135 => (intro w hSw; (try dsimp only at hSw); (try go_split_ands); go_simp; first | done | with_reducible rfl)
      (try simp only [pt, Act.put])
      refine wpAnyH_take (i := 10) rfl (by kernel_rfl) (by kernel_rfl) (by kernel_rfl) (fun _ _ _ h => h) (yieldsIf_load_row (by rfl) 24 _ rfl _ rfl 24 _ (0, 0) _ (fun _ h => h.2.2.1) Tryz.underlying24 rfl (by kernel_rfl)) hHeld ?_
      (try simp only [pt, Act.put])
      refine wpAnyH_take (i := 12) rfl (by kernel_rfl) (by kernel_rfl) (by kernel_rfl) (fun _ _ _ h => h) (yieldsIf_load_row (by rfl) 32 _ rfl _ rfl 32 _ (0, 0) _ (fun _ h => h.2.2.2.1) Tryz.underlying32 rfl (by kernel_rfl)) hHeld ?_
      (try simp only [pt, Act.put])
      refine wpAnyH_ready (rs := [11]) (by kernel_rfl) (by simp) ?_
      refine AllReadyH.cons rfl (fun K hK => ?_) AllReadyH.nil
      go_simp
      refine (its_f L2 most room HA2.out.dsk.len HA2.out.names _ W20 (S20.out.g 4 rfl)).mono ?_
      rintro e W21 ⟨aoz1, cpz1, rfl, hgz, hb⟩
      have S21 := Lib.hid ((S20.out.call hb).addG hgz)
      clear hb hHeld hgz
      go_wp2_with fail
      refine hK.out _ _ ⟨(S21.out.at 3 rfl), (S21.out.at 4 rfl), (S21.out.at 5 rfl), (S21.out.at 6 rfl), (S21.out.at 7 rfl), (S21.out.at 8 rfl), (S21.out.at 9 rfl), (S21.out.at 10 rfl), (S21.out.at 0 rfl), (S21.out.at 2 rfl), trivial⟩ (fun hHeld => ?_)
      clear hK K
      (try simp only [pt, Act.put])
      refine wpAnyH_ready (rs := [13]) (by kernel_rfl) (by simp) ?_
      refine AllReadyH.cons rfl (fun K hK => ?_) AllReadyH.nil
      go_simp
      refine (same_g L2 most room HA2.out.dsk.len HA2.out.names _ _ W21 (S21.out.g 11 rfl) (S21.out.g 5 rfl)).mono ?_
      rintro e W22 ⟨rfl, hb⟩
      have S22 := Lib.hid (S21.out.call hb)
      clear hb hHeld
      go_wp2_with fail
      refine hK.out _ _ ⟨(S22.out.at 3 rfl), (S22.out.at 4 rfl), (S22.out.at 5 rfl), (S22.out.at 6 rfl), (S22.out.at 7 rfl), (S22.out.at 8 rfl), (S22.out.at 9 rfl), (S22.out.at 10 rfl), (S22.out.at 0 rfl), (S22.out.at 2 rfl), trivial⟩ (fun hHeld => ?_)
      clear hK K
      (try simp only [pt, Act.put])
      refine wpAnyH_take (i := 14) (v := ?v136) rfl (by kernel_rfl) (by kernel_rfl) (by kernel_rfl) (fun _ _ _ h => h) (Or.inl ⟨by rfl, ?hy136⟩) hHeld ?rest136
      case hy136 => (intro w hSw; (try dsimp only at hSw); (try go_split_ands); go_simp; first | done | with_reducible rfl)
      (try simp only [pt, Act.put])
      refine wpAnyH_take (i := 15) (v := ?v137) rfl (by kernel_rfl) (by kernel_rfl) (by kernel_rfl) (fun _ _ _ h => h) (Or.inl ⟨by rfl, ?hy137⟩) hHeld ?rest137
      case hy137 => (intro w hSw; (try dsimp only at hSw); (try go_split_ands); go_simp; first | done | with_reducible rfl)
      (try simp only [pt, Act.put])
      refine wpAnyH_take (i := 16) (v := ?v138) rfl (by kernel_rfl) (by kernel_rfl) (by kernel_rfl) (fun _ _ _ h => h) (Or.inl ⟨by rfl, ?hy138⟩) hHeld ?rest138
      case hy138 => (intro w hSw; (try dsimp only at hSw); (try go_split_ands); go_simp; first | done | with_reducible rfl)
      (try simp only [pt, Act.put])
      refine wpAnyH_take (i := 17) (v := ?v139) rfl (by kernel_rfl) (by kernel_rfl) (by kernel_rfl) (fun _ _ _ h => h) (Or.inl ⟨by rfl, ?hy139⟩) hHeld ?rest139
      case hy139 => (intro w hSw; (try dsimp only at hSw); (try go_split_ands); go_simp; first | done | with_reducible rfl)
      (try simp only [pt, Act.put])
      refine wpAnyH_take (i := 18) (v := ?v140) rfl (by kernel_rfl) (by kernel_rfl) (by kernel_rfl) (fun _ _ _ h => h) (Or.inl ⟨by rfl, ?hy140⟩) hHeld ?rest140
      case hy140 => (intro w hSw; (try dsimp only at hSw); (try go_split_ands); go_simp; first | done | with_reducible rfl)
      (try simp only [pt, Act.put])
      refine wpAnyH_take (i := 19) (v := ?v141) rfl (by kernel_rfl) (by kernel_rfl) (by kernel_rfl) (fun _ _ _ h => h) (Or.inl ⟨by rfl, ?hy141⟩) hHeld ?rest141
      case hy141 => (intro w hSw; (try dsimp only at hSw); (try go_split_ands); go_simp; first | done | with_reducible rfl)
      (try simp only [pt, Act.put])
      refine wpAnyH_take (i := 20) (v := ?v142) rfl (by kernel_rfl) (by kernel_rfl) (by kernel_rfl) (fun _ _ _ h => h) (Or.inl ⟨by rfl, ?hy142⟩) hHeld ?rest142
      case hy142 => (intro w hSw; (try dsimp only at hSw); (try go_split_ands); go_simp; first | done | with_reducible rfl)
      (try simp only [pt, Act.put])
      refine wpAnyH_take (i := 21) rfl (by kernel_rfl) (by kernel_rfl) (by kernel_rfl) (fun _ _ _ h => h) (yieldsIf_load_row (by rfl) 24 _ rfl _ rfl 24 _ (0, 0) _ (fun _ h => h.2.2.2.2.1) Tryz.underlying24 rfl (by kernel_rfl)) hHeld ?_
      (try simp only [pt, Act.put])
      refine wpAnyH_take (i := 23) rfl (by kernel_rfl) (by kernel_rfl) (by kernel_rfl) (fun _ _ _ h => h) (yieldsIf_load_row (by rfl) 32 _ rfl _ rfl 32 _ (0, 0) _ (fun _ h => h.2.2.2.2.2.1) Tryz.underlying32 rfl (by kernel_rfl)) hHeld ?_
      (try simp only [pt, Act.put])
      refine wpAnyH_ready (rs := [22]) (by kernel_rfl) (by simp) ?_
      refine AllReadyH.cons rfl (fun K hK => ?_) AllReadyH.nil
      go_simp
      refine (its_f L3 most room HA3.out.dsk.len HA3.out.names _ W22 (S22.out.g 6 rfl)).mono ?_
      rintro e W23 ⟨aoz2, cpz2, rfl, hgz, hb⟩
      have S23 := Lib.hid ((S22.out.call hb).addG hgz)
      clear hb hHeld hgz
      go_wp2_with fail
      refine hK.out _ _ ⟨(S23.out.at 3 rfl), (S23.out.at 4 rfl), (S23.out.at 5 rfl), (S23.out.at 6 rfl), (S23.out.at 7 rfl), (S23.out.at 8 rfl), (S23.out.at 9 rfl), (S23.out.at 10 rfl), (S23.out.at 0 rfl), (S23.out.at 2 rfl), trivial⟩ (fun hHeld => ?_)
      clear hK K
      (try simp only [pt, Act.put])
      refine wpAnyH_ready (rs := [24]) (by kernel_rfl) (by simp) ?_
      refine AllReadyH.cons rfl (fun K hK => ?_) AllReadyH.nil
      go_simp
      refine (same_g L3 most room HA3.out.dsk.len HA3.out.names _ _ W23 (S23.out.g 12 rfl) (S23.out.g 7 rfl)).mono ?_
      rintro e W24 ⟨rfl, hb⟩
      have S24 := Lib.hid (S23.out.call hb)
      clear hb hHeld
      go_wp2_with fail
      refine hK.out _ _ ⟨(S24.out.at 3 rfl), (S24.out.at 4 rfl), (S24.out.at 5 rfl), (S24.out.at 6 rfl), (S24.out.at 7 rfl), (S24.out.at 8 rfl), (S24.out.at 9 rfl), (S24.out.at 10 rfl), (S24.out.at 0 rfl), (S24.out.at 2 rfl), trivial⟩ (fun hHeld => ?_)
      clear hK K
      (try simp only [pt, Act.put])
      refine wpAnyH_take (i := 25) (v := ?v143) rfl (by kernel_rfl) (by kernel_rfl) (by kernel_rfl) (fun _ _ _ h => h) (Or.inl ⟨by rfl, ?hy143⟩) hHeld ?rest143
      case hy143 => (intro w hSw; (try dsimp only at hSw); (try go_split_ands); go_simp; first | done | with_reducible rfl)
      (try simp only [pt, Act.put])
      refine wpAnyH_take (i := 26) (v := ?v144) rfl (by kernel_rfl) (by kernel_rfl) (by kernel_rfl) (fun _ _ _ h => h) (Or.inl ⟨by rfl, ?hy144⟩) hHeld ?rest144
      case hy144 => (intro w hSw; (try dsimp only at hSw); (try go_split_ands); go_simp; first | done | with_reducible rfl)
      (try simp only [pt, Act.put])
      refine wpAnyH_take (i := 27) (v := ?v145) rfl (by kernel_rfl) (by kernel_rfl) (by kernel_rfl) (fun _ _ _ h => h) (Or.inl ⟨by rfl, ?hy145⟩) hHeld ?rest145
      case hy145 => (intro w hSw; (try dsimp only at hSw); (try go_split_ands); go_simp; first | done | with_reducible rfl)
      (try simp only [pt, Act.put])
      refine wpAnyH_take (i := 28) (v := ?v146) rfl (by kernel_rfl) (by kernel_rfl) (by kernel_rfl) (fun _ _ _ h => h) (Or.inl ⟨by rfl, ?hy146⟩) hHeld ?rest146
      case hy146 => (intro w hSw; (try dsimp only at hSw); (try go_split_ands); go_simp; first | done | with_reducible rfl)
      (try simp only [pt, Act.put])
      refine wpAnyH_take (i := 29) (v := ?v147) rfl (by kernel_rfl) (by kernel_rfl) (by kernel_rfl) (fun _ _ _ h => h) (Or.inl ⟨by rfl, ?hy147⟩) hHeld ?rest147
      case hy147 => (intro w hSw; (try dsimp only at hSw); (try go_split_ands); go_simp; first | done | with_reducible rfl)
      (try simp only [pt, Act.put])
      refine wpAnyH_take (i := 30) (v := ?v148) rfl (by kernel_rfl) (by kernel_rfl) (by kernel_rfl) (fun _ _ _ h => h) (Or.inl ⟨by rfl, ?hy148⟩) hHeld ?rest148
      case hy148 => (intro w hSw; (try dsimp only at hSw); (try go_split_ands); go_simp; first | done | with_reducible rfl)
      (try simp only [pt, Act.put])
      refine wpAnyH_take (i := 31) (v := ?v149) rfl (by kernel_rfl) (by kernel_rfl) (by kernel_rfl) (fun _ _ _ h => h) (Or.inl ⟨by rfl, ?hy149⟩) hHeld ?rest149
      case hy149 => (intro w hSw; (try dsimp only at hSw); (try go_split_ands); go_simp; first | done | with_reducible rfl)
      (try simp only [pt, Act.put])
      refine wpAnyH_take (i := 32) rfl (by kernel_rfl) (by kernel_rfl) (by kernel_rfl) (fun _ _ _ h => h) (yieldsIf_load_row (by rfl) 24 _ rfl _ rfl 24 _ (0, 0) _ (fun _ h => h.2.2.2.2.2.2.1) Tryz.underlying24 rfl (by kernel_rfl)) hHeld ?_
      (try simp only [pt, Act.put])
      refine wpAnyH_take (i := 34) rfl (by kernel_rfl) (by kernel_rfl) (by kernel_rfl) (fun _ _ _ h => h) (yieldsIf_load_row (by rfl) 32 _ rfl _ rfl 32 _ (0, 0) _ (fun _ h => h.2.2.2.2.2.2.2.1) Tryz.underlying32 rfl (by kernel_rfl)) hHeld ?_
      (try simp only [pt, Act.put])
      refine wpAnyH_ready (rs := [33]) (by kernel_rfl) (by simp) ?_
      refine AllReadyH.cons rfl (fun K hK => ?_) AllReadyH.nil
      go_simp
      refine (its_f L4 most room HA4.out.dsk.len HA4.out.names _ W24 (S24.out.g 8 rfl)).mono ?_
      rintro e W25 ⟨aoz3, cpz3, rfl, hgz, hb⟩
      have S25 := Lib.hid ((S24.out.call hb).addG hgz)
      clear hb hHeld hgz
      go_wp2_with fail
      refine hK.out _ _ ⟨(S25.out.at 3 rfl), (S25.out.at 4 rfl), (S25.out.at 5 rfl), (S25.out.at 6 rfl), (S25.out.at 7 rfl), (S25.out.at 8 rfl), (S25.out.at 9 rfl), (S25.out.at 10 rfl), (S25.out.at 0 rfl), (S25.out.at 2 rfl), trivial⟩ (fun hHeld => ?_)
      clear hK K
      (try simp only [pt, Act.put])
      refine wpAnyH_ready (rs := [35]) (by kernel_rfl) (by simp) ?_
      refine AllReadyH.cons rfl (fun K hK => ?_) AllReadyH.nil
      go_simp
      refine (same_g L4 most room HA4.out.dsk.len HA4.out.names _ _ W25 (S25.out.g 13 rfl) (S25.out.g 9 rfl)).mono ?_
      rintro e W26 ⟨rfl, hb⟩
      have S26 := Lib.hid (S25.out.call hb)
      clear hb hHeld
      go_wp2_with fail
      refine hK.out _ _ ⟨(S26.out.at 3 rfl), (S26.out.at 4 rfl), (S26.out.at 5 rfl), (S26.out.at 6 rfl), (S26.out.at 7 rfl), (S26.out.at 8 rfl), (S26.out.at 9 rfl), (S26.out.at 10 rfl), (S26.out.at 0 rfl), (S26.out.at 2 rfl), trivial⟩ (fun hHeld => ?_)
      clear hK K
      (try simp only [pt, Act.put])
      refine wpAnyH_take (i := 36) (v := ?v150) rfl (by kernel_rfl) (by kernel_rfl) (by kernel_rfl) (fun _ _ _ h => h) (Or.inl ⟨by rfl, ?hy150⟩) hHeld ?rest150
      case hy150 => (intro w hSw; (try dsimp only at hSw); (try go_split_ands); go_simp; first | done | with_reducible rfl)
      (try simp only [pt, Act.put])
      refine wpAnyH_take (i := 37) (v := ?v151) rfl (by kernel_rfl) (by kernel_rfl) (by kernel_rfl) (fun _ _ _ h => h) (Or.inl ⟨by rfl, ?hy151⟩) hHeld ?rest151
      case hy151 => (intro w hSw; (try dsimp only at hSw); (try go_split_ands); go_simp; first | done | with_reducible rfl)
      (try simp only [pt, Act.put])
      refine wpAnyH_take (i := 38) (v := ?v152) rfl (by kernel_rfl) (by kernel_rfl) (by kernel_rfl) (fun _ _ _ h => h) (Or.inl ⟨by rfl, ?hy152⟩) hHeld ?rest152
      case hy152 => (intro w hSw; (try dsimp only at hSw); (try go_split_ands); go_simp; first | done | with_reducible rfl)
      (try simp only [pt, Act.put])
      refine wpAnyH_take (i := 39) (v := ?v153) rfl (by kernel_rfl) (by kernel_rfl) (by kernel_rfl) (fun _ _ _ h => h) (Or.inl ⟨by rfl, ?hy153⟩) hHeld ?rest153
      case hy153 => (intro w hSw; (try dsimp only at hSw); (try go_split_ands); go_simp; first | done | with_reducible rfl)
      (try simp only [pt, Act.put])
      refine wpAnyH_take (i := 40) (v := ?v154) rfl (by kernel_rfl) (by kernel_rfl) (by kernel_rfl) (fun _ _ _ h => h) (Or.inl ⟨by rfl, ?hy154⟩) hHeld ?rest154
      case hy154 => (intro w hSw; (try dsimp only at hSw); (try go_split_ands); go_simp; first | done | with_reducible rfl)
      (try simp only [pt, Act.put])
      refine wpAnyH_take (i := 41) (v := ?v155) rfl (by kernel_rfl) (by kernel_rfl) (by kernel_rfl) (fun _ _ _ h => h) (Or.inl ⟨by rfl, ?hy155⟩) hHeld ?rest155
      case hy155 => (intro w hSw; (try dsimp only at hSw); (try go_split_ands); go_simp; first | done | with_reducible rfl)
      (try simp only [pt, Act.put])
      refine wpAnyH_take (i := 42) (v := ?v156) rfl (by kernel_rfl) (by kernel_rfl) (by kernel_rfl) (fun _ _ _ h => h) (Or.inl ⟨by rfl, ?hy156⟩) hHeld ?rest156
      case hy156 => (intro w hSw; (try dsimp only at hSw); (try go_split_ands); go_simp; first | done | with_reducible rfl)
      (try simp only [pt, Act.put])
      refine wpAnyH_take (i := 43) rfl (by kernel_rfl) (by kernel_rfl) (by kernel_rfl) (fun _ _ _ h => h) (yieldsIf_load_row (by rfl) 24 _ rfl _ rfl 24 _ (0, 0) _ (fun _ h => h.2.2.2.2.2.2.2.2.1) Tryz.underlying24 rfl (by kernel_rfl)) hHeld ?_
      (try simp only [pt, Act.put])
      refine wpAnyH_take (i := 45) rfl (by kernel_rfl) (by kernel_rfl) (by kernel_rfl) (fun _ _ _ h => h) (yieldsIf_load_row (by rfl) 32 _ rfl _ rfl 32 _ (0, 0) _ (fun _ h => h.2.2.2.2.2.2.2.2.2.1) Tryz.underlying32 rfl (by kernel_rfl)) hHeld ?_
      (try simp only [pt, Act.put])
      refine wpAnyH_ready (rs := [44]) (by kernel_rfl) (by simp) ?_
      refine AllReadyH.cons rfl (fun K hK => ?_) AllReadyH.nil
      go_simp
      refine (its_f l most room HA.out.dsk.len HA.out.names _ W26 (S26.out.g 0 rfl)).mono ?_
      rintro e W27 ⟨aoz4, cpz4, rfl, hgz, hb⟩
      have S27 := Lib.hid ((S26.out.call hb).addG hgz)
      clear hb hHeld hgz
      go_wp2_with fail
      refine hK.out _ _ ⟨(S27.out.at 3 rfl), (S27.out.at 4 rfl), (S27.out.at 5 rfl), (S27.out.at 6 rfl), (S27.out.at 7 rfl), (S27.out.at 8 rfl), (S27.out.at 9 rfl), (S27.out.at 10 rfl), (S27.out.at 0 rfl), (S27.out.at 2 rfl), trivial⟩ (fun hHeld => ?_)
      clear hK K
      (try simp only [pt, Act.put])
      refine wpAnyH_ready (rs := [46]) (by kernel_rfl) (by simp) ?_
      refine AllReadyH.cons rfl (fun K hK => ?_) AllReadyH.nil
      go_simp
      refine (same_g l most room HA.out.dsk.len HA.out.names _ _ W27 (S27.out.g 14 rfl) (S27.out.g 1 rfl)).mono ?_
      rintro e W28 ⟨rfl, hb⟩
      have S28 := Lib.hid (S27.out.call hb)
      clear hb hHeld
      go_wp2_with fail
      refine hK.out _ _ ⟨(S28.out.at 3 rfl), (S28.out.at 4 rfl), (S28.out.at 5 rfl), (S28.out.at 6 rfl), (S28.out.at 7 rfl), (S28.out.at 8 rfl), (S28.out.at 9 rfl), (S28.out.at 10 rfl), (S28.out.at 0 rfl), (S28.out.at 2 rfl), trivial⟩ (fun hHeld => ?_)
      clear hK K
      (try simp only [pt, Act.put])
      refine wpAnyH_take (i := 47) (v := ?v157) rfl (by kernel_rfl) (by kernel_rfl) (by kernel_rfl) (fun _ _ _ h => h) (Or.inl ⟨by rfl, ?hy157⟩) hHeld ?rest157
      case hy157 => (intro w hSw; (try dsimp only at hSw); (try go_split_ands); go_simp; first | done | with_reducible rfl)
      (try simp only [pt, Act.put])
      refine wpAnyH_take (i := 48) (v := ?v158) rfl (by kernel_rfl) (by kernel_rfl) (by kernel_rfl) (fun _ _ _ h => h) (Or.inl ⟨by rfl, ?hy158⟩) hHeld ?rest158
      case hy158 => (intro w hSw; (try dsimp only at hSw); (try go_split_ands); go_simp; first | done | with_reducible rfl)
      (try simp only [pt, Act.put])
      refine wpAnyH_done (by kernel_rfl) ?_ _
      go_wp2_with fail
      go_ret
      exact ⟨rfl, S28.out.bel⟩
end Go.Proofs.YtpmhmippoefcfaaGreatDoor
