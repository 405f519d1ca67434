/-
  The walk of ChangeEnters.
-/
import Derived.RangeFuncNested
import Derived.RangeFuncBound
import Derived.RangeFuncCalls
import Derived.RangeFuncLeaves
import Derived.RangeFuncBox
import Derived.Shelf.Abstract
import Derived.Shelf.RegionOpen
import Derived.WalkKit
import Derived.OwnWalkIn
import Derived.TacticsInMore
import Derived.LoopNIn
import Derived.LoopIn
import Derived.Lib.Hide
import Derived.Outline
import Derived.Deep.QuietTactic
import Derived.Deep.AppendLies
import Derived.BigQuiet
import Derived.Lib.Strings
import Derived.WalkSmall
import Derived.Shelf.Small.Strs
import Derived.Shelf.Strings.Search1
import Derived.Shelf.Strings.Prefix
import Derived.Laws.AppendOwn
import Derived.Laws.OwnMore
import Derived.Laws.AppendOwnNone
import Derived.WideShapes
import Derived.Lib.TrimByte
import Derived.Lib.Bytealg
import Derived.Lib.QuietBelow
import Derived.Deep.DrawnRows
import Derived.Laws.Cover1
import Derived.WalkMore
import Derived.Shelf.Spec.SlicesGrow
import Derived.StillTailTactics
import Derived.Laws.BitsLemmas
import Derived.Laws.RangeAny
import Derived.Laws.Runes
import Derived.Lib.Builder
import Derived.Deep.WholeRow
import Derived.Lib.OthersKept
import Derived.Shelf.SlSorted.Search
import Derived.LaidEql
import Derived.Stop.Asserts
import Derived.RowKitTokens
import Derived.Deep.RegionHeld3
import Derived.Deep.RegionLaw
import Derived.Handy
import Derived.Laws.IdiomCopy
import Derived.Lib.SliceRun
import Derived.Laws.ResultCell
import Derived.Deep.LoopGhost
import Derived.Deep.DeepCutAuto
import Derived.Deep.MidRow
import Derived.BigRegion
import Derived.Test.YtpmhmippoefcfaaGreatDoorProg
import Derived.Test.YtpmhmippoefcfaaGreatDoorShelf
import Derived.Test.YtpmhmippoefcfaaGreatDoorB01
import Derived.Test.YtpmhmippoefcfaaGreatDoorB02
import Derived.Test.YtpmhmippoefcfaaGreatDoorB04
import Derived.Test.YtpmhmippoefcfaaGreatDoorB05
import Derived.Test.YtpmhmippoefcfaaGreatDoorB07
import Derived.Test.YtpmhmippoefcfaaGreatDoorB08
import Derived.Test.YtpmhmippoefcfaaGreatDoorB09
import Derived.Test.YtpmhmippoefcfaaGreatDoorB10
import Derived.Test.YtpmhmippoefcfaaGreatDoorB11
import Derived.Test.YtpmhmippoefcfaaGreatDoorB12
import Derived.Test.YtpmhmippoefcfaaGreatDoorB13
import Derived.Test.YtpmhmippoefcfaaGreatDoorB14
import Derived.Test.YtpmhmippoefcfaaGreatDoorB16
import Derived.Test.YtpmhmippoefcfaaGreatDoorB17
import Derived.Test.YtpmhmippoefcfaaGreatDoorB21
import Derived.Test.YtpmhmippoefcfaaGreatDoorB24
import Derived.Test.YtpmhmippoefcfaaGreatDoorChangeEntersE01
import Derived.Test.YtpmhmippoefcfaaGreatDoorChangeEntersE06
import Derived.Test.YtpmhmippoefcfaaGreatDoorChangeEntersE07
namespace Go.Proofs.YtpmhmippoefcfaaGreatDoor
open Go.RowKit Go.Shelf
attribute [local go_sem ↓] Go.wp_at_zero Go.wp_at_succ
set_option maxRecDepth 100000 in
set_option maxHeartbeats 4000000 in
theorem enters_l (l : List NodeL) (most room : Int) (who fr : Int) (path text : Str) (mode : Int) (ao : Option Addr) (cap : Nat) (w : World) (hg : GivesN l (.slice ao l.length cap) w) (hfit : FitD l) {S : Nat → Addr} (hs : Sent S w) :
    Calls Tryz.prog 3 #[diskV ao l.length cap most room, asV who fr, .string (bs path), .string (bs text), .int .i64 mode] w fun e w' => e = .returned (.bool true) ∧ Below w.heap.size w w' := by
  have S0 := Lib.hid (Sn.start hg)
  have HS := Lib.hid hs
  have HQ := Lib.hid fun v W (hgv : GivesN l v W) => right_g l most room v W hgv hfit
  have HSh := Lib.hid fun W (hs : Sent S W) => shown_any W hs
  clear hg hs hfit
  go_enter Tryz.func3, Tryz.ntmps3
  go_upto_region 1 with (fail)
  refine code_fresh2 ?_
  intro W1 hb hA0 hA1 hs
  have S1 := Lib.hid (S0.out.new2 hb hA0 hA1)
  clear hb hA0 hA1 hs
  obtain ⟨d0, d1, d2⟩ := cells3 (S1.out.at 0 rfl)
  go_wp2_with fail
  refine (HQ.out _ W1 (S1.out.g 0 rfl)).mono ?_
  rintro e W2 ⟨rfl, hb⟩
  clear d0 d1 d2
  have S2 := Lib.hid (S1.out.call hb)
  clear hb
  cases hq : rightQ l most room with
  | false =>
    clear hq
    go_wp2_with fail
    refine (HSh.out W2 (HS.out.keep S2.out.bel)).mono ?_
    rintro e WZ ⟨rfl, hb⟩
    go_wp2_with fail
    go_ret
    exact ⟨rfl, ret_tr S2.out.bel hb⟩
  | true =>
    have HR := Lib.hid hq
    clear hq
    go_wp2_with fail
    refine calls_fresh1 ?_
    intro WS hb hA hs
    have SS := Lib.hid (S2.out.call hb)
    clear hb hs
    refine (short_n [path, text] 2 rfl (by decide) WS hA).mono ?_
    rintro e _ ⟨rfl, rfl⟩
    clear hA
    cases hsh : shortB [path, text] with
    | false =>
      clear hsh
      go_wp2_with fail
      refine (HSh.out WS (HS.out.keep SS.out.bel)).mono ?_
      rintro e WZ ⟨rfl, hb⟩
      go_wp2_with fail
      go_ret
      exact ⟨rfl, ret_tr SS.out.bel hb⟩
    | true =>
      have hplpath : path.length ≤ 10000 := Nat.le_trans (short_yes hsh path (by simp)) (by decide)
      have hpltext : text.length ≤ 10000 := Nat.le_trans (short_yes hsh text (by simp)) (by decide)
      clear hsh
      go_wp2_with fail
      refine (HSh.out WS (HS.out.keep SS.out.bel)).mono ?_
      rintro e W3 ⟨rfl, hb⟩
      have S3 := Lib.hid (SS.out.call hb)
      clear hb
      have hp := fun (W : World) (ao : Option Addr) (cap : Nat) (h : GivesX (fun _ => False) l (.slice ao l.length cap) W) (hs : Sent S W) => (pmake_g (fun _ => False) l most room who fr path mode ao cap W old_no h (q_dsk HR.out) hplpath hs).mono fun _ _ h => makT h
      have hr := fun (X : Nat → Prop) (W : World) (ao : Option Addr) (cap : Nat) (hX : Old X W) (h : GivesX X l (.slice ao l.length cap) W) => (rmkfile_g X l most room who fr path mode ao cap W hX h (q_dsk HR.out) hplpath).mono fun _ _ h => (show MakX X _ _ _ most room _ _ _ from h)
      have ha := aft_mkfile HR.out who fr path mode
      generalize mkfileL l most room who fr path mode = R at hp hr ha
      obtain ⟨L1, i1, f1⟩ := R
      dsimp only at hp hr ha
      have HP1 := Lib.hid hp
      have HR1 := Lib.hid hr
      have HA1 := Lib.hid ha
      clear hp hr ha
      have hp := fun (W : World) (ao : Option Addr) (cap : Nat) (h : GivesX (fun _ => False) l (.slice ao l.length cap) W) (hs : Sent S W) => (pmkdir_g (fun _ => False) l most room who fr path mode ao cap W old_no h (q_dsk HR.out) hplpath hs).mono fun _ _ h => chgT h
      have hr := fun (X : Nat → Prop) (W : World) (ao : Option Addr) (cap : Nat) (hX : Old X W) (h : GivesX X l (.slice ao l.length cap) W) => (rmkdir_g X l most room who fr path mode ao cap W hX h (q_dsk HR.out) hplpath).mono fun _ _ h => (show ChgX X _ _ most room _ _ _ from h)
      have ha := aft_mkdir HR.out who fr path mode
      generalize mkdirL l most room who fr path mode = R at hp hr ha
      obtain ⟨L2, f2⟩ := R
      dsimp only at hp hr ha
      have HP2 := Lib.hid hp
      have HR2 := Lib.hid hr
      have HA2 := Lib.hid ha
      clear hp hr ha
      have hp := fun (W : World) (ao : Option Addr) (cap : Nat) (h : GivesX (fun _ => False) l (.slice ao l.length cap) W) (hs : Sent S W) => (psymlink_g (fun _ => False) l most room who fr text path ao cap W old_no h (q_dsk HR.out) hplpath hs hpltext).mono fun _ _ h => chgT h
      have hr := fun (X : Nat → Prop) (W : World) (ao : Option Addr) (cap : Nat) (hX : Old X W) (h : GivesX X l (.slice ao l.length cap) W) => (rsymlink_g X l most room who fr text path ao cap W hX h (q_dsk HR.out) hplpath).mono fun _ _ h => (show ChgX X _ _ most room _ _ _ from h)
      have ha := aft_symlink HR.out who fr path text
      generalize symlinkL l most room who fr text path = R at hp hr ha
      obtain ⟨L3, f3⟩ := R
      dsimp only at hp hr ha
      have HP3 := Lib.hid hp
      have HR3 := Lib.hid hr
      have HA3 := Lib.hid ha
      clear hp hr ha
      have HA := Lib.hid (q_aft HR.out)
      obtain ⟨d0, d1, d2⟩ := cells3 (S3.out.at 0 rfl)
      go_wp2_with fail
      refine (its_f l most room HA.out.dsk.len HA.out.names _ W3 (S3.out.g 0 rfl)).mono ?_
      rintro e W4 ⟨aoe, cpe, rfl, hg1, hb⟩
      clear d0 d1 d2
      have S4 := Lib.hid ((S3.out.call hb).addG hg1)
      clear hb hg1
      go_upto_region 4 with (fail)
      refine code_fresh1 ?_
      intro W5 hb hA0 hs
      have S5 := Lib.hid (S4.out.new1 hb hA0)
      clear hb hA0 hs
      obtain ⟨d0, d1, d2⟩ := cells3 (S5.out.at 0 rfl)
      obtain ⟨a0, a1⟩ := cells2 (S5.out.at 1 rfl)
      go_wp2_with fail
      refine (HP1.out W5 _ _ (S5.out.gx 0 rfl) (HS.out.keep S5.out.bel)).mono ?_
      rintro e W6 ⟨ao1, cp1, rfl, hg1, hb⟩
      clear d0 d1 d2 a0 a1
      have S6 := Lib.hid ((S5.out.call hb).addG hg1)
      clear hb hg1
      go_upto_region 5 with (fail)
      refine code_fresh1 ?_
      intro W7 hb hA0 hs
      have S7 := Lib.hid (S6.out.new1 hb hA0)
      clear hb hA0 hs
      go_upto_region 5 with (fail)
      go_cut [15, 16, 17] from 52 to 61 (fun s15 s16 s17 wx => s16 = .int .i64 i1 ∧ s17 = .int .i64 f1 ∧ CutD W7 L1 most room 32 s15 wx)
      case first =>
        have S8 := Lib.hid S7.out.st
        have h_e := (S7.out.at' S8.out.bel 2 rfl)
        have h_a := (S7.out.at' S8.out.bel 1 rfl)
        refine wp_region_held_drew (S := fun W => W.heap[W4.heap.size]? = some (.cells #[.slice aoe l.length cpe, .int .i64 most, .int .i64 room] 32 (0, 0)) ∧ W.heap[w.heap.size + 1]? = some (.cells #[.int .i64 who, .int .i64 fr] 26 (0, 0)) ∧ True) (by kernel_rfl) ⟨(S7.out.at' S8.out.bel 2 rfl), (S7.out.at' S8.out.bel 1 rfl), trivial⟩ (fun hHeld => ?_)
        clear h_e h_a
        have S9 := Lib.hid (S8.out.call (Below.refl W7.heap.size W7).drew)
        generalize W7.drew = W9 at *
        refine wpAnyH_take (i := 0) rfl (by kernel_rfl) (by kernel_rfl) (by kernel_rfl) (fun _ _ _ h => h) (yieldsIf_load_row (by rfl) 32 _ rfl _ rfl 32 _ (0, 0) _ (fun _ h => h.1) Tryz.underlying32 rfl (by kernel_rfl)) hHeld ?_
        (try simp only [pt, Act.put])
        refine wpAnyH_take (i := 1) rfl (by kernel_rfl) (by kernel_rfl) (by kernel_rfl) (fun _ _ _ h => h) (yieldsIf_load_row (by rfl) 26 _ rfl _ rfl 26 _ (0, 0) _ (fun _ h => h.2.1) Tryz.underlying26 rfl (by kernel_rfl)) hHeld ?_
        (try simp only [pt, Act.put])
        refine wpAnyH_take (i := 3) (v := ?v1) rfl (by kernel_rfl) (by kernel_rfl) (by kernel_rfl) (fun _ _ _ h => h) (Or.inl ⟨by rfl, ?hy1⟩) hHeld ?rest1
        case hy1 => (intro w hSw; (try dsimp only at hSw); (try go_split_ands); go_simp; first | done | with_reducible rfl)
        (try simp only [pt, Act.put])
        refine wpAnyH_take (i := 4) (v := ?v2) rfl (by kernel_rfl) (by kernel_rfl) (by kernel_rfl) (fun _ _ _ h => h) (Or.inl ⟨by rfl, ?hy2⟩) hHeld ?rest2
        case hy2 => (intro w hSw; (try dsimp only at hSw); (try go_split_ands); go_simp; first | done | with_reducible rfl)
        (try simp only [pt, Act.put])
        refine wpAnyH_ready (rs := [2, 10]) (by kernel_rfl) (by simp) ?_
        refine AllReadyH.cons rfl (fun K hK => ?_) (AllReadyH.cons rfl (fun K hK => ?_) AllReadyH.nil)
        · skip
          go_simp
          refine (as_any who fr W9).mono ?_
          rintro e W10 ⟨rfl, hb⟩
          have S10 := Lib.hid (S9.out.call hb)
          clear hb hHeld
          go_wp2_with fail
          refine hK.out _ _ ⟨(S7.out.at' S10.out.bel 2 rfl), (S7.out.at' S10.out.bel 1 rfl), trivial⟩ (fun hHeld => ?_)
          clear hK K
          (try simp only [pt, Act.put])
          refine wpAnyH_ready (rs := [5, 10]) (by kernel_rfl) (by simp) ?_
          refine AllReadyH.cons rfl (fun K hK => ?_) (AllReadyH.cons rfl (fun K hK => ?_) AllReadyH.nil)
          · skip
            go_simp
            refine (HR1.out _ W10 _ _ S10.out.oldX (S10.out.g 1 rfl)).mono ?_
            rintro e W11 ⟨aoy, cpy, rfl, hgy, hb⟩
            have S11 := Lib.hid ((S10.out.call hb).addG hgy)
            clear hb hHeld hgy
            go_wp2_with fail
            refine hK.out _ _ ⟨(S7.out.at' S11.out.bel 2 rfl), (S7.out.at' S11.out.bel 1 rfl), trivial⟩ (fun hHeld => ?_)
            clear hK K
            (try simp only [pt, Act.put])
            refine wpAnyH_take (i := 6) (v := ?v3) rfl (by kernel_rfl) (by kernel_rfl) (by kernel_rfl) (fun _ _ _ h => h) (Or.inl ⟨by rfl, ?hy3⟩) hHeld ?rest3
            case hy3 => (intro w hSw; (try dsimp only at hSw); (try go_split_ands); go_simp; first | done | with_reducible rfl)
            (try simp only [pt, Act.put])
            refine wpAnyH_take (i := 7) (v := ?v4) rfl (by kernel_rfl) (by kernel_rfl) (by kernel_rfl) (fun _ _ _ h => h) (Or.inl ⟨by rfl, ?hy4⟩) hHeld ?rest4
            case hy4 => (intro w hSw; (try dsimp only at hSw); (try go_split_ands); go_simp; first | done | with_reducible rfl)
            (try simp only [pt, Act.put])
            refine wpAnyH_take (i := 8) (v := ?v5) rfl (by kernel_rfl) (by kernel_rfl) (by kernel_rfl) (fun _ _ _ h => h) (Or.inl ⟨by rfl, ?hy5⟩) hHeld ?rest5
            case hy5 => (intro w hSw; (try dsimp only at hSw); (try go_split_ands); go_simp; first | done | with_reducible rfl)
            (try simp only [pt, Act.put])
            refine wpAnyH_take (i := 9) (v := ?v6) rfl (by kernel_rfl) (by kernel_rfl) (by kernel_rfl) (fun _ _ _ h => h) (Or.inl ⟨by rfl, ?hy6⟩) hHeld ?rest6
            case hy6 => (intro w hSw; (try dsimp only at hSw); (try go_split_ands); go_simp; first | done | with_reducible rfl)
            (try simp only [pt, Act.put])
            refine wpAnyH_ready (rs := [10]) (by kernel_rfl) (by simp) ?_
            refine AllReadyH.cons rfl (fun K hK => ?_) AllReadyH.nil
            go_simp
            refine fresh1 (P := fun W => K _ W) ?_
            intro W12 hb hn hs
            have S12 := Lib.hid (S11.out.new1 hb hn)
            clear hb hn hs hHeld
            refine hK.out _ _ ⟨(S7.out.at' S12.out.bel 2 rfl), (S7.out.at' S12.out.bel 1 rfl), trivial⟩ (fun hHeld => ?_)
            clear hK K
            (try simp only [pt, Act.put])
            refine wpAnyH_ready (rs := [11]) (by kernel_rfl) (by simp) ?_
            refine AllReadyH.cons rfl (fun K hK => ?_) AllReadyH.nil
            rw [if_pos (by rfl)]
            refine wp_store_row 32 _ _ rfl _ rfl rfl (S12.out.at 0 rfl) rfl (by kernel_rfl) rfl ?_
            intro W13 hb hg hs hn
            have S13 := Lib.hid (S12.out.set 0 rfl hb hg hs hn)
            clear hb hg hs hn hHeld
            refine hK.out _ _ ⟨(S7.out.at' S13.out.bel 2 rfl), (S7.out.at' S13.out.bel 1 rfl), trivial⟩ (fun hHeld => ?_)
            clear hK K
            (try simp only [pt, Act.put])
            refine wpAnyH_take (i := 12) (v := ?v7) rfl (by kernel_rfl) (by kernel_rfl) (by kernel_rfl) (fun _ _ _ h => h) (Or.inl ⟨by rfl, ?hy7⟩) hHeld ?rest7
            case hy7 => (intro w hSw; (try dsimp only at hSw); (try go_split_ands); go_simp; first | done | with_reducible rfl)
            (try simp only [pt, Act.put])
            refine wpAnyH_take (i := 13) (v := ?v8) rfl (by kernel_rfl) (by kernel_rfl) (by kernel_rfl) (fun _ _ _ h => h) (Or.inl ⟨by rfl, ?hy8⟩) hHeld ?rest8
            case hy8 => (intro w hSw; (try dsimp only at hSw); (try go_split_ands); go_simp; first | done | with_reducible rfl)
            (try simp only [pt, Act.put])
            refine wpAnyH_done (by kernel_rfl) ?_ _
            go_wp2_with fail
            go_meet
            exact ⟨rfl, rfl, _, _, _, rfl, S13.out.at 0 rfl, (S13.out.g 3 rfl).gives, S13.out.bel⟩
          · skip
            go_simp
            refine fresh1 (P := fun W => K _ W) ?_
            intro W11 hb hn hs
            have S11 := Lib.hid (S10.out.new1 hb hn)
            clear hb hn hs hHeld
            refine hK.out _ _ ⟨(S7.out.at' S11.out.bel 2 rfl), (S7.out.at' S11.out.bel 1 rfl), trivial⟩ (fun hHeld => ?_)
            clear hK K
            (try simp only [pt, Act.put])
            refine wpAnyH_ready (rs := [5]) (by kernel_rfl) (by simp) ?_
            refine AllReadyH.cons rfl (fun K hK => ?_) AllReadyH.nil
            go_simp
            refine (HR1.out _ W11 _ _ S11.out.oldX (S11.out.g 1 rfl)).mono ?_
            rintro e W12 ⟨aoy, cpy, rfl, hgy, hb⟩
            have S12 := Lib.hid ((S11.out.call hb).addG hgy)
            clear hb hHeld hgy
            go_wp2_with fail
            refine hK.out _ _ ⟨(S7.out.at' S12.out.bel 2 rfl), (S7.out.at' S12.out.bel 1 rfl), trivial⟩ (fun hHeld => ?_)
            clear hK K
            (try simp only [pt, Act.put])
            refine wpAnyH_take (i := 6) (v := ?v9) rfl (by kernel_rfl) (by kernel_rfl) (by kernel_rfl) (fun _ _ _ h => h) (Or.inl ⟨by rfl, ?hy9⟩) hHeld ?rest9
            case hy9 => (intro w hSw; (try dsimp only at hSw); (try go_split_ands); go_simp; first | done | with_reducible rfl)
            (try simp only [pt, Act.put])
            refine wpAnyH_take (i := 7) (v := ?v10) rfl (by kernel_rfl) (by kernel_rfl) (by kernel_rfl) (fun _ _ _ h => h) (Or.inl ⟨by rfl, ?hy10⟩) hHeld ?rest10
            case hy10 => (intro w hSw; (try dsimp only at hSw); (try go_split_ands); go_simp; first | done | with_reducible rfl)
            (try simp only [pt, Act.put])
            refine wpAnyH_take (i := 8) (v := ?v11) rfl (by kernel_rfl) (by kernel_rfl) (by kernel_rfl) (fun _ _ _ h => h) (Or.inl ⟨by rfl, ?hy11⟩) hHeld ?rest11
            case hy11 => (intro w hSw; (try dsimp only at hSw); (try go_split_ands); go_simp; first | done | with_reducible rfl)
            (try simp only [pt, Act.put])
            refine wpAnyH_take (i := 9) (v := ?v12) rfl (by kernel_rfl) (by kernel_rfl) (by kernel_rfl) (fun _ _ _ h => h) (Or.inl ⟨by rfl, ?hy12⟩) hHeld ?rest12
            case hy12 => (intro w hSw; (try dsimp only at hSw); (try go_split_ands); go_simp; first | done | with_reducible rfl)
            (try simp only [pt, Act.put])
            refine wpAnyH_ready (rs := [11]) (by kernel_rfl) (by simp) ?_
            refine AllReadyH.cons rfl (fun K hK => ?_) AllReadyH.nil
            rw [if_pos (by rfl)]
            refine wp_store_row 32 _ _ rfl _ rfl rfl (S12.out.at 0 rfl) rfl (by kernel_rfl) rfl ?_
            intro W13 hb hg hs hn
            have S13 := Lib.hid (S12.out.set 0 rfl hb hg hs hn)
            clear hb hg hs hn hHeld
            refine hK.out _ _ ⟨(S7.out.at' S13.out.bel 2 rfl), (S7.out.at' S13.out.bel 1 rfl), trivial⟩ (fun hHeld => ?_)
            clear hK K
            (try simp only [pt, Act.put])
            refine wpAnyH_take (i := 12) (v := ?v13) rfl (by kernel_rfl) (by kernel_rfl) (by kernel_rfl) (fun _ _ _ h => h) (Or.inl ⟨by rfl, ?hy13⟩) hHeld ?rest13
            case hy13 => (intro w hSw; (try dsimp only at hSw); (try go_split_ands); go_simp; first | done | with_reducible rfl)
            (try simp only [pt, Act.put])
            refine wpAnyH_take (i := 13) (v := ?v14) rfl (by kernel_rfl) (by kernel_rfl) (by kernel_rfl) (fun _ _ _ h => h) (Or.inl ⟨by rfl, ?hy14⟩) hHeld ?rest14
            case hy14 => (intro w hSw; (try dsimp only at hSw); (try go_split_ands); go_simp; first | done | with_reducible rfl)
            (try simp only [pt, Act.put])
            refine wpAnyH_done (by kernel_rfl) ?_ _
            go_wp2_with fail
            go_meet
            exact ⟨rfl, rfl, _, _, _, rfl, S13.out.at 0 rfl, (S13.out.g 3 rfl).gives, S13.out.bel⟩
        · skip
          go_simp
          refine fresh1 (P := fun W => K _ W) ?_
          intro W10 hb hn hs
          have S10 := Lib.hid (S9.out.new1 hb hn)
          clear hb hn hs hHeld
          refine hK.out _ _ ⟨(S7.out.at' S10.out.bel 2 rfl), (S7.out.at' S10.out.bel 1 rfl), trivial⟩ (fun hHeld => ?_)
          clear hK K
          (try simp only [pt, Act.put])
          refine wpAnyH_ready (rs := [2]) (by kernel_rfl) (by simp) ?_
          refine AllReadyH.cons rfl (fun K hK => ?_) AllReadyH.nil
          go_simp
          refine (as_any who fr W10).mono ?_
          rintro e W11 ⟨rfl, hb⟩
          have S11 := Lib.hid (S10.out.call hb)
          clear hb hHeld
          go_wp2_with fail
          refine hK.out _ _ ⟨(S7.out.at' S11.out.bel 2 rfl), (S7.out.at' S11.out.bel 1 rfl), trivial⟩ (fun hHeld => ?_)
          clear hK K
          (try simp only [pt, Act.put])
          refine wpAnyH_ready (rs := [5]) (by kernel_rfl) (by simp) ?_
          refine AllReadyH.cons rfl (fun K hK => ?_) AllReadyH.nil
          go_simp
          refine (HR1.out _ W11 _ _ S11.out.oldX (S11.out.g 1 rfl)).mono ?_
          rintro e W12 ⟨aoy, cpy, rfl, hgy, hb⟩
          have S12 := Lib.hid ((S11.out.call hb).addG hgy)
          clear hb hHeld hgy
          go_wp2_with fail
          refine hK.out _ _ ⟨(S7.out.at' S12.out.bel 2 rfl), (S7.out.at' S12.out.bel 1 rfl), trivial⟩ (fun hHeld => ?_)
          clear hK K
          (try simp only [pt, Act.put])
          refine wpAnyH_take (i := 6) (v := ?v15) rfl (by kernel_rfl) (by kernel_rfl) (by kernel_rfl) (fun _ _ _ h => h) (Or.inl ⟨by rfl, ?hy15⟩) hHeld ?rest15
          case hy15 => (intro w hSw; (try dsimp only at hSw); (try go_split_ands); go_simp; first | done | with_reducible rfl)
          (try simp only [pt, Act.put])
          refine wpAnyH_take (i := 7) (v := ?v16) rfl (by kernel_rfl) (by kernel_rfl) (by kernel_rfl) (fun _ _ _ h => h) (Or.inl ⟨by rfl, ?hy16⟩) hHeld ?rest16
          case hy16 => (intro w hSw; (try dsimp only at hSw); (try go_split_ands); go_simp; first | done | with_reducible rfl)
          (try simp only [pt, Act.put])
          refine wpAnyH_take (i := 8) (v := ?v17) rfl (by kernel_rfl) (by kernel_rfl) (by kernel_rfl) (fun _ _ _ h => h) (Or.inl ⟨by rfl, ?hy17⟩) hHeld ?rest17
          case hy17 => (intro w hSw; (try dsimp only at hSw); (try go_split_ands); go_simp; first | done | with_reducible rfl)
          (try simp only [pt, Act.put])
          refine wpAnyH_take (i := 9) (v := ?v18) rfl (by kernel_rfl) (by kernel_rfl) (by kernel_rfl) (fun _ _ _ h => h) (Or.inl ⟨by rfl, ?hy18⟩) hHeld ?rest18
          case hy18 => (intro w hSw; (try dsimp only at hSw); (try go_split_ands); go_simp; first | done | with_reducible rfl)
          (try simp only [pt, Act.put])
          refine wpAnyH_ready (rs := [11]) (by kernel_rfl) (by simp) ?_
          refine AllReadyH.cons rfl (fun K hK => ?_) AllReadyH.nil
          rw [if_pos (by rfl)]
          refine wp_store_row 32 _ _ rfl _ rfl rfl (S12.out.at 0 rfl) rfl (by kernel_rfl) rfl ?_
          intro W13 hb hg hs hn
          have S13 := Lib.hid (S12.out.set 0 rfl hb hg hs hn)
          clear hb hg hs hn hHeld
          refine hK.out _ _ ⟨(S7.out.at' S13.out.bel 2 rfl), (S7.out.at' S13.out.bel 1 rfl), trivial⟩ (fun hHeld => ?_)
          clear hK K
          (try simp only [pt, Act.put])
          refine wpAnyH_take (i := 12) (v := ?v19) rfl (by kernel_rfl) (by kernel_rfl) (by kernel_rfl) (fun _ _ _ h => h) (Or.inl ⟨by rfl, ?hy19⟩) hHeld ?rest19
          case hy19 => (intro w hSw; (try dsimp only at hSw); (try go_split_ands); go_simp; first | done | with_reducible rfl)
          (try simp only [pt, Act.put])
          refine wpAnyH_take (i := 13) (v := ?v20) rfl (by kernel_rfl) (by kernel_rfl) (by kernel_rfl) (fun _ _ _ h => h) (Or.inl ⟨by rfl, ?hy20⟩) hHeld ?rest20
          case hy20 => (intro w hSw; (try dsimp only at hSw); (try go_split_ands); go_simp; first | done | with_reducible rfl)
          (try simp only [pt, Act.put])
          refine wpAnyH_done (by kernel_rfl) ?_ _
          go_wp2_with fail
          go_meet
          exact ⟨rfl, rfl, _, _, _, rfl, S13.out.at 0 rfl, (S13.out.g 3 rfl).gives, S13.out.bel⟩
      case rest =>
      obtain ⟨rfl, rfl, bY, aoY, cpY, rfl, hblk, hgY, hbY⟩ := hcut
      have S8 := Lib.hid ((S7.out.add1 hbY hblk).addG hgY)
      clear hbY hblk hgY
      generalize wc = W8 at *
      generalize bY = blky at *
      generalize aoY = aoy at *
      generalize cpY = cpy at *
      obtain ⟨d0, d1, d2⟩ := cells3 (S8.out.at 0 rfl)
      obtain ⟨a0, a1⟩ := cells2 (S8.out.at 1 rfl)
      go_wp2_with fail
      refine (HP2.out W8 _ _ (S8.out.gx 0 rfl) (HS.out.keep S8.out.bel)).mono ?_
      rintro e W9 ⟨ao2, cp2, rfl, hg1, hb⟩
      clear d0 d1 d2 a0 a1
      have S9 := Lib.hid ((S8.out.call hb).addG hg1)
      clear hb hg1
      go_upto_region 7 with (fail)
      refine code_fresh1 ?_
      intro W10 hb hA0 hs
      have S10 := Lib.hid (S9.out.new1 hb hA0)
      clear hb hA0 hs
      go_upto_region 7 with (fail)
      go_cut [20, 21] from 70 to 78 (fun s20 s21 wx => s21 = .int .i64 f2 ∧ CutD W10 L2 most room 32 s20 wx)
      case first =>
        have S11 := Lib.hid S10.out.st
        have h_e := (S10.out.at' S11.out.bel 2 rfl)
        have h_a := (S10.out.at' S11.out.bel 1 rfl)
        refine wp_region_held_drew (S := fun W => W.heap[W4.heap.size]? = some (.cells #[.slice aoe l.length cpe, .int .i64 most, .int .i64 room] 32 (0, 0)) ∧ W.heap[w.heap.size + 1]? = some (.cells #[.int .i64 who, .int .i64 fr] 26 (0, 0)) ∧ True) (by kernel_rfl) ⟨(S10.out.at' S11.out.bel 2 rfl), (S10.out.at' S11.out.bel 1 rfl), trivial⟩ (fun hHeld => ?_)
        clear h_e h_a
        have S12 := Lib.hid (S11.out.call (Below.refl W10.heap.size W10).drew)
        generalize W10.drew = W12 at *
        refine wpAnyH_take (i := 0) rfl (by kernel_rfl) (by kernel_rfl) (by kernel_rfl) (fun _ _ _ h => h) (yieldsIf_load_row (by rfl) 32 _ rfl _ rfl 32 _ (0, 0) _ (fun _ h => h.1) Tryz.underlying32 rfl (by kernel_rfl)) hHeld ?_
        (try simp only [pt, Act.put])
        refine wpAnyH_take (i := 1) rfl (by kernel_rfl) (by kernel_rfl) (by kernel_rfl) (fun _ _ _ h => h) (yieldsIf_load_row (by rfl) 26 _ rfl _ rfl 26 _ (0, 0) _ (fun _ h => h.2.1) Tryz.underlying26 rfl (by kernel_rfl)) hHeld ?_
        (try simp only [pt, Act.put])
        refine wpAnyH_take (i := 3) (v := ?v21) rfl (by kernel_rfl) (by kernel_rfl) (by kernel_rfl) (fun _ _ _ h => h) (Or.inl ⟨by rfl, ?hy21⟩) hHeld ?rest21
        case hy21 => (intro w hSw; (try dsimp only at hSw); (try go_split_ands); go_simp; first | done | with_reducible rfl)
        (try simp only [pt, Act.put])
        refine wpAnyH_take (i := 4) (v := ?v22) rfl (by kernel_rfl) (by kernel_rfl) (by kernel_rfl) (fun _ _ _ h => h) (Or.inl ⟨by rfl, ?hy22⟩) hHeld ?rest22
        case hy22 => (intro w hSw; (try dsimp only at hSw); (try go_split_ands); go_simp; first | done | with_reducible rfl)
        (try simp only [pt, Act.put])
        refine wpAnyH_ready (rs := [2, 9]) (by kernel_rfl) (by simp) ?_
        refine AllReadyH.cons rfl (fun K hK => ?_) (AllReadyH.cons rfl (fun K hK => ?_) AllReadyH.nil)
        · skip
          go_simp
          refine (as_any who fr W12).mono ?_
          rintro e W13 ⟨rfl, hb⟩
          have S13 := Lib.hid (S12.out.call hb)
          clear hb hHeld
          go_wp2_with fail
          refine hK.out _ _ ⟨(S10.out.at' S13.out.bel 2 rfl), (S10.out.at' S13.out.bel 1 rfl), trivial⟩ (fun hHeld => ?_)
          clear hK K
          (try simp only [pt, Act.put])
          refine wpAnyH_ready (rs := [5, 9]) (by kernel_rfl) (by simp) ?_
          refine AllReadyH.cons rfl (fun K hK => ?_) (AllReadyH.cons rfl (fun K hK => ?_) AllReadyH.nil)
          · skip
            go_simp
            refine (HR2.out _ W13 _ _ S13.out.oldX (S13.out.g 1 rfl)).mono ?_
            rintro e W14 ⟨aoy, cpy, rfl, hgy, hb⟩
            have S14 := Lib.hid ((S13.out.call hb).addG hgy)
            clear hb hHeld hgy
            go_wp2_with fail
            refine hK.out _ _ ⟨(S10.out.at' S14.out.bel 2 rfl), (S10.out.at' S14.out.bel 1 rfl), trivial⟩ (fun hHeld => ?_)
            clear hK K
            (try simp only [pt, Act.put])
            refine wpAnyH_take (i := 6) (v := ?v23) rfl (by kernel_rfl) (by kernel_rfl) (by kernel_rfl) (fun _ _ _ h => h) (Or.inl ⟨by rfl, ?hy23⟩) hHeld ?rest23
            case hy23 => (intro w hSw; (try dsimp only at hSw); (try go_split_ands); go_simp; first | done | with_reducible rfl)
            (try simp only [pt, Act.put])
            refine wpAnyH_take (i := 7) (v := ?v24) rfl (by kernel_rfl) (by kernel_rfl) (by kernel_rfl) (fun _ _ _ h => h) (Or.inl ⟨by rfl, ?hy24⟩) hHeld ?rest24
            case hy24 => (intro w hSw; (try dsimp only at hSw); (try go_split_ands); go_simp; first | done | with_reducible rfl)
            (try simp only [pt, Act.put])
            refine wpAnyH_take (i := 8) (v := ?v25) rfl (by kernel_rfl) (by kernel_rfl) (by kernel_rfl) (fun _ _ _ h => h) (Or.inl ⟨by rfl, ?hy25⟩) hHeld ?rest25
            case hy25 => (intro w hSw; (try dsimp only at hSw); (try go_split_ands); go_simp; first | done | with_reducible rfl)
            (try simp only [pt, Act.put])
            refine wpAnyH_ready (rs := [9]) (by kernel_rfl) (by simp) ?_
            refine AllReadyH.cons rfl (fun K hK => ?_) AllReadyH.nil
            go_simp
            refine fresh1 (P := fun W => K _ W) ?_
            intro W15 hb hn hs
            have S15 := Lib.hid (S14.out.new1 hb hn)
            clear hb hn hs hHeld
            refine hK.out _ _ ⟨(S10.out.at' S15.out.bel 2 rfl), (S10.out.at' S15.out.bel 1 rfl), trivial⟩ (fun hHeld => ?_)
            clear hK K
            (try simp only [pt, Act.put])
            refine wpAnyH_ready (rs := [10]) (by kernel_rfl) (by simp) ?_
            refine AllReadyH.cons rfl (fun K hK => ?_) AllReadyH.nil
            rw [if_pos (by rfl)]
            refine wp_store_row 32 _ _ rfl _ rfl rfl (S15.out.at 0 rfl) rfl (by kernel_rfl) rfl ?_
            intro W16 hb hg hs hn
            have S16 := Lib.hid (S15.out.set 0 rfl hb hg hs hn)
            clear hb hg hs hn hHeld
            refine hK.out _ _ ⟨(S10.out.at' S16.out.bel 2 rfl), (S10.out.at' S16.out.bel 1 rfl), trivial⟩ (fun hHeld => ?_)
            clear hK K
            (try simp only [pt, Act.put])
            refine wpAnyH_take (i := 11) (v := ?v26) rfl (by kernel_rfl) (by kernel_rfl) (by kernel_rfl) (fun _ _ _ h => h) (Or.inl ⟨by rfl, ?hy26⟩) hHeld ?rest26
            case hy26 => (intro w hSw; (try dsimp only at hSw); (try go_split_ands); go_simp; first | done | with_reducible rfl)
            (try simp only [pt, Act.put])
            refine wpAnyH_done (by kernel_rfl) ?_ _
            go_wp2_with fail
            go_meet
            exact ⟨rfl, _, _, _, rfl, S16.out.at 0 rfl, (S16.out.g 5 rfl).gives, S16.out.bel⟩
          · skip
            go_simp
            refine fresh1 (P := fun W => K _ W) ?_
            intro W14 hb hn hs
            have S14 := Lib.hid (S13.out.new1 hb hn)
            clear hb hn hs hHeld
            refine hK.out _ _ ⟨(S10.out.at' S14.out.bel 2 rfl), (S10.out.at' S14.out.bel 1 rfl), trivial⟩ (fun hHeld => ?_)
            clear hK K
            (try simp only [pt, Act.put])
            refine wpAnyH_ready (rs := [5]) (by kernel_rfl) (by simp) ?_
            refine AllReadyH.cons rfl (fun K hK => ?_) AllReadyH.nil
            go_simp
            refine (HR2.out _ W14 _ _ S14.out.oldX (S14.out.g 1 rfl)).mono ?_
            rintro e W15 ⟨aoy, cpy, rfl, hgy, hb⟩
            have S15 := Lib.hid ((S14.out.call hb).addG hgy)
            clear hb hHeld hgy
            go_wp2_with fail
            refine hK.out _ _ ⟨(S10.out.at' S15.out.bel 2 rfl), (S10.out.at' S15.out.bel 1 rfl), trivial⟩ (fun hHeld => ?_)
            clear hK K
            (try simp only [pt, Act.put])
            refine wpAnyH_take (i := 6) (v := ?v27) rfl (by kernel_rfl) (by kernel_rfl) (by kernel_rfl) (fun _ _ _ h => h) (Or.inl ⟨by rfl, ?hy27⟩) hHeld ?rest27
            case hy27 => (intro w hSw; (try dsimp only at hSw); (try go_split_ands); go_simp; first | done | with_reducible rfl)
            (try simp only [pt, Act.put])
            refine wpAnyH_take (i := 7) (v := ?v28) rfl (by kernel_rfl) (by kernel_rfl) (by kernel_rfl) (fun _ _ _ h => h) (Or.inl ⟨by rfl, ?hy28⟩) hHeld ?rest28
            case hy28 => (intro w hSw; (try dsimp only at hSw); (try go_split_ands); go_simp; first | done | with_reducible rfl)
            (try simp only [pt, Act.put])
            refine wpAnyH_take (i := 8) (v := ?v29) rfl (by kernel_rfl) (by kernel_rfl) (by kernel_rfl) (fun _ _ _ h => h) (Or.inl ⟨by rfl, ?hy29⟩) hHeld ?rest29
            case hy29 => (intro w hSw; (try dsimp only at hSw); (try go_split_ands); go_simp; first | done | with_reducible rfl)
            (try simp only [pt, Act.put])
            refine wpAnyH_ready (rs := [10]) (by kernel_rfl) (by simp) ?_
            refine AllReadyH.cons rfl (fun K hK => ?_) AllReadyH.nil
            rw [if_pos (by rfl)]
            refine wp_store_row 32 _ _ rfl _ rfl rfl (S15.out.at 0 rfl) rfl (by kernel_rfl) rfl ?_
            intro W16 hb hg hs hn
            have S16 := Lib.hid (S15.out.set 0 rfl hb hg hs hn)
            clear hb hg hs hn hHeld
            refine hK.out _ _ ⟨(S10.out.at' S16.out.bel 2 rfl), (S10.out.at' S16.out.bel 1 rfl), trivial⟩ (fun hHeld => ?_)
            clear hK K
            (try simp only [pt, Act.put])
            refine wpAnyH_take (i := 11) (v := ?v30) rfl (by kernel_rfl) (by kernel_rfl) (by kernel_rfl) (fun _ _ _ h => h) (Or.inl ⟨by rfl, ?hy30⟩) hHeld ?rest30
            case hy30 => (intro w hSw; (try dsimp only at hSw); (try go_split_ands); go_simp; first | done | with_reducible rfl)
            (try simp only [pt, Act.put])
            refine wpAnyH_done (by kernel_rfl) ?_ _
            go_wp2_with fail
            go_meet
            exact ⟨rfl, _, _, _, rfl, S16.out.at 0 rfl, (S16.out.g 5 rfl).gives, S16.out.bel⟩
        · skip
          go_simp
          refine fresh1 (P := fun W => K _ W) ?_
          intro W13 hb hn hs
          have S13 := Lib.hid (S12.out.new1 hb hn)
          clear hb hn hs hHeld
          refine hK.out _ _ ⟨(S10.out.at' S13.out.bel 2 rfl), (S10.out.at' S13.out.bel 1 rfl), trivial⟩ (fun hHeld => ?_)
          clear hK K
          (try simp only [pt, Act.put])
          refine wpAnyH_ready (rs := [2]) (by kernel_rfl) (by simp) ?_
          refine AllReadyH.cons rfl (fun K hK => ?_) AllReadyH.nil
          go_simp
          refine (as_any who fr W13).mono ?_
          rintro e W14 ⟨rfl, hb⟩
          have S14 := Lib.hid (S13.out.call hb)
          clear hb hHeld
          go_wp2_with fail
          refine hK.out _ _ ⟨(S10.out.at' S14.out.bel 2 rfl), (S10.out.at' S14.out.bel 1 rfl), trivial⟩ (fun hHeld => ?_)
          clear hK K
          (try simp only [pt, Act.put])
          refine wpAnyH_ready (rs := [5]) (by kernel_rfl) (by simp) ?_
          refine AllReadyH.cons rfl (fun K hK => ?_) AllReadyH.nil
          go_simp
          refine (HR2.out _ W14 _ _ S14.out.oldX (S14.out.g 1 rfl)).mono ?_
          rintro e W15 ⟨aoy, cpy, rfl, hgy, hb⟩
          have S15 := Lib.hid ((S14.out.call hb).addG hgy)
          clear hb hHeld hgy
          go_wp2_with fail
          refine hK.out _ _ ⟨(S10.out.at' S15.out.bel 2 rfl), (S10.out.at' S15.out.bel 1 rfl), trivial⟩ (fun hHeld => ?_)
          clear hK K
          (try simp only [pt, Act.put])
          refine wpAnyH_take (i := 6) (v := ?v31) rfl (by kernel_rfl) (by kernel_rfl) (by kernel_rfl) (fun _ _ _ h => h) (Or.inl ⟨by rfl, ?hy31⟩) hHeld ?rest31
          case hy31 => (intro w hSw; (try dsimp only at hSw); (try go_split_ands); go_simp; first | done | with_reducible rfl)
          (try simp only [pt, Act.put])
          refine wpAnyH_take (i := 7) (v := ?v32) rfl (by kernel_rfl) (by kernel_rfl) (by kernel_rfl) (fun _ _ _ h => h) (Or.inl ⟨by rfl, ?hy32⟩) hHeld ?rest32
          case hy32 => (intro w hSw; (try dsimp only at hSw); (try go_split_ands); go_simp; first | done | with_reducible rfl)
          (try simp only [pt, Act.put])
          refine wpAnyH_take (i := 8) (v := ?v33) rfl (by kernel_rfl) (by kernel_rfl) (by kernel_rfl) (fun _ _ _ h => h) (Or.inl ⟨by rfl, ?hy33⟩) hHeld ?rest33
          case hy33 => (intro w hSw; (try dsimp only at hSw); (try go_split_ands); go_simp; first | done | with_reducible rfl)
          (try simp only [pt, Act.put])
          refine wpAnyH_ready (rs := [10]) (by kernel_rfl) (by simp) ?_
          refine AllReadyH.cons rfl (fun K hK => ?_) AllReadyH.nil
          rw [if_pos (by rfl)]
          refine wp_store_row 32 _ _ rfl _ rfl rfl (S15.out.at 0 rfl) rfl (by kernel_rfl) rfl ?_
          intro W16 hb hg hs hn
          have S16 := Lib.hid (S15.out.set 0 rfl hb hg hs hn)
          clear hb hg hs hn hHeld
          refine hK.out _ _ ⟨(S10.out.at' S16.out.bel 2 rfl), (S10.out.at' S16.out.bel 1 rfl), trivial⟩ (fun hHeld => ?_)
          clear hK K
          (try simp only [pt, Act.put])
          refine wpAnyH_take (i := 11) (v := ?v34) rfl (by kernel_rfl) (by kernel_rfl) (by kernel_rfl) (fun _ _ _ h => h) (Or.inl ⟨by rfl, ?hy34⟩) hHeld ?rest34
          case hy34 => (intro w hSw; (try dsimp only at hSw); (try go_split_ands); go_simp; first | done | with_reducible rfl)
          (try simp only [pt, Act.put])
          refine wpAnyH_done (by kernel_rfl) ?_ _
          go_wp2_with fail
          go_meet
          exact ⟨rfl, _, _, _, rfl, S16.out.at 0 rfl, (S16.out.g 5 rfl).gives, S16.out.bel⟩
      case rest =>
      obtain ⟨rfl, bY, aoY, cpY, rfl, hblk, hgY, hbY⟩ := hcut
      have S11 := Lib.hid ((S10.out.add1 hbY hblk).addG hgY)
      clear hbY hblk hgY
      generalize wc = W11 at *
      generalize bY = blku at *
      generalize aoY = aou at *
      generalize cpY = cpu at *
      obtain ⟨d0, d1, d2⟩ := cells3 (S11.out.at 0 rfl)
      obtain ⟨a0, a1⟩ := cells2 (S11.out.at 1 rfl)
      go_wp2_with fail
      refine (HP3.out W11 _ _ (S11.out.gx 0 rfl) (HS.out.keep S11.out.bel)).mono ?_
      rintro e W12 ⟨ao3, cp3, rfl, hg1, hb⟩
      clear d0 d1 d2 a0 a1
      have S12 := Lib.hid ((S11.out.call hb).addG hg1)
      clear hb hg1
      go_upto_region 9 with (fail)
      refine code_fresh1 ?_
      intro W13 hb hA0 hs
      have S13 := Lib.hid (S12.out.new1 hb hA0)
      clear hb hA0 hs
      go_upto_region 9 with (fail)
      go_cut [24, 25] from 87 to 95 (fun s24 s25 wx => s25 = .int .i64 f3 ∧ CutD W13 L3 most room 32 s24 wx)
      case first =>
        have S14 := Lib.hid S13.out.st
        have h_e := (S13.out.at' S14.out.bel 2 rfl)
        have h_a := (S13.out.at' S14.out.bel 1 rfl)
        refine wp_region_held_drew (S := fun W => W.heap[W4.heap.size]? = some (.cells #[.slice aoe l.length cpe, .int .i64 most, .int .i64 room] 32 (0, 0)) ∧ W.heap[w.heap.size + 1]? = some (.cells #[.int .i64 who, .int .i64 fr] 26 (0, 0)) ∧ True) (by kernel_rfl) ⟨(S13.out.at' S14.out.bel 2 rfl), (S13.out.at' S14.out.bel 1 rfl), trivial⟩ (fun hHeld => ?_)
        clear h_e h_a
        have S15 := Lib.hid (S14.out.call (Below.refl W13.heap.size W13).drew)
        generalize W13.drew = W15 at *
        refine wpAnyH_take (i := 0) rfl (by kernel_rfl) (by kernel_rfl) (by kernel_rfl) (fun _ _ _ h => h) (yieldsIf_load_row (by rfl) 32 _ rfl _ rfl 32 _ (0, 0) _ (fun _ h => h.1) Tryz.underlying32 rfl (by kernel_rfl)) hHeld ?_
        (try simp only [pt, Act.put])
        refine wpAnyH_take (i := 1) rfl (by kernel_rfl) (by kernel_rfl) (by kernel_rfl) (fun _ _ _ h => h) (yieldsIf_load_row (by rfl) 26 _ rfl _ rfl 26 _ (0, 0) _ (fun _ h => h.2.1) Tryz.underlying26 rfl (by kernel_rfl)) hHeld ?_
        (try simp only [pt, Act.put])
        refine wpAnyH_take (i := 3) (v := ?v35) rfl (by kernel_rfl) (by kernel_rfl) (by kernel_rfl) (fun _ _ _ h => h) (Or.inl ⟨by rfl, ?hy35⟩) hHeld ?rest35
        case hy35 => (intro w hSw; (try dsimp only at hSw); (try go_split_ands); go_simp; first | done | with_reducible rfl)
        (try simp only [pt, Act.put])
        refine wpAnyH_take (i := 4) (v := ?v36) rfl (by kernel_rfl) (by kernel_rfl) (by kernel_rfl) (fun _ _ _ h => h) (Or.inl ⟨by rfl, ?hy36⟩) hHeld ?rest36
        case hy36 => (intro w hSw; (try dsimp only at hSw); (try go_split_ands); go_simp; first | done | with_reducible rfl)
        (try simp only [pt, Act.put])
        refine wpAnyH_ready (rs := [2, 9]) (by kernel_rfl) (by simp) ?_
        refine AllReadyH.cons rfl (fun K hK => ?_) (AllReadyH.cons rfl (fun K hK => ?_) AllReadyH.nil)
        · skip
          go_simp
          refine (as_any who fr W15).mono ?_
          rintro e W16 ⟨rfl, hb⟩
          have S16 := Lib.hid (S15.out.call hb)
          clear hb hHeld
          go_wp2_with fail
          refine hK.out _ _ ⟨(S13.out.at' S16.out.bel 2 rfl), (S13.out.at' S16.out.bel 1 rfl), trivial⟩ (fun hHeld => ?_)
          clear hK K
          (try simp only [pt, Act.put])
          refine wpAnyH_ready (rs := [5, 9]) (by kernel_rfl) (by simp) ?_
          refine AllReadyH.cons rfl (fun K hK => ?_) (AllReadyH.cons rfl (fun K hK => ?_) AllReadyH.nil)
          · skip
            go_simp
            refine (HR3.out _ W16 _ _ S16.out.oldX (S16.out.g 1 rfl)).mono ?_
            rintro e W17 ⟨aoy, cpy, rfl, hgy, hb⟩
            have S17 := Lib.hid ((S16.out.call hb).addG hgy)
            clear hb hHeld hgy
            go_wp2_with fail
            refine hK.out _ _ ⟨(S13.out.at' S17.out.bel 2 rfl), (S13.out.at' S17.out.bel 1 rfl), trivial⟩ (fun hHeld => ?_)
            clear hK K
            (try simp only [pt, Act.put])
            refine wpAnyH_take (i := 6) (v := ?v37) rfl (by kernel_rfl) (by kernel_rfl) (by kernel_rfl) (fun _ _ _ h => h) (Or.inl ⟨by rfl, ?hy37⟩) hHeld ?rest37
            case hy37 => (intro w hSw; (try dsimp only at hSw); (try go_split_ands); go_simp; first | done | with_reducible rfl)
            (try simp only [pt, Act.put])
            refine wpAnyH_take (i := 7) (v := ?v38) rfl (by kernel_rfl) (by kernel_rfl) (by kernel_rfl) (fun _ _ _ h => h) (Or.inl ⟨by rfl, ?hy38⟩) hHeld ?rest38
            case hy38 => (intro w hSw; (try dsimp only at hSw); (try go_split_ands); go_simp; first | done | with_reducible rfl)
            (try simp only [pt, Act.put])
            refine wpAnyH_take (i := 8) (v := ?v39) rfl (by kernel_rfl) (by kernel_rfl) (by kernel_rfl) (fun _ _ _ h => h) (Or.inl ⟨by rfl, ?hy39⟩) hHeld ?rest39
            case hy39 => (intro w hSw; (try dsimp only at hSw); (try go_split_ands); go_simp; first | done | with_reducible rfl)
            (try simp only [pt, Act.put])
            refine wpAnyH_ready (rs := [9]) (by kernel_rfl) (by simp) ?_
            refine AllReadyH.cons rfl (fun K hK => ?_) AllReadyH.nil
            go_simp
            refine fresh1 (P := fun W => K _ W) ?_
            intro W18 hb hn hs
            have S18 := Lib.hid (S17.out.new1 hb hn)
            clear hb hn hs hHeld
            refine hK.out _ _ ⟨(S13.out.at' S18.out.bel 2 rfl), (S13.out.at' S18.out.bel 1 rfl), trivial⟩ (fun hHeld => ?_)
            clear hK K
            (try simp only [pt, Act.put])
            refine wpAnyH_ready (rs := [10]) (by kernel_rfl) (by simp) ?_
            refine AllReadyH.cons rfl (fun K hK => ?_) AllReadyH.nil
            rw [if_pos (by rfl)]
            refine wp_store_row 32 _ _ rfl _ rfl rfl (S18.out.at 0 rfl) rfl (by kernel_rfl) rfl ?_
            intro W19 hb hg hs hn
            have S19 := Lib.hid (S18.out.set 0 rfl hb hg hs hn)
            clear hb hg hs hn hHeld
            refine hK.out _ _ ⟨(S13.out.at' S19.out.bel 2 rfl), (S13.out.at' S19.out.bel 1 rfl), trivial⟩ (fun hHeld => ?_)
            clear hK K
            (try simp only [pt, Act.put])
            refine wpAnyH_take (i := 11) (v := ?v40) rfl (by kernel_rfl) (by kernel_rfl) (by kernel_rfl) (fun _ _ _ h => h) (Or.inl ⟨by rfl, ?hy40⟩) hHeld ?rest40
            case hy40 => (intro w hSw; (try dsimp only at hSw); (try go_split_ands); go_simp; first | done | with_reducible rfl)
            (try simp only [pt, Act.put])
            refine wpAnyH_done (by kernel_rfl) ?_ _
            go_wp2_with fail
            go_meet
            exact ⟨rfl, _, _, _, rfl, S19.out.at 0 rfl, (S19.out.g 7 rfl).gives, S19.out.bel⟩
          · skip
            go_simp
            refine fresh1 (P := fun W => K _ W) ?_
            intro W17 hb hn hs
            have S17 := Lib.hid (S16.out.new1 hb hn)
            clear hb hn hs hHeld
            refine hK.out _ _ ⟨(S13.out.at' S17.out.bel 2 rfl), (S13.out.at' S17.out.bel 1 rfl), trivial⟩ (fun hHeld => ?_)
            clear hK K
            (try simp only [pt, Act.put])
            refine wpAnyH_ready (rs := [5]) (by kernel_rfl) (by simp) ?_
            refine AllReadyH.cons rfl (fun K hK => ?_) AllReadyH.nil
            go_simp
            refine (HR3.out _ W17 _ _ S17.out.oldX (S17.out.g 1 rfl)).mono ?_
            rintro e W18 ⟨aoy, cpy, rfl, hgy, hb⟩
            have S18 := Lib.hid ((S17.out.call hb).addG hgy)
            clear hb hHeld hgy
            go_wp2_with fail
            refine hK.out _ _ ⟨(S13.out.at' S18.out.bel 2 rfl), (S13.out.at' S18.out.bel 1 rfl), trivial⟩ (fun hHeld => ?_)
            clear hK K
            (try simp only [pt, Act.put])
            refine wpAnyH_take (i := 6) (v := ?v41) rfl (by kernel_rfl) (by kernel_rfl) (by kernel_rfl) (fun _ _ _ h => h) (Or.inl ⟨by rfl, ?hy41⟩) hHeld ?rest41
            case hy41 => (intro w hSw; (try dsimp only at hSw); (try go_split_ands); go_simp; first | done | with_reducible rfl)
            (try simp only [pt, Act.put])
            refine wpAnyH_take (i := 7) (v := ?v42) rfl (by kernel_rfl) (by kernel_rfl) (by kernel_rfl) (fun _ _ _ h => h) (Or.inl ⟨by rfl, ?hy42⟩) hHeld ?rest42
            case hy42 => (intro w hSw; (try dsimp only at hSw); (try go_split_ands); go_simp; first | done | with_reducible rfl)
            (try simp only [pt, Act.put])
            refine wpAnyH_take (i := 8) (v := ?v43) rfl (by kernel_rfl) (by kernel_rfl) (by kernel_rfl) (fun _ _ _ h => h) (Or.inl ⟨by rfl, ?hy43⟩) hHeld ?rest43
            case hy43 => (intro w hSw; (try dsimp only at hSw); (try go_split_ands); go_simp; first | done | with_reducible rfl)
            (try simp only [pt, Act.put])
            refine wpAnyH_ready (rs := [10]) (by kernel_rfl) (by simp) ?_
            refine AllReadyH.cons rfl (fun K hK => ?_) AllReadyH.nil
            rw [if_pos (by rfl)]
            refine wp_store_row 32 _ _ rfl _ rfl rfl (S18.out.at 0 rfl) rfl (by kernel_rfl) rfl ?_
            intro W19 hb hg hs hn
            have S19 := Lib.hid (S18.out.set 0 rfl hb hg hs hn)
            clear hb hg hs hn hHeld
            refine hK.out _ _ ⟨(S13.out.at' S19.out.bel 2 rfl), (S13.out.at' S19.out.bel 1 rfl), trivial⟩ (fun hHeld => ?_)
            clear hK K
            (try simp only [pt, Act.put])
            refine wpAnyH_take (i := 11) (v := ?v44) rfl (by kernel_rfl) (by kernel_rfl) (by kernel_rfl) (fun _ _ _ h => h) (Or.inl ⟨by rfl, ?hy44⟩) hHeld ?rest44
            case hy44 => (intro w hSw; (try dsimp only at hSw); (try go_split_ands); go_simp; first | done | with_reducible rfl)
            (try simp only [pt, Act.put])
            refine wpAnyH_done (by kernel_rfl) ?_ _
            go_wp2_with fail
            go_meet
            exact ⟨rfl, _, _, _, rfl, S19.out.at 0 rfl, (S19.out.g 7 rfl).gives, S19.out.bel⟩
        · skip
          go_simp
          refine fresh1 (P := fun W => K _ W) ?_
          intro W16 hb hn hs
          have S16 := Lib.hid (S15.out.new1 hb hn)
          clear hb hn hs hHeld
          refine hK.out _ _ ⟨(S13.out.at' S16.out.bel 2 rfl), (S13.out.at' S16.out.bel 1 rfl), trivial⟩ (fun hHeld => ?_)
          clear hK K
          (try simp only [pt, Act.put])
          refine wpAnyH_ready (rs := [2]) (by kernel_rfl) (by simp) ?_
          refine AllReadyH.cons rfl (fun K hK => ?_) AllReadyH.nil
          go_simp
          refine (as_any who fr W16).mono ?_
          rintro e W17 ⟨rfl, hb⟩
          have S17 := Lib.hid (S16.out.call hb)
          clear hb hHeld
          go_wp2_with fail
          refine hK.out _ _ ⟨(S13.out.at' S17.out.bel 2 rfl), (S13.out.at' S17.out.bel 1 rfl), trivial⟩ (fun hHeld => ?_)
          clear hK K
          (try simp only [pt, Act.put])
          refine wpAnyH_ready (rs := [5]) (by kernel_rfl) (by simp) ?_
          refine AllReadyH.cons rfl (fun K hK => ?_) AllReadyH.nil
          go_simp
          refine (HR3.out _ W17 _ _ S17.out.oldX (S17.out.g 1 rfl)).mono ?_
          rintro e W18 ⟨aoy, cpy, rfl, hgy, hb⟩
          have S18 := Lib.hid ((S17.out.call hb).addG hgy)
          clear hb hHeld hgy
          go_wp2_with fail
          refine hK.out _ _ ⟨(S13.out.at' S18.out.bel 2 rfl), (S13.out.at' S18.out.bel 1 rfl), trivial⟩ (fun hHeld => ?_)
          clear hK K
          (try simp only [pt, Act.put])
          refine wpAnyH_take (i := 6) (v := ?v45) rfl (by kernel_rfl) (by kernel_rfl) (by kernel_rfl) (fun _ _ _ h => h) (Or.inl ⟨by rfl, ?hy45⟩) hHeld ?rest45
          case hy45 => (intro w hSw; (try dsimp only at hSw); (try go_split_ands); go_simp; first | done | with_reducible rfl)
          (try simp only [pt, Act.put])
          refine wpAnyH_take (i := 7) (v := ?v46) rfl (by kernel_rfl) (by kernel_rfl) (by kernel_rfl) (fun _ _ _ h => h) (Or.inl ⟨by rfl, ?hy46⟩) hHeld ?rest46
          case hy46 => (intro w hSw; (try dsimp only at hSw); (try go_split_ands); go_simp; first | done | with_reducible rfl)
          (try simp only [pt, Act.put])
          refine wpAnyH_take (i := 8) (v := ?v47) rfl (by kernel_rfl) (by kernel_rfl) (by kernel_rfl) (fun _ _ _ h => h) (Or.inl ⟨by rfl, ?hy47⟩) hHeld ?rest47
          case hy47 => (intro w hSw; (try dsimp only at hSw); (try go_split_ands); go_simp; first | done | with_reducible rfl)
          (try simp only [pt, Act.put])
          refine wpAnyH_ready (rs := [10]) (by kernel_rfl) (by simp) ?_
          refine AllReadyH.cons rfl (fun K hK => ?_) AllReadyH.nil
          rw [if_pos (by rfl)]
          refine wp_store_row 32 _ _ rfl _ rfl rfl (S18.out.at 0 rfl) rfl (by kernel_rfl) rfl ?_
          intro W19 hb hg hs hn
          have S19 := Lib.hid (S18.out.set 0 rfl hb hg hs hn)
          clear hb hg hs hn hHeld
          refine hK.out _ _ ⟨(S13.out.at' S19.out.bel 2 rfl), (S13.out.at' S19.out.bel 1 rfl), trivial⟩ (fun hHeld => ?_)
          clear hK K
          (try simp only [pt, Act.put])
          refine wpAnyH_take (i := 11) (v := ?v48) rfl (by kernel_rfl) (by kernel_rfl) (by kernel_rfl) (fun _ _ _ h => h) (Or.inl ⟨by rfl, ?hy48⟩) hHeld ?rest48
          case hy48 => (intro w hSw; (try dsimp only at hSw); (try go_split_ands); go_simp; first | done | with_reducible rfl)
          (try simp only [pt, Act.put])
          refine wpAnyH_done (by kernel_rfl) ?_ _
          go_wp2_with fail
          go_meet
          exact ⟨rfl, _, _, _, rfl, S19.out.at 0 rfl, (S19.out.g 7 rfl).gives, S19.out.bel⟩
      case rest =>
      obtain ⟨rfl, bY, aoY, cpY, rfl, hblk, hgY, hbY⟩ := hcut
      have S14 := Lib.hid ((S13.out.add1 hbY hblk).addG hgY)
      clear hbY hblk hgY
      generalize wc = W14 at *
      generalize bY = blkt at *
      generalize aoY = aot at *
      generalize cpY = cpt at *
      go_upto_region 10 with (fail)
      have h_x := (S14.out.at 3 rfl)
      have h_y := (S14.out.at 4 rfl)
      have h_z := (S14.out.at 5 rfl)
      have h_u := (S14.out.at 6 rfl)
      have h_v := (S14.out.at 7 rfl)
      have h_t := (S14.out.at 8 rfl)
      have h_d := (S14.out.at 0 rfl)
      have h_e := (S14.out.at 2 rfl)
      refine wp_region_held_drew (S := fun W => W.heap[W6.heap.size]? = some (.cells #[.slice ao1 L1.length cp1, .int .i64 most, .int .i64 room] 24 (0, 0)) ∧ W.heap[blky]? = some (.cells #[.slice aoy L1.length cpy, .int .i64 most, .int .i64 room] 32 (0, 0)) ∧ W.heap[W9.heap.size]? = some (.cells #[.slice ao2 L2.length cp2, .int .i64 most, .int .i64 room] 24 (0, 0)) ∧ W.heap[blku]? = some (.cells #[.slice aou L2.length cpu, .int .i64 most, .int .i64 room] 32 (0, 0)) ∧ W.heap[W12.heap.size]? = some (.cells #[.slice ao3 L3.length cp3, .int .i64 most, .int .i64 room] 24 (0, 0)) ∧ W.heap[blkt]? = some (.cells #[.slice aot L3.length cpt, .int .i64 most, .int .i64 room] 32 (0, 0)) ∧ W.heap[w.heap.size]? = some (.cells #[.slice ao l.length cap, .int .i64 most, .int .i64 room] 24 (0, 0)) ∧ W.heap[W4.heap.size]? = some (.cells #[.slice aoe l.length cpe, .int .i64 most, .int .i64 room] 32 (0, 0)) ∧ True) (by kernel_rfl) ⟨(S14.out.at 3 rfl), (S14.out.at 4 rfl), (S14.out.at 5 rfl), (S14.out.at 6 rfl), (S14.out.at 7 rfl), (S14.out.at 8 rfl), (S14.out.at 0 rfl), (S14.out.at 2 rfl), trivial⟩ (fun hHeld => ?_)
      clear h_x h_y h_z h_u h_v h_t h_d h_e
      have S15 := Lib.hid (S14.out.call (Below.refl W14.heap.size W14).drew)
      generalize W14.drew = W15 at *
      refine wpAnyH_take (i := 0) rfl (by kernel_rfl) (by kernel_rfl) (by kernel_rfl) (fun _ _ _ h => h) (yieldsIf_load_row (by rfl) 24 _ rfl _ rfl 24 _ (0, 0) _ (fun _ h => h.1) Tryz.underlying24 rfl (by kernel_rfl)) hHeld ?_
      (try simp only [pt, Act.put])
      refine wpAnyH_take (i := 2) rfl (by kernel_rfl) (by kernel_rfl) (by kernel_rfl) (fun _ _ _ h => h) (yieldsIf_load_row (by rfl) 32 _ rfl _ rfl 32 _ (0, 0) _ (fun _ h => h.2.1) Tryz.underlying32 rfl (by kernel_rfl)) hHeld ?_
      (try simp only [pt, Act.put])
      refine wpAnyH_ready (rs := [1]) (by kernel_rfl) (by simp) ?_
      refine AllReadyH.cons rfl (fun K hK => ?_) AllReadyH.nil
      go_simp
      refine (its_f L1 most room HA1.out.dsk.len HA1.out.names _ W15 (S15.out.g 2 rfl)).mono ?_
      rintro e W16 ⟨aoz0, cpz0, rfl, hgz, hb⟩
      have S16 := Lib.hid ((S15.out.call hb).addG hgz)
      clear hb hHeld hgz
      go_wp2_with fail
      refine hK.out _ _ ⟨(S16.out.at 3 rfl), (S16.out.at 4 rfl), (S16.out.at 5 rfl), (S16.out.at 6 rfl), (S16.out.at 7 rfl), (S16.out.at 8 rfl), (S16.out.at 0 rfl), (S16.out.at 2 rfl), trivial⟩ (fun hHeld => ?_)
      clear hK K
      (try simp only [pt, Act.put])
      refine wpAnyH_ready (rs := [3]) (by kernel_rfl) (by simp) ?_
      refine AllReadyH.cons rfl (fun K hK => ?_) AllReadyH.nil
      go_simp
      refine (same_g L1 most room HA1.out.dsk.len HA1.out.names _ _ W16 (S16.out.g 8 rfl) (S16.out.g 3 rfl)).mono ?_
      rintro e W17 ⟨rfl, hb⟩
      have S17 := Lib.hid (S16.out.call hb)
      clear hb hHeld
      go_wp2_with fail
      refine hK.out _ _ ⟨(S17.out.at 3 rfl), (S17.out.at 4 rfl), (S17.out.at 5 rfl), (S17.out.at 6 rfl), (S17.out.at 7 rfl), (S17.out.at 8 rfl), (S17.out.at 0 rfl), (S17.out.at 2 rfl), trivial⟩ (fun hHeld => ?_)
      clear hK K
      (try simp only [pt, Act.put])
      refine wpAnyH_take (i := 4) (v := ?v49) rfl (by kernel_rfl) (by kernel_rfl) (by kernel_rfl) (fun _ _ _ h => h) (Or.inl ⟨by rfl, ?hy49⟩) hHeld ?rest49
      case hy49 => (intro w hSw; (try dsimp only at hSw); (try go_split_ands); go_simp; first | done | with_reducible rfl)
      (try simp only [pt, Act.put])
      refine wpAnyH_take (i := 5) (v := ?v50) rfl (by kernel_rfl) (by kernel_rfl) (by kernel_rfl) (fun _ _ _ h => h) (Or.inl ⟨by rfl, ?hy50⟩) hHeld ?rest50
      case hy50 => (intro w hSw; (try dsimp only at hSw); (try go_split_ands); go_simp; first | done | with_reducible rfl)
      (try simp only [pt, Act.put])
      refine wpAnyH_take (i := 6) (v := ?v51) rfl (by kernel_rfl) (by kernel_rfl) (by kernel_rfl) (fun _ _ _ h => h) (Or.inl ⟨by rfl, ?hy51⟩) hHeld ?rest51
      case hy51 => (intro w hSw; (try dsimp only at hSw); (try go_split_ands); go_simp; first | done | with_reducible rfl)
      (try simp only [pt, Act.put])
      refine wpAnyH_take (i := 7) (v := ?v52) rfl (by kernel_rfl) (by kernel_rfl) (by kernel_rfl) (fun _ _ _ h => h) (Or.inl ⟨by rfl, ?hy52⟩) hHeld ?rest52
      case hy52 => (intro w hSw; (try dsimp only at hSw); (try go_split_ands); go_simp; first | done | with_reducible rfl)
      (try simp only [pt, Act.put])
      refine wpAnyH_take (i := 8) (v := ?v53) rfl (by kernel_rfl) (by kernel_rfl) (by kernel_rfl) (fun _ _ _ h => h) (Or.inl ⟨by rfl, ?hy53⟩) hHeld ?rest53
      case hy53 => (intro w hSw; (try dsimp only at hSw); (try go_split_ands); go_simp; first | done | with_reducible rfl)
      (try simp only [pt, Act.put])
      refine wpAnyH_take (i := 9) (v := ?v54) rfl (by kernel_rfl) (by kernel_rfl) (by kernel_rfl) (fun _ _ _ h => h) (Or.inl ⟨by rfl, ?hy54⟩) hHeld ?rest54
      case hy54 => (intro w hSw; (try dsimp only at hSw); (try go_split_ands); go_simp; first | done | with_reducible rfl)
      (try simp only [pt, Act.put])
      refine wpAnyH_take (i := 10) (v := ?v55) rfl (by kernel_rfl) (by kernel_rfl) (by kernel_rfl) (fun _ _ _ h => h) (Or.inl ⟨by rfl, ?hy55⟩) hHeld ?rest55
      case hy55 => (intro w hSw; (try dsimp only at hSw); (try go_split_ands); go_simp; first | done | with_reducible rfl)
      (try simp only [pt, Act.put])
      refine wpAnyH_take (i := 11) (v := ?v56) rfl (by kernel_rfl) (by kernel_rfl) (by kernel_rfl) (fun _ _ _ h => h) (Or.inl ⟨by rfl, ?hy56⟩) hHeld ?rest56
      case hy56 => (intro w hSw; (try dsimp only at hSw); (try go_split_ands); go_simp; first | done | with_reducible rfl)
      (try simp only [pt, Act.put])
      refine wpAnyH_take (i := 12) (v := ?v57) rfl (by kernel_rfl) (by kernel_rfl) (by kernel_rfl) (fun _ _ _ h => h) (Or.inl ⟨by rfl, ?hy57⟩) hHeld ?rest57
      case hy57 => (intro w hSw; (try dsimp only at hSw); (try go_split_ands); go_simp; first | done | with_reducible rfl)
      (try simp only [pt, Act.put])
      refine wpAnyH_take (i := 13) (v := ?v58) rfl (by kernel_rfl) (by kernel_rfl) (by kernel_rfl) (fun _ _ _ h => h) (Or.inl ⟨by rfl, ?hy58⟩) hHeld ?rest58
      case hy58 => (intro w hSw; (try dsimp only at hSw); (try go_split_ands); go_simp; first | done | with_reducible rfl)
      (try simp only [pt, Act.put])
      refine wpAnyH_take (i := 14) (v := ?v59) rfl (by kernel_rfl) (by kernel_rfl) (by kernel_rfl) (fun _ _ _ h => h) (Or.inl ⟨by rfl, ?hy59⟩) hHeld ?rest59
      case hy59 => (intro w hSw; (try dsimp only at hSw); (try go_split_ands); go_simp; first | done | with_reducible rfl)
      (try simp only [pt, Act.put])
      refine wpAnyH_take (i := 15) rfl (by kernel_rfl) (by kernel_rfl) (by kernel_rfl) (fun _ _ _ h => h) (yieldsIf_load_row (by rfl) 24 _ rfl _ rfl 24 _ (0, 0) _ (fun _ h => h.2.2.1) Tryz.underlying24 rfl (by kernel_rfl)) hHeld ?_
      (try simp only [pt, Act.put])
      refine wpAnyH_take (i := 17) rfl (by kernel_rfl) (by kernel_rfl) (by kernel_rfl) (fun _ _ _ h => h) (yieldsIf_load_row (by rfl) 32 _ rfl _ rfl 32 _ (0, 0) _ (fun _ h => h.2.2.2.1) Tryz.underlying32 rfl (by kernel_rfl)) hHeld ?_
      (try simp only [pt, Act.put])
      refine wpAnyH_ready (rs := [16]) (by kernel_rfl) (by simp) ?_
      refine AllReadyH.cons rfl (fun K hK => ?_) AllReadyH.nil
      go_simp
      refine (its_f L2 most room HA2.out.dsk.len HA2.out.names _ W17 (S17.out.g 4 rfl)).mono ?_
      rintro e W18 ⟨aoz1, cpz1, rfl, hgz, hb⟩
      have S18 := Lib.hid ((S17.out.call hb).addG hgz)
      clear hb hHeld hgz
      go_wp2_with fail
      refine hK.out _ _ ⟨(S18.out.at 3 rfl), (S18.out.at 4 rfl), (S18.out.at 5 rfl), (S18.out.at 6 rfl), (S18.out.at 7 rfl), (S18.out.at 8 rfl), (S18.out.at 0 rfl), (S18.out.at 2 rfl), trivial⟩ (fun hHeld => ?_)
      clear hK K
      (try simp only [pt, Act.put])
      refine wpAnyH_ready (rs := [18]) (by kernel_rfl) (by simp) ?_
      refine AllReadyH.cons rfl (fun K hK => ?_) AllReadyH.nil
      go_simp
      refine (same_g L2 most room HA2.out.dsk.len HA2.out.names _ _ W18 (S18.out.g 9 rfl) (S18.out.g 5 rfl)).mono ?_
      rintro e W19 ⟨rfl, hb⟩
      have S19 := Lib.hid (S18.out.call hb)
      clear hb hHeld
      go_wp2_with fail
      refine hK.out _ _ ⟨(S19.out.at 3 rfl), (S19.out.at 4 rfl), (S19.out.at 5 rfl), (S19.out.at 6 rfl), (S19.out.at 7 rfl), (S19.out.at 8 rfl), (S19.out.at 0 rfl), (S19.out.at 2 rfl), trivial⟩ (fun hHeld => ?_)
      clear hK K
      (try simp only [pt, Act.put])
      refine wpAnyH_take (i := 19) (v := ?v60) rfl (by kernel_rfl) (by kernel_rfl) (by kernel_rfl) (fun _ _ _ h => h) (Or.inl ⟨by rfl, ?hy60⟩) hHeld ?rest60
      case hy60 => (intro w hSw; (try dsimp only at hSw); (try go_split_ands); go_simp; first | done | with_reducible rfl)
      (try simp only [pt, Act.put])
      refine wpAnyH_take (i := 20) (v := ?v61) rfl (by kernel_rfl) (by kernel_rfl) (by kernel_rfl) (fun _ _ _ h => h) (Or.inl ⟨by rfl, ?hy61⟩) hHeld ?rest61
      case hy61 => (intro w hSw; (try dsimp only at hSw); (try go_split_ands); go_simp; first | done | with_reducible rfl)
      (try simp only [pt, Act.put])
      refine wpAnyH_take (i := 21) (v := ?v62) rfl (by kernel_rfl) (by kernel_rfl) (by kernel_rfl) (fun _ _ _ h => h) (Or.inl ⟨by rfl, ?hy62⟩) hHeld ?rest62
      case hy62 => (intro w hSw; (try dsimp only at hSw); (try go_split_ands); go_simp; first | done | with_reducible rfl)
      (try simp only [pt, Act.put])
      refine wpAnyH_take (i := 22) (v := ?v63) rfl (by kernel_rfl) (by kernel_rfl) (by kernel_rfl) (fun _ _ _ h => h) (Or.inl ⟨by rfl, ?hy63⟩) hHeld ?rest63
      case hy63 => (intro w hSw; (try dsimp only at hSw); (try go_split_ands); go_simp; first | done | with_reducible rfl)
      (try simp only [pt, Act.put])
      refine wpAnyH_take (i := 23) (v := ?v64) rfl (by kernel_rfl) (by kernel_rfl) (by kernel_rfl) (fun _ _ _ h => h) (Or.inl ⟨by rfl, ?hy64⟩) hHeld ?rest64
      case hy64 => (intro w hSw; (try dsimp only at hSw); (try go_split_ands); go_simp; first | done | with_reducible rfl)
      (try simp only [pt, Act.put])
      refine wpAnyH_take (i := 24) (v := ?v65) rfl (by kernel_rfl) (by kernel_rfl) (by kernel_rfl) (fun _ _ _ h => h) (Or.inl ⟨by rfl, ?hy65⟩) hHeld ?rest65
      case hy65 => (intro w hSw; (try dsimp only at hSw); (try go_split_ands); go_simp; first | done | with_reducible rfl)
      (try simp only [pt, Act.put])
      refine wpAnyH_take (i := 25) (v := ?v66) rfl (by kernel_rfl) (by kernel_rfl) (by kernel_rfl) (fun _ _ _ h => h) (Or.inl ⟨by rfl, ?hy66⟩) hHeld ?rest66
      case hy66 => (intro w hSw; (try dsimp only at hSw); (try go_split_ands); go_simp; first | done | with_reducible rfl)
      (try simp only [pt, Act.put])
      refine wpAnyH_take (i := 26) rfl (by kernel_rfl) (by kernel_rfl) (by kernel_rfl) (fun _ _ _ h => h) (yieldsIf_load_row (by rfl) 24 _ rfl _ rfl 24 _ (0, 0) _ (fun _ h => h.2.2.2.2.1) Tryz.underlying24 rfl (by kernel_rfl)) hHeld ?_
      (try simp only [pt, Act.put])
      refine wpAnyH_take (i := 28) rfl (by kernel_rfl) (by kernel_rfl) (by kernel_rfl) (fun _ _ _ h => h) (yieldsIf_load_row (by rfl) 32 _ rfl _ rfl 32 _ (0, 0) _ (fun _ h => h.2.2.2.2.2.1) Tryz.underlying32 rfl (by kernel_rfl)) hHeld ?_
      (try simp only [pt, Act.put])
      refine wpAnyH_ready (rs := [27]) (by kernel_rfl) (by simp) ?_
      refine AllReadyH.cons rfl (fun K hK => ?_) AllReadyH.nil
      go_simp
      refine (its_f L3 most room HA3.out.dsk.len HA3.out.names _ W19 (S19.out.g 6 rfl)).mono ?_
      rintro e W20 ⟨aoz2, cpz2, rfl, hgz, hb⟩
      have S20 := Lib.hid ((S19.out.call hb).addG hgz)
      clear hb hHeld hgz
      go_wp2_with fail
      refine hK.out _ _ ⟨(S20.out.at 3 rfl), (S20.out.at 4 rfl), (S20.out.at 5 rfl), (S20.out.at 6 rfl), (S20.out.at 7 rfl), (S20.out.at 8 rfl), (S20.out.at 0 rfl), (S20.out.at 2 rfl), trivial⟩ (fun hHeld => ?_)
      clear hK K
      (try simp only [pt, Act.put])
      refine wpAnyH_ready (rs := [29]) (by kernel_rfl) (by simp) ?_
      refine AllReadyH.cons rfl (fun K hK => ?_) AllReadyH.nil
      go_simp
      refine (same_g L3 most room HA3.out.dsk.len HA3.out.names _ _ W20 (S20.out.g 10 rfl) (S20.out.g 7 rfl)).mono ?_
      rintro e W21 ⟨rfl, hb⟩
      have S21 := Lib.hid (S20.out.call hb)
      clear hb hHeld
      go_wp2_with fail
      refine hK.out _ _ ⟨(S21.out.at 3 rfl), (S21.out.at 4 rfl), (S21.out.at 5 rfl), (S21.out.at 6 rfl), (S21.out.at 7 rfl), (S21.out.at 8 rfl), (S21.out.at 0 rfl), (S21.out.at 2 rfl), trivial⟩ (fun hHeld => ?_)
      clear hK K
      (try simp only [pt, Act.put])
      refine wpAnyH_take (i := 30) (v := ?v67) rfl (by kernel_rfl) (by kernel_rfl) (by kernel_rfl) (fun _ _ _ h => h) (Or.inl ⟨by rfl, ?hy67⟩) hHeld ?rest67
      case hy67 => (intro w hSw; (try dsimp only at hSw); (try go_split_ands); go_simp; first | done | with_reducible rfl)
      (try simp only [pt, Act.put])
      refine wpAnyH_take (i := 31) (v := ?v68) rfl (by kernel_rfl) (by kernel_rfl) (by kernel_rfl) (fun _ _ _ h => h) (Or.inl ⟨by rfl, ?hy68⟩) hHeld ?rest68
      case hy68 => (intro w hSw; (try dsimp only at hSw); (try go_split_ands); go_simp; first | done | with_reducible rfl)
      (try simp only [pt, Act.put])
      refine wpAnyH_take (i := 32) (v := ?v69) rfl (by kernel_rfl) (by kernel_rfl) (by kernel_rfl) (fun _ _ _ h => h) (Or.inl ⟨by rfl, ?hy69⟩) hHeld ?rest69
      case hy69 => (intro w hSw; (try dsimp only at hSw); (try go_split_ands); go_simp; first | done | with_reducible rfl)
      (try simp only [pt, Act.put])
      refine wpAnyH_take (i := 33) (v := ?v70) rfl (by kernel_rfl) (by kernel_rfl) (by kernel_rfl) (fun _ _ _ h => h) (Or.inl ⟨by rfl, ?hy70⟩) hHeld ?rest70
      case hy70 => (intro w hSw; (try dsimp only at hSw); (try go_split_ands); go_simp; first | done | with_reducible rfl)
      (try simp only [pt, Act.put])
      refine wpAnyH_take (i := 34) (v := ?v71) rfl (by kernel_rfl) (by kernel_rfl) (by kernel_rfl) (fun _ _ _ h => h) (Or.inl ⟨by rfl, ?hy71⟩) hHeld ?rest71
      case hy71 => (intro w hSw; (try dsimp only at hSw); (try go_split_ands); go_simp; first | done | with_reducible rfl)
      (try simp only [pt, Act.put])
      refine wpAnyH_take (i := 35) (v := ?v72) rfl (by kernel_rfl) (by kernel_rfl) (by kernel_rfl) (fun _ _ _ h => h) (Or.inl ⟨by rfl, ?hy72⟩) hHeld ?rest72
      case hy72 => (intro w hSw; (try dsimp only at hSw); (try go_split_ands); go_simp; first | done | with_reducible rfl)
      (try simp only [pt, Act.put])
      refine wpAnyH_take (i := 36) (v := ?v73) rfl (by kernel_rfl) (by kernel_rfl) (by kernel_rfl) (fun _ _ _ h => h) (Or.inl ⟨by rfl, ?hy73⟩) hHeld ?rest73
      case hy73 => (intro w hSw; (try dsimp only at hSw); (try go_split_ands); go_simp; first | done | with_reducible rfl)
      (try simp only [pt, Act.put])
      refine wpAnyH_take (i := 37) rfl (by kernel_rfl) (by kernel_rfl) (by kernel_rfl) (fun _ _ _ h => h) (yieldsIf_load_row (by rfl) 24 _ rfl _ rfl 24 _ (0, 0) _ (fun _ h => h.2.2.2.2.2.2.1) Tryz.underlying24 rfl (by kernel_rfl)) hHeld ?_
      (try simp only [pt, Act.put])
      refine wpAnyH_take (i := 39) rfl (by kernel_rfl) (by kernel_rfl) (by kernel_rfl) (fun _ _ _ h => h) (yieldsIf_load_row (by rfl) 32 _ rfl _ rfl 32 _ (0, 0) _ (fun _ h => h.2.2.2.2.2.2.2.1) Tryz.underlying32 rfl (by kernel_rfl)) hHeld ?_
      (try simp only [pt, Act.put])
      refine wpAnyH_ready (rs := [38]) (by kernel_rfl) (by simp) ?_
      refine AllReadyH.cons rfl (fun K hK => ?_) AllReadyH.nil
      go_simp
      refine (its_f l most room HA.out.dsk.len HA.out.names _ W21 (S21.out.g 0 rfl)).mono ?_
      rintro e W22 ⟨aoz3, cpz3, rfl, hgz, hb⟩
      have S22 := Lib.hid ((S21.out.call hb).addG hgz)
      clear hb hHeld hgz
      go_wp2_with fail
      refine hK.out _ _ ⟨(S22.out.at 3 rfl), (S22.out.at 4 rfl), (S22.out.at 5 rfl), (S22.out.at 6 rfl), (S22.out.at 7 rfl), (S22.out.at 8 rfl), (S22.out.at 0 rfl), (S22.out.at 2 rfl), trivial⟩ (fun hHeld => ?_)
      clear hK K
      (try simp only [pt, Act.put])
      refine wpAnyH_ready (rs := [40]) (by kernel_rfl) (by simp) ?_
      refine AllReadyH.cons rfl (fun K hK => ?_) AllReadyH.nil
      go_simp
      refine (same_g l most room HA.out.dsk.len HA.out.names _ _ W22 (S22.out.g 11 rfl) (S22.out.g 1 rfl)).mono ?_
      rintro e W23 ⟨rfl, hb⟩
      have S23 := Lib.hid (S22.out.call hb)
      clear hb hHeld
      go_wp2_with fail
      refine hK.out _ _ ⟨(S23.out.at 3 rfl), (S23.out.at 4 rfl), (S23.out.at 5 rfl), (S23.out.at 6 rfl), (S23.out.at 7 rfl), (S23.out.at 8 rfl), (S23.out.at 0 rfl), (S23.out.at 2 rfl), trivial⟩ (fun hHeld => ?_)
      clear hK K
      (try simp only [pt, Act.put])
      refine wpAnyH_take (i := 41) (v := ?v74) rfl (by kernel_rfl) (by kernel_rfl) (by kernel_rfl) (fun _ _ _ h => h) (Or.inl ⟨by rfl, ?hy74⟩) hHeld ?rest74
      case hy74 => (intro w hSw; (try dsimp only at hSw); (try go_split_ands); go_simp; first | done | with_reducible rfl)
      (try simp only [pt, Act.put])
      refine wpAnyH_take (i := 42) (v := ?v75) rfl (by kernel_rfl) (by kernel_rfl) (by kernel_rfl) (fun _ _ _ h => h) (Or.inl ⟨by rfl, ?hy75⟩) hHeld ?rest75
      case hy75 => (intro w hSw; (try dsimp only at hSw); (try go_split_ands); go_simp; first | done | with_reducible rfl)
      (try simp only [pt, Act.put])
      refine wpAnyH_done (by kernel_rfl) ?_ _
      go_wp2_with fail
      go_ret
      exact ⟨rfl, S23.out.bel⟩
end Go.Proofs.YtpmhmippoefcfaaGreatDoor
