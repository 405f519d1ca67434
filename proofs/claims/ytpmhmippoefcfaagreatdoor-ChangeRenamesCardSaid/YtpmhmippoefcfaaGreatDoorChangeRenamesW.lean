/-
  The walk of ChangeRenames.
-/
import Derived.RangeFuncNested
import Derived.RangeFuncBound
import Derived.RangeFuncCalls
import Derived.RangeFuncLeaves
import Derived.RangeFuncBox
import Derived.Shelf.Abstract
import Derived.Shelf.RegionOpen
import Derived.WalkKit
import Derived.OwnWalkIn
import Derived.TacticsInMore
import Derived.LoopNIn
import Derived.LoopIn
import Derived.Lib.Hide
import Derived.Outline
import Derived.Deep.QuietTactic
import Derived.Deep.AppendLies
import Derived.BigQuiet
import Derived.Lib.Strings
import Derived.WalkSmall
import Derived.Shelf.Small.Strs
import Derived.Shelf.Strings.Search1
import Derived.Shelf.Strings.Prefix
import Derived.Laws.AppendOwn
import Derived.Laws.OwnMore
import Derived.Laws.AppendOwnNone
import Derived.WideShapes
import Derived.Lib.TrimByte
import Derived.Lib.Bytealg
import Derived.Lib.QuietBelow
import Derived.Deep.DrawnRows
import Derived.Laws.Cover1
import Derived.WalkMore
import Derived.Shelf.Spec.SlicesGrow
import Derived.StillTailTactics
import Derived.Laws.BitsLemmas
import Derived.Laws.RangeAny
import Derived.Laws.Runes
import Derived.Lib.Builder
import Derived.Deep.WholeRow
import Derived.Lib.OthersKept
import Derived.Shelf.SlSorted.Search
import Derived.LaidEql
import Derived.Stop.Asserts
import Derived.RowKitTokens
import Derived.Deep.RegionHeld3
import Derived.Deep.RegionLaw
import Derived.Handy
import Derived.Laws.IdiomCopy
import Derived.Lib.SliceRun
import Derived.Laws.ResultCell
import Derived.Deep.LoopGhost
import Derived.Deep.DeepCutAuto
import Derived.Deep.MidRow
import Derived.BigRegion
import Derived.Test.YtpmhmippoefcfaaGreatDoorProg
import Derived.Test.YtpmhmippoefcfaaGreatDoorShelf
import Derived.Test.YtpmhmippoefcfaaGreatDoorB01
import Derived.Test.YtpmhmippoefcfaaGreatDoorB02
import Derived.Test.YtpmhmippoefcfaaGreatDoorB04
import Derived.Test.YtpmhmippoefcfaaGreatDoorB05
import Derived.Test.YtpmhmippoefcfaaGreatDoorB07
import Derived.Test.YtpmhmippoefcfaaGreatDoorB08
import Derived.Test.YtpmhmippoefcfaaGreatDoorB09
import Derived.Test.YtpmhmippoefcfaaGreatDoorB10
import Derived.Test.YtpmhmippoefcfaaGreatDoorB11
import Derived.Test.YtpmhmippoefcfaaGreatDoorB12
import Derived.Test.YtpmhmippoefcfaaGreatDoorB13
import Derived.Test.YtpmhmippoefcfaaGreatDoorB14
import Derived.Test.YtpmhmippoefcfaaGreatDoorB16
import Derived.Test.YtpmhmippoefcfaaGreatDoorB17
import Derived.Test.YtpmhmippoefcfaaGreatDoorB23
import Derived.Test.YtpmhmippoefcfaaGreatDoorB24
import Derived.Test.YtpmhmippoefcfaaGreatDoorChangeRenamesE06
import Derived.Test.YtpmhmippoefcfaaGreatDoorChangeRenamesE08
import Derived.Test.YtpmhmippoefcfaaGreatDoorChangeRenamesE09
namespace Go.Proofs.YtpmhmippoefcfaaGreatDoor
open Go.RowKit Go.Shelf
attribute [local go_sem ↓] Go.wp_at_zero Go.wp_at_succ
set_option maxRecDepth 100000 in
set_option maxHeartbeats 4000000 in
theorem renames_l (l : List NodeL) (most room : Int) (who fr who2 fr2 : Int) (old path : Str) (ao : Option Addr) (cap : Nat) (w : World) (hg : GivesN l (.slice ao l.length cap) w) (hfit : FitD l) {S : Nat → Addr} (hs : Sent S w) :
    Calls Tryz.prog 5 #[diskV ao l.length cap most room, asV who fr, asV who2 fr2, .string (bs old), .string (bs path)] w fun e w' => e = .returned (.bool true) ∧ Below w.heap.size w w' := by
  have S0 := Lib.hid (Sn.start hg)
  have HS := Lib.hid hs
  have HQ := Lib.hid fun v W (hgv : GivesN l v W) => right_g l most room v W hgv hfit
  have HSh := Lib.hid fun W (hs : Sent S W) => shown_any W hs
  clear hg hs hfit
  go_enter Tryz.func5, Tryz.ntmps5
  go_upto_region 1 with (fail)
  refine code_fresh3 ?_
  intro W1 hb hA0 hA1 hA2 hs
  have S1 := Lib.hid (S0.out.new3 hb hA0 hA1 hA2)
  clear hb hA0 hA1 hA2 hs
  obtain ⟨d0, d1, d2⟩ := cells3 (S1.out.at 0 rfl)
  go_wp2_with fail
  refine (HQ.out _ W1 (S1.out.g 0 rfl)).mono ?_
  rintro e W2 ⟨rfl, hb⟩
  clear d0 d1 d2
  have S2 := Lib.hid (S1.out.call hb)
  clear hb
  cases hq : rightQ l most room with
  | false =>
    clear hq
    go_wp2_with fail
    refine (HSh.out W2 (HS.out.keep S2.out.bel)).mono ?_
    rintro e WZ ⟨rfl, hb⟩
    go_wp2_with fail
    go_ret
    exact ⟨rfl, ret_tr S2.out.bel hb⟩
  | true =>
    have HR := Lib.hid hq
    clear hq
    go_wp2_with fail
    refine calls_fresh1 ?_
    intro WS hb hA hs
    have SS := Lib.hid (S2.out.call hb)
    clear hb hs
    refine (short_n [path, old] 2 rfl (by decide) WS hA).mono ?_
    rintro e _ ⟨rfl, rfl⟩
    clear hA
    cases hsh : shortB [path, old] with
    | false =>
      clear hsh
      go_wp2_with fail
      refine (HSh.out WS (HS.out.keep SS.out.bel)).mono ?_
      rintro e WZ ⟨rfl, hb⟩
      go_wp2_with fail
      go_ret
      exact ⟨rfl, ret_tr SS.out.bel hb⟩
    | true =>
      have hplpath : path.length ≤ 10000 := Nat.le_trans (short_yes hsh path (by simp)) (by decide)
      have hplold : old.length ≤ 10000 := Nat.le_trans (short_yes hsh old (by simp)) (by decide)
      clear hsh
      go_wp2_with fail
      refine (HSh.out WS (HS.out.keep SS.out.bel)).mono ?_
      rintro e W3 ⟨rfl, hb⟩
      have S3 := Lib.hid (SS.out.call hb)
      clear hb
      have hp := fun (W : World) (ao : Option Addr) (cap : Nat) (h : GivesX (fun _ => False) l (.slice ao l.length cap) W) (hs : Sent S W) => (prename_g (fun _ => False) l most room who fr who2 fr2 old path ao cap W old_no h (q_dsk HR.out) hplold hplpath hs).mono fun _ _ h => chgT h
      have hr := fun (X : Nat → Prop) (W : World) (ao : Option Addr) (cap : Nat) (hX : Old X W) (h : GivesX X l (.slice ao l.length cap) W) => (rrename_g X l most room who fr who2 fr2 old path ao cap W hX h (q_dsk HR.out) hplold hplpath).mono fun _ _ h => (show ChgX X _ _ most room _ _ _ from h)
      have ha := aft_rename HR.out who fr path who2 fr2 old
      generalize renameL l who fr who2 fr2 old path = R at hp hr ha
      obtain ⟨L1, f1⟩ := R
      dsimp only at hp hr ha
      have HP1 := Lib.hid hp
      have HR1 := Lib.hid hr
      have HA1 := Lib.hid ha
      clear hp hr ha
      have HA := Lib.hid (q_aft HR.out)
      obtain ⟨d0, d1, d2⟩ := cells3 (S3.out.at 0 rfl)
      obtain ⟨a0, a1⟩ := cells2 (S3.out.at 1 rfl)
      obtain ⟨b0, b1⟩ := cells2 (S3.out.at 2 rfl)
      go_wp2_with fail
      refine (HP1.out W3 _ _ (S3.out.gx 0 rfl) (HS.out.keep S3.out.bel)).mono ?_
      rintro e W4 ⟨ao1, cp1, rfl, hg1, hb⟩
      clear d0 d1 d2 a0 a1 b0 b1
      have S4 := Lib.hid ((S3.out.call hb).addG hg1)
      clear hb hg1
      go_upto_region 4 with (fail)
      refine code_fresh1 ?_
      intro W5 hb hA0 hs
      have S5 := Lib.hid (S4.out.new1 hb hA0)
      clear hb hA0 hs
      go_upto_region 4 with (fail)
      go_cut [13, 14] from 39 to 50 (fun s13 s14 wx => s14 = .int .i64 f1 ∧ CutD W5 L1 most room 32 s13 wx)
      case first =>
        have S6 := Lib.hid S5.out.st
        skip
        have h_d := (S5.out.at' S6.out.bel 0 rfl)
        have h_a := (S5.out.at' S6.out.bel 1 rfl)
        have h_b := (S5.out.at' S6.out.bel 2 rfl)
        refine wp_region_held_drew (S := fun W => W.heap[w.heap.size]? = some (.cells #[.slice ao l.length cap, .int .i64 most, .int .i64 room] 24 (0, 0)) ∧ W.heap[w.heap.size + 1]? = some (.cells #[.int .i64 who, .int .i64 fr] 26 (0, 0)) ∧ W.heap[w.heap.size + 2]? = some (.cells #[.int .i64 who2, .int .i64 fr2] 26 (0, 0)) ∧ True) (by kernel_rfl) ⟨(S5.out.at' S6.out.bel 0 rfl), (S5.out.at' S6.out.bel 1 rfl), (S5.out.at' S6.out.bel 2 rfl), trivial⟩ (fun hHeld => ?_)
        clear h_d h_a h_b
        have S7 := Lib.hid (S6.out.call (Below.refl W5.heap.size W5).drew)
        generalize W5.drew = W7 at *
        refine wpAnyH_take (i := 0) rfl (by kernel_rfl) (by kernel_rfl) (by kernel_rfl) (fun _ _ _ h => h) (yieldsIf_load_row (by rfl) 24 _ rfl _ rfl 24 _ (0, 0) _ (fun _ h => h.1) Tryz.underlying24 rfl (by kernel_rfl)) hHeld ?_
        (try simp only [pt, Act.put])
        refine wpAnyH_take (i := 2) rfl (by kernel_rfl) (by kernel_rfl) (by kernel_rfl) (fun _ _ _ h => h) (yieldsIf_load_row (by rfl) 26 _ rfl _ rfl 26 _ (0, 0) _ (fun _ h => h.2.1) Tryz.underlying26 rfl (by kernel_rfl)) hHeld ?_
        (try simp only [pt, Act.put])
        refine wpAnyH_take (i := 4) rfl (by kernel_rfl) (by kernel_rfl) (by kernel_rfl) (fun _ _ _ h => h) (yieldsIf_load_row (by rfl) 26 _ rfl _ rfl 26 _ (0, 0) _ (fun _ h => h.2.2.1) Tryz.underlying26 rfl (by kernel_rfl)) hHeld ?_
        (try simp only [pt, Act.put])
        refine wpAnyH_take (i := 6) (v := ?v1) rfl (by kernel_rfl) (by kernel_rfl) (by kernel_rfl) (fun _ _ _ h => h) (Or.inl ⟨by rfl, ?hy1⟩) hHeld ?rest1
        case hy1 => (intro w hSw; (try dsimp only at hSw); (try go_split_ands); go_simp; first | done | with_reducible rfl)
        (try simp only [pt, Act.put])
        refine wpAnyH_take (i := 7) (v := ?v2) rfl (by kernel_rfl) (by kernel_rfl) (by kernel_rfl) (fun _ _ _ h => h) (Or.inl ⟨by rfl, ?hy2⟩) hHeld ?rest2
        case hy2 => (intro w hSw; (try dsimp only at hSw); (try go_split_ands); go_simp; first | done | with_reducible rfl)
        (try simp only [pt, Act.put])
        refine wpAnyH_ready (rs := [1, 12]) (by kernel_rfl) (by simp) ?_
        refine AllReadyH.cons rfl (fun K hK => ?_) (AllReadyH.cons rfl (fun K hK => ?_) AllReadyH.nil)
        · skip
          go_simp
          refine (its_y _ l most room HA.out.dsk.len HA.out.names _ W7 S7.out.oldX (S7.out.g 0 rfl).gives).mono ?_
          rintro e W8 ⟨aoe, cpe, rfl, hge, hb⟩
          have S8 := Lib.hid ((S7.out.call hb).addG hge)
          clear hb hHeld hge
          go_wp2_with fail
          refine hK.out _ _ ⟨(S5.out.at' S8.out.bel 0 rfl), (S5.out.at' S8.out.bel 1 rfl), (S5.out.at' S8.out.bel 2 rfl), trivial⟩ (fun hHeld => ?_)
          clear hK K
          (try simp only [pt, Act.put])
          refine wpAnyH_ready (rs := [3, 12]) (by kernel_rfl) (by simp) ?_
          refine AllReadyH.cons rfl (fun K hK => ?_) (AllReadyH.cons rfl (fun K hK => ?_) AllReadyH.nil)
          · skip
            go_simp
            refine (as_any who fr W8).mono ?_
            rintro e W9 ⟨rfl, hb⟩
            have S9 := Lib.hid (S8.out.call hb)
            clear hb hHeld
            go_wp2_with fail
            refine hK.out _ _ ⟨(S5.out.at' S9.out.bel 0 rfl), (S5.out.at' S9.out.bel 1 rfl), (S5.out.at' S9.out.bel 2 rfl), trivial⟩ (fun hHeld => ?_)
            clear hK K
            (try simp only [pt, Act.put])
            refine wpAnyH_ready (rs := [5, 12]) (by kernel_rfl) (by simp) ?_
            refine AllReadyH.cons rfl (fun K hK => ?_) (AllReadyH.cons rfl (fun K hK => ?_) AllReadyH.nil)
            · skip
              go_simp
              refine (as_any who2 fr2 W9).mono ?_
              rintro e W10 ⟨rfl, hb⟩
              have S10 := Lib.hid (S9.out.call hb)
              clear hb hHeld
              go_wp2_with fail
              refine hK.out _ _ ⟨(S5.out.at' S10.out.bel 0 rfl), (S5.out.at' S10.out.bel 1 rfl), (S5.out.at' S10.out.bel 2 rfl), trivial⟩ (fun hHeld => ?_)
              clear hK K
              (try simp only [pt, Act.put])
              refine wpAnyH_ready (rs := [8, 12]) (by kernel_rfl) (by simp) ?_
              refine AllReadyH.cons rfl (fun K hK => ?_) (AllReadyH.cons rfl (fun K hK => ?_) AllReadyH.nil)
              · skip
                go_simp
                refine (HR1.out _ W10 _ _ S10.out.oldX (S10.out.g 2 rfl)).mono ?_
                rintro e W11 ⟨aoy, cpy, rfl, hgy, hb⟩
                have S11 := Lib.hid ((S10.out.call hb).addG hgy)
                clear hb hHeld hgy
                go_wp2_with fail
                refine hK.out _ _ ⟨(S5.out.at' S11.out.bel 0 rfl), (S5.out.at' S11.out.bel 1 rfl), (S5.out.at' S11.out.bel 2 rfl), trivial⟩ (fun hHeld => ?_)
                clear hK K
                (try simp only [pt, Act.put])
                refine wpAnyH_take (i := 9) (v := ?v3) rfl (by kernel_rfl) (by kernel_rfl) (by kernel_rfl) (fun _ _ _ h => h) (Or.inl ⟨by rfl, ?hy3⟩) hHeld ?rest3
                case hy3 => (intro w hSw; (try dsimp only at hSw); (try go_split_ands); go_simp; first | done | with_reducible rfl)
                (try simp only [pt, Act.put])
                refine wpAnyH_take (i := 10) (v := ?v4) rfl (by kernel_rfl) (by kernel_rfl) (by kernel_rfl) (fun _ _ _ h => h) (Or.inl ⟨by rfl, ?hy4⟩) hHeld ?rest4
                case hy4 => (intro w hSw; (try dsimp only at hSw); (try go_split_ands); go_simp; first | done | with_reducible rfl)
                (try simp only [pt, Act.put])
                refine wpAnyH_take (i := 11) (v := ?v5) rfl (by kernel_rfl) (by kernel_rfl) (by kernel_rfl) (fun _ _ _ h => h) (Or.inl ⟨by rfl, ?hy5⟩) hHeld ?rest5
                case hy5 => (intro w hSw; (try dsimp only at hSw); (try go_split_ands); go_simp; first | done | with_reducible rfl)
                (try simp only [pt, Act.put])
                refine wpAnyH_ready (rs := [12]) (by kernel_rfl) (by simp) ?_
                refine AllReadyH.cons rfl (fun K hK => ?_) AllReadyH.nil
                go_simp
                refine fresh1 (P := fun W => K _ W) ?_
                intro W12 hb hn hs
                have S12 := Lib.hid (S11.out.new1 hb hn)
                clear hb hn hs hHeld
                refine hK.out _ _ ⟨(S5.out.at' S12.out.bel 0 rfl), (S5.out.at' S12.out.bel 1 rfl), (S5.out.at' S12.out.bel 2 rfl), trivial⟩ (fun hHeld => ?_)
                clear hK K
                (try simp only [pt, Act.put])
                refine wpAnyH_ready (rs := [13]) (by kernel_rfl) (by simp) ?_
                refine AllReadyH.cons rfl (fun K hK => ?_) AllReadyH.nil
                rw [if_pos (by rfl)]
                refine wp_store_row 32 _ _ rfl _ rfl rfl (S12.out.at 0 rfl) rfl (by kernel_rfl) rfl ?_
                intro W13 hb hg hs hn
                have S13 := Lib.hid (S12.out.set 0 rfl hb hg hs hn)
                clear hb hg hs hn hHeld
                refine hK.out _ _ ⟨(S5.out.at' S13.out.bel 0 rfl), (S5.out.at' S13.out.bel 1 rfl), (S5.out.at' S13.out.bel 2 rfl), trivial⟩ (fun hHeld => ?_)
                clear hK K
                (try simp only [pt, Act.put])
                refine wpAnyH_take (i := 14) (v := ?v6) rfl (by kernel_rfl) (by kernel_rfl) (by kernel_rfl) (fun _ _ _ h => h) (Or.inl ⟨by rfl, ?hy6⟩) hHeld ?rest6
                case hy6 => (intro w hSw; (try dsimp only at hSw); (try go_split_ands); go_simp; first | done | with_reducible rfl)
                (try simp only [pt, Act.put])
                refine wpAnyH_done (by kernel_rfl) ?_ _
                go_wp2_with fail
                go_meet
                exact ⟨rfl, _, _, _, rfl, S13.out.at 0 rfl, (S13.out.g 3 rfl).gives, S13.out.bel⟩
              · skip
                go_simp
                refine fresh1 (P := fun W => K _ W) ?_
                intro W11 hb hn hs
                have S11 := Lib.hid (S10.out.new1 hb hn)
                clear hb hn hs hHeld
                refine hK.out _ _ ⟨(S5.out.at' S11.out.bel 0 rfl), (S5.out.at' S11.out.bel 1 rfl), (S5.out.at' S11.out.bel 2 rfl), trivial⟩ (fun hHeld => ?_)
                clear hK K
                (try simp only [pt, Act.put])
                refine wpAnyH_ready (rs := [8]) (by kernel_rfl) (by simp) ?_
                refine AllReadyH.cons rfl (fun K hK => ?_) AllReadyH.nil
                go_simp
                refine (HR1.out _ W11 _ _ S11.out.oldX (S11.out.g 2 rfl)).mono ?_
                rintro e W12 ⟨aoy, cpy, rfl, hgy, hb⟩
                have S12 := Lib.hid ((S11.out.call hb).addG hgy)
                clear hb hHeld hgy
                go_wp2_with fail
                refine hK.out _ _ ⟨(S5.out.at' S12.out.bel 0 rfl), (S5.out.at' S12.out.bel 1 rfl), (S5.out.at' S12.out.bel 2 rfl), trivial⟩ (fun hHeld => ?_)
                clear hK K
                (try simp only [pt, Act.put])
                refine wpAnyH_take (i := 9) (v := ?v7) rfl (by kernel_rfl) (by kernel_rfl) (by kernel_rfl) (fun _ _ _ h => h) (Or.inl ⟨by rfl, ?hy7⟩) hHeld ?rest7
                case hy7 => (intro w hSw; (try dsimp only at hSw); (try go_split_ands); go_simp; first | done | with_reducible rfl)
                (try simp only [pt, Act.put])
                refine wpAnyH_take (i := 10) (v := ?v8) rfl (by kernel_rfl) (by kernel_rfl) (by kernel_rfl) (fun _ _ _ h => h) (Or.inl ⟨by rfl, ?hy8⟩) hHeld ?rest8
                case hy8 => (intro w hSw; (try dsimp only at hSw); (try go_split_ands); go_simp; first | done | with_reducible rfl)
                (try simp only [pt, Act.put])
                refine wpAnyH_take (i := 11) (v := ?v9) rfl (by kernel_rfl) (by kernel_rfl) (by kernel_rfl) (fun _ _ _ h => h) (Or.inl ⟨by rfl, ?hy9⟩) hHeld ?rest9
                case hy9 => (intro w hSw; (try dsimp only at hSw); (try go_split_ands); go_simp; first | done | with_reducible rfl)
                (try simp only [pt, Act.put])
                refine wpAnyH_ready (rs := [13]) (by kernel_rfl) (by simp) ?_
                refine AllReadyH.cons rfl (fun K hK => ?_) AllReadyH.nil
                rw [if_pos (by rfl)]
                refine wp_store_row 32 _ _ rfl _ rfl rfl (S12.out.at 0 rfl) rfl (by kernel_rfl) rfl ?_
                intro W13 hb hg hs hn
                have S13 := Lib.hid (S12.out.set 0 rfl hb hg hs hn)
                clear hb hg hs hn hHeld
                refine hK.out _ _ ⟨(S5.out.at' S13.out.bel 0 rfl), (S5.out.at' S13.out.bel 1 rfl), (S5.out.at' S13.out.bel 2 rfl), trivial⟩ (fun hHeld => ?_)
                clear hK K
                (try simp only [pt, Act.put])
                refine wpAnyH_take (i := 14) (v := ?v10) rfl (by kernel_rfl) (by kernel_rfl) (by kernel_rfl) (fun _ _ _ h => h) (Or.inl ⟨by rfl, ?hy10⟩) hHeld ?rest10
                case hy10 => (intro w hSw; (try dsimp only at hSw); (try go_split_ands); go_simp; first | done | with_reducible rfl)
                (try simp only [pt, Act.put])
                refine wpAnyH_done (by kernel_rfl) ?_ _
                go_wp2_with fail
                go_meet
                exact ⟨rfl, _, _, _, rfl, S13.out.at 0 rfl, (S13.out.g 3 rfl).gives, S13.out.bel⟩
            · skip
              go_simp
              refine fresh1 (P := fun W => K _ W) ?_
              intro W10 hb hn hs
              have S10 := Lib.hid (S9.out.new1 hb hn)
              clear hb hn hs hHeld
              refine hK.out _ _ ⟨(S5.out.at' S10.out.bel 0 rfl), (S5.out.at' S10.out.bel 1 rfl), (S5.out.at' S10.out.bel 2 rfl), trivial⟩ (fun hHeld => ?_)
              clear hK K
              (try simp only [pt, Act.put])
              refine wpAnyH_ready (rs := [5]) (by kernel_rfl) (by simp) ?_
              refine AllReadyH.cons rfl (fun K hK => ?_) AllReadyH.nil
              go_simp
              refine (as_any who2 fr2 W10).mono ?_
              rintro e W11 ⟨rfl, hb⟩
              have S11 := Lib.hid (S10.out.call hb)
              clear hb hHeld
              go_wp2_with fail
              refine hK.out _ _ ⟨(S5.out.at' S11.out.bel 0 rfl), (S5.out.at' S11.out.bel 1 rfl), (S5.out.at' S11.out.bel 2 rfl), trivial⟩ (fun hHeld => ?_)
              clear hK K
              (try simp only [pt, Act.put])
              refine wpAnyH_ready (rs := [8]) (by kernel_rfl) (by simp) ?_
              refine AllReadyH.cons rfl (fun K hK => ?_) AllReadyH.nil
              go_simp
              refine (HR1.out _ W11 _ _ S11.out.oldX (S11.out.g 2 rfl)).mono ?_
              rintro e W12 ⟨aoy, cpy, rfl, hgy, hb⟩
              have S12 := Lib.hid ((S11.out.call hb).addG hgy)
              clear hb hHeld hgy
              go_wp2_with fail
              refine hK.out _ _ ⟨(S5.out.at' S12.out.bel 0 rfl), (S5.out.at' S12.out.bel 1 rfl), (S5.out.at' S12.out.bel 2 rfl), trivial⟩ (fun hHeld => ?_)
              clear hK K
              (try simp only [pt, Act.put])
              refine wpAnyH_take (i := 9) (v := ?v11) rfl (by kernel_rfl) (by kernel_rfl) (by kernel_rfl) (fun _ _ _ h => h) (Or.inl ⟨by rfl, ?hy11⟩) hHeld ?rest11
              case hy11 => (intro w hSw; (try dsimp only at hSw); (try go_split_ands); go_simp; first | done | with_reducible rfl)
              (try simp only [pt, Act.put])
              refine wpAnyH_take (i := 10) (v := ?v12) rfl (by kernel_rfl) (by kernel_rfl) (by kernel_rfl) (fun _ _ _ h => h) (Or.inl ⟨by rfl, ?hy12⟩) hHeld ?rest12
              case hy12 => (intro w hSw; (try dsimp only at hSw); (try go_split_ands); go_simp; first | done | with_reducible rfl)
              (try simp only [pt, Act.put])
              refine wpAnyH_take (i := 11) (v := ?v13) rfl (by kernel_rfl) (by kernel_rfl) (by kernel_rfl) (fun _ _ _ h => h) (Or.inl ⟨by rfl, ?hy13⟩) hHeld ?rest13
              case hy13 => (intro w hSw; (try dsimp only at hSw); (try go_split_ands); go_simp; first | done | with_reducible rfl)
              (try simp only [pt, Act.put])
              refine wpAnyH_ready (rs := [13]) (by kernel_rfl) (by simp) ?_
              refine AllReadyH.cons rfl (fun K hK => ?_) AllReadyH.nil
              rw [if_pos (by rfl)]
              refine wp_store_row 32 _ _ rfl _ rfl rfl (S12.out.at 0 rfl) rfl (by kernel_rfl) rfl ?_
              intro W13 hb hg hs hn
              have S13 := Lib.hid (S12.out.set 0 rfl hb hg hs hn)
              clear hb hg hs hn hHeld
              refine hK.out _ _ ⟨(S5.out.at' S13.out.bel 0 rfl), (S5.out.at' S13.out.bel 1 rfl), (S5.out.at' S13.out.bel 2 rfl), trivial⟩ (fun hHeld => ?_)
              clear hK K
              (try simp only [pt, Act.put])
              refine wpAnyH_take (i := 14) (v := ?v14) rfl (by kernel_rfl) (by kernel_rfl) (by kernel_rfl) (fun _ _ _ h => h) (Or.inl ⟨by rfl, ?hy14⟩) hHeld ?rest14
              case hy14 => (intro w hSw; (try dsimp only at hSw); (try go_split_ands); go_simp; first | done | with_reducible rfl)
              (try simp only [pt, Act.put])
              refine wpAnyH_done (by kernel_rfl) ?_ _
              go_wp2_with fail
              go_meet
              exact ⟨rfl, _, _, _, rfl, S13.out.at 0 rfl, (S13.out.g 3 rfl).gives, S13.out.bel⟩
          · skip
            go_simp
            refine fresh1 (P := fun W => K _ W) ?_
            intro W9 hb hn hs
            have S9 := Lib.hid (S8.out.new1 hb hn)
            clear hb hn hs hHeld
            refine hK.out _ _ ⟨(S5.out.at' S9.out.bel 0 rfl), (S5.out.at' S9.out.bel 1 rfl), (S5.out.at' S9.out.bel 2 rfl), trivial⟩ (fun hHeld => ?_)
            clear hK K
            (try simp only [pt, Act.put])
            refine wpAnyH_ready (rs := [3]) (by kernel_rfl) (by simp) ?_
            refine AllReadyH.cons rfl (fun K hK => ?_) AllReadyH.nil
            go_simp
            refine (as_any who fr W9).mono ?_
            rintro e W10 ⟨rfl, hb⟩
            have S10 := Lib.hid (S9.out.call hb)
            clear hb hHeld
            go_wp2_with fail
            refine hK.out _ _ ⟨(S5.out.at' S10.out.bel 0 rfl), (S5.out.at' S10.out.bel 1 rfl), (S5.out.at' S10.out.bel 2 rfl), trivial⟩ (fun hHeld => ?_)
            clear hK K
            (try simp only [pt, Act.put])
            refine wpAnyH_ready (rs := [5]) (by kernel_rfl) (by simp) ?_
            refine AllReadyH.cons rfl (fun K hK => ?_) AllReadyH.nil
            go_simp
            refine (as_any who2 fr2 W10).mono ?_
            rintro e W11 ⟨rfl, hb⟩
            have S11 := Lib.hid (S10.out.call hb)
            clear hb hHeld
            go_wp2_with fail
            refine hK.out _ _ ⟨(S5.out.at' S11.out.bel 0 rfl), (S5.out.at' S11.out.bel 1 rfl), (S5.out.at' S11.out.bel 2 rfl), trivial⟩ (fun hHeld => ?_)
            clear hK K
            (try simp only [pt, Act.put])
            refine wpAnyH_ready (rs := [8]) (by kernel_rfl) (by simp) ?_
            refine AllReadyH.cons rfl (fun K hK => ?_) AllReadyH.nil
            go_simp
            refine (HR1.out _ W11 _ _ S11.out.oldX (S11.out.g 2 rfl)).mono ?_
            rintro e W12 ⟨aoy, cpy, rfl, hgy, hb⟩
            have S12 := Lib.hid ((S11.out.call hb).addG hgy)
            clear hb hHeld hgy
            go_wp2_with fail
            refine hK.out _ _ ⟨(S5.out.at' S12.out.bel 0 rfl), (S5.out.at' S12.out.bel 1 rfl), (S5.out.at' S12.out.bel 2 rfl), trivial⟩ (fun hHeld => ?_)
            clear hK K
            (try simp only [pt, Act.put])
            refine wpAnyH_take (i := 9) (v := ?v15) rfl (by kernel_rfl) (by kernel_rfl) (by kernel_rfl) (fun _ _ _ h => h) (Or.inl ⟨by rfl, ?hy15⟩) hHeld ?rest15
            case hy15 => (intro w hSw; (try dsimp only at hSw); (try go_split_ands); go_simp; first | done | with_reducible rfl)
            (try simp only [pt, Act.put])
            refine wpAnyH_take (i := 10) (v := ?v16) rfl (by kernel_rfl) (by kernel_rfl) (by kernel_rfl) (fun _ _ _ h => h) (Or.inl ⟨by rfl, ?hy16⟩) hHeld ?rest16
            case hy16 => (intro w hSw; (try dsimp only at hSw); (try go_split_ands); go_simp; first | done | with_reducible rfl)
            (try simp only [pt, Act.put])
            refine wpAnyH_take (i := 11) (v := ?v17) rfl (by kernel_rfl) (by kernel_rfl) (by kernel_rfl) (fun _ _ _ h => h) (Or.inl ⟨by rfl, ?hy17⟩) hHeld ?rest17
            case hy17 => (intro w hSw; (try dsimp only at hSw); (try go_split_ands); go_simp; first | done | with_reducible rfl)
            (try simp only [pt, Act.put])
            refine wpAnyH_ready (rs := [13]) (by kernel_rfl) (by simp) ?_
            refine AllReadyH.cons rfl (fun K hK => ?_) AllReadyH.nil
            rw [if_pos (by rfl)]
            refine wp_store_row 32 _ _ rfl _ rfl rfl (S12.out.at 0 rfl) rfl (by kernel_rfl) rfl ?_
            intro W13 hb hg hs hn
            have S13 := Lib.hid (S12.out.set 0 rfl hb hg hs hn)
            clear hb hg hs hn hHeld
            refine hK.out _ _ ⟨(S5.out.at' S13.out.bel 0 rfl), (S5.out.at' S13.out.bel 1 rfl), (S5.out.at' S13.out.bel 2 rfl), trivial⟩ (fun hHeld => ?_)
            clear hK K
            (try simp only [pt, Act.put])
            refine wpAnyH_take (i := 14) (v := ?v18) rfl (by kernel_rfl) (by kernel_rfl) (by kernel_rfl) (fun _ _ _ h => h) (Or.inl ⟨by rfl, ?hy18⟩) hHeld ?rest18
            case hy18 => (intro w hSw; (try dsimp only at hSw); (try go_split_ands); go_simp; first | done | with_reducible rfl)
            (try simp only [pt, Act.put])
            refine wpAnyH_done (by kernel_rfl) ?_ _
            go_wp2_with fail
            go_meet
            exact ⟨rfl, _, _, _, rfl, S13.out.at 0 rfl, (S13.out.g 3 rfl).gives, S13.out.bel⟩
        · skip
          go_simp
          refine fresh1 (P := fun W => K _ W) ?_
          intro W8 hb hn hs
          have S8 := Lib.hid (S7.out.new1 hb hn)
          clear hb hn hs hHeld
          refine hK.out _ _ ⟨(S5.out.at' S8.out.bel 0 rfl), (S5.out.at' S8.out.bel 1 rfl), (S5.out.at' S8.out.bel 2 rfl), trivial⟩ (fun hHeld => ?_)
          clear hK K
          (try simp only [pt, Act.put])
          refine wpAnyH_ready (rs := [1]) (by kernel_rfl) (by simp) ?_
          refine AllReadyH.cons rfl (fun K hK => ?_) AllReadyH.nil
          go_simp
          refine (its_y _ l most room HA.out.dsk.len HA.out.names _ W8 S8.out.oldX (S8.out.g 0 rfl).gives).mono ?_
          rintro e W9 ⟨aoe, cpe, rfl, hge, hb⟩
          have S9 := Lib.hid ((S8.out.call hb).addG hge)
          clear hb hHeld hge
          go_wp2_with fail
          refine hK.out _ _ ⟨(S5.out.at' S9.out.bel 0 rfl), (S5.out.at' S9.out.bel 1 rfl), (S5.out.at' S9.out.bel 2 rfl), trivial⟩ (fun hHeld => ?_)
          clear hK K
          (try simp only [pt, Act.put])
          refine wpAnyH_ready (rs := [3]) (by kernel_rfl) (by simp) ?_
          refine AllReadyH.cons rfl (fun K hK => ?_) AllReadyH.nil
          go_simp
          refine (as_any who fr W9).mono ?_
          rintro e W10 ⟨rfl, hb⟩
          have S10 := Lib.hid (S9.out.call hb)
          clear hb hHeld
          go_wp2_with fail
          refine hK.out _ _ ⟨(S5.out.at' S10.out.bel 0 rfl), (S5.out.at' S10.out.bel 1 rfl), (S5.out.at' S10.out.bel 2 rfl), trivial⟩ (fun hHeld => ?_)
          clear hK K
          (try simp only [pt, Act.put])
          refine wpAnyH_ready (rs := [5]) (by kernel_rfl) (by simp) ?_
          refine AllReadyH.cons rfl (fun K hK => ?_) AllReadyH.nil
          go_simp
          refine (as_any who2 fr2 W10).mono ?_
          rintro e W11 ⟨rfl, hb⟩
          have S11 := Lib.hid (S10.out.call hb)
          clear hb hHeld
          go_wp2_with fail
          refine hK.out _ _ ⟨(S5.out.at' S11.out.bel 0 rfl), (S5.out.at' S11.out.bel 1 rfl), (S5.out.at' S11.out.bel 2 rfl), trivial⟩ (fun hHeld => ?_)
          clear hK K
          (try simp only [pt, Act.put])
          refine wpAnyH_ready (rs := [8]) (by kernel_rfl) (by simp) ?_
          refine AllReadyH.cons rfl (fun K hK => ?_) AllReadyH.nil
          go_simp
          refine (HR1.out _ W11 _ _ S11.out.oldX (S11.out.g 2 rfl)).mono ?_
          rintro e W12 ⟨aoy, cpy, rfl, hgy, hb⟩
          have S12 := Lib.hid ((S11.out.call hb).addG hgy)
          clear hb hHeld hgy
          go_wp2_with fail
          refine hK.out _ _ ⟨(S5.out.at' S12.out.bel 0 rfl), (S5.out.at' S12.out.bel 1 rfl), (S5.out.at' S12.out.bel 2 rfl), trivial⟩ (fun hHeld => ?_)
          clear hK K
          (try simp only [pt, Act.put])
          refine wpAnyH_take (i := 9) (v := ?v19) rfl (by kernel_rfl) (by kernel_rfl) (by kernel_rfl) (fun _ _ _ h => h) (Or.inl ⟨by rfl, ?hy19⟩) hHeld ?rest19
          case hy19 => (intro w hSw; (try dsimp only at hSw); (try go_split_ands); go_simp; first | done | with_reducible rfl)
          (try simp only [pt, Act.put])
          refine wpAnyH_take (i := 10) (v := ?v20) rfl (by kernel_rfl) (by kernel_rfl) (by kernel_rfl) (fun _ _ _ h => h) (Or.inl ⟨by rfl, ?hy20⟩) hHeld ?rest20
          case hy20 => (intro w hSw; (try dsimp only at hSw); (try go_split_ands); go_simp; first | done | with_reducible rfl)
          (try simp only [pt, Act.put])
          refine wpAnyH_take (i := 11) (v := ?v21) rfl (by kernel_rfl) (by kernel_rfl) (by kernel_rfl) (fun _ _ _ h => h) (Or.inl ⟨by rfl, ?hy21⟩) hHeld ?rest21
          case hy21 => (intro w hSw; (try dsimp only at hSw); (try go_split_ands); go_simp; first | done | with_reducible rfl)
          (try simp only [pt, Act.put])
          refine wpAnyH_ready (rs := [13]) (by kernel_rfl) (by simp) ?_
          refine AllReadyH.cons rfl (fun K hK => ?_) AllReadyH.nil
          rw [if_pos (by rfl)]
          refine wp_store_row 32 _ _ rfl _ rfl rfl (S12.out.at 0 rfl) rfl (by kernel_rfl) rfl ?_
          intro W13 hb hg hs hn
          have S13 := Lib.hid (S12.out.set 0 rfl hb hg hs hn)
          clear hb hg hs hn hHeld
          refine hK.out _ _ ⟨(S5.out.at' S13.out.bel 0 rfl), (S5.out.at' S13.out.bel 1 rfl), (S5.out.at' S13.out.bel 2 rfl), trivial⟩ (fun hHeld => ?_)
          clear hK K
          (try simp only [pt, Act.put])
          refine wpAnyH_take (i := 14) (v := ?v22) rfl (by kernel_rfl) (by kernel_rfl) (by kernel_rfl) (fun _ _ _ h => h) (Or.inl ⟨by rfl, ?hy22⟩) hHeld ?rest22
          case hy22 => (intro w hSw; (try dsimp only at hSw); (try go_split_ands); go_simp; first | done | with_reducible rfl)
          (try simp only [pt, Act.put])
          refine wpAnyH_done (by kernel_rfl) ?_ _
          go_wp2_with fail
          go_meet
          exact ⟨rfl, _, _, _, rfl, S13.out.at 0 rfl, (S13.out.g 3 rfl).gives, S13.out.bel⟩
      case rest =>
      obtain ⟨rfl, bY, aoY, cpY, rfl, hblk, hgY, hbY⟩ := hcut
      have S6 := Lib.hid ((S5.out.add1 hbY hblk).addG hgY)
      clear hbY hblk hgY
      generalize wc = W6 at *
      generalize bY = blky at *
      generalize aoY = aoy at *
      generalize cpY = cpy at *
      go_upto_region 5 with (fail)
      have h_x := (S6.out.at 3 rfl)
      have h_y := (S6.out.at 4 rfl)
      refine wp_region_held_drew (S := fun W => W.heap[W4.heap.size]? = some (.cells #[.slice ao1 L1.length cp1, .int .i64 most, .int .i64 room] 24 (0, 0)) ∧ W.heap[blky]? = some (.cells #[.slice aoy L1.length cpy, .int .i64 most, .int .i64 room] 32 (0, 0)) ∧ True) (by kernel_rfl) ⟨(S6.out.at 3 rfl), (S6.out.at 4 rfl), trivial⟩ (fun hHeld => ?_)
      clear h_x h_y
      have S7 := Lib.hid (S6.out.call (Below.refl W6.heap.size W6).drew)
      generalize W6.drew = W7 at *
      refine wpAnyH_take (i := 0) rfl (by kernel_rfl) (by kernel_rfl) (by kernel_rfl) (fun _ _ _ h => h) (yieldsIf_load_row (by rfl) 24 _ rfl _ rfl 24 _ (0, 0) _ (fun _ h => h.1) Tryz.underlying24 rfl (by kernel_rfl)) hHeld ?_
      (try simp only [pt, Act.put])
      refine wpAnyH_take (i := 2) rfl (by kernel_rfl) (by kernel_rfl) (by kernel_rfl) (fun _ _ _ h => h) (yieldsIf_load_row (by rfl) 32 _ rfl _ rfl 32 _ (0, 0) _ (fun _ h => h.2.1) Tryz.underlying32 rfl (by kernel_rfl)) hHeld ?_
      (try simp only [pt, Act.put])
      refine wpAnyH_ready (rs := [1]) (by kernel_rfl) (by simp) ?_
      refine AllReadyH.cons rfl (fun K hK => ?_) AllReadyH.nil
      go_simp
      refine (its_f L1 most room HA1.out.dsk.len HA1.out.names _ W7 (S7.out.g 1 rfl)).mono ?_
      rintro e W8 ⟨aoz, cpz, rfl, hgz, hb⟩
      have S8 := Lib.hid ((S7.out.call hb).addG hgz)
      clear hb hHeld hgz
      go_wp2_with fail
      refine hK.out _ _ ⟨(S8.out.at 3 rfl), (S8.out.at 4 rfl), trivial⟩ (fun hHeld => ?_)
      clear hK K
      (try simp only [pt, Act.put])
      refine wpAnyH_ready (rs := [3]) (by kernel_rfl) (by simp) ?_
      refine AllReadyH.cons rfl (fun K hK => ?_) AllReadyH.nil
      go_simp
      refine (same_g L1 most room HA1.out.dsk.len HA1.out.names _ _ W8 (S8.out.g 3 rfl) (S8.out.g 2 rfl)).mono ?_
      rintro e W9 ⟨rfl, hb⟩
      have S9 := Lib.hid (S8.out.call hb)
      clear hb hHeld
      go_wp2_with fail
      refine hK.out _ _ ⟨(S9.out.at 3 rfl), (S9.out.at 4 rfl), trivial⟩ (fun hHeld => ?_)
      clear hK K
      (try simp only [pt, Act.put])
      refine wpAnyH_take (i := 4) (v := ?v23) rfl (by kernel_rfl) (by kernel_rfl) (by kernel_rfl) (fun _ _ _ h => h) (Or.inl ⟨by rfl, ?hy23⟩) hHeld ?rest23
      case hy23 => (intro w hSw; (try dsimp only at hSw); (try go_split_ands); go_simp; first | done | with_reducible rfl)
      (try simp only [pt, Act.put])
      refine wpAnyH_take (i := 5) (v := ?v24) rfl (by kernel_rfl) (by kernel_rfl) (by kernel_rfl) (fun _ _ _ h => h) (Or.inl ⟨by rfl, ?hy24⟩) hHeld ?rest24
      case hy24 => (intro w hSw; (try dsimp only at hSw); (try go_split_ands); go_simp; first | done | with_reducible rfl)
      (try simp only [pt, Act.put])
      refine wpAnyH_take (i := 6) (v := ?v25) rfl (by kernel_rfl) (by kernel_rfl) (by kernel_rfl) (fun _ _ _ h => h) (Or.inl ⟨by rfl, ?hy25⟩) hHeld ?rest25
      case hy25 => (intro w hSw; (try dsimp only at hSw); (try go_split_ands); go_simp; first | done | with_reducible rfl)
      (try simp only [pt, Act.put])
      refine wpAnyH_take (i := 7) (v := ?v26) rfl (by kernel_rfl) (by kernel_rfl) (by kernel_rfl) (fun _ _ _ h => h) (Or.inl ⟨by rfl, ?hy26⟩) hHeld ?rest26
      case hy26 => (intro w hSw; (try dsimp only at hSw); (try go_split_ands); go_simp; first | done | with_reducible rfl)
      (try simp only [pt, Act.put])
      refine wpAnyH_take (i := 8) (v := ?v27) rfl (by kernel_rfl) (by kernel_rfl) (by kernel_rfl) (fun _ _ _ h => h) (Or.inl ⟨by rfl, ?hy27⟩) hHeld ?rest27
      case hy27 => (intro w hSw; (try dsimp only at hSw); (try go_split_ands); go_simp; first | done | with_reducible rfl)
      (try simp only [pt, Act.put])
      refine wpAnyH_take (i := 9) (v := ?v28) rfl (by kernel_rfl) (by kernel_rfl) (by kernel_rfl) (fun _ _ _ h => h) (Or.inl ⟨by rfl, ?hy28⟩) hHeld ?rest28
      case hy28 => (intro w hSw; (try dsimp only at hSw); (try go_split_ands); go_simp; first | done | with_reducible rfl)
      (try simp only [pt, Act.put])
      refine wpAnyH_done (by kernel_rfl) ?_ _
      go_wp2_with fail
      go_ret
      exact ⟨rfl, S9.out.bel⟩
end Go.Proofs.YtpmhmippoefcfaaGreatDoor
