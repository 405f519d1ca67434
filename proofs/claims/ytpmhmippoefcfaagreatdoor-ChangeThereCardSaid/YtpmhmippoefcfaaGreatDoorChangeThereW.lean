/-
  The walk of ChangeThere.
-/
import Derived.RangeFuncNested
import Derived.RangeFuncBound
import Derived.RangeFuncCalls
import Derived.RangeFuncLeaves
import Derived.RangeFuncBox
import Derived.Shelf.Abstract
import Derived.Shelf.RegionOpen
import Derived.WalkKit
import Derived.OwnWalkIn
import Derived.TacticsInMore
import Derived.LoopNIn
import Derived.LoopIn
import Derived.Lib.Hide
import Derived.Outline
import Derived.Deep.QuietTactic
import Derived.Deep.AppendLies
import Derived.BigQuiet
import Derived.Lib.Strings
import Derived.WalkSmall
import Derived.Shelf.Small.Strs
import Derived.Shelf.Strings.Search1
import Derived.Shelf.Strings.Prefix
import Derived.Laws.AppendOwn
import Derived.Laws.OwnMore
import Derived.Laws.AppendOwnNone
import Derived.WideShapes
import Derived.Lib.TrimByte
import Derived.Lib.Bytealg
import Derived.Lib.QuietBelow
import Derived.Deep.DrawnRows
import Derived.Laws.Cover1
import Derived.WalkMore
import Derived.Shelf.Spec.SlicesGrow
import Derived.StillTailTactics
import Derived.Laws.BitsLemmas
import Derived.Laws.RangeAny
import Derived.Laws.Runes
import Derived.Lib.Builder
import Derived.Deep.WholeRow
import Derived.Lib.OthersKept
import Derived.Shelf.SlSorted.Search
import Derived.LaidEql
import Derived.Stop.Asserts
import Derived.RowKitTokens
import Derived.Deep.RegionHeld3
import Derived.Deep.RegionLaw
import Derived.Handy
import Derived.Laws.IdiomCopy
import Derived.Lib.SliceRun
import Derived.Laws.ResultCell
import Derived.Deep.LoopGhost
import Derived.Deep.DeepCutAuto
import Derived.Deep.MidRow
import Derived.BigRegion
import Derived.Test.YtpmhmippoefcfaaGreatDoorProg
import Derived.Test.YtpmhmippoefcfaaGreatDoorShelf
import Derived.Test.YtpmhmippoefcfaaGreatDoorB01
import Derived.Test.YtpmhmippoefcfaaGreatDoorB02
import Derived.Test.YtpmhmippoefcfaaGreatDoorB04
import Derived.Test.YtpmhmippoefcfaaGreatDoorB05
import Derived.Test.YtpmhmippoefcfaaGreatDoorB07
import Derived.Test.YtpmhmippoefcfaaGreatDoorB08
import Derived.Test.YtpmhmippoefcfaaGreatDoorB09
import Derived.Test.YtpmhmippoefcfaaGreatDoorB10
import Derived.Test.YtpmhmippoefcfaaGreatDoorB11
import Derived.Test.YtpmhmippoefcfaaGreatDoorB12
import Derived.Test.YtpmhmippoefcfaaGreatDoorB13
import Derived.Test.YtpmhmippoefcfaaGreatDoorB14
import Derived.Test.YtpmhmippoefcfaaGreatDoorB16
import Derived.Test.YtpmhmippoefcfaaGreatDoorB17
import Derived.Test.YtpmhmippoefcfaaGreatDoorB21
import Derived.Test.YtpmhmippoefcfaaGreatDoorB24
import Derived.Test.YtpmhmippoefcfaaGreatDoorChangeThereE03
namespace Go.Proofs.YtpmhmippoefcfaaGreatDoor
open Go.RowKit Go.Shelf
attribute [local go_sem ↓] Go.wp_at_zero Go.wp_at_succ
/-- What Get tells of a file that was made. -/
theorem get_file {l : List NodeL} (hd : Dsk l) {p : Nat} {mode who : Int} (hp : nd l p = ownN (fileN mode) who) (most room : Int) (v : Value) (W : World) (hg : GivesN l v W) :
    Calls Tryz.prog 35 #[.agg #[v, .int .i64 most, .int .i64 room], .int .i64 (p : Int)] W fun e w' => ∃ ao cap, e = .returned (.tuple #[.agg #[.int .i64 1, .int .i64 (mode % 64), .int .i64 who, .int .i64 1, .int .i64 0, .int .i64 0, .string (bs []), .slice ao 0 cap], .bool true]) ∧ Below W.heap.size W w' := by
  have hk : (nd l p).kind ≠ 0 := by rw [hp]; show (1 : Int) ≠ 0; decide
  refine (get_g (fun _ => False) l most room (p : Int) v W old_no (gives_no hg) hd.len (fun n hn => Nat.le_trans (hd.sm.2 n hn).2 (by decide))).mono ?_
  rintro e w' ⟨ao, cap, rfl, _, hb⟩
  rw [nodeL_nd hk, hp, (got_nd l p).2 hk]
  exact ⟨ao, cap, rfl, hb⟩
/-- What the document's Node tells of a way. -/
theorem rnode_at {l : List NodeL} (hd : Dsk l) {who fr : Int} {path : Str} {i n : Int} (h : wnodeL (walkL l who fr path false) = (i, n)) (hpl : path.length ≤ 10000) (most room : Int) (v : Value) (W : World) (hg : GivesN l v W) :
    Calls Tryz.prog 34 #[.agg #[v, .int .i64 most, .int .i64 room], .int .i64 who, .int .i64 fr, .string (bs path), .bool false] W fun e w' => e = .returned (.tuple #[.int .i64 i, .int .i64 n]) ∧ Below W.heap.size W w' := by
  have := xrnode_g (fun _ => False) l hd most room who fr path false hpl v W (gives_no hg)
  unfold WNodeIs at this
  rw [h] at this
  exact this
set_option maxRecDepth 100000 in
set_option maxHeartbeats 4000000 in
theorem there_l (l : List NodeL) (most room : Int) (who fr : Int) (path : Str) (mode : Int) (ao : Option Addr) (cap : Nat) (w : World) (hg : GivesN l (.slice ao l.length cap) w) (hfit : FitD l) {S : Nat → Addr} (hs : Sent S w) :
    Calls Tryz.prog 8 #[diskV ao l.length cap most room, asV who fr, .string (bs path), .int .i64 mode] w fun e w' => e = .returned (.bool true) ∧ Below w.heap.size w w' := by
  have S0 := Lib.hid (Sn.start hg)
  have HS := Lib.hid hs
  have HQ := Lib.hid fun v W (hgv : GivesN l v W) => right_g l most room v W hgv hfit
  have HSh := Lib.hid fun W (hs : Sent S W) => shown_any W hs
  clear hg hs hfit
  go_enter Tryz.func8, Tryz.ntmps8
  go_upto_region 1 with (fail)
  refine code_fresh2 ?_
  intro W1 hb hA0 hA1 hs
  have S1 := Lib.hid (S0.out.new2 hb hA0 hA1)
  clear hb hA0 hA1 hs
  obtain ⟨d0, d1, d2⟩ := cells3 (S1.out.at 0 rfl)
  go_wp2_with fail
  refine (HQ.out _ W1 (S1.out.g 0 rfl)).mono ?_
  rintro e W2 ⟨rfl, hb⟩
  clear d0 d1 d2
  have S2 := Lib.hid (S1.out.call hb)
  clear hb
  cases hq : rightQ l most room with
  | false =>
    clear hq
    go_wp2_with fail
    refine (HSh.out W2 (HS.out.keep S2.out.bel)).mono ?_
    rintro e WZ ⟨rfl, hb⟩
    go_wp2_with fail
    go_ret
    exact ⟨rfl, ret_tr S2.out.bel hb⟩
  | true =>
    have HR := Lib.hid hq
    clear hq
    go_wp2_with fail
    refine calls_fresh1 ?_
    intro WS hb hA hs
    have SS := Lib.hid (S2.out.call hb)
    clear hb hs
    refine (short_n [path] 1 rfl (by decide) WS hA).mono ?_
    rintro e _ ⟨rfl, rfl⟩
    clear hA
    cases hsh : shortB [path] with
    | false =>
      clear hsh
      go_wp2_with fail
      refine (HSh.out WS (HS.out.keep SS.out.bel)).mono ?_
      rintro e WZ ⟨rfl, hb⟩
      go_wp2_with fail
      go_ret
      exact ⟨rfl, ret_tr SS.out.bel hb⟩
    | true =>
      have hplpath : path.length ≤ 10000 := Nat.le_trans (short_yes hsh path (by simp)) (by decide)
      clear hsh
      go_wp2_with fail
      refine (HSh.out WS (HS.out.keep SS.out.bel)).mono ?_
      rintro e W3 ⟨rfl, hb⟩
      have S3 := Lib.hid (SS.out.call hb)
      clear hb
      have hB := back_file (q_right HR.out) (who := who) (fr := fr) path mode
      have hp := fun (W : World) (ao : Option Addr) (cap : Nat) (h : GivesX (fun _ => False) l (.slice ao l.length cap) W) (hs : Sent S W) => (pmake_g (fun _ => False) l most room who fr path mode ao cap W old_no h (q_dsk HR.out) hplpath hs).mono fun _ _ h => makT h
      have ha := aft_mkfile HR.out who fr path mode
      generalize mkfileL l most room who fr path mode = R at hp ha hB
      obtain ⟨L1, i1, f1⟩ := R
      dsimp only at hp ha hB
      have HP1 := Lib.hid hp
      have HA1 := Lib.hid ha
      clear hp ha
      have HB1 := Lib.hid hB
      clear hB
      have hB := gone_file (q_right HR.out) (who := who) (fr := fr) path
      have hp := fun (W : World) (ao : Option Addr) (cap : Nat) (h : GivesX (fun _ => False) l (.slice ao l.length cap) W) (hs : Sent S W) => (punlink_g (fun _ => False) l most room who fr path ao cap W old_no h (q_dsk HR.out) hplpath hs).mono fun _ _ h => chgT h
      have ha := aft_unlink HR.out who fr path
      generalize unlinkL l who fr path = R at hp ha hB
      obtain ⟨L2, f2⟩ := R
      dsimp only at hp ha hB
      have HP2 := Lib.hid hp
      have HA2 := Lib.hid ha
      clear hp ha
      have HB2 := Lib.hid hB
      clear hB
      have HA := Lib.hid (q_aft HR.out)
      obtain ⟨d0, d1, d2⟩ := cells3 (S3.out.at 0 rfl)
      obtain ⟨a0, a1⟩ := cells2 (S3.out.at 1 rfl)
      go_wp2_with fail
      refine (HP1.out W3 _ _ (S3.out.gx 0 rfl) (HS.out.keep S3.out.bel)).mono ?_
      rintro e W4 ⟨ao1, cp1, rfl, hg1, hb⟩
      clear d0 d1 d2 a0 a1
      have S4 := Lib.hid ((S3.out.call hb).addG hg1)
      clear hb hg1
      go_upto_region 4 with (fail)
      refine code_fresh1 ?_
      intro W5 hb hA0 hs
      have S5 := Lib.hid (S4.out.new1 hb hA0)
      clear hb hA0 hs
      by_cases hf1 : f1 = 0
      · subst hf1
        obtain ⟨-, -, -, -, -, ⟨p, rfl, hw, hn⟩, hm1, hm2⟩ := HB1.out rfl
        have hp1 := fun (W : World) (ao : Option Addr) (cap : Nat) (h : GivesN L1 (.slice ao L1.length cap) W) (hs : Sent S W) => (pmake_g (fun _ => False) L1 most room who fr path mode ao cap W old_no (gives_no h) HA1.out.dsk hplpath hs).mono fun _ _ h => makT h
        have hp2 := fun (W : World) (ao : Option Addr) (cap : Nat) (h : GivesN L1 (.slice ao L1.length cap) W) (hs : Sent S W) => (pmkdir_g (fun _ => False) L1 most room who fr path mode ao cap W old_no (gives_no h) HA1.out.dsk hplpath hs).mono fun _ _ h => chgT h
        rw [hm1 mode] at hp1
        rw [hm2 mode] at hp2
        dsimp only at hp1 hp2
        have HM1 := Lib.hid hp1
        have HM2 := Lib.hid hp2
        have HW := Lib.hid hw
        have HN := Lib.hid hn
        clear hm1 hm2 hp1 hp2 hw hn
        go_upto_region 5 with (fail)
        have h_x := (S5.out.at 2 rfl)
        refine wp_region_held_drew (S := fun W => W.heap[W4.heap.size]? = some (.cells #[.slice ao1 L1.length cp1, .int .i64 most, .int .i64 room] 24 (0, 0)) ∧ W.cell? ⟨w.heap.size + 1, 0, none⟩ = some (.int .i64 who) ∧ W.cell? ⟨w.heap.size + 1, 1, none⟩ = some (.int .i64 fr) ∧ True) (by kernel_rfl) ⟨(S5.out.at 2 rfl), (cells2 (S5.out.at 1 rfl)).1, (cells2 (S5.out.at 1 rfl)).2, trivial⟩ (fun hHeld => ?_)
        clear h_x
        have S6 := Lib.hid (S5.out.call (Below.refl W5.heap.size W5).drew)
        generalize W5.drew = W6 at *
        refine wpAnyH_take (i := 0) rfl (by kernel_rfl) (by kernel_rfl) (by kernel_rfl) (fun _ _ _ h => h) (yieldsIf_load_row (by rfl) 24 _ rfl _ rfl 24 _ (0, 0) _ (fun _ h => h.1) Tryz.underlying24 rfl (by kernel_rfl)) hHeld ?_
        (try simp only [pt, Act.put])
        refine wpAnyH_take (i := 2) (v := ?v1) rfl (by kernel_rfl) (by kernel_rfl) (by kernel_rfl) (fun _ _ _ h => h) (Or.inl ⟨by rfl, ?hy1⟩) hHeld ?rest1
        case hy1 => (intro w hSw; (try dsimp only at hSw); (try go_split_ands); go_simp; first | done | with_reducible rfl)
        (try simp only [pt, Act.put])
        refine wpAnyH_take (i := 3) (v := ?v2) rfl (by kernel_rfl) (by kernel_rfl) (by kernel_rfl) (fun _ _ _ h => h) (Or.inl ⟨by rfl, ?hy2⟩) hHeld ?rest2
        case hy2 => (intro w hSw; (try dsimp only at hSw); (try go_split_ands); go_simp; first | done | with_reducible rfl)
        (try simp only [pt, Act.put])
        refine wpAnyH_take (i := 4) (v := ?v3) rfl (by kernel_rfl) (by kernel_rfl) (by kernel_rfl) (fun _ _ _ h => h) (Or.inl ⟨by rfl, ?hy3⟩) hHeld ?rest3
        case hy3 => (intro w hSw; (try dsimp only at hSw); (try go_split_ands); go_simp; first | done | with_reducible rfl)
        (try simp only [pt, Act.put])
        refine wpAnyH_take (i := 5) (v := ?v4) rfl (by kernel_rfl) (by kernel_rfl) (by kernel_rfl) (fun _ _ _ h => h) (Or.inl ⟨by rfl, ?hy4⟩) hHeld ?rest4
        case hy4 => (intro w hSw; (try dsimp only at hSw); (try go_split_ands); go_simp; first | done | with_reducible rfl)
        (try simp only [pt, Act.put])
        refine wpAnyH_take (i := 6) (v := ?v5) rfl (by kernel_rfl) (by kernel_rfl) (by kernel_rfl) (fun _ _ _ h => h) (Or.inl ⟨by rfl, ?hy5⟩) hHeld ?rest5
        case hy5 => (intro w hSw; (try dsimp only at hSw); (try go_split_ands); go_simp; first | done | with_reducible rfl)
        (try simp only [pt, Act.put])
        refine wpAnyH_ready (rs := [1]) (by kernel_rfl) (by simp) ?_
        refine AllReadyH.cons rfl (fun K hK => ?_) AllReadyH.nil
        go_simp
        refine (its_f L1 most room HA1.out.dsk.len HA1.out.names _ W6 (S6.out.g 1 rfl)).mono ?_
        rintro e W7 ⟨aoz, cpz, rfl, hgz, hb⟩
        have S7 := Lib.hid ((S6.out.call hb).addG hgz)
        clear hb hHeld hgz
        go_wp2_with fail
        refine hK.out _ _ ⟨(S7.out.at 2 rfl), (cells2 (S7.out.at 1 rfl)).1, (cells2 (S7.out.at 1 rfl)).2, trivial⟩ (fun hHeld => ?_)
        clear hK K
        (try simp only [pt, Act.put])
        refine wpAnyH_ready (rs := [7]) (by kernel_rfl) (by simp) ?_
        refine AllReadyH.cons rfl (fun K hK => ?_) AllReadyH.nil
        go_simp
        refine (rnode_at HA1.out.dsk HW.out hplpath most room _ W7 (S7.out.g 2 rfl)).mono ?_
        rintro e W8 ⟨rfl, hb⟩
        have S8 := Lib.hid (S7.out.call hb)
        clear hb hHeld
        go_wp2_with fail
        refine hK.out _ _ ⟨(S8.out.at 2 rfl), (cells2 (S8.out.at 1 rfl)).1, (cells2 (S8.out.at 1 rfl)).2, trivial⟩ (fun hHeld => ?_)
        clear hK K
        (try simp only [pt, Act.put])
        refine wpAnyH_take (i := 8) (v := ?v6) rfl (by kernel_rfl) (by kernel_rfl) (by kernel_rfl) (fun _ _ _ h => h) (Or.inl ⟨by rfl, ?hy6⟩) hHeld ?rest6
        case hy6 => (intro w hSw; (try dsimp only at hSw); (try go_split_ands); go_simp; first | done | with_reducible rfl)
        (try simp only [pt, Act.put])
        refine wpAnyH_take (i := 9) (v := ?v7) rfl (by kernel_rfl) (by kernel_rfl) (by kernel_rfl) (fun _ _ _ h => h) (Or.inl ⟨by rfl, ?hy7⟩) hHeld ?rest7
        case hy7 => (intro w hSw; (try dsimp only at hSw); (try go_split_ands); go_simp; first | done | with_reducible rfl)
        (try simp only [pt, Act.put])
        refine wpAnyH_take (i := 10) (v := ?v8) rfl (by kernel_rfl) (by kernel_rfl) (by kernel_rfl) (fun _ _ _ h => h) (Or.inl ⟨by rfl, ?hy8⟩) hHeld ?rest8
        case hy8 => (intro w hSw; (try dsimp only at hSw); (try go_split_ands); go_simp; first | done | with_reducible rfl)
        (try simp only [pt, Act.put])
        refine wpAnyH_take (i := 11) (v := ?v9) rfl (by kernel_rfl) (by kernel_rfl) (by kernel_rfl) (fun _ _ _ h => h) (Or.inl ⟨by rfl, ?hy9⟩) hHeld ?rest9
        case hy9 => (intro w hSw; (try dsimp only at hSw); (try go_split_ands); go_simp; first | done | with_reducible rfl)
        (try simp only [pt, Act.put])
        refine wpAnyH_take (i := 12) (v := ?v10) rfl (by kernel_rfl) (by kernel_rfl) (by kernel_rfl) (fun _ _ _ h => h) (Or.inl ⟨by rfl, ?hy10⟩) hHeld ?rest10
        case hy10 => (intro w hSw; (try dsimp only at hSw); (try go_split_ands); go_simp; first | done | with_reducible rfl)
        (try simp only [pt, Act.put])
        refine wpAnyH_done (by kernel_rfl) ?_ _
        go_upto_region 6 with (fail)
        obtain ⟨x0, x1, x2⟩ := cells3 (S8.out.at 2 rfl)
        obtain ⟨a0, a1⟩ := cells2 (S8.out.at 1 rfl)
        go_wp2_with fail
        refine (HM1.out W8 _ _ (S8.out.g 1 rfl) (HS.out.keep S8.out.bel)).mono ?_
        rintro e W9 ⟨aom, cpm, rfl, hg1, hb⟩
        clear x0 x1 x2 a0 a1
        have S9 := Lib.hid ((S8.out.call hb).addG hg1)
        clear hb hg1
        go_upto_region 7 with (fail)
        refine code_fresh1 ?_
        intro W10 hb hA0 hs
        have S10 := Lib.hid (S9.out.new1 hb hA0)
        clear hb hA0 hs
        obtain ⟨x0, x1, x2⟩ := cells3 (S10.out.at 2 rfl)
        obtain ⟨a0, a1⟩ := cells2 (S10.out.at 1 rfl)
        go_wp2_with fail
        refine (HM2.out W10 _ _ (S10.out.g 1 rfl) (HS.out.keep S10.out.bel)).mono ?_
        rintro e W11 ⟨aon, cpn, rfl, hg1, hb⟩
        clear x0 x1 x2 a0 a1
        have S11 := Lib.hid ((S10.out.call hb).addG hg1)
        clear hb hg1
        go_upto_region 8 with (fail)
        refine code_fresh1 ?_
        intro W12 hb hA0 hs
        have S12 := Lib.hid (S11.out.new1 hb hA0)
        clear hb hA0 hs
        obtain ⟨x0, x1, x2⟩ := cells3 (S12.out.at 2 rfl)
        go_wp2_with fail
        refine (get_file HA1.out.dsk HN.out most room _ W12 (S12.out.g 1 rfl)).mono ?_
        rintro e W13 ⟨aof, cpf, rfl, hb⟩
        clear x0 x1 x2
        have S13 := Lib.hid (S12.out.call hb)
        clear hb
        go_upto_region 9 with (fail)
        refine code_fresh1 ?_
        intro W14 hb hA0 hs
        have S14 := Lib.hid (S13.out.new1 hb hA0)
        clear hb hA0 hs
        obtain ⟨f0, f1, f2, f3, f4, f5, f6, f7⟩ := cells8 (S14.out.at 5 rfl)
        go_upto_region 11 with (fail)
        clear f0 f1 f2 f3 f4 f5 f6 f7
        obtain ⟨d0, d1, d2⟩ := cells3 (S14.out.at 0 rfl)
        obtain ⟨a0, a1⟩ := cells2 (S14.out.at 1 rfl)
        go_wp2_with fail
        refine (HP2.out W14 _ _ (S14.out.gx 0 rfl) (HS.out.keep S14.out.bel)).mono ?_
        rintro e W15 ⟨ao2, cp2, rfl, hg1, hb⟩
        clear d0 d1 d2 a0 a1
        have S15 := Lib.hid ((S14.out.call hb).addG hg1)
        clear hb hg1
        go_upto_region 12 with (fail)
        refine code_fresh1 ?_
        intro W16 hb hA0 hs
        have S16 := Lib.hid (S15.out.new1 hb hA0)
        clear hb hA0 hs
        by_cases hf2 : f2 = 0
        · subst hf2
          have HN := Lib.hid (HB2.out rfl)
          go_upto_region 13 with (fail)
          have h_y := (S16.out.at 6 rfl)
          refine wp_region_held_drew (S := fun W => W.heap[W15.heap.size]? = some (.cells #[.slice ao2 L2.length cp2, .int .i64 most, .int .i64 room] 24 (0, 0)) ∧ W.cell? ⟨w.heap.size + 1, 0, none⟩ = some (.int .i64 who) ∧ W.cell? ⟨w.heap.size + 1, 1, none⟩ = some (.int .i64 fr) ∧ True) (by kernel_rfl) ⟨(S16.out.at 6 rfl), (cells2 (S16.out.at 1 rfl)).1, (cells2 (S16.out.at 1 rfl)).2, trivial⟩ (fun hHeld => ?_)
          clear h_y
          have S17 := Lib.hid (S16.out.call (Below.refl W16.heap.size W16).drew)
          generalize W16.drew = W17 at *
          refine wpAnyH_take (i := 0) rfl (by kernel_rfl) (by kernel_rfl) (by kernel_rfl) (fun _ _ _ h => h) (yieldsIf_load_row (by rfl) 24 _ rfl _ rfl 24 _ (0, 0) _ (fun _ h => h.1) Tryz.underlying24 rfl (by kernel_rfl)) hHeld ?_
          (try simp only [pt, Act.put])
          refine wpAnyH_take (i := 2) (v := ?v11) rfl (by kernel_rfl) (by kernel_rfl) (by kernel_rfl) (fun _ _ _ h => h) (Or.inl ⟨by rfl, ?hy11⟩) hHeld ?rest11
          case hy11 => (intro w hSw; (try dsimp only at hSw); (try go_split_ands); go_simp; first | done | with_reducible rfl)
          (try simp only [pt, Act.put])
          refine wpAnyH_take (i := 3) (v := ?v12) rfl (by kernel_rfl) (by kernel_rfl) (by kernel_rfl) (fun _ _ _ h => h) (Or.inl ⟨by rfl, ?hy12⟩) hHeld ?rest12
          case hy12 => (intro w hSw; (try dsimp only at hSw); (try go_split_ands); go_simp; first | done | with_reducible rfl)
          (try simp only [pt, Act.put])
          refine wpAnyH_take (i := 4) (v := ?v13) rfl (by kernel_rfl) (by kernel_rfl) (by kernel_rfl) (fun _ _ _ h => h) (Or.inl ⟨by rfl, ?hy13⟩) hHeld ?rest13
          case hy13 => (intro w hSw; (try dsimp only at hSw); (try go_split_ands); go_simp; first | done | with_reducible rfl)
          (try simp only [pt, Act.put])
          refine wpAnyH_take (i := 5) (v := ?v14) rfl (by kernel_rfl) (by kernel_rfl) (by kernel_rfl) (fun _ _ _ h => h) (Or.inl ⟨by rfl, ?hy14⟩) hHeld ?rest14
          case hy14 => (intro w hSw; (try dsimp only at hSw); (try go_split_ands); go_simp; first | done | with_reducible rfl)
          (try simp only [pt, Act.put])
          refine wpAnyH_take (i := 6) (v := ?v15) rfl (by kernel_rfl) (by kernel_rfl) (by kernel_rfl) (fun _ _ _ h => h) (Or.inl ⟨by rfl, ?hy15⟩) hHeld ?rest15
          case hy15 => (intro w hSw; (try dsimp only at hSw); (try go_split_ands); go_simp; first | done | with_reducible rfl)
          (try simp only [pt, Act.put])
          refine wpAnyH_ready (rs := [1]) (by kernel_rfl) (by simp) ?_
          refine AllReadyH.cons rfl (fun K hK => ?_) AllReadyH.nil
          go_simp
          refine (its_f L2 most room HA2.out.dsk.len HA2.out.names _ W17 (S17.out.g 5 rfl)).mono ?_
          rintro e W18 ⟨aoz, cpz, rfl, hgz, hb⟩
          have S18 := Lib.hid ((S17.out.call hb).addG hgz)
          clear hb hHeld hgz
          go_wp2_with fail
          refine hK.out _ _ ⟨(S18.out.at 6 rfl), (cells2 (S18.out.at 1 rfl)).1, (cells2 (S18.out.at 1 rfl)).2, trivial⟩ (fun hHeld => ?_)
          clear hK K
          (try simp only [pt, Act.put])
          refine wpAnyH_ready (rs := [7]) (by kernel_rfl) (by simp) ?_
          refine AllReadyH.cons rfl (fun K hK => ?_) AllReadyH.nil
          go_simp
          refine (rnode_at HA2.out.dsk HN.out hplpath most room _ W18 (S18.out.g 6 rfl)).mono ?_
          rintro e W19 ⟨rfl, hb⟩
          have S19 := Lib.hid (S18.out.call hb)
          clear hb hHeld
          go_wp2_with fail
          refine hK.out _ _ ⟨(S19.out.at 6 rfl), (cells2 (S19.out.at 1 rfl)).1, (cells2 (S19.out.at 1 rfl)).2, trivial⟩ (fun hHeld => ?_)
          clear hK K
          (try simp only [pt, Act.put])
          refine wpAnyH_take (i := 8) (v := ?v16) rfl (by kernel_rfl) (by kernel_rfl) (by kernel_rfl) (fun _ _ _ h => h) (Or.inl ⟨by rfl, ?hy16⟩) hHeld ?rest16
          case hy16 => (intro w hSw; (try dsimp only at hSw); (try go_split_ands); go_simp; first | done | with_reducible rfl)
          (try simp only [pt, Act.put])
          refine wpAnyH_take (i := 9) (v := ?v17) rfl (by kernel_rfl) (by kernel_rfl) (by kernel_rfl) (fun _ _ _ h => h) (Or.inl ⟨by rfl, ?hy17⟩) hHeld ?rest17
          case hy17 => (intro w hSw; (try dsimp only at hSw); (try go_split_ands); go_simp; first | done | with_reducible rfl)
          (try simp only [pt, Act.put])
          refine wpAnyH_take (i := 10) (v := ?v18) rfl (by kernel_rfl) (by kernel_rfl) (by kernel_rfl) (fun _ _ _ h => h) (Or.inl ⟨by rfl, ?hy18⟩) hHeld ?rest18
          case hy18 => (intro w hSw; (try dsimp only at hSw); (try go_split_ands); go_simp; first | done | with_reducible rfl)
          (try simp only [pt, Act.put])
          refine wpAnyH_take (i := 11) (v := ?v19) rfl (by kernel_rfl) (by kernel_rfl) (by kernel_rfl) (fun _ _ _ h => h) (Or.inl ⟨by rfl, ?hy19⟩) hHeld ?rest19
          case hy19 => (intro w hSw; (try dsimp only at hSw); (try go_split_ands); go_simp; first | done | with_reducible rfl)
          (try simp only [pt, Act.put])
          refine wpAnyH_take (i := 12) (v := ?v20) rfl (by kernel_rfl) (by kernel_rfl) (by kernel_rfl) (fun _ _ _ h => h) (Or.inl ⟨by rfl, ?hy20⟩) hHeld ?rest20
          case hy20 => (intro w hSw; (try dsimp only at hSw); (try go_split_ands); go_simp; first | done | with_reducible rfl)
          (try simp only [pt, Act.put])
          refine wpAnyH_done (by kernel_rfl) ?_ _
          go_wp2_with fail
          go_ret
          exact ⟨rfl, S19.out.bel⟩
        · have qf21 : (f2 == 0) = false := by simpa using hf2
          have qf22 : (f2 != 0) = true := by simpa using hf2
          have qf23 : decide (f2 = 0) = false := by simpa using hf2
          clear hf2
          go_wp2_with fail
          go_ret
          exact ⟨rfl, S16.out.bel⟩
      · have qf11 : (f1 == 0) = false := by simpa using hf1
        have qf12 : (f1 != 0) = true := by simpa using hf1
        have qf13 : decide (f1 = 0) = false := by simpa using hf1
        clear hf1
        go_upto_region 11 with (fail)
        obtain ⟨d0, d1, d2⟩ := cells3 (S5.out.at 0 rfl)
        obtain ⟨a0, a1⟩ := cells2 (S5.out.at 1 rfl)
        go_wp2_with fail
        refine (HP2.out W5 _ _ (S5.out.gx 0 rfl) (HS.out.keep S5.out.bel)).mono ?_
        rintro e W6 ⟨ao2, cp2, rfl, hg1, hb⟩
        clear d0 d1 d2 a0 a1
        have S6 := Lib.hid ((S5.out.call hb).addG hg1)
        clear hb hg1
        go_upto_region 12 with (fail)
        refine code_fresh1 ?_
        intro W7 hb hA0 hs
        have S7 := Lib.hid (S6.out.new1 hb hA0)
        clear hb hA0 hs
        by_cases hf2 : f2 = 0
        · subst hf2
          have HN := Lib.hid (HB2.out rfl)
          go_upto_region 13 with (fail)
          have h_y := (S7.out.at 3 rfl)
          refine wp_region_held_drew (S := fun W => W.heap[W6.heap.size]? = some (.cells #[.slice ao2 L2.length cp2, .int .i64 most, .int .i64 room] 24 (0, 0)) ∧ W.cell? ⟨w.heap.size + 1, 0, none⟩ = some (.int .i64 who) ∧ W.cell? ⟨w.heap.size + 1, 1, none⟩ = some (.int .i64 fr) ∧ True) (by kernel_rfl) ⟨(S7.out.at 3 rfl), (cells2 (S7.out.at 1 rfl)).1, (cells2 (S7.out.at 1 rfl)).2, trivial⟩ (fun hHeld => ?_)
          clear h_y
          have S8 := Lib.hid (S7.out.call (Below.refl W7.heap.size W7).drew)
          generalize W7.drew = W8 at *
          refine wpAnyH_take (i := 0) rfl (by kernel_rfl) (by kernel_rfl) (by kernel_rfl) (fun _ _ _ h => h) (yieldsIf_load_row (by rfl) 24 _ rfl _ rfl 24 _ (0, 0) _ (fun _ h => h.1) Tryz.underlying24 rfl (by kernel_rfl)) hHeld ?_
          (try simp only [pt, Act.put])
          refine wpAnyH_take (i := 2) (v := ?v21) rfl (by kernel_rfl) (by kernel_rfl) (by kernel_rfl) (fun _ _ _ h => h) (Or.inl ⟨by rfl, ?hy21⟩) hHeld ?rest21
          case hy21 => (intro w hSw; (try dsimp only at hSw); (try go_split_ands); go_simp; first | done | with_reducible rfl)
          (try simp only [pt, Act.put])
          refine wpAnyH_take (i := 3) (v := ?v22) rfl (by kernel_rfl) (by kernel_rfl) (by kernel_rfl) (fun _ _ _ h => h) (Or.inl ⟨by rfl, ?hy22⟩) hHeld ?rest22
          case hy22 => (intro w hSw; (try dsimp only at hSw); (try go_split_ands); go_simp; first | done | with_reducible rfl)
          (try simp only [pt, Act.put])
          refine wpAnyH_take (i := 4) (v := ?v23) rfl (by kernel_rfl) (by kernel_rfl) (by kernel_rfl) (fun _ _ _ h => h) (Or.inl ⟨by rfl, ?hy23⟩) hHeld ?rest23
          case hy23 => (intro w hSw; (try dsimp only at hSw); (try go_split_ands); go_simp; first | done | with_reducible rfl)
          (try simp only [pt, Act.put])
          refine wpAnyH_take (i := 5) (v := ?v24) rfl (by kernel_rfl) (by kernel_rfl) (by kernel_rfl) (fun _ _ _ h => h) (Or.inl ⟨by rfl, ?hy24⟩) hHeld ?rest24
          case hy24 => (intro w hSw; (try dsimp only at hSw); (try go_split_ands); go_simp; first | done | with_reducible rfl)
          (try simp only [pt, Act.put])
          refine wpAnyH_take (i := 6) (v := ?v25) rfl (by kernel_rfl) (by kernel_rfl) (by kernel_rfl) (fun _ _ _ h => h) (Or.inl ⟨by rfl, ?hy25⟩) hHeld ?rest25
          case hy25 => (intro w hSw; (try dsimp only at hSw); (try go_split_ands); go_simp; first | done | with_reducible rfl)
          (try simp only [pt, Act.put])
          refine wpAnyH_ready (rs := [1]) (by kernel_rfl) (by simp) ?_
          refine AllReadyH.cons rfl (fun K hK => ?_) AllReadyH.nil
          go_simp
          refine (its_f L2 most room HA2.out.dsk.len HA2.out.names _ W8 (S8.out.g 2 rfl)).mono ?_
          rintro e W9 ⟨aoz, cpz, rfl, hgz, hb⟩
          have S9 := Lib.hid ((S8.out.call hb).addG hgz)
          clear hb hHeld hgz
          go_wp2_with fail
          refine hK.out _ _ ⟨(S9.out.at 3 rfl), (cells2 (S9.out.at 1 rfl)).1, (cells2 (S9.out.at 1 rfl)).2, trivial⟩ (fun hHeld => ?_)
          clear hK K
          (try simp only [pt, Act.put])
          refine wpAnyH_ready (rs := [7]) (by kernel_rfl) (by simp) ?_
          refine AllReadyH.cons rfl (fun K hK => ?_) AllReadyH.nil
          go_simp
          refine (rnode_at HA2.out.dsk HN.out hplpath most room _ W9 (S9.out.g 3 rfl)).mono ?_
          rintro e W10 ⟨rfl, hb⟩
          have S10 := Lib.hid (S9.out.call hb)
          clear hb hHeld
          go_wp2_with fail
          refine hK.out _ _ ⟨(S10.out.at 3 rfl), (cells2 (S10.out.at 1 rfl)).1, (cells2 (S10.out.at 1 rfl)).2, trivial⟩ (fun hHeld => ?_)
          clear hK K
          (try simp only [pt, Act.put])
          refine wpAnyH_take (i := 8) (v := ?v26) rfl (by kernel_rfl) (by kernel_rfl) (by kernel_rfl) (fun _ _ _ h => h) (Or.inl ⟨by rfl, ?hy26⟩) hHeld ?rest26
          case hy26 => (intro w hSw; (try dsimp only at hSw); (try go_split_ands); go_simp; first | done | with_reducible rfl)
          (try simp only [pt, Act.put])
          refine wpAnyH_take (i := 9) (v := ?v27) rfl (by kernel_rfl) (by kernel_rfl) (by kernel_rfl) (fun _ _ _ h => h) (Or.inl ⟨by rfl, ?hy27⟩) hHeld ?rest27
          case hy27 => (intro w hSw; (try dsimp only at hSw); (try go_split_ands); go_simp; first | done | with_reducible rfl)
          (try simp only [pt, Act.put])
          refine wpAnyH_take (i := 10) (v := ?v28) rfl (by kernel_rfl) (by kernel_rfl) (by kernel_rfl) (fun _ _ _ h => h) (Or.inl ⟨by rfl, ?hy28⟩) hHeld ?rest28
          case hy28 => (intro w hSw; (try dsimp only at hSw); (try go_split_ands); go_simp; first | done | with_reducible rfl)
          (try simp only [pt, Act.put])
          refine wpAnyH_take (i := 11) (v := ?v29) rfl (by kernel_rfl) (by kernel_rfl) (by kernel_rfl) (fun _ _ _ h => h) (Or.inl ⟨by rfl, ?hy29⟩) hHeld ?rest29
          case hy29 => (intro w hSw; (try dsimp only at hSw); (try go_split_ands); go_simp; first | done | with_reducible rfl)
          (try simp only [pt, Act.put])
          refine wpAnyH_take (i := 12) (v := ?v30) rfl (by kernel_rfl) (by kernel_rfl) (by kernel_rfl) (fun _ _ _ h => h) (Or.inl ⟨by rfl, ?hy30⟩) hHeld ?rest30
          case hy30 => (intro w hSw; (try dsimp only at hSw); (try go_split_ands); go_simp; first | done | with_reducible rfl)
          (try simp only [pt, Act.put])
          refine wpAnyH_done (by kernel_rfl) ?_ _
          go_wp2_with fail
          go_ret
          exact ⟨rfl, S10.out.bel⟩
        · have qf21 : (f2 == 0) = false := by simpa using hf2
          have qf22 : (f2 != 0) = true := by simpa using hf2
          have qf23 : decide (f2 = 0) = false := by simpa using hf2
          clear hf2
          go_wp2_with fail
          go_ret
          exact ⟨rfl, S7.out.bel⟩
end Go.Proofs.YtpmhmippoefcfaaGreatDoor
