/-
  The walk of ChangeMoves.
-/
import Derived.RangeFuncNested
import Derived.RangeFuncBound
import Derived.RangeFuncCalls
import Derived.RangeFuncLeaves
import Derived.RangeFuncBox
import Derived.Shelf.Abstract
import Derived.Shelf.RegionOpen
import Derived.WalkKit
import Derived.OwnWalkIn
import Derived.TacticsInMore
import Derived.LoopNIn
import Derived.LoopIn
import Derived.Lib.Hide
import Derived.Outline
import Derived.Deep.QuietTactic
import Derived.Deep.AppendLies
import Derived.BigQuiet
import Derived.Lib.Strings
import Derived.WalkSmall
import Derived.Shelf.Small.Strs
import Derived.Shelf.Strings.Search1
import Derived.Shelf.Strings.Prefix
import Derived.Laws.AppendOwn
import Derived.Laws.OwnMore
import Derived.Laws.AppendOwnNone
import Derived.WideShapes
import Derived.Lib.TrimByte
import Derived.Lib.Bytealg
import Derived.Lib.QuietBelow
import Derived.Deep.DrawnRows
import Derived.Laws.Cover1
import Derived.WalkMore
import Derived.Shelf.Spec.SlicesGrow
import Derived.StillTailTactics
import Derived.Laws.BitsLemmas
import Derived.Laws.RangeAny
import Derived.Laws.Runes
import Derived.Lib.Builder
import Derived.Deep.WholeRow
import Derived.Lib.OthersKept
import Derived.Shelf.SlSorted.Search
import Derived.LaidEql
import Derived.Stop.Asserts
import Derived.RowKitTokens
import Derived.Deep.RegionHeld3
import Derived.Deep.RegionLaw
import Derived.Handy
import Derived.Laws.IdiomCopy
import Derived.Lib.SliceRun
import Derived.Laws.ResultCell
import Derived.Deep.LoopGhost
import Derived.Deep.DeepCutAuto
import Derived.Deep.MidRow
import Derived.BigRegion
import Derived.Test.YtpmhmippoefcfaaGreatDoorProg
import Derived.Test.YtpmhmippoefcfaaGreatDoorShelf
import Derived.Test.YtpmhmippoefcfaaGreatDoorB01
import Derived.Test.YtpmhmippoefcfaaGreatDoorB02
import Derived.Test.YtpmhmippoefcfaaGreatDoorB04
import Derived.Test.YtpmhmippoefcfaaGreatDoorB05
import Derived.Test.YtpmhmippoefcfaaGreatDoorB07
import Derived.Test.YtpmhmippoefcfaaGreatDoorB08
import Derived.Test.YtpmhmippoefcfaaGreatDoorB09
import Derived.Test.YtpmhmippoefcfaaGreatDoorB10
import Derived.Test.YtpmhmippoefcfaaGreatDoorB11
import Derived.Test.YtpmhmippoefcfaaGreatDoorB12
import Derived.Test.YtpmhmippoefcfaaGreatDoorB13
import Derived.Test.YtpmhmippoefcfaaGreatDoorB14
import Derived.Test.YtpmhmippoefcfaaGreatDoorB16
import Derived.Test.YtpmhmippoefcfaaGreatDoorB17
import Derived.Test.YtpmhmippoefcfaaGreatDoorB23
import Derived.Test.YtpmhmippoefcfaaGreatDoorB24
import Derived.Test.YtpmhmippoefcfaaGreatDoorChangeMovesE01
import Derived.Test.YtpmhmippoefcfaaGreatDoorChangeMovesE03
namespace Go.Proofs.YtpmhmippoefcfaaGreatDoor
open Go.RowKit Go.Shelf
attribute [local go_sem ↓] Go.wp_at_zero Go.wp_at_succ
/-- What a region that draws leaves: a spot in a new block. -/
def CutS (W : World) (d : Int) (nm : Str) (i : Int) (sl : Bool) (s : Value) (W' : World) : Prop :=
  ∃ b, s = .pointer (some ⟨b, 0, none⟩) ∧ W'.heap[b]? = some (.cells #[.int .i64 d, .string (bs nm), .int .i64 i, .bool sl] 67 (0, 0)) ∧ Below W.heap.size W W'
theorem get_at {l : List NodeL} (hd : Dsk l) {j : Nat} {k m o n p u : Int} {d : Nm} {e : List EntL} (hj : nd l j = ⟨k, m, o, n, p, u, d, e⟩) (hk : k ≠ 0) (most room : Int) (v : Value) (W : World) (hg : GivesN l v W) :
    Calls Tryz.prog 35 #[.agg #[v, .int .i64 most, .int .i64 room], .int .i64 (j : Int)] W fun x w' => ∃ ao cap, x = .returned (.tuple #[.agg #[.int .i64 k, .int .i64 m, .int .i64 o, .int .i64 n, .int .i64 p, .int .i64 u, .string (bs d), .slice ao e.length cap], .bool true]) ∧ RdNm w'.heap.size (⟨k, m, o, n, p, u, d, e⟩, .slice ao e.length cap) w' ∧ Below W.heap.size W w' := by
  have hk' : (nd l j).kind ≠ 0 := by rw [hj]; exact hk
  refine (get_g (fun _ => False) l most room (j : Int) v W old_no (gives_no hg) hd.len (fun n hn => Nat.le_trans (hd.sm.2 n hn).2 (by decide))).mono ?_
  rintro x w' ⟨ao, cap, rfl, hr, hb⟩
  rw [nodeL_nd hk', hj] at hr
  rw [nodeL_nd hk', hj, (got_nd l j).2 hk']
  exact ⟨ao, cap, rfl, hr.1, hb⟩
theorem node_at8 (k m o n p u : Int) (d : Nm) (e : List EntL) (hl : e.length ≤ 10000) (v : Value) (W : World) (hg : RdNm W.heap.size (⟨k, m, o, n, p, u, d, e⟩, v) W) :
    Calls Tryz.prog 38 #[.agg #[.int .i64 k, .int .i64 m, .int .i64 o, .int .i64 n, .int .i64 p, .int .i64 u, .string (bs d), v]] W fun x w' => ∃ ao cap, x = .returned (.agg #[.int .i64 k, .int .i64 m, .int .i64 o, .int .i64 n, .int .i64 p, .int .i64 u, .string (bs d), .slice ao e.length cap]) ∧ RdNm w'.heap.size (⟨k, m, o, n, p, u, d, e⟩, .slice ao e.length cap) w' ∧ Below W.heap.size W w' := by
  refine (node_g8 ⟨k, m, o, n, p, u, d, e⟩ hl v W hg).mono ?_
  rintro x w' ⟨v', rfl, hr, hb⟩
  obtain ⟨ao, cap, e1, _, _⟩ := Rd.form hr
  have e2 : v' = .slice ao e.length cap := e1
  subst e2
  exact ⟨ao, cap, rfl, hr, hb⟩
theorem fld_run (k m o n p u : Int) (d : Nm) (v : Value) (W : World) : (Instr.field 74 (.agg #[.int .i64 k, .int .i64 m, .int .i64 o, .int .i64 n, .int .i64 p, .int .i64 u, .string (bs d), v]) 7).run Tryz.prog W = .ok v W := by
  have u := Tryz.underlying74
  unfold Instr.field
  go_simp
  rfl
theorem find_nm {n : NodeL} {v : Value} {W : World} (hg : RdNm W.heap.size (n, v) W) (hl : n.names.length ≤ 10000) (nm : Nm) (r : Option Int) (hr : findL n.names nm = r) :
    Calls Tryz.prog 37 #[v, .string (bs nm)] W fun x w' => x = .returned (.tuple #[.int .i64 (vint r), .bool r.isSome]) ∧ Below W.heap.size W w' := by
  subst hr
  refine (rfind_any W.heap.size v n.names nm W hg hl).mono ?_
  rintro x w' ⟨rfl, rfl⟩
  exact ⟨rfl, Below.refl _ _⟩
theorem sames_at {n m : NodeL} {v v' : Value} {W : World} (he : m.names = n.names) (hg : RdNm W.heap.size (n, v) W) (hg' : RdNm W.heap.size (m, v') W) (hl : n.names.length ≤ 10000) :
    Calls Tryz.prog 39 #[v, v'] W fun x w' => x = .returned (.bool true) ∧ Below W.heap.size W w' := by
  have hg2 : Rd W.heap.size 2 v' n.names.length (ents n.names) W := he ▸ hg'
  refine (same_any W.heap.size v v' n.names n.names W hg hg2 (Nat.le_trans hl (by decide)) (Nat.le_trans hl (by decide))).mono ?_
  rintro x w' h
  obtain ⟨rfl, q, rfl⟩ := h
  exact ⟨by rw [decide_eq_true rfl], below_drewN (Below.refl _ _) q⟩
theorem dsk_names {l : List NodeL} (hd : Dsk l) {j : Nat} {k m o n p u : Int} {d : Nm} {e : List EntL} (hj : nd l j = ⟨k, m, o, n, p, u, d, e⟩) : e.length ≤ 10000 := by
  have := nd_names (fun n hn => Nat.le_trans (hd.sm.2 n hn).2 (show 130 ≤ 10000 by decide)) j
  rw [hj] at this
  exact this
theorem node_parts (x : NodeL) : ∃ k m o n p u d e, x = (⟨k, m, o, n, p, u, d, e⟩ : NodeL) := by
  obtain ⟨k, m, o, n, p, u, d, e⟩ := x
  exact ⟨k, m, o, n, p, u, d, e, rfl⟩
set_option maxRecDepth 100000 in
set_option maxHeartbeats 4000000 in
theorem moves_l (l : List NodeL) (most room : Int) (who fr : Int) (old path : Str) (ao : Option Addr) (cap : Nat) (w : World) (hg : GivesN l (.slice ao l.length cap) w) (hfit : FitD l) {S : Nat → Addr} (hs : Sent S w) :
    Calls Tryz.prog 9 #[diskV ao l.length cap most room, asV who fr, .string (bs old), .string (bs path)] w fun e w' => e = .returned (.bool true) ∧ Below w.heap.size w w' := by
  have S0 := Lib.hid (Sn.start hg)
  have HS := Lib.hid hs
  have HQ := Lib.hid fun v W (hgv : GivesN l v W) => right_g l most room v W hgv hfit
  have HSh := Lib.hid fun W (hs : Sent S W) => shown_any W hs
  clear hg hs hfit
  go_enter Tryz.func9, Tryz.ntmps9
  go_upto_region 1 with (fail)
  refine code_fresh2 ?_
  intro W1 hb hA0 hA1 hs
  have S1 := Lib.hid (S0.out.new2 hb hA0 hA1)
  clear hb hA0 hA1 hs
  obtain ⟨d0, d1, d2⟩ := cells3 (S1.out.at 0 rfl)
  go_wp2_with fail
  refine (HQ.out _ W1 (S1.out.g 0 rfl)).mono ?_
  rintro e W2 ⟨rfl, hb⟩
  clear d0 d1 d2
  have S2 := Lib.hid (S1.out.call hb)
  clear hb
  cases hq : rightQ l most room with
  | false =>
    clear hq
    go_wp2_with fail
    refine (HSh.out W2 (HS.out.keep S2.out.bel)).mono ?_
    rintro e WZ ⟨rfl, hb⟩
    go_wp2_with fail
    go_ret
    exact ⟨rfl, ret_tr S2.out.bel hb⟩
  | true =>
    have HR := Lib.hid hq
    clear hq
    go_wp2_with fail
    refine calls_fresh1 ?_
    intro WS hb hA hs
    have SS := Lib.hid (S2.out.call hb)
    clear hb hs
    refine (short_n [path, old] 2 rfl (by decide) WS hA).mono ?_
    rintro e _ ⟨rfl, rfl⟩
    clear hA
    cases hsh : shortB [path, old] with
    | false =>
      clear hsh
      go_wp2_with fail
      refine (HSh.out WS (HS.out.keep SS.out.bel)).mono ?_
      rintro e WZ ⟨rfl, hb⟩
      go_wp2_with fail
      go_ret
      exact ⟨rfl, ret_tr SS.out.bel hb⟩
    | true =>
      have hplpath : path.length ≤ 10000 := Nat.le_trans (short_yes hsh path (by simp)) (by decide)
      have hplold : old.length ≤ 10000 := Nat.le_trans (short_yes hsh old (by simp)) (by decide)
      clear hsh
      go_wp2_with fail
      refine (HSh.out WS (HS.out.keep SS.out.bel)).mono ?_
      rintro e W3 ⟨rfl, hb⟩
      have S3 := Lib.hid (SS.out.call hb)
      clear hb
      have hB := law_moves (q_right HR.out) (who := who) (fr := fr) old path
      have hC := rename_bad (l := l) (who := who) (fr := fr) (who2 := who) (fr2 := fr) (old := old) (path := path)
      have hp := fun (W : World) (ao : Option Addr) (cap : Nat) (h : GivesX (fun _ => False) l (.slice ao l.length cap) W) (hs : Sent S W) => (prename_g (fun _ => False) l most room who fr who fr old path ao cap W old_no h (q_dsk HR.out) hplold hplpath hs).mono fun _ _ h => chgT h
      have ha := aft_rename HR.out who fr path who fr old
      generalize renameL l who fr who fr old path = R at hp ha hB hC
      obtain ⟨L1, f1⟩ := R
      dsimp only at hp ha hB hC
      have HP1 := Lib.hid hp
      have HA1 := Lib.hid ha
      clear hp ha
      have hw1 := fun (v : Value) (W : World) (h : GivesN l v W) => xrwalk_g (fun _ => False) l (q_dsk HR.out) most room who fr old false hplold v W (gives_no h)
      have hw2 := fun (v : Value) (W : World) (h : GivesN l v W) => xrwalk_g (fun _ => False) l (q_dsk HR.out) most room who fr path false hplpath v W (gives_no h)
      generalize walkL l who fr old false = R at hB hw1
      generalize walkL l who fr path false = Q at hB hw2
      obtain ⟨⟨sd, sn, si, ss⟩, e1⟩ := R
      obtain ⟨⟨td, tn, ti, ts⟩, e2⟩ := Q
      dsimp only at hB
      unfold WalkIs at hw1 hw2
      dsimp only at hw1 hw2
      have HW1 := Lib.hid hw1
      have HW2 := Lib.hid hw2
      have HB := Lib.hid hB
      have HC := Lib.hid hC
      clear hw1 hw2 hB hC
      have HA := Lib.hid (q_aft HR.out)
      go_upto_region 3 with (fail)
      go_cut [9, 10] from 42 to 52 (fun s0 s1 wx => s1 = .int .i64 e1 ∧ CutS W3 sd sn si ss s0 wx)
      case first =>
        have S4 := Lib.hid S3.out.st
        have h_d := (S3.out.at' S4.out.bel 0 rfl)
        refine wp_region_held_drew (S := fun W => W.heap[w.heap.size]? = some (.cells #[.slice ao l.length cap, .int .i64 most, .int .i64 room] 24 (0, 0)) ∧ W.cell? ⟨w.heap.size + 1, 0, none⟩ = some (.int .i64 who) ∧ W.cell? ⟨w.heap.size + 1, 1, none⟩ = some (.int .i64 fr) ∧ True) (by kernel_rfl) ⟨(S3.out.at' S4.out.bel 0 rfl), (cells2 (S3.out.at' S4.out.bel 1 rfl)).1, (cells2 (S3.out.at' S4.out.bel 1 rfl)).2, trivial⟩ (fun hHeld => ?_)
        clear h_d
        have S5 := Lib.hid (S4.out.call (Below.refl W3.heap.size W3).drew)
        generalize W3.drew = W5 at *
        refine wpAnyH_take (i := 0) rfl (by kernel_rfl) (by kernel_rfl) (by kernel_rfl) (fun _ _ _ h => h) (yieldsIf_load_row (by rfl) 24 _ rfl _ rfl 24 _ (0, 0) _ (fun _ h => h.1) Tryz.underlying24 rfl (by kernel_rfl)) hHeld ?_
        (try simp only [pt, Act.put])
        refine wpAnyH_take (i := 2) (v := ?v1) rfl (by kernel_rfl) (by kernel_rfl) (by kernel_rfl) (fun _ _ _ h => h) (Or.inl ⟨by rfl, ?hy1⟩) hHeld ?rest1
        case hy1 => (intro w hSw; (try dsimp only at hSw); (try go_split_ands); go_simp; first | done | with_reducible rfl)
        (try simp only [pt, Act.put])
        refine wpAnyH_take (i := 3) (v := ?v2) rfl (by kernel_rfl) (by kernel_rfl) (by kernel_rfl) (fun _ _ _ h => h) (Or.inl ⟨by rfl, ?hy2⟩) hHeld ?rest2
        case hy2 => (intro w hSw; (try dsimp only at hSw); (try go_split_ands); go_simp; first | done | with_reducible rfl)
        (try simp only [pt, Act.put])
        refine wpAnyH_take (i := 4) (v := ?v3) rfl (by kernel_rfl) (by kernel_rfl) (by kernel_rfl) (fun _ _ _ h => h) (Or.inl ⟨by rfl, ?hy3⟩) hHeld ?rest3
        case hy3 => (intro w hSw; (try dsimp only at hSw); (try go_split_ands); go_simp; first | done | with_reducible rfl)
        (try simp only [pt, Act.put])
        refine wpAnyH_take (i := 5) (v := ?v4) rfl (by kernel_rfl) (by kernel_rfl) (by kernel_rfl) (fun _ _ _ h => h) (Or.inl ⟨by rfl, ?hy4⟩) hHeld ?rest4
        case hy4 => (intro w hSw; (try dsimp only at hSw); (try go_split_ands); go_simp; first | done | with_reducible rfl)
        (try simp only [pt, Act.put])
        refine wpAnyH_take (i := 6) (v := ?v5) rfl (by kernel_rfl) (by kernel_rfl) (by kernel_rfl) (fun _ _ _ h => h) (Or.inl ⟨by rfl, ?hy5⟩) hHeld ?rest5
        case hy5 => (intro w hSw; (try dsimp only at hSw); (try go_split_ands); go_simp; first | done | with_reducible rfl)
        (try simp only [pt, Act.put])
        refine wpAnyH_ready (rs := [1, 11]) (by kernel_rfl) (by simp) ?_
        refine AllReadyH.cons rfl (fun K hK => ?_) (AllReadyH.cons rfl (fun K hK => ?_) AllReadyH.nil)
        · skip
          go_simp
          refine (its_y _ l most room HA.out.dsk.len HA.out.names _ W5 S5.out.oldX (S5.out.g 0 rfl).gives).mono ?_
          rintro e W6 ⟨aoe, cpe, rfl, hge, hb⟩
          have S6 := Lib.hid ((S5.out.call hb).addG hge)
          clear hb hHeld hge
          go_wp2_with fail
          refine hK.out _ _ ⟨(S3.out.at' S6.out.bel 0 rfl), (cells2 (S3.out.at' S6.out.bel 1 rfl)).1, (cells2 (S3.out.at' S6.out.bel 1 rfl)).2, trivial⟩ (fun hHeld => ?_)
          clear hK K
          (try simp only [pt, Act.put])
          refine wpAnyH_ready (rs := [7, 11]) (by kernel_rfl) (by simp) ?_
          refine AllReadyH.cons rfl (fun K hK => ?_) (AllReadyH.cons rfl (fun K hK => ?_) AllReadyH.nil)
          · skip
            go_simp
            refine (HW1.out _ W6 (S6.out.g 1 rfl).gives).mono ?_
            rintro e W7 ⟨rfl, hb⟩
            have S7 := Lib.hid (S6.out.call hb)
            clear hb hHeld
            go_wp2_with fail
            refine hK.out _ _ ⟨(S3.out.at' S7.out.bel 0 rfl), (cells2 (S3.out.at' S7.out.bel 1 rfl)).1, (cells2 (S3.out.at' S7.out.bel 1 rfl)).2, trivial⟩ (fun hHeld => ?_)
            clear hK K
            (try simp only [pt, Act.put])
            refine wpAnyH_take (i := 8) (v := ?v6) rfl (by kernel_rfl) (by kernel_rfl) (by kernel_rfl) (fun _ _ _ h => h) (Or.inl ⟨by rfl, ?hy6⟩) hHeld ?rest6
            case hy6 => (intro w hSw; (try dsimp only at hSw); (try go_split_ands); go_simp; first | done | with_reducible rfl)
            (try simp only [pt, Act.put])
            refine wpAnyH_take (i := 9) (v := ?v7) rfl (by kernel_rfl) (by kernel_rfl) (by kernel_rfl) (fun _ _ _ h => h) (Or.inl ⟨by rfl, ?hy7⟩) hHeld ?rest7
            case hy7 => (intro w hSw; (try dsimp only at hSw); (try go_split_ands); go_simp; first | done | with_reducible rfl)
            (try simp only [pt, Act.put])
            refine wpAnyH_take (i := 10) (v := ?v8) rfl (by kernel_rfl) (by kernel_rfl) (by kernel_rfl) (fun _ _ _ h => h) (Or.inl ⟨by rfl, ?hy8⟩) hHeld ?rest8
            case hy8 => (intro w hSw; (try dsimp only at hSw); (try go_split_ands); go_simp; first | done | with_reducible rfl)
            (try simp only [pt, Act.put])
            refine wpAnyH_ready (rs := [11]) (by kernel_rfl) (by simp) ?_
            refine AllReadyH.cons rfl (fun K hK => ?_) AllReadyH.nil
            go_simp
            refine fresh1 (P := fun W => K _ W) ?_
            intro W8 hb hn hs
            have S8 := Lib.hid (S7.out.new1 hb hn)
            clear hb hn hs hHeld
            refine hK.out _ _ ⟨(S3.out.at' S8.out.bel 0 rfl), (cells2 (S3.out.at' S8.out.bel 1 rfl)).1, (cells2 (S3.out.at' S8.out.bel 1 rfl)).2, trivial⟩ (fun hHeld => ?_)
            clear hK K
            (try simp only [pt, Act.put])
            refine wpAnyH_ready (rs := [12]) (by kernel_rfl) (by simp) ?_
            refine AllReadyH.cons rfl (fun K hK => ?_) AllReadyH.nil
            rw [if_pos (by rfl)]
            refine wp_store_row 67 _ _ rfl _ rfl rfl (S8.out.at 0 rfl) rfl (by kernel_rfl) rfl ?_
            intro W9 hb hg hs hn
            have S9 := Lib.hid (S8.out.set 0 rfl hb hg hs hn)
            clear hb hg hs hn hHeld
            refine hK.out _ _ ⟨(S3.out.at' S9.out.bel 0 rfl), (cells2 (S3.out.at' S9.out.bel 1 rfl)).1, (cells2 (S3.out.at' S9.out.bel 1 rfl)).2, trivial⟩ (fun hHeld => ?_)
            clear hK K
            (try simp only [pt, Act.put])
            refine wpAnyH_take (i := 13) (v := ?v9) rfl (by kernel_rfl) (by kernel_rfl) (by kernel_rfl) (fun _ _ _ h => h) (Or.inl ⟨by rfl, ?hy9⟩) hHeld ?rest9
            case hy9 => (intro w hSw; (try dsimp only at hSw); (try go_split_ands); go_simp; first | done | with_reducible rfl)
            (try simp only [pt, Act.put])
            refine wpAnyH_done (by kernel_rfl) ?_ _
            go_wp2_with fail
            go_meet
            exact ⟨rfl, _, rfl, S9.out.at 0 rfl, S9.out.bel⟩
          · skip
            go_simp
            refine fresh1 (P := fun W => K _ W) ?_
            intro W7 hb hn hs
            have S7 := Lib.hid (S6.out.new1 hb hn)
            clear hb hn hs hHeld
            refine hK.out _ _ ⟨(S3.out.at' S7.out.bel 0 rfl), (cells2 (S3.out.at' S7.out.bel 1 rfl)).1, (cells2 (S3.out.at' S7.out.bel 1 rfl)).2, trivial⟩ (fun hHeld => ?_)
            clear hK K
            (try simp only [pt, Act.put])
            refine wpAnyH_ready (rs := [7]) (by kernel_rfl) (by simp) ?_
            refine AllReadyH.cons rfl (fun K hK => ?_) AllReadyH.nil
            go_simp
            refine (HW1.out _ W7 (S7.out.g 1 rfl).gives).mono ?_
            rintro e W8 ⟨rfl, hb⟩
            have S8 := Lib.hid (S7.out.call hb)
            clear hb hHeld
            go_wp2_with fail
            refine hK.out _ _ ⟨(S3.out.at' S8.out.bel 0 rfl), (cells2 (S3.out.at' S8.out.bel 1 rfl)).1, (cells2 (S3.out.at' S8.out.bel 1 rfl)).2, trivial⟩ (fun hHeld => ?_)
            clear hK K
            (try simp only [pt, Act.put])
            refine wpAnyH_take (i := 8) (v := ?v10) rfl (by kernel_rfl) (by kernel_rfl) (by kernel_rfl) (fun _ _ _ h => h) (Or.inl ⟨by rfl, ?hy10⟩) hHeld ?rest10
            case hy10 => (intro w hSw; (try dsimp only at hSw); (try go_split_ands); go_simp; first | done | with_reducible rfl)
            (try simp only [pt, Act.put])
            refine wpAnyH_take (i := 9) (v := ?v11) rfl (by kernel_rfl) (by kernel_rfl) (by kernel_rfl) (fun _ _ _ h => h) (Or.inl ⟨by rfl, ?hy11⟩) hHeld ?rest11
            case hy11 => (intro w hSw; (try dsimp only at hSw); (try go_split_ands); go_simp; first | done | with_reducible rfl)
            (try simp only [pt, Act.put])
            refine wpAnyH_take (i := 10) (v := ?v12) rfl (by kernel_rfl) (by kernel_rfl) (by kernel_rfl) (fun _ _ _ h => h) (Or.inl ⟨by rfl, ?hy12⟩) hHeld ?rest12
            case hy12 => (intro w hSw; (try dsimp only at hSw); (try go_split_ands); go_simp; first | done | with_reducible rfl)
            (try simp only [pt, Act.put])
            refine wpAnyH_ready (rs := [12]) (by kernel_rfl) (by simp) ?_
            refine AllReadyH.cons rfl (fun K hK => ?_) AllReadyH.nil
            rw [if_pos (by rfl)]
            refine wp_store_row 67 _ _ rfl _ rfl rfl (S8.out.at 0 rfl) rfl (by kernel_rfl) rfl ?_
            intro W9 hb hg hs hn
            have S9 := Lib.hid (S8.out.set 0 rfl hb hg hs hn)
            clear hb hg hs hn hHeld
            refine hK.out _ _ ⟨(S3.out.at' S9.out.bel 0 rfl), (cells2 (S3.out.at' S9.out.bel 1 rfl)).1, (cells2 (S3.out.at' S9.out.bel 1 rfl)).2, trivial⟩ (fun hHeld => ?_)
            clear hK K
            (try simp only [pt, Act.put])
            refine wpAnyH_take (i := 13) (v := ?v13) rfl (by kernel_rfl) (by kernel_rfl) (by kernel_rfl) (fun _ _ _ h => h) (Or.inl ⟨by rfl, ?hy13⟩) hHeld ?rest13
            case hy13 => (intro w hSw; (try dsimp only at hSw); (try go_split_ands); go_simp; first | done | with_reducible rfl)
            (try simp only [pt, Act.put])
            refine wpAnyH_done (by kernel_rfl) ?_ _
            go_wp2_with fail
            go_meet
            exact ⟨rfl, _, rfl, S9.out.at 0 rfl, S9.out.bel⟩
        · skip
          go_simp
          refine fresh1 (P := fun W => K _ W) ?_
          intro W6 hb hn hs
          have S6 := Lib.hid (S5.out.new1 hb hn)
          clear hb hn hs hHeld
          refine hK.out _ _ ⟨(S3.out.at' S6.out.bel 0 rfl), (cells2 (S3.out.at' S6.out.bel 1 rfl)).1, (cells2 (S3.out.at' S6.out.bel 1 rfl)).2, trivial⟩ (fun hHeld => ?_)
          clear hK K
          (try simp only [pt, Act.put])
          refine wpAnyH_ready (rs := [1]) (by kernel_rfl) (by simp) ?_
          refine AllReadyH.cons rfl (fun K hK => ?_) AllReadyH.nil
          go_simp
          refine (its_y _ l most room HA.out.dsk.len HA.out.names _ W6 S6.out.oldX (S6.out.g 0 rfl).gives).mono ?_
          rintro e W7 ⟨aoe, cpe, rfl, hge, hb⟩
          have S7 := Lib.hid ((S6.out.call hb).addG hge)
          clear hb hHeld hge
          go_wp2_with fail
          refine hK.out _ _ ⟨(S3.out.at' S7.out.bel 0 rfl), (cells2 (S3.out.at' S7.out.bel 1 rfl)).1, (cells2 (S3.out.at' S7.out.bel 1 rfl)).2, trivial⟩ (fun hHeld => ?_)
          clear hK K
          (try simp only [pt, Act.put])
          refine wpAnyH_ready (rs := [7]) (by kernel_rfl) (by simp) ?_
          refine AllReadyH.cons rfl (fun K hK => ?_) AllReadyH.nil
          go_simp
          refine (HW1.out _ W7 (S7.out.g 1 rfl).gives).mono ?_
          rintro e W8 ⟨rfl, hb⟩
          have S8 := Lib.hid (S7.out.call hb)
          clear hb hHeld
          go_wp2_with fail
          refine hK.out _ _ ⟨(S3.out.at' S8.out.bel 0 rfl), (cells2 (S3.out.at' S8.out.bel 1 rfl)).1, (cells2 (S3.out.at' S8.out.bel 1 rfl)).2, trivial⟩ (fun hHeld => ?_)
          clear hK K
          (try simp only [pt, Act.put])
          refine wpAnyH_take (i := 8) (v := ?v14) rfl (by kernel_rfl) (by kernel_rfl) (by kernel_rfl) (fun _ _ _ h => h) (Or.inl ⟨by rfl, ?hy14⟩) hHeld ?rest14
          case hy14 => (intro w hSw; (try dsimp only at hSw); (try go_split_ands); go_simp; first | done | with_reducible rfl)
          (try simp only [pt, Act.put])
          refine wpAnyH_take (i := 9) (v := ?v15) rfl (by kernel_rfl) (by kernel_rfl) (by kernel_rfl) (fun _ _ _ h => h) (Or.inl ⟨by rfl, ?hy15⟩) hHeld ?rest15
          case hy15 => (intro w hSw; (try dsimp only at hSw); (try go_split_ands); go_simp; first | done | with_reducible rfl)
          (try simp only [pt, Act.put])
          refine wpAnyH_take (i := 10) (v := ?v16) rfl (by kernel_rfl) (by kernel_rfl) (by kernel_rfl) (fun _ _ _ h => h) (Or.inl ⟨by rfl, ?hy16⟩) hHeld ?rest16
          case hy16 => (intro w hSw; (try dsimp only at hSw); (try go_split_ands); go_simp; first | done | with_reducible rfl)
          (try simp only [pt, Act.put])
          refine wpAnyH_ready (rs := [12]) (by kernel_rfl) (by simp) ?_
          refine AllReadyH.cons rfl (fun K hK => ?_) AllReadyH.nil
          rw [if_pos (by rfl)]
          refine wp_store_row 67 _ _ rfl _ rfl rfl (S8.out.at 0 rfl) rfl (by kernel_rfl) rfl ?_
          intro W9 hb hg hs hn
          have S9 := Lib.hid (S8.out.set 0 rfl hb hg hs hn)
          clear hb hg hs hn hHeld
          refine hK.out _ _ ⟨(S3.out.at' S9.out.bel 0 rfl), (cells2 (S3.out.at' S9.out.bel 1 rfl)).1, (cells2 (S3.out.at' S9.out.bel 1 rfl)).2, trivial⟩ (fun hHeld => ?_)
          clear hK K
          (try simp only [pt, Act.put])
          refine wpAnyH_take (i := 13) (v := ?v17) rfl (by kernel_rfl) (by kernel_rfl) (by kernel_rfl) (fun _ _ _ h => h) (Or.inl ⟨by rfl, ?hy17⟩) hHeld ?rest17
          case hy17 => (intro w hSw; (try dsimp only at hSw); (try go_split_ands); go_simp; first | done | with_reducible rfl)
          (try simp only [pt, Act.put])
          refine wpAnyH_done (by kernel_rfl) ?_ _
          go_wp2_with fail
          go_meet
          exact ⟨rfl, _, rfl, S9.out.at 0 rfl, S9.out.bel⟩
      case rest =>
      obtain ⟨rfl, bY, rfl, hblk, hbY⟩ := hcut
      have S4 := Lib.hid (S3.out.add1 hbY hblk)
      clear hbY hblk
      generalize wc = W4 at *
      generalize bY = blks at *
      go_upto_region 4 with (fail)
      go_cut [11, 12] from 53 to 63 (fun s0 s1 wx => s1 = .int .i64 e2 ∧ CutS W4 td tn ti ts s0 wx)
      case first =>
        have S5 := Lib.hid S4.out.st
        have h_d := (S4.out.at' S5.out.bel 0 rfl)
        refine wp_region_held_drew (S := fun W => W.heap[w.heap.size]? = some (.cells #[.slice ao l.length cap, .int .i64 most, .int .i64 room] 24 (0, 0)) ∧ W.cell? ⟨w.heap.size + 1, 0, none⟩ = some (.int .i64 who) ∧ W.cell? ⟨w.heap.size + 1, 1, none⟩ = some (.int .i64 fr) ∧ True) (by kernel_rfl) ⟨(S4.out.at' S5.out.bel 0 rfl), (cells2 (S4.out.at' S5.out.bel 1 rfl)).1, (cells2 (S4.out.at' S5.out.bel 1 rfl)).2, trivial⟩ (fun hHeld => ?_)
        clear h_d
        have S6 := Lib.hid (S5.out.call (Below.refl W4.heap.size W4).drew)
        generalize W4.drew = W6 at *
        refine wpAnyH_take (i := 0) rfl (by kernel_rfl) (by kernel_rfl) (by kernel_rfl) (fun _ _ _ h => h) (yieldsIf_load_row (by rfl) 24 _ rfl _ rfl 24 _ (0, 0) _ (fun _ h => h.1) Tryz.underlying24 rfl (by kernel_rfl)) hHeld ?_
        (try simp only [pt, Act.put])
        refine wpAnyH_take (i := 2) (v := ?v18) rfl (by kernel_rfl) (by kernel_rfl) (by kernel_rfl) (fun _ _ _ h => h) (Or.inl ⟨by rfl, ?hy18⟩) hHeld ?rest18
        case hy18 => (intro w hSw; (try dsimp only at hSw); (try go_split_ands); go_simp; first | done | with_reducible rfl)
        (try simp only [pt, Act.put])
        refine wpAnyH_take (i := 3) (v := ?v19) rfl (by kernel_rfl) (by kernel_rfl) (by kernel_rfl) (fun _ _ _ h => h) (Or.inl ⟨by rfl, ?hy19⟩) hHeld ?rest19
        case hy19 => (intro w hSw; (try dsimp only at hSw); (try go_split_ands); go_simp; first | done | with_reducible rfl)
        (try simp only [pt, Act.put])
        refine wpAnyH_take (i := 4) (v := ?v20) rfl (by kernel_rfl) (by kernel_rfl) (by kernel_rfl) (fun _ _ _ h => h) (Or.inl ⟨by rfl, ?hy20⟩) hHeld ?rest20
        case hy20 => (intro w hSw; (try dsimp only at hSw); (try go_split_ands); go_simp; first | done | with_reducible rfl)
        (try simp only [pt, Act.put])
        refine wpAnyH_take (i := 5) (v := ?v21) rfl (by kernel_rfl) (by kernel_rfl) (by kernel_rfl) (fun _ _ _ h => h) (Or.inl ⟨by rfl, ?hy21⟩) hHeld ?rest21
        case hy21 => (intro w hSw; (try dsimp only at hSw); (try go_split_ands); go_simp; first | done | with_reducible rfl)
        (try simp only [pt, Act.put])
        refine wpAnyH_take (i := 6) (v := ?v22) rfl (by kernel_rfl) (by kernel_rfl) (by kernel_rfl) (fun _ _ _ h => h) (Or.inl ⟨by rfl, ?hy22⟩) hHeld ?rest22
        case hy22 => (intro w hSw; (try dsimp only at hSw); (try go_split_ands); go_simp; first | done | with_reducible rfl)
        (try simp only [pt, Act.put])
        refine wpAnyH_ready (rs := [1, 11]) (by kernel_rfl) (by simp) ?_
        refine AllReadyH.cons rfl (fun K hK => ?_) (AllReadyH.cons rfl (fun K hK => ?_) AllReadyH.nil)
        · skip
          go_simp
          refine (its_y _ l most room HA.out.dsk.len HA.out.names _ W6 S6.out.oldX (S6.out.g 0 rfl).gives).mono ?_
          rintro e W7 ⟨aoe, cpe, rfl, hge, hb⟩
          have S7 := Lib.hid ((S6.out.call hb).addG hge)
          clear hb hHeld hge
          go_wp2_with fail
          refine hK.out _ _ ⟨(S4.out.at' S7.out.bel 0 rfl), (cells2 (S4.out.at' S7.out.bel 1 rfl)).1, (cells2 (S4.out.at' S7.out.bel 1 rfl)).2, trivial⟩ (fun hHeld => ?_)
          clear hK K
          (try simp only [pt, Act.put])
          refine wpAnyH_ready (rs := [7, 11]) (by kernel_rfl) (by simp) ?_
          refine AllReadyH.cons rfl (fun K hK => ?_) (AllReadyH.cons rfl (fun K hK => ?_) AllReadyH.nil)
          · skip
            go_simp
            refine (HW2.out _ W7 (S7.out.g 1 rfl).gives).mono ?_
            rintro e W8 ⟨rfl, hb⟩
            have S8 := Lib.hid (S7.out.call hb)
            clear hb hHeld
            go_wp2_with fail
            refine hK.out _ _ ⟨(S4.out.at' S8.out.bel 0 rfl), (cells2 (S4.out.at' S8.out.bel 1 rfl)).1, (cells2 (S4.out.at' S8.out.bel 1 rfl)).2, trivial⟩ (fun hHeld => ?_)
            clear hK K
            (try simp only [pt, Act.put])
            refine wpAnyH_take (i := 8) (v := ?v23) rfl (by kernel_rfl) (by kernel_rfl) (by kernel_rfl) (fun _ _ _ h => h) (Or.inl ⟨by rfl, ?hy23⟩) hHeld ?rest23
            case hy23 => (intro w hSw; (try dsimp only at hSw); (try go_split_ands); go_simp; first | done | with_reducible rfl)
            (try simp only [pt, Act.put])
            refine wpAnyH_take (i := 9) (v := ?v24) rfl (by kernel_rfl) (by kernel_rfl) (by kernel_rfl) (fun _ _ _ h => h) (Or.inl ⟨by rfl, ?hy24⟩) hHeld ?rest24
            case hy24 => (intro w hSw; (try dsimp only at hSw); (try go_split_ands); go_simp; first | done | with_reducible rfl)
            (try simp only [pt, Act.put])
            refine wpAnyH_take (i := 10) (v := ?v25) rfl (by kernel_rfl) (by kernel_rfl) (by kernel_rfl) (fun _ _ _ h => h) (Or.inl ⟨by rfl, ?hy25⟩) hHeld ?rest25
            case hy25 => (intro w hSw; (try dsimp only at hSw); (try go_split_ands); go_simp; first | done | with_reducible rfl)
            (try simp only [pt, Act.put])
            refine wpAnyH_ready (rs := [11]) (by kernel_rfl) (by simp) ?_
            refine AllReadyH.cons rfl (fun K hK => ?_) AllReadyH.nil
            go_simp
            refine fresh1 (P := fun W => K _ W) ?_
            intro W9 hb hn hs
            have S9 := Lib.hid (S8.out.new1 hb hn)
            clear hb hn hs hHeld
            refine hK.out _ _ ⟨(S4.out.at' S9.out.bel 0 rfl), (cells2 (S4.out.at' S9.out.bel 1 rfl)).1, (cells2 (S4.out.at' S9.out.bel 1 rfl)).2, trivial⟩ (fun hHeld => ?_)
            clear hK K
            (try simp only [pt, Act.put])
            refine wpAnyH_ready (rs := [12]) (by kernel_rfl) (by simp) ?_
            refine AllReadyH.cons rfl (fun K hK => ?_) AllReadyH.nil
            rw [if_pos (by rfl)]
            refine wp_store_row 67 _ _ rfl _ rfl rfl (S9.out.at 0 rfl) rfl (by kernel_rfl) rfl ?_
            intro W10 hb hg hs hn
            have S10 := Lib.hid (S9.out.set 0 rfl hb hg hs hn)
            clear hb hg hs hn hHeld
            refine hK.out _ _ ⟨(S4.out.at' S10.out.bel 0 rfl), (cells2 (S4.out.at' S10.out.bel 1 rfl)).1, (cells2 (S4.out.at' S10.out.bel 1 rfl)).2, trivial⟩ (fun hHeld => ?_)
            clear hK K
            (try simp only [pt, Act.put])
            refine wpAnyH_take (i := 13) (v := ?v26) rfl (by kernel_rfl) (by kernel_rfl) (by kernel_rfl) (fun _ _ _ h => h) (Or.inl ⟨by rfl, ?hy26⟩) hHeld ?rest26
            case hy26 => (intro w hSw; (try dsimp only at hSw); (try go_split_ands); go_simp; first | done | with_reducible rfl)
            (try simp only [pt, Act.put])
            refine wpAnyH_done (by kernel_rfl) ?_ _
            go_wp2_with fail
            go_meet
            exact ⟨rfl, _, rfl, S10.out.at 0 rfl, S10.out.bel⟩
          · skip
            go_simp
            refine fresh1 (P := fun W => K _ W) ?_
            intro W8 hb hn hs
            have S8 := Lib.hid (S7.out.new1 hb hn)
            clear hb hn hs hHeld
            refine hK.out _ _ ⟨(S4.out.at' S8.out.bel 0 rfl), (cells2 (S4.out.at' S8.out.bel 1 rfl)).1, (cells2 (S4.out.at' S8.out.bel 1 rfl)).2, trivial⟩ (fun hHeld => ?_)
            clear hK K
            (try simp only [pt, Act.put])
            refine wpAnyH_ready (rs := [7]) (by kernel_rfl) (by simp) ?_
            refine AllReadyH.cons rfl (fun K hK => ?_) AllReadyH.nil
            go_simp
            refine (HW2.out _ W8 (S8.out.g 1 rfl).gives).mono ?_
            rintro e W9 ⟨rfl, hb⟩
            have S9 := Lib.hid (S8.out.call hb)
            clear hb hHeld
            go_wp2_with fail
            refine hK.out _ _ ⟨(S4.out.at' S9.out.bel 0 rfl), (cells2 (S4.out.at' S9.out.bel 1 rfl)).1, (cells2 (S4.out.at' S9.out.bel 1 rfl)).2, trivial⟩ (fun hHeld => ?_)
            clear hK K
            (try simp only [pt, Act.put])
            refine wpAnyH_take (i := 8) (v := ?v27) rfl (by kernel_rfl) (by kernel_rfl) (by kernel_rfl) (fun _ _ _ h => h) (Or.inl ⟨by rfl, ?hy27⟩) hHeld ?rest27
            case hy27 => (intro w hSw; (try dsimp only at hSw); (try go_split_ands); go_simp; first | done | with_reducible rfl)
            (try simp only [pt, Act.put])
            refine wpAnyH_take (i := 9) (v := ?v28) rfl (by kernel_rfl) (by kernel_rfl) (by kernel_rfl) (fun _ _ _ h => h) (Or.inl ⟨by rfl, ?hy28⟩) hHeld ?rest28
            case hy28 => (intro w hSw; (try dsimp only at hSw); (try go_split_ands); go_simp; first | done | with_reducible rfl)
            (try simp only [pt, Act.put])
            refine wpAnyH_take (i := 10) (v := ?v29) rfl (by kernel_rfl) (by kernel_rfl) (by kernel_rfl) (fun _ _ _ h => h) (Or.inl ⟨by rfl, ?hy29⟩) hHeld ?rest29
            case hy29 => (intro w hSw; (try dsimp only at hSw); (try go_split_ands); go_simp; first | done | with_reducible rfl)
            (try simp only [pt, Act.put])
            refine wpAnyH_ready (rs := [12]) (by kernel_rfl) (by simp) ?_
            refine AllReadyH.cons rfl (fun K hK => ?_) AllReadyH.nil
            rw [if_pos (by rfl)]
            refine wp_store_row 67 _ _ rfl _ rfl rfl (S9.out.at 0 rfl) rfl (by kernel_rfl) rfl ?_
            intro W10 hb hg hs hn
            have S10 := Lib.hid (S9.out.set 0 rfl hb hg hs hn)
            clear hb hg hs hn hHeld
            refine hK.out _ _ ⟨(S4.out.at' S10.out.bel 0 rfl), (cells2 (S4.out.at' S10.out.bel 1 rfl)).1, (cells2 (S4.out.at' S10.out.bel 1 rfl)).2, trivial⟩ (fun hHeld => ?_)
            clear hK K
            (try simp only [pt, Act.put])
            refine wpAnyH_take (i := 13) (v := ?v30) rfl (by kernel_rfl) (by kernel_rfl) (by kernel_rfl) (fun _ _ _ h => h) (Or.inl ⟨by rfl, ?hy30⟩) hHeld ?rest30
            case hy30 => (intro w hSw; (try dsimp only at hSw); (try go_split_ands); go_simp; first | done | with_reducible rfl)
            (try simp only [pt, Act.put])
            refine wpAnyH_done (by kernel_rfl) ?_ _
            go_wp2_with fail
            go_meet
            exact ⟨rfl, _, rfl, S10.out.at 0 rfl, S10.out.bel⟩
        · skip
          go_simp
          refine fresh1 (P := fun W => K _ W) ?_
          intro W7 hb hn hs
          have S7 := Lib.hid (S6.out.new1 hb hn)
          clear hb hn hs hHeld
          refine hK.out _ _ ⟨(S4.out.at' S7.out.bel 0 rfl), (cells2 (S4.out.at' S7.out.bel 1 rfl)).1, (cells2 (S4.out.at' S7.out.bel 1 rfl)).2, trivial⟩ (fun hHeld => ?_)
          clear hK K
          (try simp only [pt, Act.put])
          refine wpAnyH_ready (rs := [1]) (by kernel_rfl) (by simp) ?_
          refine AllReadyH.cons rfl (fun K hK => ?_) AllReadyH.nil
          go_simp
          refine (its_y _ l most room HA.out.dsk.len HA.out.names _ W7 S7.out.oldX (S7.out.g 0 rfl).gives).mono ?_
          rintro e W8 ⟨aoe, cpe, rfl, hge, hb⟩
          have S8 := Lib.hid ((S7.out.call hb).addG hge)
          clear hb hHeld hge
          go_wp2_with fail
          refine hK.out _ _ ⟨(S4.out.at' S8.out.bel 0 rfl), (cells2 (S4.out.at' S8.out.bel 1 rfl)).1, (cells2 (S4.out.at' S8.out.bel 1 rfl)).2, trivial⟩ (fun hHeld => ?_)
          clear hK K
          (try simp only [pt, Act.put])
          refine wpAnyH_ready (rs := [7]) (by kernel_rfl) (by simp) ?_
          refine AllReadyH.cons rfl (fun K hK => ?_) AllReadyH.nil
          go_simp
          refine (HW2.out _ W8 (S8.out.g 1 rfl).gives).mono ?_
          rintro e W9 ⟨rfl, hb⟩
          have S9 := Lib.hid (S8.out.call hb)
          clear hb hHeld
          go_wp2_with fail
          refine hK.out _ _ ⟨(S4.out.at' S9.out.bel 0 rfl), (cells2 (S4.out.at' S9.out.bel 1 rfl)).1, (cells2 (S4.out.at' S9.out.bel 1 rfl)).2, trivial⟩ (fun hHeld => ?_)
          clear hK K
          (try simp only [pt, Act.put])
          refine wpAnyH_take (i := 8) (v := ?v31) rfl (by kernel_rfl) (by kernel_rfl) (by kernel_rfl) (fun _ _ _ h => h) (Or.inl ⟨by rfl, ?hy31⟩) hHeld ?rest31
          case hy31 => (intro w hSw; (try dsimp only at hSw); (try go_split_ands); go_simp; first | done | with_reducible rfl)
          (try simp only [pt, Act.put])
          refine wpAnyH_take (i := 9) (v := ?v32) rfl (by kernel_rfl) (by kernel_rfl) (by kernel_rfl) (fun _ _ _ h => h) (Or.inl ⟨by rfl, ?hy32⟩) hHeld ?rest32
          case hy32 => (intro w hSw; (try dsimp only at hSw); (try go_split_ands); go_simp; first | done | with_reducible rfl)
          (try simp only [pt, Act.put])
          refine wpAnyH_take (i := 10) (v := ?v33) rfl (by kernel_rfl) (by kernel_rfl) (by kernel_rfl) (fun _ _ _ h => h) (Or.inl ⟨by rfl, ?hy33⟩) hHeld ?rest33
          case hy33 => (intro w hSw; (try dsimp only at hSw); (try go_split_ands); go_simp; first | done | with_reducible rfl)
          (try simp only [pt, Act.put])
          refine wpAnyH_ready (rs := [12]) (by kernel_rfl) (by simp) ?_
          refine AllReadyH.cons rfl (fun K hK => ?_) AllReadyH.nil
          rw [if_pos (by rfl)]
          refine wp_store_row 67 _ _ rfl _ rfl rfl (S9.out.at 0 rfl) rfl (by kernel_rfl) rfl ?_
          intro W10 hb hg hs hn
          have S10 := Lib.hid (S9.out.set 0 rfl hb hg hs hn)
          clear hb hg hs hn hHeld
          refine hK.out _ _ ⟨(S4.out.at' S10.out.bel 0 rfl), (cells2 (S4.out.at' S10.out.bel 1 rfl)).1, (cells2 (S4.out.at' S10.out.bel 1 rfl)).2, trivial⟩ (fun hHeld => ?_)
          clear hK K
          (try simp only [pt, Act.put])
          refine wpAnyH_take (i := 13) (v := ?v34) rfl (by kernel_rfl) (by kernel_rfl) (by kernel_rfl) (fun _ _ _ h => h) (Or.inl ⟨by rfl, ?hy34⟩) hHeld ?rest34
          case hy34 => (intro w hSw; (try dsimp only at hSw); (try go_split_ands); go_simp; first | done | with_reducible rfl)
          (try simp only [pt, Act.put])
          refine wpAnyH_done (by kernel_rfl) ?_ _
          go_wp2_with fail
          go_meet
          exact ⟨rfl, _, rfl, S10.out.at 0 rfl, S10.out.bel⟩
      case rest =>
      obtain ⟨rfl, bY, rfl, hblk, hbY⟩ := hcut
      have S5 := Lib.hid (S4.out.add1 hbY hblk)
      clear hbY hblk
      generalize wc = W5 at *
      generalize bY = blkt at *
      obtain ⟨d0, d1, d2⟩ := cells3 (S5.out.at 0 rfl)
      obtain ⟨a0, a1⟩ := cells2 (S5.out.at 1 rfl)
      go_wp2_with fail
      refine (HP1.out W5 _ _ (S5.out.gx 0 rfl) (HS.out.keep S5.out.bel)).mono ?_
      rintro e W6 ⟨ao1, cp1, rfl, hg1, hb⟩
      clear d0 d1 d2 a0 a1
      have S6 := Lib.hid ((S5.out.call hb).addG hg1)
      clear hb hg1
      go_upto_region 6 with (fail)
      refine code_fresh1 ?_
      intro W7 hb hA0 hs
      have S7 := Lib.hid (S6.out.new1 hb hA0)
      clear hb hA0 hs
      by_cases hf1 : f1 = 0
      · subst hf1
        obtain ⟨he1, he2, hsi, hw⟩ := HB.out rfl
        subst he1 he2
        have h0 : decide (si < 0) = false := decide_eq_false (by omega)
        obtain ⟨s0, s1, s2, s3⟩ := cells4 (S7.out.at 2 rfl)
        go_upto_region 10 with (fail)
        clear s0 s1 s2 s3
        rcases hw with ⟨hst, hL⟩ | ⟨hst, d1, d2, x, rfl, rfl, rfl, hxk, hx1, hk1, hk2, hf2, hf3⟩
        · subst hst
          replace hL := hL.symm
          subst hL
          obtain ⟨s0, s1, s2, s3⟩ := cells4 (S7.out.at 2 rfl)
          obtain ⟨t0, t1, t2, t3⟩ := cells4 (S7.out.at 3 rfl)
          go_upto_region 11 with (fail)
          clear s0 s1 s2 s3 t0 t1 t2 t3
          go_upto_region 11 with (fail)
          have h_x := (S7.out.at 4 rfl)
          have h_d := (S7.out.at 0 rfl)
          refine wp_region_held_drew (S := fun W => W.heap[W6.heap.size]? = some (.cells #[.slice ao1 l.length cp1, .int .i64 most, .int .i64 room] 24 (0, 0)) ∧ W.heap[w.heap.size]? = some (.cells #[.slice ao l.length cap, .int .i64 most, .int .i64 room] 24 (0, 0)) ∧ True) (by kernel_rfl) ⟨(S7.out.at 4 rfl), (S7.out.at 0 rfl), trivial⟩ (fun hHeld => ?_)
          clear h_x h_d
          have S8 := Lib.hid (S7.out.call (Below.refl W7.heap.size W7).drew)
          generalize W7.drew = W8 at *
          refine wpAnyH_take (i := 0) rfl (by kernel_rfl) (by kernel_rfl) (by kernel_rfl) (fun _ _ _ h => h) (yieldsIf_load_row (by rfl) 24 _ rfl _ rfl 24 _ (0, 0) _ (fun _ h => h.1) Tryz.underlying24 rfl (by kernel_rfl)) hHeld ?_
          (try simp only [pt, Act.put])
          refine wpAnyH_take (i := 2) rfl (by kernel_rfl) (by kernel_rfl) (by kernel_rfl) (fun _ _ _ h => h) (yieldsIf_load_row (by rfl) 24 _ rfl _ rfl 24 _ (0, 0) _ (fun _ h => h.2.1) Tryz.underlying24 rfl (by kernel_rfl)) hHeld ?_
          (try simp only [pt, Act.put])
          refine wpAnyH_ready (rs := [1]) (by kernel_rfl) (by simp) ?_
          refine AllReadyH.cons rfl (fun K hK => ?_) AllReadyH.nil
          go_simp
          refine (its_f l most room HA.out.dsk.len HA.out.names _ W8 (S8.out.g 1 rfl)).mono ?_
          rintro e W9 ⟨aoz, cpz, rfl, hgz, hb⟩
          have S9 := Lib.hid ((S8.out.call hb).addG hgz)
          clear hb hHeld hgz
          go_wp2_with fail
          refine hK.out _ _ ⟨(S9.out.at 4 rfl), (S9.out.at 0 rfl), trivial⟩ (fun hHeld => ?_)
          clear hK K
          (try simp only [pt, Act.put])
          refine wpAnyH_ready (rs := [3]) (by kernel_rfl) (by simp) ?_
          refine AllReadyH.cons rfl (fun K hK => ?_) AllReadyH.nil
          go_simp
          refine (its_f l most room HA.out.dsk.len HA.out.names _ W9 (S9.out.g 0 rfl)).mono ?_
          rintro e W10 ⟨aov, cpv, rfl, hgv, hb⟩
          have S10 := Lib.hid ((S9.out.call hb).addG hgv)
          clear hb hHeld hgv
          go_wp2_with fail
          refine hK.out _ _ ⟨(S10.out.at 4 rfl), (S10.out.at 0 rfl), trivial⟩ (fun hHeld => ?_)
          clear hK K
          (try simp only [pt, Act.put])
          refine wpAnyH_ready (rs := [4]) (by kernel_rfl) (by simp) ?_
          refine AllReadyH.cons rfl (fun K hK => ?_) AllReadyH.nil
          go_simp
          refine (same_g l most room HA.out.dsk.len HA.out.names _ _ W10 (S10.out.g 2 rfl) (S10.out.g 3 rfl)).mono ?_
          rintro e W11 ⟨rfl, hb⟩
          have S11 := Lib.hid (S10.out.call hb)
          clear hb hHeld
          go_wp2_with fail
          refine hK.out _ _ ⟨(S11.out.at 4 rfl), (S11.out.at 0 rfl), trivial⟩ (fun hHeld => ?_)
          clear hK K
          (try simp only [pt, Act.put])
          refine wpAnyH_take (i := 5) (v := ?v35) rfl (by kernel_rfl) (by kernel_rfl) (by kernel_rfl) (fun _ _ _ h => h) (Or.inl ⟨by rfl, ?hy35⟩) hHeld ?rest35
          case hy35 => (intro w hSw; (try dsimp only at hSw); (try go_split_ands); go_simp; first | done | with_reducible rfl)
          (try simp only [pt, Act.put])
          refine wpAnyH_done (by kernel_rfl) ?_ _
          go_wp2_with fail
          go_ret
          exact ⟨rfl, S11.out.bel⟩
        · have HST := Lib.hid hst
          have q1 : ((x : Int) == ti) = false := by simpa using hst
          have q2 : decide ((x : Int) = ti) = false := decide_eq_false hst
          obtain ⟨xk, xm, xo, xn, xp, xu, xd, xe, hx⟩ := node_parts (nd l x)
          rw [hx] at hxk hx1
          have hxk : xk ≠ 0 := hxk
          obtain ⟨xv, hxv⟩ : ∃ xv, xv = (if xk = 2 then (d2 : Int) else xu) := ⟨_, rfl⟩
          have hx1 : nd L1 x = ⟨xk, xm, xo, xn, xp, xv, xd, xe⟩ := by rw [hx1, hxv]; rfl
          have HXV : Hid (xk = 2 → xv = d2) := Lib.hid fun h => by rw [hxv, if_pos h]
          obtain ⟨hk, hm, ho, hn, hp, hu, hd, he, hh⟩ := node_parts (nd L1 d2)
          rw [hh] at hk2 hf2
          have hk2 : hk = 2 := hk2
          subst hk2
          obtain ⟨gk, gm, go, gn, gp, gu, gd, ge, hg⟩ := node_parts (nd L1 d1)
          rw [hg] at hk1 hf3
          have hk1 : gk = 2 := hk1
          subst hk1
          have HX := Lib.hid hx
          have HX1 := Lib.hid hx1
          have HH := Lib.hid hh
          have HG := Lib.hid hg
          have HF2 := Lib.hid (show findL he tn = some (x : Int) from hf2)
          have HF3 := Lib.hid (show findL ge sn = none from hf3)
          have HXK := Lib.hid hxk
          clear hst hxk hx1 hxv hx hf2 hf3 hh hg
          obtain ⟨s0, s1, s2, s3⟩ := cells4 (S7.out.at 2 rfl)
          obtain ⟨t0, t1, t2, t3⟩ := cells4 (S7.out.at 3 rfl)
          go_upto_region 12 with (fail)
          clear s0 s1 s2 s3 t0 t1 t2 t3
          obtain ⟨d0, d1, d2⟩ := cells3 (S7.out.at 0 rfl)
          obtain ⟨s0, s1, s2, s3⟩ := cells4 (S7.out.at 2 rfl)
          go_wp2_with fail
          refine (get_at HA.out.dsk HX.out HXK.out most room _ W7 (S7.out.g 0 rfl)).mono ?_
          rintro e W8 ⟨aowas, cpwas, rfl, hn1, hb⟩
          clear d0 d1 d2 s0 s1 s2 s3
          have S8 := Lib.hid ((S7.out.call hb).addN hn1)
          clear hb hn1
          go_upto_region 13 with (fail)
          refine code_fresh1 ?_
          intro W9 hb hA0 hs
          have S9 := Lib.hid (S8.out.new1 hb hA0)
          clear hb hA0 hs
          obtain ⟨x0, x1, x2⟩ := cells3 (S9.out.at 4 rfl)
          obtain ⟨s0, s1, s2, s3⟩ := cells4 (S9.out.at 2 rfl)
          go_wp2_with fail
          refine (get_at HA1.out.dsk HX1.out HXK.out most room _ W9 (S9.out.g 1 rfl)).mono ?_
          rintro e W10 ⟨aois, cpis, rfl, hn1, hb⟩
          clear x0 x1 x2 s0 s1 s2 s3
          have S10 := Lib.hid ((S9.out.call hb).addN hn1)
          clear hb hn1
          go_upto_region 14 with (fail)
          refine code_fresh1 ?_
          intro W11 hb hA0 hs
          have S11 := Lib.hid (S10.out.new1 hb hA0)
          clear hb hA0 hs
          obtain ⟨x0, x1, x2⟩ := cells3 (S11.out.at 4 rfl)
          obtain ⟨t0, t1, t2, t3⟩ := cells4 (S11.out.at 3 rfl)
          go_wp2_with fail
          refine (get_at HA1.out.dsk HH.out (by decide) most room _ W11 (S11.out.g 1 rfl)).mono ?_
          rintro e W12 ⟨aohome, cphome, rfl, hn1, hb⟩
          clear x0 x1 x2 t0 t1 t2 t3
          have S12 := Lib.hid ((S11.out.call hb).addN hn1)
          clear hb hn1
          go_upto_region 15 with (fail)
          refine code_fresh1 ?_
          intro W13 hb hA0 hs
          have S13 := Lib.hid (S12.out.new1 hb hA0)
          clear hb hA0 hs
          obtain ⟨x0, x1, x2⟩ := cells3 (S13.out.at 4 rfl)
          obtain ⟨s0, s1, s2, s3⟩ := cells4 (S13.out.at 2 rfl)
          go_wp2_with fail
          refine (get_at HA1.out.dsk HG.out (by decide) most room _ W13 (S13.out.g 1 rfl)).mono ?_
          rintro e W14 ⟨aofrom, cpfrom, rfl, hn1, hb⟩
          clear x0 x1 x2 s0 s1 s2 s3
          have S14 := Lib.hid ((S13.out.call hb).addN hn1)
          clear hb hn1
          go_upto_region 16 with (fail)
          refine code_fresh1 ?_
          intro W15 hb hA0 hs
          have S15 := Lib.hid (S14.out.new1 hb hA0)
          clear hb hA0 hs
          have hfld := fld_run
          go_upto_region 16 with (fail)
          have h_home := (S15.out.at 7 rfl)
          refine wp_region_held_drew (S := fun W => W.heap[W12.heap.size]? = some (.cells #[.int .i64 2, .int .i64 hm, .int .i64 ho, .int .i64 hn, .int .i64 hp, .int .i64 hu, .string (bs hd), .slice aohome he.length cphome] 63 (0, 0)) ∧ W.cell? ⟨blkt, 1, none⟩ = some (.string (bs tn)) ∧ True) (by kernel_rfl) ⟨(S15.out.at 7 rfl), (cells4 (S15.out.at 3 rfl)).2.1, trivial⟩ (fun hHeld => ?_)
          clear h_home
          have S16 := Lib.hid (S15.out.call (Below.refl W15.heap.size W15).drew)
          generalize W15.drew = W16 at *
          refine wpAnyH_take (i := 0) rfl (by kernel_rfl) (by kernel_rfl) (by kernel_rfl) (fun _ _ _ h => h) (yieldsIf_load_row (by rfl) 63 _ rfl _ rfl 63 _ (0, 0) _ (fun _ h => h.1) Tryz.underlying63 rfl (by kernel_rfl)) hHeld ?_
          (try simp only [pt, Act.put])
          refine wpAnyH_take (i := 3) (v := ?v36) rfl (by kernel_rfl) (by kernel_rfl) (by kernel_rfl) (fun _ _ _ h => h) (Or.inl ⟨by rfl, ?hy36⟩) hHeld ?rest36
          case hy36 => (intro w hSw; (try dsimp only at hSw); (try go_split_ands); go_simp; first | done | with_reducible rfl)
          (try simp only [pt, Act.put])
          refine wpAnyH_take (i := 4) (v := ?v37) rfl (by kernel_rfl) (by kernel_rfl) (by kernel_rfl) (fun _ _ _ h => h) (Or.inl ⟨by rfl, ?hy37⟩) hHeld ?rest37
          case hy37 => (intro w hSw; (try dsimp only at hSw); (try go_split_ands); go_simp; first | done | with_reducible rfl)
          (try simp only [pt, Act.put])
          refine wpAnyH_ready (rs := [1]) (by kernel_rfl) (by simp) ?_
          refine AllReadyH.cons rfl (fun K hK => ?_) AllReadyH.nil
          go_simp
          refine (node_at8 2 hm ho hn hp hu hd he (dsk_names HA1.out.dsk HH.out) _ W16 (S16.out.n 2 rfl)).mono ?_
          rintro e W17 ⟨aowhome, cpwhome, rfl, hnw, hb⟩
          have S17 := Lib.hid ((S16.out.call hb).addN hnw)
          clear hb hHeld hnw
          go_wp2_with fail
          refine hK.out _ _ ⟨(S17.out.at 7 rfl), (cells4 (S17.out.at 3 rfl)).2.1, trivial⟩ (fun hHeld => ?_)
          clear hK K
          (try simp only [pt, Act.put])
          refine wpAnyH_take (i := 2) (v := ?v38) rfl (by kernel_rfl) (by kernel_rfl) (by kernel_rfl) (fun _ _ _ h => h) (Or.inl ⟨by rfl, ?hy38⟩) hHeld ?rest38
          case hy38 => (intro w hSw; (try dsimp only at hSw); (try go_split_ands); go_simp; first | done | with_reducible rfl)
          (try simp only [pt, Act.put])
          refine wpAnyH_ready (rs := [5]) (by kernel_rfl) (by simp) ?_
          refine AllReadyH.cons rfl (fun K hK => ?_) AllReadyH.nil
          go_simp
          refine (find_nm (S17.out.n 4 rfl) (dsk_names HA1.out.dsk HH.out) tn (some (x : Int)) HF2.out).mono ?_
          rintro e W18 ⟨rfl, hb⟩
          have S18 := Lib.hid (S17.out.call hb)
          clear hb hHeld
          go_wp2_with fail
          refine hK.out _ _ ⟨(S18.out.at 7 rfl), (cells4 (S18.out.at 3 rfl)).2.1, trivial⟩ (fun hHeld => ?_)
          clear hK K
          (try simp only [pt, Act.put])
          refine wpAnyH_take (i := 6) (v := ?v39) rfl (by kernel_rfl) (by kernel_rfl) (by kernel_rfl) (fun _ _ _ h => h) (Or.inl ⟨by rfl, ?hy39⟩) hHeld ?rest39
          case hy39 => (intro w hSw; (try dsimp only at hSw); (try go_split_ands); go_simp; first | done | with_reducible rfl)
          (try simp only [pt, Act.put])
          refine wpAnyH_take (i := 7) (v := ?v40) rfl (by kernel_rfl) (by kernel_rfl) (by kernel_rfl) (fun _ _ _ h => h) (Or.inl ⟨by rfl, ?hy40⟩) hHeld ?rest40
          case hy40 => (intro w hSw; (try dsimp only at hSw); (try go_split_ands); go_simp; first | done | with_reducible rfl)
          (try simp only [pt, Act.put])
          refine wpAnyH_take (i := 8) (v := ?v41) rfl (by kernel_rfl) (by kernel_rfl) (by kernel_rfl) (fun _ _ _ h => h) (Or.inl ⟨by rfl, ?hy41⟩) hHeld ?rest41
          case hy41 => (intro w hSw; (try dsimp only at hSw); (try go_split_ands); go_simp; first | done | with_reducible rfl)
          (try simp only [pt, Act.put])
          refine wpAnyH_take (i := 9) (v := ?v42) rfl (by kernel_rfl) (by kernel_rfl) (by kernel_rfl) (fun _ _ _ h => h) (Or.inl ⟨by rfl, ?hy42⟩) hHeld ?rest42
          case hy42 => (intro w hSw; (try dsimp only at hSw); (try go_split_ands); go_simp; first | done | with_reducible rfl)
          (try simp only [pt, Act.put])
          refine wpAnyH_take (i := 10) (v := ?v43) rfl (by kernel_rfl) (by kernel_rfl) (by kernel_rfl) (fun _ _ _ h => h) (Or.inl ⟨by rfl, ?hy43⟩) hHeld ?rest43
          case hy43 => (intro w hSw; (try dsimp only at hSw); (try go_split_ands); go_simp; first | done | with_reducible rfl)
          (try simp only [pt, Act.put])
          refine wpAnyH_done (by kernel_rfl) ?_ _
          go_upto_region 17 with (fail)
          go_upto_region 17 with (fail)
          have h_from := (S18.out.at 8 rfl)
          refine wp_region_held_drew (S := fun W => W.heap[W14.heap.size]? = some (.cells #[.int .i64 2, .int .i64 gm, .int .i64 go, .int .i64 gn, .int .i64 gp, .int .i64 gu, .string (bs gd), .slice aofrom ge.length cpfrom] 63 (0, 0)) ∧ W.cell? ⟨blks, 1, none⟩ = some (.string (bs sn)) ∧ True) (by kernel_rfl) ⟨(S18.out.at 8 rfl), (cells4 (S18.out.at 2 rfl)).2.1, trivial⟩ (fun hHeld => ?_)
          clear h_from
          have S19 := Lib.hid (S18.out.call (Below.refl W18.heap.size W18).drew)
          generalize W18.drew = W19 at *
          refine wpAnyH_take (i := 0) rfl (by kernel_rfl) (by kernel_rfl) (by kernel_rfl) (fun _ _ _ h => h) (yieldsIf_load_row (by rfl) 63 _ rfl _ rfl 63 _ (0, 0) _ (fun _ h => h.1) Tryz.underlying63 rfl (by kernel_rfl)) hHeld ?_
          (try simp only [pt, Act.put])
          refine wpAnyH_take (i := 3) (v := ?v44) rfl (by kernel_rfl) (by kernel_rfl) (by kernel_rfl) (fun _ _ _ h => h) (Or.inl ⟨by rfl, ?hy44⟩) hHeld ?rest44
          case hy44 => (intro w hSw; (try dsimp only at hSw); (try go_split_ands); go_simp; first | done | with_reducible rfl)
          (try simp only [pt, Act.put])
          refine wpAnyH_take (i := 4) (v := ?v45) rfl (by kernel_rfl) (by kernel_rfl) (by kernel_rfl) (fun _ _ _ h => h) (Or.inl ⟨by rfl, ?hy45⟩) hHeld ?rest45
          case hy45 => (intro w hSw; (try dsimp only at hSw); (try go_split_ands); go_simp; first | done | with_reducible rfl)
          (try simp only [pt, Act.put])
          refine wpAnyH_ready (rs := [1]) (by kernel_rfl) (by simp) ?_
          refine AllReadyH.cons rfl (fun K hK => ?_) AllReadyH.nil
          go_simp
          refine (node_at8 2 gm go gn gp gu gd ge (dsk_names HA1.out.dsk HG.out) _ W19 (S19.out.n 3 rfl)).mono ?_
          rintro e W20 ⟨aowfrom, cpwfrom, rfl, hnw, hb⟩
          have S20 := Lib.hid ((S19.out.call hb).addN hnw)
          clear hb hHeld hnw
          go_wp2_with fail
          refine hK.out _ _ ⟨(S20.out.at 8 rfl), (cells4 (S20.out.at 2 rfl)).2.1, trivial⟩ (fun hHeld => ?_)
          clear hK K
          (try simp only [pt, Act.put])
          refine wpAnyH_take (i := 2) (v := ?v46) rfl (by kernel_rfl) (by kernel_rfl) (by kernel_rfl) (fun _ _ _ h => h) (Or.inl ⟨by rfl, ?hy46⟩) hHeld ?rest46
          case hy46 => (intro w hSw; (try dsimp only at hSw); (try go_split_ands); go_simp; first | done | with_reducible rfl)
          (try simp only [pt, Act.put])
          refine wpAnyH_ready (rs := [5]) (by kernel_rfl) (by simp) ?_
          refine AllReadyH.cons rfl (fun K hK => ?_) AllReadyH.nil
          go_simp
          refine (find_nm (S20.out.n 5 rfl) (dsk_names HA1.out.dsk HG.out) sn none HF3.out).mono ?_
          rintro e W21 ⟨rfl, hb⟩
          have S21 := Lib.hid (S20.out.call hb)
          clear hb hHeld
          go_wp2_with fail
          refine hK.out _ _ ⟨(S21.out.at 8 rfl), (cells4 (S21.out.at 2 rfl)).2.1, trivial⟩ (fun hHeld => ?_)
          clear hK K
          (try simp only [pt, Act.put])
          refine wpAnyH_take (i := 6) (v := ?v47) rfl (by kernel_rfl) (by kernel_rfl) (by kernel_rfl) (fun _ _ _ h => h) (Or.inl ⟨by rfl, ?hy47⟩) hHeld ?rest47
          case hy47 => (intro w hSw; (try dsimp only at hSw); (try go_split_ands); go_simp; first | done | with_reducible rfl)
          (try simp only [pt, Act.put])
          refine wpAnyH_take (i := 7) (v := ?v48) rfl (by kernel_rfl) (by kernel_rfl) (by kernel_rfl) (fun _ _ _ h => h) (Or.inl ⟨by rfl, ?hy48⟩) hHeld ?rest48
          case hy48 => (intro w hSw; (try dsimp only at hSw); (try go_split_ands); go_simp; first | done | with_reducible rfl)
          (try simp only [pt, Act.put])
          refine wpAnyH_take (i := 8) (v := ?v49) rfl (by kernel_rfl) (by kernel_rfl) (by kernel_rfl) (fun _ _ _ h => h) (Or.inl ⟨by rfl, ?hy49⟩) hHeld ?rest49
          case hy49 => (intro w hSw; (try dsimp only at hSw); (try go_split_ands); go_simp; first | done | with_reducible rfl)
          (try simp only [pt, Act.put])
          refine wpAnyH_take (i := 9) (v := ?v50) rfl (by kernel_rfl) (by kernel_rfl) (by kernel_rfl) (fun _ _ _ h => h) (Or.inl ⟨by rfl, ?hy50⟩) hHeld ?rest50
          case hy50 => (intro w hSw; (try dsimp only at hSw); (try go_split_ands); go_simp; first | done | with_reducible rfl)
          (try simp only [pt, Act.put])
          refine wpAnyH_take (i := 10) (v := ?v51) rfl (by kernel_rfl) (by kernel_rfl) (by kernel_rfl) (fun _ _ _ h => h) (Or.inl ⟨by rfl, ?hy51⟩) hHeld ?rest51
          case hy51 => (intro w hSw; (try dsimp only at hSw); (try go_split_ands); go_simp; first | done | with_reducible rfl)
          (try simp only [pt, Act.put])
          refine wpAnyH_done (by kernel_rfl) ?_ _
          obtain ⟨s0, s1, s2, s3⟩ := cells4 (S21.out.at 2 rfl)
          obtain ⟨t0, t1, t2, t3⟩ := cells4 (S21.out.at 3 rfl)
          go_upto_region 20 with (fail)
          clear s0 s1 s2 s3 t0 t1 t2 t3
          by_cases hxk : xk = 2
          · have hxv := HXV.out hxk
            subst hxk
            subst hxv
            have h_is := (S21.out.at 6 rfl)
            have h_was := (S21.out.at 5 rfl)
            refine wp_region_held_drew (S := fun W => W.heap[W10.heap.size]? = some (.cells #[.int .i64 2, .int .i64 xm, .int .i64 xo, .int .i64 xn, .int .i64 xp, .int .i64 d2, .string (bs xd), .slice aois xe.length cpis] 63 (0, 0)) ∧ W.heap[W8.heap.size]? = some (.cells #[.int .i64 2, .int .i64 xm, .int .i64 xo, .int .i64 xn, .int .i64 xp, .int .i64 xu, .string (bs xd), .slice aowas xe.length cpwas] 63 (0, 0)) ∧ W.cell? ⟨W8.heap.size, 0, none⟩ = some (.int .i64 2) ∧ W.cell? ⟨W8.heap.size, 1, none⟩ = some (.int .i64 xm) ∧ W.cell? ⟨W8.heap.size, 3, none⟩ = some (.int .i64 xn) ∧ W.cell? ⟨W8.heap.size, 6, none⟩ = some (.string (bs xd)) ∧ W.cell? ⟨W10.heap.size, 0, none⟩ = some (.int .i64 2) ∧ W.cell? ⟨W10.heap.size, 1, none⟩ = some (.int .i64 xm) ∧ W.cell? ⟨W10.heap.size, 3, none⟩ = some (.int .i64 xn) ∧ W.cell? ⟨W10.heap.size, 5, none⟩ = some (.int .i64 d2) ∧ W.cell? ⟨W10.heap.size, 6, none⟩ = some (.string (bs xd)) ∧ W.cell? ⟨blkt, 0, none⟩ = some (.int .i64 d2) ∧ True) (by kernel_rfl) ⟨(S21.out.at 6 rfl), (S21.out.at 5 rfl), (cells8 (S21.out.at 5 rfl)).1, (cells8 (S21.out.at 5 rfl)).2.1, (cells8 (S21.out.at 5 rfl)).2.2.2.1, (cells8 (S21.out.at 5 rfl)).2.2.2.2.2.2.1, (cells8 (S21.out.at 6 rfl)).1, (cells8 (S21.out.at 6 rfl)).2.1, (cells8 (S21.out.at 6 rfl)).2.2.2.1, (cells8 (S21.out.at 6 rfl)).2.2.2.2.2.1, (cells8 (S21.out.at 6 rfl)).2.2.2.2.2.2.1, (cells4 (S21.out.at 3 rfl)).1, trivial⟩ (fun hHeld => ?_)
            clear h_is h_was
            have S22 := Lib.hid (S21.out.call (Below.refl W21.heap.size W21).drew)
            generalize W21.drew = W22 at *
            refine wpAnyH_take (i := 0) (v := ?v52) rfl (by kernel_rfl) (by kernel_rfl) (by kernel_rfl) (fun _ _ _ h => h) (Or.inl ⟨by rfl, ?hy52⟩) hHeld ?rest52
            case hy52 => (intro w hSw; (try dsimp only at hSw); (try go_split_ands); go_simp; first | done | with_reducible rfl)
            (try simp only [pt, Act.put])
            refine wpAnyH_take (i := 1) (v := ?v53) rfl (by kernel_rfl) (by kernel_rfl) (by kernel_rfl) (fun _ _ _ h => h) (Or.inl ⟨by rfl, ?hy53⟩) hHeld ?rest53
            case hy53 => (intro w hSw; (try dsimp only at hSw); (try go_split_ands); go_simp; first | done | with_reducible rfl)
            (try simp only [pt, Act.put])
            refine wpAnyH_take (i := 2) (v := ?v54) rfl (by kernel_rfl) (by kernel_rfl) (by kernel_rfl) (fun _ _ _ h => h) (Or.inl ⟨by rfl, ?hy54⟩) hHeld ?rest54
            case hy54 => (intro w hSw; (try dsimp only at hSw); (try go_split_ands); go_simp; first | done | with_reducible rfl)
            (try simp only [pt, Act.put])
            refine wpAnyH_take (i := 3) (v := ?v55) rfl (by kernel_rfl) (by kernel_rfl) (by kernel_rfl) (fun _ _ _ h => h) (Or.inl ⟨by rfl, ?hy55⟩) hHeld ?rest55
            case hy55 => (intro w hSw; (try dsimp only at hSw); (try go_split_ands); go_simp; first | done | with_reducible rfl)
            (try simp only [pt, Act.put])
            refine wpAnyH_take (i := 4) (v := ?v56) rfl (by kernel_rfl) (by kernel_rfl) (by kernel_rfl) (fun _ _ _ h => h) (Or.inl ⟨by rfl, ?hy56⟩) hHeld ?rest56
            case hy56 => (intro w hSw; (try dsimp only at hSw); (try go_split_ands); go_simp; first | done | with_reducible rfl)
            (try simp only [pt, Act.put])
            refine wpAnyH_take (i := 5) (v := ?v57) rfl (by kernel_rfl) (by kernel_rfl) (by kernel_rfl) (fun _ _ _ h => h) (Or.inl ⟨by rfl, ?hy57⟩) hHeld ?rest57
            case hy57 => (intro w hSw; (try dsimp only at hSw); (try go_split_ands); go_simp; first | done | with_reducible rfl)
            (try simp only [pt, Act.put])
            refine wpAnyH_take (i := 6) (v := ?v58) rfl (by kernel_rfl) (by kernel_rfl) (by kernel_rfl) (fun _ _ _ h => h) (Or.inl ⟨by rfl, ?hy58⟩) hHeld ?rest58
            case hy58 => (intro w hSw; (try dsimp only at hSw); (try go_split_ands); go_simp; first | done | with_reducible rfl)
            (try simp only [pt, Act.put])
            refine wpAnyH_take (i := 7) (v := ?v59) rfl (by kernel_rfl) (by kernel_rfl) (by kernel_rfl) (fun _ _ _ h => h) (Or.inl ⟨by rfl, ?hy59⟩) hHeld ?rest59
            case hy59 => (intro w hSw; (try dsimp only at hSw); (try go_split_ands); go_simp; first | done | with_reducible rfl)
            (try simp only [pt, Act.put])
            refine wpAnyH_take (i := 8) (v := ?v60) rfl (by kernel_rfl) (by kernel_rfl) (by kernel_rfl) (fun _ _ _ h => h) (Or.inl ⟨by rfl, ?hy60⟩) hHeld ?rest60
            case hy60 => (intro w hSw; (try dsimp only at hSw); (try go_split_ands); go_simp; first | done | with_reducible rfl)
            (try simp only [pt, Act.put])
            refine wpAnyH_take (i := 9) (v := ?v61) rfl (by kernel_rfl) (by kernel_rfl) (by kernel_rfl) (fun _ _ _ h => h) (Or.inl ⟨by rfl, ?hy61⟩) hHeld ?rest61
            case hy61 => (intro w hSw; (try dsimp only at hSw); (try go_split_ands); go_simp; first | done | with_reducible rfl)
            (try simp only [pt, Act.put])
            refine wpAnyH_take (i := 10) (v := ?v62) rfl (by kernel_rfl) (by kernel_rfl) (by kernel_rfl) (fun _ _ _ h => h) (Or.inl ⟨by rfl, ?hy62⟩) hHeld ?rest62
            case hy62 => (intro w hSw; (try dsimp only at hSw); (try go_split_ands); go_simp; first | done | with_reducible rfl)
            (try simp only [pt, Act.put])
            refine wpAnyH_take (i := 11) (v := ?v63) rfl (by kernel_rfl) (by kernel_rfl) (by kernel_rfl) (fun _ _ _ h => h) (Or.inl ⟨by rfl, ?hy63⟩) hHeld ?rest63
            case hy63 => (intro w hSw; (try dsimp only at hSw); (try go_split_ands); go_simp; first | done | with_reducible rfl)
            (try simp only [pt, Act.put])
            refine wpAnyH_take (i := 12) (v := ?v64) rfl (by kernel_rfl) (by kernel_rfl) (by kernel_rfl) (fun _ _ _ h => h) (Or.inl ⟨by rfl, ?hy64⟩) hHeld ?rest64
            case hy64 => (intro w hSw; (try dsimp only at hSw); (try go_split_ands); go_simp; first | done | with_reducible rfl)
            (try simp only [pt, Act.put])
            refine wpAnyH_take (i := 13) (v := ?v65) rfl (by kernel_rfl) (by kernel_rfl) (by kernel_rfl) (fun _ _ _ h => h) (Or.inl ⟨by rfl, ?hy65⟩) hHeld ?rest65
            case hy65 => (intro w hSw; (try dsimp only at hSw); (try go_split_ands); go_simp; first | done | with_reducible rfl)
            (try simp only [pt, Act.put])
            refine wpAnyH_take (i := 14) (v := ?v66) rfl (by kernel_rfl) (by kernel_rfl) (by kernel_rfl) (fun _ _ _ h => h) (Or.inl ⟨by rfl, ?hy66⟩) hHeld ?rest66
            case hy66 => (intro w hSw; (try dsimp only at hSw); (try go_split_ands); go_simp; first | done | with_reducible rfl)
            (try simp only [pt, Act.put])
            refine wpAnyH_take (i := 15) (v := ?v67) rfl (by kernel_rfl) (by kernel_rfl) (by kernel_rfl) (fun _ _ _ h => h) (Or.inl ⟨by rfl, ?hy67⟩) hHeld ?rest67
            case hy67 => (intro w hSw; (try dsimp only at hSw); (try go_split_ands); go_simp; first | done | with_reducible rfl)
            (try simp only [pt, Act.put])
            refine wpAnyH_take (i := 16) (v := ?v68) rfl (by kernel_rfl) (by kernel_rfl) (by kernel_rfl) (fun _ _ _ h => h) (Or.inl ⟨by rfl, ?hy68⟩) hHeld ?rest68
            case hy68 => (intro w hSw; (try dsimp only at hSw); (try go_split_ands); go_simp; first | done | with_reducible rfl)
            (try simp only [pt, Act.put])
            refine wpAnyH_take (i := 17) (v := ?v69) rfl (by kernel_rfl) (by kernel_rfl) (by kernel_rfl) (fun _ _ _ h => h) (Or.inl ⟨by rfl, ?hy69⟩) hHeld ?rest69
            case hy69 => (intro w hSw; (try dsimp only at hSw); (try go_split_ands); go_simp; first | done | with_reducible rfl)
            (try simp only [pt, Act.put])
            refine wpAnyH_take (i := 18) (v := ?v70) rfl (by kernel_rfl) (by kernel_rfl) (by kernel_rfl) (fun _ _ _ h => h) (Or.inl ⟨by rfl, ?hy70⟩) hHeld ?rest70
            case hy70 => (intro w hSw; (try dsimp only at hSw); (try go_split_ands); go_simp; first | done | with_reducible rfl)
            (try simp only [pt, Act.put])
            refine wpAnyH_take (i := 19) (v := ?v71) rfl (by kernel_rfl) (by kernel_rfl) (by kernel_rfl) (fun _ _ _ h => h) (Or.inl ⟨by rfl, ?hy71⟩) hHeld ?rest71
            case hy71 => (intro w hSw; (try dsimp only at hSw); (try go_split_ands); go_simp; first | done | with_reducible rfl)
            (try simp only [pt, Act.put])
            refine wpAnyH_take (i := 20) (v := ?v72) rfl (by kernel_rfl) (by kernel_rfl) (by kernel_rfl) (fun _ _ _ h => h) (Or.inl ⟨by rfl, ?hy72⟩) hHeld ?rest72
            case hy72 => (intro w hSw; (try dsimp only at hSw); (try go_split_ands); go_simp; first | done | with_reducible rfl)
            (try simp only [pt, Act.put])
            refine wpAnyH_take (i := 21) (v := ?v73) rfl (by kernel_rfl) (by kernel_rfl) (by kernel_rfl) (fun _ _ _ h => h) (Or.inl ⟨by rfl, ?hy73⟩) hHeld ?rest73
            case hy73 => (intro w hSw; (try dsimp only at hSw); (try go_split_ands); go_simp; first | done | with_reducible rfl)
            (try simp only [pt, Act.put])
            refine wpAnyH_take (i := 22) (v := ?v74) rfl (by kernel_rfl) (by kernel_rfl) (by kernel_rfl) (fun _ _ _ h => h) (Or.inl ⟨by rfl, ?hy74⟩) hHeld ?rest74
            case hy74 => (intro w hSw; (try dsimp only at hSw); (try go_split_ands); go_simp; first | done | with_reducible rfl)
            (try simp only [pt, Act.put])
            refine wpAnyH_take (i := 23) (v := ?v75) rfl (by kernel_rfl) (by kernel_rfl) (by kernel_rfl) (fun _ _ _ h => h) (Or.inl ⟨by rfl, ?hy75⟩) hHeld ?rest75
            case hy75 => (intro w hSw; (try dsimp only at hSw); (try go_split_ands); go_simp; first | done | with_reducible rfl)
            (try simp only [pt, Act.put])
            refine wpAnyH_take (i := 24) (v := ?v76) rfl (by kernel_rfl) (by kernel_rfl) (by kernel_rfl) (fun _ _ _ h => h) (Or.inl ⟨by rfl, ?hy76⟩) hHeld ?rest76
            case hy76 => (intro w hSw; (try dsimp only at hSw); (try go_split_ands); go_simp; first | done | with_reducible rfl)
            (try simp only [pt, Act.put])
            refine wpAnyH_take (i := 25) (v := ?v77) rfl (by kernel_rfl) (by kernel_rfl) (by kernel_rfl) (fun _ _ _ h => h) (Or.inl ⟨by rfl, ?hy77⟩) hHeld ?rest77
            case hy77 => (intro w hSw; (try dsimp only at hSw); (try go_split_ands); go_simp; first | done | with_reducible rfl)
            (try simp only [pt, Act.put])
            refine wpAnyH_take (i := 26) (v := ?v78) rfl (by kernel_rfl) (by kernel_rfl) (by kernel_rfl) (fun _ _ _ h => h) (Or.inl ⟨by rfl, ?hy78⟩) hHeld ?rest78
            case hy78 => (intro w hSw; (try dsimp only at hSw); (try go_split_ands); go_simp; first | done | with_reducible rfl)
            (try simp only [pt, Act.put])
            refine wpAnyH_take (i := 27) rfl (by kernel_rfl) (by kernel_rfl) (by kernel_rfl) (fun _ _ _ h => h) (yieldsIf_load_row (by rfl) 63 _ rfl _ rfl 63 _ (0, 0) _ (fun _ h => h.1) Tryz.underlying63 rfl (by kernel_rfl)) hHeld ?_
            (try simp only [pt, Act.put])
            refine wpAnyH_take (i := 30) rfl (by kernel_rfl) (by kernel_rfl) (by kernel_rfl) (fun _ _ _ h => h) (yieldsIf_load_row (by rfl) 63 _ rfl _ rfl 63 _ (0, 0) _ (fun _ h => h.2.1) Tryz.underlying63 rfl (by kernel_rfl)) hHeld ?_
            (try simp only [pt, Act.put])
            refine wpAnyH_ready (rs := [28]) (by kernel_rfl) (by simp) ?_
            refine AllReadyH.cons rfl (fun K hK => ?_) AllReadyH.nil
            go_simp
            refine (node_at8 2 xm xo xn xp d2 xd xe (dsk_names HA1.out.dsk HX1.out) _ W22 (S22.out.n 1 rfl)).mono ?_
            rintro e W23 ⟨aop, cpp, rfl, hnp, hb⟩
            have S23 := Lib.hid ((S22.out.call hb).addN hnp)
            clear hb hHeld hnp
            go_wp2_with fail
            refine hK.out _ _ ⟨(S23.out.at 6 rfl), (S23.out.at 5 rfl), (cells8 (S23.out.at 5 rfl)).1, (cells8 (S23.out.at 5 rfl)).2.1, (cells8 (S23.out.at 5 rfl)).2.2.2.1, (cells8 (S23.out.at 5 rfl)).2.2.2.2.2.2.1, (cells8 (S23.out.at 6 rfl)).1, (cells8 (S23.out.at 6 rfl)).2.1, (cells8 (S23.out.at 6 rfl)).2.2.2.1, (cells8 (S23.out.at 6 rfl)).2.2.2.2.2.1, (cells8 (S23.out.at 6 rfl)).2.2.2.2.2.2.1, (cells4 (S23.out.at 3 rfl)).1, trivial⟩ (fun hHeld => ?_)
            clear hK K
            (try simp only [pt, Act.put])
            refine wpAnyH_take (i := 29) (v := ?v79) rfl (by kernel_rfl) (by kernel_rfl) (by kernel_rfl) (fun _ _ _ h => h) (Or.inl ⟨by rfl, ?hy79⟩) hHeld ?rest79
            case hy79 => (intro w hSw; (try dsimp only at hSw); (try go_split_ands); go_simp; first | done | with_reducible rfl)
            (try simp only [pt, Act.put])
            refine wpAnyH_ready (rs := [31]) (by kernel_rfl) (by simp) ?_
            refine AllReadyH.cons rfl (fun K hK => ?_) AllReadyH.nil
            go_simp
            refine (node_at8 2 xm xo xn xp xu xd xe (dsk_names HA.out.dsk HX.out) _ W23 (S23.out.n 0 rfl)).mono ?_
            rintro e W24 ⟨aoq, cpq, rfl, hnq, hb⟩
            have S24 := Lib.hid ((S23.out.call hb).addN hnq)
            clear hb hHeld hnq
            go_wp2_with fail
            refine hK.out _ _ ⟨(S24.out.at 6 rfl), (S24.out.at 5 rfl), (cells8 (S24.out.at 5 rfl)).1, (cells8 (S24.out.at 5 rfl)).2.1, (cells8 (S24.out.at 5 rfl)).2.2.2.1, (cells8 (S24.out.at 5 rfl)).2.2.2.2.2.2.1, (cells8 (S24.out.at 6 rfl)).1, (cells8 (S24.out.at 6 rfl)).2.1, (cells8 (S24.out.at 6 rfl)).2.2.2.1, (cells8 (S24.out.at 6 rfl)).2.2.2.2.2.1, (cells8 (S24.out.at 6 rfl)).2.2.2.2.2.2.1, (cells4 (S24.out.at 3 rfl)).1, trivial⟩ (fun hHeld => ?_)
            clear hK K
            (try simp only [pt, Act.put])
            refine wpAnyH_take (i := 32) (v := ?v80) rfl (by kernel_rfl) (by kernel_rfl) (by kernel_rfl) (fun _ _ _ h => h) (Or.inl ⟨by rfl, ?hy80⟩) hHeld ?rest80
            case hy80 => (intro w hSw; (try dsimp only at hSw); (try go_split_ands); go_simp; first | done | with_reducible rfl)
            (try simp only [pt, Act.put])
            refine wpAnyH_ready (rs := [33]) (by kernel_rfl) (by simp) ?_
            refine AllReadyH.cons rfl (fun K hK => ?_) AllReadyH.nil
            go_simp
            refine (sames_at (n := ⟨2, xm, xo, xn, xp, d2, xd, xe⟩) (m := ⟨2, xm, xo, xn, xp, xu, xd, xe⟩) rfl (S24.out.n 6 rfl) (S24.out.n 7 rfl) (dsk_names HA1.out.dsk HX1.out)).mono ?_
            rintro e W25 ⟨rfl, hb⟩
            have S25 := Lib.hid (S24.out.call hb)
            clear hb hHeld
            go_wp2_with fail
            refine hK.out _ _ ⟨(S25.out.at 6 rfl), (S25.out.at 5 rfl), (cells8 (S25.out.at 5 rfl)).1, (cells8 (S25.out.at 5 rfl)).2.1, (cells8 (S25.out.at 5 rfl)).2.2.2.1, (cells8 (S25.out.at 5 rfl)).2.2.2.2.2.2.1, (cells8 (S25.out.at 6 rfl)).1, (cells8 (S25.out.at 6 rfl)).2.1, (cells8 (S25.out.at 6 rfl)).2.2.2.1, (cells8 (S25.out.at 6 rfl)).2.2.2.2.2.1, (cells8 (S25.out.at 6 rfl)).2.2.2.2.2.2.1, (cells4 (S25.out.at 3 rfl)).1, trivial⟩ (fun hHeld => ?_)
            clear hK K
            (try simp only [pt, Act.put])
            refine wpAnyH_take (i := 34) (v := ?v81) rfl (by kernel_rfl) (by kernel_rfl) (by kernel_rfl) (fun _ _ _ h => h) (Or.inl ⟨by rfl, ?hy81⟩) hHeld ?rest81
            case hy81 => (intro w hSw; (try dsimp only at hSw); (try go_split_ands); go_simp; first | done | with_reducible rfl)
            (try simp only [pt, Act.put])
            refine wpAnyH_take (i := 35) (v := ?v82) rfl (by kernel_rfl) (by kernel_rfl) (by kernel_rfl) (fun _ _ _ h => h) (Or.inl ⟨by rfl, ?hy82⟩) hHeld ?rest82
            case hy82 => (intro w hSw; (try dsimp only at hSw); (try go_split_ands); go_simp; first | done | with_reducible rfl)
            (try simp only [pt, Act.put])
            refine wpAnyH_take (i := 36) (v := ?v83) rfl (by kernel_rfl) (by kernel_rfl) (by kernel_rfl) (fun _ _ _ h => h) (Or.inl ⟨by rfl, ?hy83⟩) hHeld ?rest83
            case hy83 => (intro w hSw; (try dsimp only at hSw); (try go_split_ands); go_simp; first | done | with_reducible rfl)
            (try simp only [pt, Act.put])
            refine wpAnyH_take (i := 37) (v := ?v84) rfl (by kernel_rfl) (by kernel_rfl) (by kernel_rfl) (fun _ _ _ h => h) (Or.inl ⟨by rfl, ?hy84⟩) hHeld ?rest84
            case hy84 => (intro w hSw; (try dsimp only at hSw); (try go_split_ands); go_simp; first | done | with_reducible rfl)
            (try simp only [pt, Act.put])
            refine wpAnyH_take (i := 38) (v := ?v85) rfl (by kernel_rfl) (by kernel_rfl) (by kernel_rfl) (fun _ _ _ h => h) (Or.inl ⟨by rfl, ?hy85⟩) hHeld ?rest85
            case hy85 => (intro w hSw; (try dsimp only at hSw); (try go_split_ands); go_simp; first | done | with_reducible rfl)
            (try simp only [pt, Act.put])
            refine wpAnyH_take (i := 39) (v := ?v86) rfl (by kernel_rfl) (by kernel_rfl) (by kernel_rfl) (fun _ _ _ h => h) (Or.inl ⟨by rfl, ?hy86⟩) hHeld ?rest86
            case hy86 => (intro w hSw; (try dsimp only at hSw); (try go_split_ands); go_simp; first | done | with_reducible rfl)
            (try simp only [pt, Act.put])
            refine wpAnyH_take (i := 40) (v := ?v87) rfl (by kernel_rfl) (by kernel_rfl) (by kernel_rfl) (fun _ _ _ h => h) (Or.inl ⟨by rfl, ?hy87⟩) hHeld ?rest87
            case hy87 => (intro w hSw; (try dsimp only at hSw); (try go_split_ands); go_simp; first | done | with_reducible rfl)
            (try simp only [pt, Act.put])
            refine wpAnyH_take (i := 41) (v := ?v88) rfl (by kernel_rfl) (by kernel_rfl) (by kernel_rfl) (fun _ _ _ h => h) (Or.inl ⟨by rfl, ?hy88⟩) hHeld ?rest88
            case hy88 => (intro w hSw; (try dsimp only at hSw); (try go_split_ands); go_simp; first | done | with_reducible rfl)
            (try simp only [pt, Act.put])
            refine wpAnyH_take (i := 42) (v := ?v89) rfl (by kernel_rfl) (by kernel_rfl) (by kernel_rfl) (fun _ _ _ h => h) (Or.inl ⟨by rfl, ?hy89⟩) hHeld ?rest89
            case hy89 => (intro w hSw; (try dsimp only at hSw); (try go_split_ands); go_simp; first | done | with_reducible rfl)
            (try simp only [pt, Act.put])
            refine wpAnyH_take (i := 43) (v := ?v90) rfl (by kernel_rfl) (by kernel_rfl) (by kernel_rfl) (fun _ _ _ h => h) (Or.inl ⟨by rfl, ?hy90⟩) hHeld ?rest90
            case hy90 => (intro w hSw; (try dsimp only at hSw); (try go_split_ands); go_simp; first | done | with_reducible rfl)
            (try simp only [pt, Act.put])
            refine wpAnyH_take (i := 44) (v := ?v91) rfl (by kernel_rfl) (by kernel_rfl) (by kernel_rfl) (fun _ _ _ h => h) (Or.inl ⟨by rfl, ?hy91⟩) hHeld ?rest91
            case hy91 => (intro w hSw; (try dsimp only at hSw); (try go_split_ands); go_simp; first | done | with_reducible rfl)
            (try simp only [pt, Act.put])
            refine wpAnyH_take (i := 45) (v := ?v92) rfl (by kernel_rfl) (by kernel_rfl) (by kernel_rfl) (fun _ _ _ h => h) (Or.inl ⟨by rfl, ?hy92⟩) hHeld ?rest92
            case hy92 => (intro w hSw; (try dsimp only at hSw); (try go_split_ands); go_simp; first | done | with_reducible rfl)
            (try simp only [pt, Act.put])
            refine wpAnyH_take (i := 46) (v := ?v93) rfl (by kernel_rfl) (by kernel_rfl) (by kernel_rfl) (fun _ _ _ h => h) (Or.inl ⟨by rfl, ?hy93⟩) hHeld ?rest93
            case hy93 => (intro w hSw; (try dsimp only at hSw); (try go_split_ands); go_simp; first | done | with_reducible rfl)
            (try simp only [pt, Act.put])
            refine wpAnyH_take (i := 47) (v := ?v94) rfl (by kernel_rfl) (by kernel_rfl) (by kernel_rfl) (fun _ _ _ h => h) (Or.inl ⟨by rfl, ?hy94⟩) hHeld ?rest94
            case hy94 => (intro w hSw; (try dsimp only at hSw); (try go_split_ands); go_simp; first | done | with_reducible rfl)
            (try simp only [pt, Act.put])
            refine wpAnyH_done (by kernel_rfl) ?_ _
            go_wp2_with fail
            go_ret
            exact ⟨rfl, S25.out.bel⟩
          · have q3 : (xk != 2) = true := by simpa using hxk
            have q4 : decide (xk = 2) = false := decide_eq_false hxk
            have q5 : (xk == 2) = false := by simpa using hxk
            have h_is := (S21.out.at 6 rfl)
            have h_was := (S21.out.at 5 rfl)
            refine wp_region_held_drew (S := fun W => W.heap[W10.heap.size]? = some (.cells #[.int .i64 xk, .int .i64 xm, .int .i64 xo, .int .i64 xn, .int .i64 xp, .int .i64 xv, .string (bs xd), .slice aois xe.length cpis] 63 (0, 0)) ∧ W.heap[W8.heap.size]? = some (.cells #[.int .i64 xk, .int .i64 xm, .int .i64 xo, .int .i64 xn, .int .i64 xp, .int .i64 xu, .string (bs xd), .slice aowas xe.length cpwas] 63 (0, 0)) ∧ W.cell? ⟨W8.heap.size, 0, none⟩ = some (.int .i64 xk) ∧ W.cell? ⟨W8.heap.size, 1, none⟩ = some (.int .i64 xm) ∧ W.cell? ⟨W8.heap.size, 3, none⟩ = some (.int .i64 xn) ∧ W.cell? ⟨W8.heap.size, 6, none⟩ = some (.string (bs xd)) ∧ W.cell? ⟨W10.heap.size, 0, none⟩ = some (.int .i64 xk) ∧ W.cell? ⟨W10.heap.size, 1, none⟩ = some (.int .i64 xm) ∧ W.cell? ⟨W10.heap.size, 3, none⟩ = some (.int .i64 xn) ∧ W.cell? ⟨W10.heap.size, 5, none⟩ = some (.int .i64 xv) ∧ W.cell? ⟨W10.heap.size, 6, none⟩ = some (.string (bs xd)) ∧ W.cell? ⟨blkt, 0, none⟩ = some (.int .i64 d2) ∧ True) (by kernel_rfl) ⟨(S21.out.at 6 rfl), (S21.out.at 5 rfl), (cells8 (S21.out.at 5 rfl)).1, (cells8 (S21.out.at 5 rfl)).2.1, (cells8 (S21.out.at 5 rfl)).2.2.2.1, (cells8 (S21.out.at 5 rfl)).2.2.2.2.2.2.1, (cells8 (S21.out.at 6 rfl)).1, (cells8 (S21.out.at 6 rfl)).2.1, (cells8 (S21.out.at 6 rfl)).2.2.2.1, (cells8 (S21.out.at 6 rfl)).2.2.2.2.2.1, (cells8 (S21.out.at 6 rfl)).2.2.2.2.2.2.1, (cells4 (S21.out.at 3 rfl)).1, trivial⟩ (fun hHeld => ?_)
            clear h_is h_was
            have S22 := Lib.hid (S21.out.call (Below.refl W21.heap.size W21).drew)
            generalize W21.drew = W22 at *
            refine wpAnyH_take (i := 0) (v := ?v95) rfl (by kernel_rfl) (by kernel_rfl) (by kernel_rfl) (fun _ _ _ h => h) (Or.inl ⟨by rfl, ?hy95⟩) hHeld ?rest95
            case hy95 => (intro w hSw; (try dsimp only at hSw); (try go_split_ands); go_simp; first | done | with_reducible rfl)
            (try simp only [pt, Act.put])
            refine wpAnyH_take (i := 1) (v := ?v96) rfl (by kernel_rfl) (by kernel_rfl) (by kernel_rfl) (fun _ _ _ h => h) (Or.inl ⟨by rfl, ?hy96⟩) hHeld ?rest96
            case hy96 => (intro w hSw; (try dsimp only at hSw); (try go_split_ands); go_simp; first | done | with_reducible rfl)
            (try simp only [pt, Act.put])
            refine wpAnyH_take (i := 2) (v := ?v97) rfl (by kernel_rfl) (by kernel_rfl) (by kernel_rfl) (fun _ _ _ h => h) (Or.inl ⟨by rfl, ?hy97⟩) hHeld ?rest97
            case hy97 => (intro w hSw; (try dsimp only at hSw); (try go_split_ands); go_simp; first | done | with_reducible rfl)
            (try simp only [pt, Act.put])
            refine wpAnyH_take (i := 3) (v := ?v98) rfl (by kernel_rfl) (by kernel_rfl) (by kernel_rfl) (fun _ _ _ h => h) (Or.inl ⟨by rfl, ?hy98⟩) hHeld ?rest98
            case hy98 => (intro w hSw; (try dsimp only at hSw); (try go_split_ands); go_simp; first | done | with_reducible rfl)
            (try simp only [pt, Act.put])
            refine wpAnyH_take (i := 4) (v := ?v99) rfl (by kernel_rfl) (by kernel_rfl) (by kernel_rfl) (fun _ _ _ h => h) (Or.inl ⟨by rfl, ?hy99⟩) hHeld ?rest99
            case hy99 => (intro w hSw; (try dsimp only at hSw); (try go_split_ands); go_simp; first | done | with_reducible rfl)
            (try simp only [pt, Act.put])
            refine wpAnyH_take (i := 5) (v := ?v100) rfl (by kernel_rfl) (by kernel_rfl) (by kernel_rfl) (fun _ _ _ h => h) (Or.inl ⟨by rfl, ?hy100⟩) hHeld ?rest100
            case hy100 => (intro w hSw; (try dsimp only at hSw); (try go_split_ands); go_simp; first | done | with_reducible rfl)
            (try simp only [pt, Act.put])
            refine wpAnyH_take (i := 6) (v := ?v101) rfl (by kernel_rfl) (by kernel_rfl) (by kernel_rfl) (fun _ _ _ h => h) (Or.inl ⟨by rfl, ?hy101⟩) hHeld ?rest101
            case hy101 => (intro w hSw; (try dsimp only at hSw); (try go_split_ands); go_simp; first | done | with_reducible rfl)
            (try simp only [pt, Act.put])
            refine wpAnyH_take (i := 7) (v := ?v102) rfl (by kernel_rfl) (by kernel_rfl) (by kernel_rfl) (fun _ _ _ h => h) (Or.inl ⟨by rfl, ?hy102⟩) hHeld ?rest102
            case hy102 => (intro w hSw; (try dsimp only at hSw); (try go_split_ands); go_simp; first | done | with_reducible rfl)
            (try simp only [pt, Act.put])
            refine wpAnyH_take (i := 8) (v := ?v103) rfl (by kernel_rfl) (by kernel_rfl) (by kernel_rfl) (fun _ _ _ h => h) (Or.inl ⟨by rfl, ?hy103⟩) hHeld ?rest103
            case hy103 => (intro w hSw; (try dsimp only at hSw); (try go_split_ands); go_simp; first | done | with_reducible rfl)
            (try simp only [pt, Act.put])
            refine wpAnyH_take (i := 9) (v := ?v104) rfl (by kernel_rfl) (by kernel_rfl) (by kernel_rfl) (fun _ _ _ h => h) (Or.inl ⟨by rfl, ?hy104⟩) hHeld ?rest104
            case hy104 => (intro w hSw; (try dsimp only at hSw); (try go_split_ands); go_simp; first | done | with_reducible rfl)
            (try simp only [pt, Act.put])
            refine wpAnyH_take (i := 10) (v := ?v105) rfl (by kernel_rfl) (by kernel_rfl) (by kernel_rfl) (fun _ _ _ h => h) (Or.inl ⟨by rfl, ?hy105⟩) hHeld ?rest105
            case hy105 => (intro w hSw; (try dsimp only at hSw); (try go_split_ands); go_simp; first | done | with_reducible rfl)
            (try simp only [pt, Act.put])
            refine wpAnyH_take (i := 11) (v := ?v106) rfl (by kernel_rfl) (by kernel_rfl) (by kernel_rfl) (fun _ _ _ h => h) (Or.inl ⟨by rfl, ?hy106⟩) hHeld ?rest106
            case hy106 => (intro w hSw; (try dsimp only at hSw); (try go_split_ands); go_simp; first | done | with_reducible rfl)
            (try simp only [pt, Act.put])
            refine wpAnyH_take (i := 12) (v := ?v107) rfl (by kernel_rfl) (by kernel_rfl) (by kernel_rfl) (fun _ _ _ h => h) (Or.inl ⟨by rfl, ?hy107⟩) hHeld ?rest107
            case hy107 => (intro w hSw; (try dsimp only at hSw); (try go_split_ands); go_simp; first | done | with_reducible rfl)
            (try simp only [pt, Act.put])
            refine wpAnyH_take (i := 13) (v := ?v108) rfl (by kernel_rfl) (by kernel_rfl) (by kernel_rfl) (fun _ _ _ h => h) (Or.inl ⟨by rfl, ?hy108⟩) hHeld ?rest108
            case hy108 => (intro w hSw; (try dsimp only at hSw); (try go_split_ands); go_simp; first | done | with_reducible rfl)
            (try simp only [pt, Act.put])
            refine wpAnyH_take (i := 14) (v := ?v109) rfl (by kernel_rfl) (by kernel_rfl) (by kernel_rfl) (fun _ _ _ h => h) (Or.inl ⟨by rfl, ?hy109⟩) hHeld ?rest109
            case hy109 => (intro w hSw; (try dsimp only at hSw); (try go_split_ands); go_simp; first | done | with_reducible rfl)
            (try simp only [pt, Act.put])
            refine wpAnyH_take (i := 15) (v := ?v110) rfl (by kernel_rfl) (by kernel_rfl) (by kernel_rfl) (fun _ _ _ h => h) (Or.inl ⟨by rfl, ?hy110⟩) hHeld ?rest110
            case hy110 => (intro w hSw; (try dsimp only at hSw); (try go_split_ands); go_simp; first | done | with_reducible rfl)
            (try simp only [pt, Act.put])
            refine wpAnyH_take (i := 16) (v := ?v111) rfl (by kernel_rfl) (by kernel_rfl) (by kernel_rfl) (fun _ _ _ h => h) (Or.inl ⟨by rfl, ?hy111⟩) hHeld ?rest111
            case hy111 => (intro w hSw; (try dsimp only at hSw); (try go_split_ands); go_simp; first | done | with_reducible rfl)
            (try simp only [pt, Act.put])
            refine wpAnyH_take (i := 17) (v := ?v112) rfl (by kernel_rfl) (by kernel_rfl) (by kernel_rfl) (fun _ _ _ h => h) (Or.inl ⟨by rfl, ?hy112⟩) hHeld ?rest112
            case hy112 => (intro w hSw; (try dsimp only at hSw); (try go_split_ands); go_simp; first | done | with_reducible rfl)
            (try simp only [pt, Act.put])
            refine wpAnyH_take (i := 18) (v := ?v113) rfl (by kernel_rfl) (by kernel_rfl) (by kernel_rfl) (fun _ _ _ h => h) (Or.inl ⟨by rfl, ?hy113⟩) hHeld ?rest113
            case hy113 => (intro w hSw; (try dsimp only at hSw); (try go_split_ands); go_simp; first | done | with_reducible rfl)
            (try simp only [pt, Act.put])
            refine wpAnyH_take (i := 19) (v := ?v114) rfl (by kernel_rfl) (by kernel_rfl) (by kernel_rfl) (fun _ _ _ h => h) (Or.inl ⟨by rfl, ?hy114⟩) hHeld ?rest114
            case hy114 => (intro w hSw; (try dsimp only at hSw); (try go_split_ands); go_simp; first | done | with_reducible rfl)
            (try simp only [pt, Act.put])
            refine wpAnyH_take (i := 20) (v := ?v115) rfl (by kernel_rfl) (by kernel_rfl) (by kernel_rfl) (fun _ _ _ h => h) (Or.inl ⟨by rfl, ?hy115⟩) hHeld ?rest115
            case hy115 => (intro w hSw; (try dsimp only at hSw); (try go_split_ands); go_simp; first | done | with_reducible rfl)
            (try simp only [pt, Act.put])
            refine wpAnyH_take (i := 21) (v := ?v116) rfl (by kernel_rfl) (by kernel_rfl) (by kernel_rfl) (fun _ _ _ h => h) (Or.inl ⟨by rfl, ?hy116⟩) hHeld ?rest116
            case hy116 => (intro w hSw; (try dsimp only at hSw); (try go_split_ands); go_simp; first | done | with_reducible rfl)
            (try simp only [pt, Act.put])
            refine wpAnyH_take (i := 22) (v := ?v117) rfl (by kernel_rfl) (by kernel_rfl) (by kernel_rfl) (fun _ _ _ h => h) (Or.inl ⟨by rfl, ?hy117⟩) hHeld ?rest117
            case hy117 => (intro w hSw; (try dsimp only at hSw); (try go_split_ands); go_simp; first | done | with_reducible rfl)
            (try simp only [pt, Act.put])
            refine wpAnyH_take (i := 23) (v := ?v118) rfl (by kernel_rfl) (by kernel_rfl) (by kernel_rfl) (fun _ _ _ h => h) (Or.inl ⟨by rfl, ?hy118⟩) hHeld ?rest118
            case hy118 => (intro w hSw; (try dsimp only at hSw); (try go_split_ands); go_simp; first | done | with_reducible rfl)
            (try simp only [pt, Act.put])
            refine wpAnyH_take (i := 24) (v := ?v119) rfl (by kernel_rfl) (by kernel_rfl) (by kernel_rfl) (fun _ _ _ h => h) (Or.inl ⟨by rfl, ?hy119⟩) hHeld ?rest119
            case hy119 => (intro w hSw; (try dsimp only at hSw); (try go_split_ands); go_simp; first | done | with_reducible rfl)
            (try simp only [pt, Act.put])
            refine wpAnyH_take (i := 25) (v := ?v120) rfl (by kernel_rfl) (by kernel_rfl) (by kernel_rfl) (fun _ _ _ h => h) (Or.inl ⟨by rfl, ?hy120⟩) hHeld ?rest120
            case hy120 => (intro w hSw; (try dsimp only at hSw); (try go_split_ands); go_simp; first | done | with_reducible rfl)
            (try simp only [pt, Act.put])
            refine wpAnyH_take (i := 26) (v := ?v121) rfl (by kernel_rfl) (by kernel_rfl) (by kernel_rfl) (fun _ _ _ h => h) (Or.inl ⟨by rfl, ?hy121⟩) hHeld ?rest121
            case hy121 => (intro w hSw; (try dsimp only at hSw); (try go_split_ands); go_simp; first | done | with_reducible rfl)
            (try simp only [pt, Act.put])
            refine wpAnyH_take (i := 27) rfl (by kernel_rfl) (by kernel_rfl) (by kernel_rfl) (fun _ _ _ h => h) (yieldsIf_load_row (by rfl) 63 _ rfl _ rfl 63 _ (0, 0) _ (fun _ h => h.1) Tryz.underlying63 rfl (by kernel_rfl)) hHeld ?_
            (try simp only [pt, Act.put])
            refine wpAnyH_take (i := 30) rfl (by kernel_rfl) (by kernel_rfl) (by kernel_rfl) (fun _ _ _ h => h) (yieldsIf_load_row (by rfl) 63 _ rfl _ rfl 63 _ (0, 0) _ (fun _ h => h.2.1) Tryz.underlying63 rfl (by kernel_rfl)) hHeld ?_
            (try simp only [pt, Act.put])
            refine wpAnyH_ready (rs := [28]) (by kernel_rfl) (by simp) ?_
            refine AllReadyH.cons rfl (fun K hK => ?_) AllReadyH.nil
            go_simp
            refine (node_at8 xk xm xo xn xp xv xd xe (dsk_names HA1.out.dsk HX1.out) _ W22 (S22.out.n 1 rfl)).mono ?_
            rintro e W23 ⟨aop, cpp, rfl, hnp, hb⟩
            have S23 := Lib.hid ((S22.out.call hb).addN hnp)
            clear hb hHeld hnp
            go_wp2_with fail
            refine hK.out _ _ ⟨(S23.out.at 6 rfl), (S23.out.at 5 rfl), (cells8 (S23.out.at 5 rfl)).1, (cells8 (S23.out.at 5 rfl)).2.1, (cells8 (S23.out.at 5 rfl)).2.2.2.1, (cells8 (S23.out.at 5 rfl)).2.2.2.2.2.2.1, (cells8 (S23.out.at 6 rfl)).1, (cells8 (S23.out.at 6 rfl)).2.1, (cells8 (S23.out.at 6 rfl)).2.2.2.1, (cells8 (S23.out.at 6 rfl)).2.2.2.2.2.1, (cells8 (S23.out.at 6 rfl)).2.2.2.2.2.2.1, (cells4 (S23.out.at 3 rfl)).1, trivial⟩ (fun hHeld => ?_)
            clear hK K
            (try simp only [pt, Act.put])
            refine wpAnyH_take (i := 29) (v := ?v122) rfl (by kernel_rfl) (by kernel_rfl) (by kernel_rfl) (fun _ _ _ h => h) (Or.inl ⟨by rfl, ?hy122⟩) hHeld ?rest122
            case hy122 => (intro w hSw; (try dsimp only at hSw); (try go_split_ands); go_simp; first | done | with_reducible rfl)
            (try simp only [pt, Act.put])
            refine wpAnyH_ready (rs := [31]) (by kernel_rfl) (by simp) ?_
            refine AllReadyH.cons rfl (fun K hK => ?_) AllReadyH.nil
            go_simp
            refine (node_at8 xk xm xo xn xp xu xd xe (dsk_names HA.out.dsk HX.out) _ W23 (S23.out.n 0 rfl)).mono ?_
            rintro e W24 ⟨aoq, cpq, rfl, hnq, hb⟩
            have S24 := Lib.hid ((S23.out.call hb).addN hnq)
            clear hb hHeld hnq
            go_wp2_with fail
            refine hK.out _ _ ⟨(S24.out.at 6 rfl), (S24.out.at 5 rfl), (cells8 (S24.out.at 5 rfl)).1, (cells8 (S24.out.at 5 rfl)).2.1, (cells8 (S24.out.at 5 rfl)).2.2.2.1, (cells8 (S24.out.at 5 rfl)).2.2.2.2.2.2.1, (cells8 (S24.out.at 6 rfl)).1, (cells8 (S24.out.at 6 rfl)).2.1, (cells8 (S24.out.at 6 rfl)).2.2.2.1, (cells8 (S24.out.at 6 rfl)).2.2.2.2.2.1, (cells8 (S24.out.at 6 rfl)).2.2.2.2.2.2.1, (cells4 (S24.out.at 3 rfl)).1, trivial⟩ (fun hHeld => ?_)
            clear hK K
            (try simp only [pt, Act.put])
            refine wpAnyH_take (i := 32) (v := ?v123) rfl (by kernel_rfl) (by kernel_rfl) (by kernel_rfl) (fun _ _ _ h => h) (Or.inl ⟨by rfl, ?hy123⟩) hHeld ?rest123
            case hy123 => (intro w hSw; (try dsimp only at hSw); (try go_split_ands); go_simp; first | done | with_reducible rfl)
            (try simp only [pt, Act.put])
            refine wpAnyH_ready (rs := [33]) (by kernel_rfl) (by simp) ?_
            refine AllReadyH.cons rfl (fun K hK => ?_) AllReadyH.nil
            go_simp
            refine (sames_at (n := ⟨xk, xm, xo, xn, xp, xv, xd, xe⟩) (m := ⟨xk, xm, xo, xn, xp, xu, xd, xe⟩) rfl (S24.out.n 6 rfl) (S24.out.n 7 rfl) (dsk_names HA1.out.dsk HX1.out)).mono ?_
            rintro e W25 ⟨rfl, hb⟩
            have S25 := Lib.hid (S24.out.call hb)
            clear hb hHeld
            go_wp2_with fail
            refine hK.out _ _ ⟨(S25.out.at 6 rfl), (S25.out.at 5 rfl), (cells8 (S25.out.at 5 rfl)).1, (cells8 (S25.out.at 5 rfl)).2.1, (cells8 (S25.out.at 5 rfl)).2.2.2.1, (cells8 (S25.out.at 5 rfl)).2.2.2.2.2.2.1, (cells8 (S25.out.at 6 rfl)).1, (cells8 (S25.out.at 6 rfl)).2.1, (cells8 (S25.out.at 6 rfl)).2.2.2.1, (cells8 (S25.out.at 6 rfl)).2.2.2.2.2.1, (cells8 (S25.out.at 6 rfl)).2.2.2.2.2.2.1, (cells4 (S25.out.at 3 rfl)).1, trivial⟩ (fun hHeld => ?_)
            clear hK K
            (try simp only [pt, Act.put])
            refine wpAnyH_take (i := 34) (v := ?v124) rfl (by kernel_rfl) (by kernel_rfl) (by kernel_rfl) (fun _ _ _ h => h) (Or.inl ⟨by rfl, ?hy124⟩) hHeld ?rest124
            case hy124 => (intro w hSw; (try dsimp only at hSw); (try go_split_ands); go_simp; first | done | with_reducible rfl)
            (try simp only [pt, Act.put])
            refine wpAnyH_take (i := 35) (v := ?v125) rfl (by kernel_rfl) (by kernel_rfl) (by kernel_rfl) (fun _ _ _ h => h) (Or.inl ⟨by rfl, ?hy125⟩) hHeld ?rest125
            case hy125 => (intro w hSw; (try dsimp only at hSw); (try go_split_ands); go_simp; first | done | with_reducible rfl)
            (try simp only [pt, Act.put])
            refine wpAnyH_take (i := 36) (v := ?v126) rfl (by kernel_rfl) (by kernel_rfl) (by kernel_rfl) (fun _ _ _ h => h) (Or.inl ⟨by rfl, ?hy126⟩) hHeld ?rest126
            case hy126 => (intro w hSw; (try dsimp only at hSw); (try go_split_ands); go_simp; first | done | with_reducible rfl)
            (try simp only [pt, Act.put])
            refine wpAnyH_take (i := 37) (v := ?v127) rfl (by kernel_rfl) (by kernel_rfl) (by kernel_rfl) (fun _ _ _ h => h) (Or.inl ⟨by rfl, ?hy127⟩) hHeld ?rest127
            case hy127 => (intro w hSw; (try dsimp only at hSw); (try go_split_ands); go_simp; first | done | with_reducible rfl)
            (try simp only [pt, Act.put])
            refine wpAnyH_take (i := 38) (v := ?v128) rfl (by kernel_rfl) (by kernel_rfl) (by kernel_rfl) (fun _ _ _ h => h) (Or.inl ⟨by rfl, ?hy128⟩) hHeld ?rest128
            case hy128 => (intro w hSw; (try dsimp only at hSw); (try go_split_ands); go_simp; first | done | with_reducible rfl)
            (try simp only [pt, Act.put])
            refine wpAnyH_take (i := 39) (v := ?v129) rfl (by kernel_rfl) (by kernel_rfl) (by kernel_rfl) (fun _ _ _ h => h) (Or.inl ⟨by rfl, ?hy129⟩) hHeld ?rest129
            case hy129 => (intro w hSw; (try dsimp only at hSw); (try go_split_ands); go_simp; first | done | with_reducible rfl)
            (try simp only [pt, Act.put])
            refine wpAnyH_take (i := 40) (v := undef) rfl (by kernel_rfl) (by kernel_rfl) (by kernel_rfl) (fun _ _ _ h => h) (Or.inr ⟨by rfl, rfl⟩) hHeld ?_
            (try simp only [pt, Act.put])
            refine wpAnyH_take (i := 41) (v := undef) rfl (by kernel_rfl) (by kernel_rfl) (by kernel_rfl) (fun _ _ _ h => h) (Or.inr ⟨by rfl, rfl⟩) hHeld ?_
            (try simp only [pt, Act.put])
            refine wpAnyH_take (i := 42) (v := undef) rfl (by kernel_rfl) (by kernel_rfl) (by kernel_rfl) (fun _ _ _ h => h) (Or.inr ⟨by rfl, rfl⟩) hHeld ?_
            (try simp only [pt, Act.put])
            refine wpAnyH_take (i := 43) (v := undef) rfl (by kernel_rfl) (by kernel_rfl) (by kernel_rfl) (fun _ _ _ h => h) (Or.inr ⟨by rfl, rfl⟩) hHeld ?_
            (try simp only [pt, Act.put])
            refine wpAnyH_take (i := 44) (v := undef) rfl (by kernel_rfl) (by kernel_rfl) (by kernel_rfl) (fun _ _ _ h => h) (Or.inr ⟨by rfl, rfl⟩) hHeld ?_
            (try simp only [pt, Act.put])
            refine wpAnyH_take (i := 45) (v := ?v130) rfl (by kernel_rfl) (by kernel_rfl) (by kernel_rfl) (fun _ _ _ h => h) (Or.inl ⟨by rfl, ?hy130⟩) hHeld ?rest130
            case hy130 => (intro w hSw; (try dsimp only at hSw); (try go_split_ands); go_simp; first | done | with_reducible rfl)
            (try simp only [pt, Act.put])
            refine wpAnyH_take (i := 46) (v := ?v131) rfl (by kernel_rfl) (by kernel_rfl) (by kernel_rfl) (fun _ _ _ h => h) (Or.inl ⟨by rfl, ?hy131⟩) hHeld ?rest131
            case hy131 => (intro w hSw; (try dsimp only at hSw); (try go_split_ands); go_simp; first | done | with_reducible rfl)
            (try simp only [pt, Act.put])
            refine wpAnyH_take (i := 47) (v := ?v132) rfl (by kernel_rfl) (by kernel_rfl) (by kernel_rfl) (fun _ _ _ h => h) (Or.inl ⟨by rfl, ?hy132⟩) hHeld ?rest132
            case hy132 => (intro w hSw; (try dsimp only at hSw); (try go_split_ands); go_simp; first | done | with_reducible rfl)
            (try simp only [pt, Act.put])
            refine wpAnyH_done (by kernel_rfl) ?_ _
            go_wp2_with fail
            go_ret
            exact ⟨rfl, S25.out.bel⟩
      · have hL := (HC.out hf1).symm
        subst hL
        have qf11 : (f1 == 0) = false := by simpa using hf1
        have qf12 : (f1 != 0) = true := by simpa using hf1
        have qf13 : decide (f1 = 0) = false := by simpa using hf1
        go_upto_region 7 with (fail)
        have h_x := (S7.out.at 4 rfl)
        have h_d := (S7.out.at 0 rfl)
        refine wp_region_held_drew (S := fun W => W.heap[W6.heap.size]? = some (.cells #[.slice ao1 l.length cp1, .int .i64 most, .int .i64 room] 24 (0, 0)) ∧ W.heap[w.heap.size]? = some (.cells #[.slice ao l.length cap, .int .i64 most, .int .i64 room] 24 (0, 0)) ∧ True) (by kernel_rfl) ⟨(S7.out.at 4 rfl), (S7.out.at 0 rfl), trivial⟩ (fun hHeld => ?_)
        clear h_x h_d
        have S8 := Lib.hid (S7.out.call (Below.refl W7.heap.size W7).drew)
        generalize W7.drew = W8 at *
        refine wpAnyH_take (i := 0) rfl (by kernel_rfl) (by kernel_rfl) (by kernel_rfl) (fun _ _ _ h => h) (yieldsIf_load_row (by rfl) 24 _ rfl _ rfl 24 _ (0, 0) _ (fun _ h => h.1) Tryz.underlying24 rfl (by kernel_rfl)) hHeld ?_
        (try simp only [pt, Act.put])
        refine wpAnyH_take (i := 2) rfl (by kernel_rfl) (by kernel_rfl) (by kernel_rfl) (fun _ _ _ h => h) (yieldsIf_load_row (by rfl) 24 _ rfl _ rfl 24 _ (0, 0) _ (fun _ h => h.2.1) Tryz.underlying24 rfl (by kernel_rfl)) hHeld ?_
        (try simp only [pt, Act.put])
        refine wpAnyH_ready (rs := [1]) (by kernel_rfl) (by simp) ?_
        refine AllReadyH.cons rfl (fun K hK => ?_) AllReadyH.nil
        go_simp
        refine (its_f l most room HA.out.dsk.len HA.out.names _ W8 (S8.out.g 1 rfl)).mono ?_
        rintro e W9 ⟨aoz, cpz, rfl, hgz, hb⟩
        have S9 := Lib.hid ((S8.out.call hb).addG hgz)
        clear hb hHeld hgz
        go_wp2_with fail
        refine hK.out _ _ ⟨(S9.out.at 4 rfl), (S9.out.at 0 rfl), trivial⟩ (fun hHeld => ?_)
        clear hK K
        (try simp only [pt, Act.put])
        refine wpAnyH_ready (rs := [3]) (by kernel_rfl) (by simp) ?_
        refine AllReadyH.cons rfl (fun K hK => ?_) AllReadyH.nil
        go_simp
        refine (its_f l most room HA.out.dsk.len HA.out.names _ W9 (S9.out.g 0 rfl)).mono ?_
        rintro e W10 ⟨aov, cpv, rfl, hgv, hb⟩
        have S10 := Lib.hid ((S9.out.call hb).addG hgv)
        clear hb hHeld hgv
        go_wp2_with fail
        refine hK.out _ _ ⟨(S10.out.at 4 rfl), (S10.out.at 0 rfl), trivial⟩ (fun hHeld => ?_)
        clear hK K
        (try simp only [pt, Act.put])
        refine wpAnyH_ready (rs := [4]) (by kernel_rfl) (by simp) ?_
        refine AllReadyH.cons rfl (fun K hK => ?_) AllReadyH.nil
        go_simp
        refine (same_g l most room HA.out.dsk.len HA.out.names _ _ W10 (S10.out.g 2 rfl) (S10.out.g 3 rfl)).mono ?_
        rintro e W11 ⟨rfl, hb⟩
        have S11 := Lib.hid (S10.out.call hb)
        clear hb hHeld
        go_wp2_with fail
        refine hK.out _ _ ⟨(S11.out.at 4 rfl), (S11.out.at 0 rfl), trivial⟩ (fun hHeld => ?_)
        clear hK K
        (try simp only [pt, Act.put])
        refine wpAnyH_take (i := 5) (v := ?v133) rfl (by kernel_rfl) (by kernel_rfl) (by kernel_rfl) (fun _ _ _ h => h) (Or.inl ⟨by rfl, ?hy133⟩) hHeld ?rest133
        case hy133 => (intro w hSw; (try dsimp only at hSw); (try go_split_ands); go_simp; first | done | with_reducible rfl)
        (try simp only [pt, Act.put])
        refine wpAnyH_done (by kernel_rfl) ?_ _
        go_wp2_with fail
        go_ret
        exact ⟨rfl, S11.out.bel⟩
end Go.Proofs.YtpmhmippoefcfaaGreatDoor
