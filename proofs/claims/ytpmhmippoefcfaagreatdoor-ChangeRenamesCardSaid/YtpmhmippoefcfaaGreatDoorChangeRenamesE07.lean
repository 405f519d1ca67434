/-
  The document's dots, over.
-/
import Derived.RangeFuncNested
import Derived.RangeFuncBound
import Derived.RangeFuncCalls
import Derived.RangeFuncLeaves
import Derived.RangeFuncBox
import Derived.Shelf.Abstract
import Derived.Shelf.RegionOpen
import Derived.WalkKit
import Derived.OwnWalkIn
import Derived.TacticsInMore
import Derived.LoopNIn
import Derived.LoopIn
import Derived.Lib.Hide
import Derived.Outline
import Derived.Deep.QuietTactic
import Derived.Deep.AppendLies
import Derived.BigQuiet
import Derived.Lib.Strings
import Derived.WalkSmall
import Derived.Shelf.Small.Strs
import Derived.Shelf.Strings.Search1
import Derived.Shelf.Strings.Prefix
import Derived.Laws.AppendOwn
import Derived.Laws.OwnMore
import Derived.Laws.AppendOwnNone
import Derived.WideShapes
import Derived.Lib.TrimByte
import Derived.Lib.Bytealg
import Derived.Lib.QuietBelow
import Derived.Deep.DrawnRows
import Derived.Laws.Cover1
import Derived.WalkMore
import Derived.Shelf.Spec.SlicesGrow
import Derived.StillTailTactics
import Derived.Laws.BitsLemmas
import Derived.Laws.RangeAny
import Derived.Laws.Runes
import Derived.Lib.Builder
import Derived.Deep.WholeRow
import Derived.Lib.OthersKept
import Derived.Shelf.SlSorted.Search
import Derived.LaidEql
import Derived.Stop.Asserts
import Derived.RowKitTokens
import Derived.Deep.RegionHeld3
import Derived.Deep.RegionLaw
import Derived.Handy
import Derived.Laws.IdiomCopy
import Derived.Lib.SliceRun
import Derived.Laws.ResultCell
import Derived.Deep.LoopGhost
import Derived.Deep.DeepCutAuto
import Derived.Deep.MidRow
import Derived.BigRegion
import Derived.Test.YtpmhmippoefcfaaGreatDoorProg
import Derived.Test.YtpmhmippoefcfaaGreatDoorShelf
import Derived.Test.YtpmhmippoefcfaaGreatDoorB01
import Derived.Test.YtpmhmippoefcfaaGreatDoorB02
import Derived.Test.YtpmhmippoefcfaaGreatDoorB04
import Derived.Test.YtpmhmippoefcfaaGreatDoorB08
import Derived.Test.YtpmhmippoefcfaaGreatDoorB09
import Derived.Test.YtpmhmippoefcfaaGreatDoorB10
import Derived.Test.YtpmhmippoefcfaaGreatDoorB12
import Derived.Test.YtpmhmippoefcfaaGreatDoorB13
import Derived.Test.YtpmhmippoefcfaaGreatDoorB14
import Derived.Test.YtpmhmippoefcfaaGreatDoorChangeRenamesE02
import Derived.Test.YtpmhmippoefcfaaGreatDoorChangeRenamesE06
namespace Go.Proofs.YtpmhmippoefcfaaGreatDoor
open Go.RowKit Go.Shelf
attribute [local go_sem ↓] Go.wp_at_zero Go.wp_at_succ
theorem rdots_any (nm : Nm) (w : World) : Calls Tryz.prog 67 #[.string (bs nm)] w fun e w' => e = .returned (.bool (dotsB nm)) ∧ w = w' := by
  rw [show dotsB nm = (nm == [] || nm == [46] || nm == [46, 46]) from by unfold dotsB; by_cases h1 : nm = [] <;> by_cases h2 : nm = [46] <;> by_cases h3 : nm = [46, 46] <;> simp [h1, h2, h3]]
  cases h1 : (nm == []) with
  | true =>
    go_enter Tryz.func67, Tryz.ntmps67
    go_wp2_with fail
    go_ret
    exact ⟨rfl, rfl⟩
  | false =>
    cases h2 : (nm == [46]) with
    | true =>
      go_enter Tryz.func67, Tryz.ntmps67
      go_wp2_with fail
      go_ret
      exact ⟨rfl, rfl⟩
    | false =>
      go_enter Tryz.func67, Tryz.ntmps67
      go_wp2_with fail
      go_ret
      exact ⟨rfl, rfl⟩
theorem over_at {l : List NodeL} {s t : SpotL} {n m d : NodeL} {is bn : Bool} (hn : n = nodeL l s.ino) (hm : m = nodeL l t.ino) (hd : d = nodeL l t.dir) (hi : is = gotB l t.ino) (hb : bn = beneathL l (l.length + 1) t.dir s.ino) :
    overE l s t = if d.links < 1 then 2 else if n.kind = 2 then (if bn = true then 15 else if is = true ∧ m.kind ≠ 2 then 4 else if is = true ∧ m.names ≠ [] then 6 else 0) else if is = true ∧ m.kind = 2 then 5 else if t.slash = true then 4 else 0 := by
  subst hn; subst hm; subst hd; subst hi; subst hb; rfl
set_option maxRecDepth 100000 in
set_option maxHeartbeats 4000000 in
theorem rover_g (l : List NodeL) (most room : Int) (s t : SpotL) (ao : Option Addr) (cap : Nat) (w : World) (hg : GivesX (fun _ => False) l (.slice ao l.length cap) w) (hd : Dsk l) :
    Calls Tryz.prog 68 #[diskV ao l.length cap most room, spotV s, spotV t] w fun e w' => e = .returned (.int .i64 (overE l s t)) ∧ Below w.heap.size w w' := by
  have S0 := Lib.hid (St.start (G := [(l, .slice ao l.length cap)]) (N := []) (w := w) (fun _ h => h.elim) (one_g hg) no_n)
  have HD := Lib.hid hd
  clear hg hd
  obtain ⟨sd, sn, si, ss⟩ := s
  obtain ⟨td, tn, ti, ts⟩ := t
  obtain ⟨n, hn⟩ : ∃ n, n = nodeL l si := ⟨_, rfl⟩
  obtain ⟨m, hm⟩ : ∃ m, m = nodeL l ti := ⟨_, rfl⟩
  obtain ⟨d, hd⟩ : ∃ d, d = nodeL l td := ⟨_, rfl⟩
  obtain ⟨is, hi⟩ : ∃ is, is = gotB l ti := ⟨_, rfl⟩
  obtain ⟨bn, hb⟩ : ∃ bn, bn = beneathL l (l.length + 1) td si := ⟨_, rfl⟩
  have HE := Lib.hid (over_at (s := ⟨sd, sn, si, ss⟩) (t := ⟨td, tn, ti, ts⟩) hn hm hd hi hb)
  have HN := Lib.hid hn
  have HM := Lib.hid hm
  have HDD := Lib.hid hd
  have HI := Lib.hid hi
  have HB := Lib.hid hb
  clear hn hm hd hi hb
  dsimp only at HE
  generalize overE l ⟨sd, sn, si, ss⟩ ⟨td, tn, ti, ts⟩ = E at *
  go_enter Tryz.func68, Tryz.ntmps68
  go_upto_region 1 with (fail)
  refine code_fresh3 ?_
  intro W1 hb hA0 hA1 hA2 hs
  have S1 := Lib.hid (S0.out.new3 hb hA0 hA1 hA2)
  clear hb hA0 hA1 hA2 hs
  have h_d := (S1.out.at 0 rfl)
  obtain ⟨-, -, s2, -⟩ := cells4 (S1.out.at 1 rfl)
  go_wp2_with (first | (refine wpList_load_row rfl 32 _ rfl _ rfl 32 _ (0, 0) _ h_d Tryz.underlying32 rfl (by kernel_rfl) ?_))
  refine (rget_g _ l most room si _ W1 (S1.out.g 0 rfl) HD.out.len).mono ?_
  rintro e W2 ⟨ao2, cp2, rfl, hn1, hb⟩
  clear h_d s2
  have S2 := Lib.hid ((S1.out.call hb).addN hn1)
  clear hb hn1
  rw [← HN.out] at S2 ⊢
  go_upto_region 2 with (fail)
  refine code_fresh1 ?_
  intro W3 hb hA0 hs
  have S3 := Lib.hid (S2.out.new1 hb hA0)
  clear hb hA0 hs
  have h_d := (S3.out.at 0 rfl)
  obtain ⟨-, -, t2, -⟩ := cells4 (S3.out.at 2 rfl)
  go_wp2_with (first | (refine wpList_load_row rfl 32 _ rfl _ rfl 32 _ (0, 0) _ h_d Tryz.underlying32 rfl (by kernel_rfl) ?_))
  refine (rget_g _ l most room ti _ W3 (S3.out.g 0 rfl) HD.out.len).mono ?_
  rintro e W4 ⟨ao4, cp4, rfl, hn1, hb⟩
  clear h_d t2
  have S4 := Lib.hid ((S3.out.call hb).addN hn1)
  clear hb hn1
  rw [← HM.out] at S4 ⊢
  rw [← HI.out]
  go_upto_region 3 with (fail)
  refine code_fresh1 ?_
  intro W5 hb hA0 hs
  have S5 := Lib.hid (S4.out.new1 hb hA0)
  clear hb hA0 hs
  have h_d := (S5.out.at 0 rfl)
  obtain ⟨t0, -, -, -⟩ := cells4 (S5.out.at 2 rfl)
  go_wp2_with (first | (refine wpList_load_row rfl 32 _ rfl _ rfl 32 _ (0, 0) _ h_d Tryz.underlying32 rfl (by kernel_rfl) ?_))
  refine (rget_g _ l most room td _ W5 (S5.out.g 0 rfl) HD.out.len).mono ?_
  rintro e W6 ⟨ao6, cp6, rfl, hn1, hb⟩
  clear h_d t0
  have S6 := Lib.hid ((S5.out.call hb).addN hn1)
  clear hb hn1
  rw [← HDD.out] at S6 ⊢
  go_upto_region 4 with (fail)
  refine code_fresh1 ?_
  intro W7 hb hA0 hs
  have S7 := Lib.hid (S6.out.new1 hb hA0)
  clear hb hA0 hs
  obtain ⟨-, -, -, x3, -, -, -, -⟩ := cells8 (S7.out.at 5 rfl)
  by_cases h1 : d.links < 1
  · have hI : decide (d.links < 1) = true := decide_eq_true h1
    have HE2 := Lib.hid (HE.out.trans (if_pos h1))
    clear h1 HE
    go_wp2_with fail
    go_ret
    exact ⟨(by rw [HE2.out]; first | done | rfl), S7.out.bel⟩
  have hI : decide (d.links < 1) = false := decide_eq_false h1
  have HE2 := Lib.hid (HE.out.trans (if_neg h1))
  clear h1 HE
  by_cases hk : n.kind = 2
  · have hK : (n.kind == 2) = true := by simpa using hk
    have hK2 : (n.kind != 2) = false := by simpa using hk
    have HE3 := Lib.hid (HE2.out.trans (if_pos hk))
    clear hk HE2
    obtain ⟨n0, -, -, -, -, -, -, -⟩ := cells8 (S7.out.at 3 rfl)
    obtain ⟨t0, -, -, -⟩ := cells4 (S7.out.at 2 rfl)
    obtain ⟨-, -, s2, -⟩ := cells4 (S7.out.at 1 rfl)
    obtain ⟨d0, d1, d2⟩ := cells3 (S7.out.at 0 rfl)
    go_wp2_with fail
    refine (rbeneath_g l most room td si _ _ W7 (S7.out.g 0 rfl).none HD.out.len).mono ?_
    rintro e W8 ⟨rfl, hb⟩
    clear x3 n0 t0 s2 d0 d1 d2
    have S8 := Lib.hid (S7.out.call hb)
    clear hb
    rw [← HB.out]
    obtain ⟨n0, -, -, -, -, -, -, -⟩ := cells8 (S8.out.at 3 rfl)
    obtain ⟨m0, -, -, -, -, -, -, m7⟩ := cells8 (S8.out.at 4 rfl)
    cases bn with
    | true =>
      have HE4 := Lib.hid (HE3.out.trans (if_pos rfl))
      go_wp2_with fail
      go_ret
      exact ⟨(by rw [HE4.out]; first | done | rfl), S8.out.bel⟩
    | false =>
      have HE4 := Lib.hid (HE3.out.trans (if_neg (by simp)))
      clear HE3
      cases is with
      | false =>
        have HE5 := Lib.hid ((HE4.out.trans (if_neg (by simp))).trans (if_neg (by simp)))
        go_wp2_with fail
        go_ret
        exact ⟨(by rw [HE5.out]; first | done | rfl), S8.out.bel⟩
      | true =>
        by_cases hm : m.kind = 2
        · have hM : (m.kind != 2) = false := by simpa using hm
          have HE5 := Lib.hid (HE4.out.trans (if_neg (by simp [hm])))
          clear hm HE4
          by_cases hq : m.names = []
          · have hQ : decide (0 < m.names.length) = false := by rw [hq]; rfl
            have HE6 := Lib.hid (HE5.out.trans (if_neg (by simp [hq])))
            clear hq HE5
            go_wp2_with fail
            go_ret
            exact ⟨(by rw [HE6.out]; first | done | rfl), S8.out.bel⟩
          · have hQ : decide (0 < m.names.length) = true := decide_eq_true (List.length_pos_iff.2 hq)
            have HE6 := Lib.hid (HE5.out.trans (if_pos ⟨rfl, hq⟩))
            clear hq HE5
            go_wp2_with fail
            go_ret
            exact ⟨(by rw [HE6.out]; first | done | rfl), S8.out.bel⟩
        · have hM : (m.kind != 2) = true := by simpa using hm
          have HE5 := Lib.hid (HE4.out.trans (if_pos ⟨rfl, hm⟩))
          clear hm HE4
          go_wp2_with fail
          go_ret
          exact ⟨(by rw [HE5.out]; first | done | rfl), S8.out.bel⟩
  · have hK : (n.kind == 2) = false := by simpa using hk
    have hK2 : (n.kind != 2) = true := by simpa using hk
    have HE3 := Lib.hid (HE2.out.trans (if_neg hk))
    clear hk HE2
    obtain ⟨n0, -, -, -, -, -, -, -⟩ := cells8 (S7.out.at 3 rfl)
    obtain ⟨m0, -, -, -, -, -, -, m7⟩ := cells8 (S7.out.at 4 rfl)
    cases is with
    | false =>
      have HE4 := Lib.hid (HE3.out.trans (if_neg (by simp)))
      clear HE3
      cases ts with
      | true =>
        have HE5 := Lib.hid (HE4.out.trans (if_pos rfl))
        obtain ⟨-, -, -, t3⟩ := cells4 (S7.out.at 2 rfl)
        go_wp2_with fail
        go_ret
        exact ⟨(by rw [HE5.out]; first | done | rfl), S7.out.bel⟩
      | false =>
        have HE5 := Lib.hid (HE4.out.trans (if_neg (by simp)))
        obtain ⟨-, -, -, t3⟩ := cells4 (S7.out.at 2 rfl)
        go_wp2_with fail
        go_ret
        exact ⟨(by rw [HE5.out]; first | done | rfl), S7.out.bel⟩
    | true =>
      by_cases hm : m.kind = 2
      · have hM : (m.kind == 2) = true := by simpa using hm
        have HE4 := Lib.hid (HE3.out.trans (if_pos ⟨rfl, hm⟩))
        clear hm HE3
        go_wp2_with fail
        go_ret
        exact ⟨(by rw [HE4.out]; first | done | rfl), S7.out.bel⟩
      · have hM : (m.kind == 2) = false := by simpa using hm
        have HE4 := Lib.hid (HE3.out.trans (if_neg (by simp [hm])))
        clear hm HE3
        cases ts with
        | true =>
          have HE5 := Lib.hid (HE4.out.trans (if_pos rfl))
          obtain ⟨-, -, -, t3⟩ := cells4 (S7.out.at 2 rfl)
          go_wp2_with fail
          go_ret
          exact ⟨(by rw [HE5.out]; first | done | rfl), S7.out.bel⟩
        | false =>
          have HE5 := Lib.hid (HE4.out.trans (if_neg (by simp)))
          obtain ⟨-, -, -, t3⟩ := cells4 (S7.out.at 2 rfl)
          go_wp2_with fail
          go_ret
          exact ⟨(by rw [HE5.out]; first | done | rfl), S7.out.bel⟩
end Go.Proofs.YtpmhmippoefcfaaGreatDoor
