/-
  The program's Chmod.
-/
import Derived.RangeFuncNested
import Derived.RangeFuncBound
import Derived.RangeFuncCalls
import Derived.RangeFuncLeaves
import Derived.RangeFuncBox
import Derived.Shelf.Abstract
import Derived.Shelf.RegionOpen
import Derived.WalkKit
import Derived.OwnWalkIn
import Derived.TacticsInMore
import Derived.LoopNIn
import Derived.LoopIn
import Derived.Lib.Hide
import Derived.Outline
import Derived.Deep.QuietTactic
import Derived.Deep.AppendLies
import Derived.BigQuiet
import Derived.Lib.Strings
import Derived.WalkSmall
import Derived.Shelf.Small.Strs
import Derived.Shelf.Strings.Search1
import Derived.Shelf.Strings.Prefix
import Derived.Laws.AppendOwn
import Derived.Laws.OwnMore
import Derived.Laws.AppendOwnNone
import Derived.WideShapes
import Derived.Lib.TrimByte
import Derived.Lib.Bytealg
import Derived.Lib.QuietBelow
import Derived.Deep.DrawnRows
import Derived.Laws.Cover1
import Derived.WalkMore
import Derived.Shelf.Spec.SlicesGrow
import Derived.StillTailTactics
import Derived.Laws.BitsLemmas
import Derived.Laws.RangeAny
import Derived.Laws.Runes
import Derived.Lib.Builder
import Derived.Deep.WholeRow
import Derived.Lib.OthersKept
import Derived.Shelf.SlSorted.Search
import Derived.LaidEql
import Derived.Stop.Asserts
import Derived.RowKitTokens
import Derived.Deep.RegionHeld3
import Derived.Deep.RegionLaw
import Derived.Handy
import Derived.Laws.IdiomCopy
import Derived.Lib.SliceRun
import Derived.Laws.ResultCell
import Derived.Deep.LoopGhost
import Derived.Deep.DeepCutAuto
import Derived.Deep.MidRow
import Derived.BigRegion
import Derived.Test.YtpmhmippoefcfaaGreatDoorProg
import Derived.Test.YtpmhmippoefcfaaGreatDoorShelf
import Derived.Test.YtpmhmippoefcfaaGreatDoorB01
import Derived.Test.YtpmhmippoefcfaaGreatDoorB02
import Derived.Test.YtpmhmippoefcfaaGreatDoorB04
import Derived.Test.YtpmhmippoefcfaaGreatDoorB05
import Derived.Test.YtpmhmippoefcfaaGreatDoorB07
import Derived.Test.YtpmhmippoefcfaaGreatDoorB08
import Derived.Test.YtpmhmippoefcfaaGreatDoorB10
import Derived.Test.YtpmhmippoefcfaaGreatDoorB12
import Derived.Test.YtpmhmippoefcfaaGreatDoorB13
import Derived.Test.YtpmhmippoefcfaaGreatDoorB14
import Derived.Test.YtpmhmippoefcfaaGreatDoorB15
import Derived.Test.YtpmhmippoefcfaaGreatDoorB16
import Derived.Test.YtpmhmippoefcfaaGreatDoorB17
import Derived.Test.YtpmhmippoefcfaaGreatDoorB18
import Derived.Test.YtpmhmippoefcfaaGreatDoorB21
import Derived.Test.YtpmhmippoefcfaaGreatDoorChangeDropsE01
import Derived.Test.YtpmhmippoefcfaaGreatDoorChangeDropsE07
namespace Go.Proofs.YtpmhmippoefcfaaGreatDoor
open Go.RowKit Go.Shelf
attribute [local go_sem ↓] Go.wp_at_zero Go.wp_at_succ
/-- What is wrong with two names of a node, the second of which is to come. -/
def linkedE (l : List NodeL) (who : Int) (old path : Str) (R1 R2 : ResL) : Int :=
  if thereE R1 ≠ 0 then thereE R1 else if ((placeOf l who old R1).nn.kind == 2) = true then 5 else if 20 ≤ (placeOf l who old R1).nn.links then 11
  else if R2.2 ≠ 0 then R2.2 else if toEnterE (placeOf l who path R2) 2 ≠ 0 then toEnterE (placeOf l who path R2) 2 else if (placeOf l who path R2).s.slash = true then 4 else 0
theorem linked_at {l : List NodeL} {who : Int} {old path : Str} {R1 R2 : ResL} {p q : PlaceL} {e f t : Int} (hp : p = placeOf l who old R1) (hq : q = placeOf l who path R2) (he : e = thereE R1) (hf : f = R2.2) (ht : t = toEnterE q 2) :
    linkedE l who old path R1 R2 = if e ≠ 0 then e else if (p.nn.kind == 2) = true then 5 else if 20 ≤ p.nn.links then 11 else if f ≠ 0 then f else if t ≠ 0 then t else if q.s.slash = true then 4 else 0 := by
  subst hp; subst hq; subst he; subst hf; subst ht; rfl
set_option maxRecDepth 100000 in
set_option maxHeartbeats 4000000 in
theorem pchmod_g (X : Nat → Prop) {S : Nat → Addr} (l : List NodeL) (most room who fr : Int) (path : Str) (mode : Int) (ao : Option Addr) (cap : Nat) (w : World) (hX : Old X w) (hg : GivesX X l (.slice ao l.length cap) w) (hd : Dsk l) (hplpath : path.length ≤ 10000) (hs : Sent S w) :
    Calls Tryz.prog 28 #[diskV ao l.length cap most room, asV who fr, .string (bs path), .int .i64 mode] w fun e w' => ChgIs X (chmodL l who fr path mode) most room e w w' := by
  have S0 := Lib.hid (St.start (G := [(l, .slice ao l.length cap)]) (N := []) hX (one_g hg) no_n)
  have HD := Lib.hid hd
  have HS := Lib.hid hs
  have HRET : Hid (∀ (W : World) (cs : Array Value) (fr), W.heap[w.heap.size + 2]? = some (.cells cs 24 fr) → cs.size = 3 → ∀ tmps : Array Value, tmps.getD 8 undef = .pointer (some ⟨w.heap.size + 2, 0, none⟩) → (results Tryz.f28 tmps).run Tryz.prog W = .ok (.tuple #[.agg cs, tmps.getD 9 undef]) W) := Lib.hid fun W cs fr h hs tmps ht =>
  results_ct (p := 8) (u := 9) (ty := 24) rfl tmps W (w.heap.size + 2) _ cs fr _ ht h Tryz.underlying24 rfl (by rw [hs]; kernel_rfl)
  clear hX hg hd hs
  go_enter Tryz.func28, Tryz.ntmps28
  go_upto_region 1 with (fail)
  refine code_fresh3 ?_
  intro W1 hb hA0 hA1 hA2 hs
  have S1 := Lib.hid (S0.out.new3 hb hA0 hA1 hA2)
  clear hb hA0 hA1 hA2 hs
  have h_d := (S1.out.at 0 rfl)
  obtain ⟨a0, a1⟩ := cells2 (S1.out.at 1 rfl)
  go_wp2_with (first | (refine wpList_load_row rfl 24 _ rfl _ rfl 24 _ (0, 0) _ h_d Tryz.underlying24 rfl (by kernel_rfl) ?_))
  refine (xnode_g _ l HD.out most room who fr path true hplpath _ W1 (S1.out.g 0 rfl) (HS.out.keep S1.out.bel).err).mono ?_
  rintro e W2 ⟨rfl, hb⟩
  clear h_d a0 a1
  have S2 := Lib.hid (S1.out.call hb)
  clear hb
  obtain ⟨R, hR⟩ : ∃ R, R = wnodeL (walkL l who fr path true) := ⟨_, rfl⟩
  rw [← hR]
  have HE := Lib.hid (chmod_at (mode := mode) hR)
  clear hR
  obtain ⟨i, n⟩ := R
  dsimp only at HE
  by_cases h0 : n = 0
  · subst h0
    have HE2 := Lib.hid (HE.out.trans (if_neg (by simp)))
    clear HE
    have h_d := (S2.out.at 0 rfl)
    go_wp2_with (first | (refine wpList_load_row rfl 24 _ rfl _ rfl 24 _ (0, 0) _ h_d Tryz.underlying24 rfl (by kernel_rfl) ?_))
    refine (get_g _ l most room i _ W2 S2.out.oldX (S2.out.g 0 rfl) HD.out.len HD.out.ord.nm).mono ?_
    rintro e W3 ⟨ao1, cp1, rfl, hn1, hb⟩
    clear h_d
    have S3 := Lib.hid ((S2.out.call hb).addN hn1)
    clear hb hn1
    have HNM : Hid ((nodeL l i).names.length ≤ 10000) := Lib.hid (HD.out.ord.node i).1
    generalize nodeL l i = m at *
    go_upto_region 5 with (first | (refine wpList_fresh1 ?_; intro W4 hb hn hs; have S4 := Lib.hid (S3.out.new1 hb hn); have h_n := S4.out.at 3 rfl; clear hb hn hs) | (refine wpList_store_row rfl 63 _ _ rfl _ rfl rfl h_n rfl (by kernel_rfl) rfl ?_; intro W5 hb hg hs hn; have S5 := Lib.hid (S4.out.set 3 rfl hb hg hs hn); clear hb hg hs hn))
    clear h_n
    by_cases h1 : who ≠ 0 ∧ who ≠ m.owner
    · have hA : (who != 0) = true := by simpa using h1.1
      have hB : (who != m.owner) = true := by simpa using h1.2
      have HE3 := Lib.hid (HE2.out.trans (if_pos h1))
      clear HE2 h1
      obtain ⟨a0, -⟩ := cells2 (S5.out.at 1 rfl)
      obtain ⟨-, -, n2, -, -, -, -, -⟩ := cells8 (S5.out.at 3 rfl)
      go_upto_region 6 with (fail)
      clear a0 n2
      have h_d := (S5.out.at 0 rfl)
      refine wp_region_held_drew (S := fun W => W.heap[w.heap.size]? = some (.cells #[.slice ao l.length cap, .int .i64 most, .int .i64 room] 24 (0, 0)) ∧ W.cell? ⟨2, 0, none⟩ = some (sentV (S 7)) ∧ True) (by kernel_rfl) ⟨(S5.out.at 0 rfl), (HS.out.keep S5.out.bel).e7, trivial⟩ (fun hHeld => ?_)
      clear h_d
      have S6 := Lib.hid (S5.out.call (Below.refl W5.heap.size W5).drew)
      generalize W5.drew = W6 at *
      refine wpAnyH_take (i := 0) rfl (by kernel_rfl) (by kernel_rfl) (by kernel_rfl) (fun _ _ _ h => h) (yieldsIf_load_row (by rfl) 24 _ rfl _ rfl 24 _ (0, 0) _ (fun _ h => h.1) Tryz.underlying24 rfl (by kernel_rfl)) hHeld ?_
      (try simp only [pt, Act.put])
      refine wpAnyH_take (i := 1) (v := ?v1) rfl (by kernel_rfl) (by kernel_rfl) (by kernel_rfl) (fun _ _ _ h => h) (Or.inl ⟨by rfl, ?hy1⟩) hHeld ?rest1
      case hy1 => (intro w hSw; (try dsimp only at hSw); (try go_split_ands); go_simp; first | done | with_reducible rfl)
      (try simp only [pt, Act.put])
      refine wpAnyH_take (i := 2) (v := ?v2) rfl (by kernel_rfl) (by kernel_rfl) (by kernel_rfl) (fun _ _ _ h => h) (Or.inl ⟨by rfl, ?hy2⟩) hHeld ?rest2
      case hy2 => (intro w hSw; (try dsimp only at hSw); (try go_split_ands); go_simp; first | done | with_reducible rfl)
      (try simp only [pt, Act.put])
      refine wpAnyH_take (i := 3) (v := ?v3) rfl (by kernel_rfl) (by kernel_rfl) (by kernel_rfl) (fun _ _ _ h => h) (Or.inl ⟨by rfl, ?hy3⟩) hHeld ?rest3
      case hy3 => (intro w hSw; (try dsimp only at hSw); (try go_split_ands); go_simp; first | done | with_reducible rfl)
      (try simp only [pt, Act.put])
      refine wpAnyH_take (i := 4) (v := ?v4) rfl (by kernel_rfl) (by kernel_rfl) (by kernel_rfl) (fun _ _ _ h => h) (Or.inl ⟨by rfl, ?hy4⟩) hHeld ?rest4
      case hy4 => (intro w hSw; (try dsimp only at hSw); (try go_split_ands); go_simp; first | done | with_reducible rfl)
      (try simp only [pt, Act.put])
      refine wpAnyH_ready (rs := [5]) (by kernel_rfl) (by simp) ?_
      refine AllReadyH.cons rfl (fun K hK => ?_) AllReadyH.nil
      go_simp
      refine (chg_number (HS.out.keep S6.out.bel) (ErrIs.sent 7 (by decide) (bs path))).mono ?_
      rintro e W7 ⟨rfl, hb⟩
      have S7 := Lib.hid (S6.out.call hb)
      clear hb hHeld
      go_wp2_with fail
      refine hK.out _ _ ⟨(S7.out.at 0 rfl), (HS.out.keep S7.out.bel).e7, trivial⟩ (fun hHeld => ?_)
      clear hK K
      (try simp only [pt, Act.put])
      refine wpAnyH_ready (rs := [6]) (by kernel_rfl) (by simp) ?_
      refine AllReadyH.cons rfl (fun K hK => ?_) AllReadyH.nil
      rw [if_pos (by rfl)]
      refine wp_store_row 24 _ _ rfl _ rfl rfl (S7.out.at 2 rfl) rfl (by kernel_rfl) rfl ?_
      intro W8 hb hg hs hn
      have S8 := Lib.hid (S7.out.set 2 rfl hb hg hs hn)
      clear hb hg hs hn hHeld
      refine hK.out _ _ ⟨(S8.out.at 0 rfl), (HS.out.keep S8.out.bel).e7, trivial⟩ (fun hHeld => ?_)
      clear hK K
      (try simp only [pt, Act.put])
      refine wpAnyH_take (i := 7) (v := ?v5) rfl (by kernel_rfl) (by kernel_rfl) (by kernel_rfl) (fun _ _ _ h => h) (Or.inl ⟨by rfl, ?hy5⟩) hHeld ?rest5
      case hy5 => (intro w hSw; (try dsimp only at hSw); (try go_split_ands); go_simp; first | done | with_reducible rfl)
      (try simp only [pt, Act.put])
      refine wpAnyH_done (by kernel_rfl) ?_ _
      go_wp2_with fail
      refine bodyPost_ret (HRET.out _ _ _ (S8.out.at 2 rfl) rfl _ rfl) rfl ?_
      rw [HE3.out]
      exact ⟨_, _, rfl, S8.out.gX 0 rfl, S8.out.bel⟩
    · have HE3 := Lib.hid (HE2.out.trans (if_neg h1))
      have hA : (who != 0) = false ∨ ((who != 0) = true ∧ (who != m.owner) = false) := by
        by_cases h2 : who = 0
        · exact .inl (by simpa using h2)
        · exact .inr ⟨by simpa using h2, Bool.eq_false_iff.2 fun h3 => h1 ⟨h2, by simpa using h3⟩⟩
      clear HE2 h1
      rcases hA with hA | ⟨hA, hB⟩
      all_goals
        obtain ⟨a0, -⟩ := cells2 (S5.out.at 1 rfl)
        obtain ⟨-, -, n2, -, -, -, -, -⟩ := cells8 (S5.out.at 3 rfl)
        go_wp2_with fail
        refine (six_below mode W5).mono ?_
        rintro e W6 ⟨rfl, hb⟩
        clear a0 n2
        have S6 := Lib.hid (S5.out.call hb)
        clear hb
        obtain ⟨n0, n1, n2, n3, n4, n5, n6, n7⟩ := cells8 (S6.out.at 3 rfl)
        have fn := fun j => Lib.frozen_of_heap (S6.out.at 3 rfl) j
        go_upto_region 8 with (fail)
        refine code_set1 (S6.out.at 3 rfl) ?_
        intro W7 hb hg hs hn
        clear n0 n1 n2 n3 n4 n5 n6 n7 fn
        have S7 := Lib.hid (S6.out.set 3 rfl hb hg hs hn)
        clear hb hg hs hn
        have h_d := (S7.out.at 0 rfl)
        have h_n := (S7.out.at 3 rfl)
        go_wp2_with (first | (refine wpList_load_row rfl 24 _ rfl _ rfl 24 _ (0, 0) _ h_d Tryz.underlying24 rfl (by kernel_rfl) ?_) | (refine wpList_load_row rfl 63 _ rfl _ rfl 63 _ (0, 0) _ h_n Tryz.underlying63 rfl (by kernel_rfl) ?_))
        refine (set_g _ l most room i (modeN m mode) _ _ W7 S7.out.oldX (S7.out.g 0 rfl) HD.out.len ((S7.out.n 0 rfl).same rfl) HNM.out).mono ?_
        rintro e W8 ⟨ao3, cap3, rfl, hg3, hb⟩
        clear h_d h_n
        have S8 := Lib.hid ((S7.out.call hb).addG hg3)
        clear hb hg3
        have h_r := (S8.out.at 2 rfl)
        go_wp2_with (first | (refine wpList_store_row rfl 24 _ _ rfl _ rfl rfl h_r rfl (by kernel_rfl) rfl ?_; intro W9 hb hg hs hn; have S9 := Lib.hid (S8.out.set 2 rfl hb hg hs hn); clear hb hg hs hn))
        refine bodyPost_ret (HRET.out _ _ _ (S9.out.at 2 rfl) rfl _ rfl) rfl ?_
        rw [HE3.out]
        exact ⟨_, _, rfl, S9.out.gX 1 rfl, S9.out.bel⟩
  · have hI : (n != 0) = true := by simpa using h0
    have HE2 := Lib.hid (HE.out.trans (if_pos h0))
    have HB : Hid (n ≠ 0) := Lib.hid h0
    clear HE h0
    go_upto_region 3 with (fail)
    have h_d := (S2.out.at 0 rfl)
    refine wp_region_held_drew (S := fun W => W.heap[w.heap.size]? = some (.cells #[.slice ao l.length cap, .int .i64 most, .int .i64 room] 24 (0, 0)) ∧ True) (by kernel_rfl) ⟨(S2.out.at 0 rfl), trivial⟩ (fun hHeld => ?_)
    clear h_d
    have S3 := Lib.hid (S2.out.call (Below.refl W2.heap.size W2).drew)
    generalize W2.drew = W3 at *
    refine wpAnyH_take (i := 0) rfl (by kernel_rfl) (by kernel_rfl) (by kernel_rfl) (fun _ _ _ h => h) (yieldsIf_load_row (by rfl) 24 _ rfl _ rfl 24 _ (0, 0) _ (fun _ h => h.1) Tryz.underlying24 rfl (by kernel_rfl)) hHeld ?_
    (try simp only [pt, Act.put])
    refine wpAnyH_take (i := 1) (v := ?v6) rfl (by kernel_rfl) (by kernel_rfl) (by kernel_rfl) (fun _ _ _ h => h) (Or.inl ⟨by rfl, ?hy6⟩) hHeld ?rest6
    case hy6 => (intro w hSw; (try dsimp only at hSw); (try go_split_ands); go_simp; first | done | with_reducible rfl)
    (try simp only [pt, Act.put])
    refine wpAnyH_take (i := 2) (v := ?v7) rfl (by kernel_rfl) (by kernel_rfl) (by kernel_rfl) (fun _ _ _ h => h) (Or.inl ⟨by rfl, ?hy7⟩) hHeld ?rest7
    case hy7 => (intro w hSw; (try dsimp only at hSw); (try go_split_ands); go_simp; first | done | with_reducible rfl)
    (try simp only [pt, Act.put])
    refine wpAnyH_take (i := 3) (v := ?v8) rfl (by kernel_rfl) (by kernel_rfl) (by kernel_rfl) (fun _ _ _ h => h) (Or.inl ⟨by rfl, ?hy8⟩) hHeld ?rest8
    case hy8 => (intro w hSw; (try dsimp only at hSw); (try go_split_ands); go_simp; first | done | with_reducible rfl)
    (try simp only [pt, Act.put])
    refine wpAnyH_take (i := 4) (v := ?v9) rfl (by kernel_rfl) (by kernel_rfl) (by kernel_rfl) (fun _ _ _ h => h) (Or.inl ⟨by rfl, ?hy9⟩) hHeld ?rest9
    case hy9 => (intro w hSw; (try dsimp only at hSw); (try go_split_ands); go_simp; first | done | with_reducible rfl)
    (try simp only [pt, Act.put])
    refine wpAnyH_take (i := 5) (v := ?v10) rfl (by kernel_rfl) (by kernel_rfl) (by kernel_rfl) (fun _ _ _ h => h) (Or.inl ⟨by rfl, ?hy10⟩) hHeld ?rest10
    case hy10 => (intro w hSw; (try dsimp only at hSw); (try go_split_ands); go_simp; first | done | with_reducible rfl)
    (try simp only [pt, Act.put])
    refine wpAnyH_ready (rs := [6]) (by kernel_rfl) (by simp) ?_
    refine AllReadyH.cons rfl (fun K hK => ?_) AllReadyH.nil
    go_simp
    refine (chg_number (HS.out.keep S3.out.bel) (ErrIs.below HB.out (bs path))).mono ?_
    rintro e W4 ⟨rfl, hb⟩
    have S4 := Lib.hid (S3.out.call hb)
    clear hb hHeld
    go_wp2_with fail
    refine hK.out _ _ ⟨(S4.out.at 0 rfl), trivial⟩ (fun hHeld => ?_)
    clear hK K
    (try simp only [pt, Act.put])
    refine wpAnyH_ready (rs := [7]) (by kernel_rfl) (by simp) ?_
    refine AllReadyH.cons rfl (fun K hK => ?_) AllReadyH.nil
    rw [if_pos (by rfl)]
    refine wp_store_row 24 _ _ rfl _ rfl rfl (S4.out.at 2 rfl) rfl (by kernel_rfl) rfl ?_
    intro W5 hb hg hs hn
    have S5 := Lib.hid (S4.out.set 2 rfl hb hg hs hn)
    clear hb hg hs hn hHeld
    refine hK.out _ _ ⟨(S5.out.at 0 rfl), trivial⟩ (fun hHeld => ?_)
    clear hK K
    (try simp only [pt, Act.put])
    refine wpAnyH_take (i := 8) (v := ?v11) rfl (by kernel_rfl) (by kernel_rfl) (by kernel_rfl) (fun _ _ _ h => h) (Or.inl ⟨by rfl, ?hy11⟩) hHeld ?rest11
    case hy11 => (intro w hSw; (try dsimp only at hSw); (try go_split_ands); go_simp; first | done | with_reducible rfl)
    (try simp only [pt, Act.put])
    refine wpAnyH_done (by kernel_rfl) ?_ _
    go_wp2_with fail
    refine bodyPost_ret (HRET.out _ _ _ (S5.out.at 2 rfl) rfl _ rfl) rfl ?_
    rw [HE2.out]
    exact ⟨_, _, rfl, S5.out.gX 0 rfl, S5.out.bel⟩
end Go.Proofs.YtpmhmippoefcfaaGreatDoor
