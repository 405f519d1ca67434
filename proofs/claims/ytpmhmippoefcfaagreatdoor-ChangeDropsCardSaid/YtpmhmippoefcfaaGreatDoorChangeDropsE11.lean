/-
  The document's Rmdir, Link.
-/
import Derived.RangeFuncNested
import Derived.RangeFuncBound
import Derived.RangeFuncCalls
import Derived.RangeFuncLeaves
import Derived.RangeFuncBox
import Derived.Shelf.Abstract
import Derived.Shelf.RegionOpen
import Derived.WalkKit
import Derived.OwnWalkIn
import Derived.TacticsInMore
import Derived.LoopNIn
import Derived.LoopIn
import Derived.Lib.Hide
import Derived.Outline
import Derived.Deep.QuietTactic
import Derived.Deep.AppendLies
import Derived.BigQuiet
import Derived.Lib.Strings
import Derived.WalkSmall
import Derived.Shelf.Small.Strs
import Derived.Shelf.Strings.Search1
import Derived.Shelf.Strings.Prefix
import Derived.Laws.AppendOwn
import Derived.Laws.OwnMore
import Derived.Laws.AppendOwnNone
import Derived.WideShapes
import Derived.Lib.TrimByte
import Derived.Lib.Bytealg
import Derived.Lib.QuietBelow
import Derived.Deep.DrawnRows
import Derived.Laws.Cover1
import Derived.WalkMore
import Derived.Shelf.Spec.SlicesGrow
import Derived.StillTailTactics
import Derived.Laws.BitsLemmas
import Derived.Laws.RangeAny
import Derived.Laws.Runes
import Derived.Lib.Builder
import Derived.Deep.WholeRow
import Derived.Lib.OthersKept
import Derived.Shelf.SlSorted.Search
import Derived.LaidEql
import Derived.Stop.Asserts
import Derived.RowKitTokens
import Derived.Deep.RegionHeld3
import Derived.Deep.RegionLaw
import Derived.Handy
import Derived.Laws.IdiomCopy
import Derived.Lib.SliceRun
import Derived.Laws.ResultCell
import Derived.Deep.LoopGhost
import Derived.Deep.DeepCutAuto
import Derived.Deep.MidRow
import Derived.BigRegion
import Derived.Test.YtpmhmippoefcfaaGreatDoorProg
import Derived.Test.YtpmhmippoefcfaaGreatDoorShelf
import Derived.Test.YtpmhmippoefcfaaGreatDoorB01
import Derived.Test.YtpmhmippoefcfaaGreatDoorB02
import Derived.Test.YtpmhmippoefcfaaGreatDoorB04
import Derived.Test.YtpmhmippoefcfaaGreatDoorB05
import Derived.Test.YtpmhmippoefcfaaGreatDoorB06
import Derived.Test.YtpmhmippoefcfaaGreatDoorB07
import Derived.Test.YtpmhmippoefcfaaGreatDoorB08
import Derived.Test.YtpmhmippoefcfaaGreatDoorB09
import Derived.Test.YtpmhmippoefcfaaGreatDoorB10
import Derived.Test.YtpmhmippoefcfaaGreatDoorB12
import Derived.Test.YtpmhmippoefcfaaGreatDoorB13
import Derived.Test.YtpmhmippoefcfaaGreatDoorB14
import Derived.Test.YtpmhmippoefcfaaGreatDoorChangeDropsE01
import Derived.Test.YtpmhmippoefcfaaGreatDoorChangeDropsE02
import Derived.Test.YtpmhmippoefcfaaGreatDoorChangeDropsE03
import Derived.Test.YtpmhmippoefcfaaGreatDoorChangeDropsE04
import Derived.Test.YtpmhmippoefcfaaGreatDoorChangeDropsE07
namespace Go.Proofs.YtpmhmippoefcfaaGreatDoor
open Go.RowKit Go.Shelf
attribute [local go_sem ↓] Go.wp_at_zero Go.wp_at_succ
set_option maxRecDepth 100000 in
set_option maxHeartbeats 4000000 in
theorem rrmdir_g (X : Nat → Prop) (l : List NodeL) (most room who fr : Int) (path : Str) (ao : Option Addr) (cap : Nat) (w : World) (hX : Old X w) (hg : GivesX X l (.slice ao l.length cap) w) (hd : Dsk l) (hplpath : path.length ≤ 10000) :
    Calls Tryz.prog 27 #[diskV ao l.length cap most room, asV who fr, .string (bs path)] w fun e w' => ChgIs X (rmdirL l who fr path) most room e w w' := by
  have S0 := Lib.hid (St.start (G := [(l, .slice ao l.length cap)]) (N := []) hX (one_g hg) no_n)
  have HD := Lib.hid hd
  have HRET : Hid (∀ (W : World) (cs : Array Value) (fr), W.heap[w.heap.size + 2]? = some (.cells cs 32 fr) → cs.size = 3 → ∀ tmps : Array Value, tmps.getD 6 undef = .pointer (some ⟨w.heap.size + 2, 0, none⟩) → (results Tryz.f27 tmps).run Tryz.prog W = .ok (.tuple #[.agg cs, tmps.getD 7 undef]) W) := Lib.hid fun W cs fr h hs tmps ht =>
  results_ct (p := 6) (u := 7) (ty := 32) rfl tmps W (w.heap.size + 2) _ cs fr _ ht h Tryz.underlying32 rfl (by rw [hs]; kernel_rfl)
  clear hX hg hd
  go_enter Tryz.func27, Tryz.ntmps27
  go_upto_region 1 with (fail)
  refine code_fresh3 ?_
  intro W1 hb hA0 hA1 hA2 hs
  have S1 := Lib.hid (S0.out.new3 hb hA0 hA1 hA2)
  clear hb hA0 hA1 hA2 hs
  have h_d := (S1.out.at 0 rfl)
  have h_a := (S1.out.at 1 rfl)
  go_wp2_with (first | (refine wpList_load_row rfl 32 _ rfl _ rfl 32 _ (0, 0) _ h_d Tryz.underlying32 rfl (by kernel_rfl) ?_) | (refine wpList_load_row rfl 39 _ rfl _ rfl 39 _ (0, 0) _ h_a Tryz.underlying39 rfl (by kernel_rfl) ?_))
  refine (rthere_g _ l most room who fr path _ _ W1 S1.out.oldX (S1.out.g 0 rfl) HD.out hplpath).mono ?_
  rintro e W2 ⟨ao1, cp1, rfl, hn1, hb⟩
  clear h_d h_a
  have S2 := Lib.hid ((S1.out.call hb).addN hn1)
  clear hb hn1
  obtain ⟨R, hR⟩ : ∃ R, R = walkL l who fr path false := ⟨_, rfl⟩
  rw [← hR] at S2 ⊢
  have HE := Lib.hid (rmdir_at hR)
  clear hR
  obtain ⟨⟨sd, sn, si, ss⟩, n⟩ := R
  dsimp only at HE
  generalize thereE (⟨sd, sn, si, ss⟩, n) = e1 at *
  obtain ⟨m, hm⟩ : ∃ m, m = nodeL l si := ⟨_, rfl⟩
  dsimp only at S2
  rw [← hm] at S2 ⊢
  have HRM := Lib.hid (fun b (hb : writesL l who sd = b) => rmdirE_at (s := ⟨sd, sn, si, ss⟩) hm hb)
  clear hm
  generalize rmdirE l who ⟨sd, sn, si, ss⟩ = e2 at *
  go_upto_region 2 with (fail)
  refine code_fresh2 ?_
  intro W3 hb hA0 hA1 hs
  have S3 := Lib.hid (S2.out.new2 hb hA0 hA1)
  clear hb hA0 hA1 hs
  by_cases h0 : e1 = 0
  · subst h0
    have HE2 := Lib.hid (HE.out.trans (if_neg (by simp)))
    clear HE
    by_cases hk : m.kind = 2
    · have hI : (m.kind != 2) = false := by simpa using hk
      obtain ⟨n0, -, -, -, -, -, -, -⟩ := cells8 (S3.out.at 4 rfl)
      obtain ⟨-, t1, -, -⟩ := cells4 (S3.out.at 3 rfl)
      by_cases h1 : sn = []
      · have hJ : (sn == []) = true := by simpa using h1
        have HX : Hid (e2 = 1) := Lib.hid (by rw [HRM.out _ rfl, if_neg (by simpa using hk), if_pos (.inl h1)])
        clear h1 hk HRM
        have HE3 := Lib.hid (HE2.out.trans (if_pos (by rw [HX.out]; decide)))
        rw [HX.out] at HE3
        have h_r := (S3.out.at 2 rfl)
        have h_d := (S3.out.at 0 rfl)
        go_wp2_with (first | (refine wpList_load_row rfl 32 _ rfl _ rfl 32 _ (0, 0) _ h_d Tryz.underlying32 rfl (by kernel_rfl) ?_) | (refine wpList_store_row rfl 32 _ _ rfl _ rfl rfl h_r rfl (by kernel_rfl) rfl ?_; intro W4 hb hg hs hn; have S4 := Lib.hid (S3.out.set 2 rfl hb hg hs hn); clear hb hg hs hn))
        refine bodyPost_ret (HRET.out _ _ _ (S4.out.at 2 rfl) rfl _ rfl) rfl ?_
        rw [HE3.out]
        exact ⟨_, _, rfl, S4.out.gX 0 rfl, S4.out.bel⟩
      have hJ : (sn == []) = false := by simpa using h1
      by_cases h2 : sn = [46]
      · have hJ2 : (sn == [46]) = true := by simpa using h2
        have HX : Hid (e2 = 1) := Lib.hid (by rw [HRM.out _ rfl, if_neg (by simpa using hk), if_pos (.inr h2)])
        clear h1 h2 hk HRM
        have HE3 := Lib.hid (HE2.out.trans (if_pos (by rw [HX.out]; decide)))
        rw [HX.out] at HE3
        have h_r := (S3.out.at 2 rfl)
        have h_d := (S3.out.at 0 rfl)
        go_wp2_with (first | (refine wpList_load_row rfl 32 _ rfl _ rfl 32 _ (0, 0) _ h_d Tryz.underlying32 rfl (by kernel_rfl) ?_) | (refine wpList_store_row rfl 32 _ _ rfl _ rfl rfl h_r rfl (by kernel_rfl) rfl ?_; intro W4 hb hg hs hn; have S4 := Lib.hid (S3.out.set 2 rfl hb hg hs hn); clear hb hg hs hn))
        refine bodyPost_ret (HRET.out _ _ _ (S4.out.at 2 rfl) rfl _ rfl) rfl ?_
        rw [HE3.out]
        exact ⟨_, _, rfl, S4.out.gX 0 rfl, S4.out.bel⟩
      have hJ2 : (sn == [46]) = false := by simpa using h2
      by_cases h3 : sn = [46, 46]
      · have hJ3 : (sn == [46, 46]) = true := by simpa using h3
        have HX : Hid (e2 = 6) := Lib.hid (by rw [HRM.out _ rfl, if_neg (by simpa using hk), if_neg (by simp [h1, h2]), if_pos h3])
        clear h1 h2 h3 hk HRM
        have HE3 := Lib.hid (HE2.out.trans (if_pos (by rw [HX.out]; decide)))
        rw [HX.out] at HE3
        have h_r := (S3.out.at 2 rfl)
        have h_d := (S3.out.at 0 rfl)
        go_wp2_with (first | (refine wpList_load_row rfl 32 _ rfl _ rfl 32 _ (0, 0) _ h_d Tryz.underlying32 rfl (by kernel_rfl) ?_) | (refine wpList_store_row rfl 32 _ _ rfl _ rfl rfl h_r rfl (by kernel_rfl) rfl ?_; intro W4 hb hg hs hn; have S4 := Lib.hid (S3.out.set 2 rfl hb hg hs hn); clear hb hg hs hn))
        refine bodyPost_ret (HRET.out _ _ _ (S4.out.at 2 rfl) rfl _ rfl) rfl ?_
        rw [HE3.out]
        exact ⟨_, _, rfl, S4.out.gX 0 rfl, S4.out.bel⟩
      have hJ3 : (sn == [46, 46]) = false := by simpa using h3
      have HRM2 : Hid (∀ b, writesL l who sd = b → e2 = if b = false then 7 else if m.names ≠ [] then 6 else 0) := Lib.hid fun b hb => by rw [HRM.out b hb, if_neg (by simpa using hk), if_neg (by simp [h1, h2]), if_neg h3]
      clear h1 h2 h3 hk HRM
      obtain ⟨a0, -⟩ := cells2 (S3.out.at 1 rfl)
      obtain ⟨t0, t1, -, -⟩ := cells4 (S3.out.at 3 rfl)
      have h_d := (S3.out.at 0 rfl)
      go_wp2_with (first | (refine wpList_load_row rfl 32 _ rfl _ rfl 32 _ (0, 0) _ h_d Tryz.underlying32 rfl (by kernel_rfl) ?_))
      refine (rwrites_g l most room who sd ao cap W3 (S3.out.g 0 rfl).none HD.out.len).mono ?_
      rintro e W4 ⟨rfl, hb⟩
      clear n0 t1 a0 t0 h_d
      have S4 := Lib.hid (S3.out.call hb)
      clear hb
      cases hw : writesL l who sd with
      | false =>
        have HX : Hid (e2 = 7) := Lib.hid (by rw [HRM2.out _ hw]; rfl)
        clear hw HRM2
        have HE3 := Lib.hid (HE2.out.trans (if_pos (by rw [HX.out]; decide)))
        rw [HX.out] at HE3
        have h_r := (S4.out.at 2 rfl)
        have h_d := (S4.out.at 0 rfl)
        go_wp2_with (first | (refine wpList_load_row rfl 32 _ rfl _ rfl 32 _ (0, 0) _ h_d Tryz.underlying32 rfl (by kernel_rfl) ?_) | (refine wpList_store_row rfl 32 _ _ rfl _ rfl rfl h_r rfl (by kernel_rfl) rfl ?_; intro W5 hb hg hs hn; have S5 := Lib.hid (S4.out.set 2 rfl hb hg hs hn); clear hb hg hs hn))
        refine bodyPost_ret (HRET.out _ _ _ (S5.out.at 2 rfl) rfl _ rfl) rfl ?_
        rw [HE3.out]
        exact ⟨_, _, rfl, S5.out.gX 0 rfl, S5.out.bel⟩
      | true =>
        obtain ⟨-, -, -, -, -, -, -, n7⟩ := cells8 (S4.out.at 4 rfl)
        by_cases hm : m.names = []
        · have hK : decide (0 < m.names.length) = false := by rw [hm]; rfl
          have HX : Hid (e2 = 0) := Lib.hid (by rw [HRM2.out _ hw, if_neg (by simp), if_neg (by simpa using hm)])
          have HE3 := Lib.hid (HE2.out.trans (if_neg (by rw [HX.out]; decide)))
          clear hw hm HRM2
          have h_d := (S4.out.at 0 rfl)
          have h_t := (S4.out.at 3 rfl)
          go_wp2_with (first | (refine wpList_load_row rfl 32 _ rfl _ rfl 32 _ (0, 0) _ h_d Tryz.underlying32 rfl (by kernel_rfl) ?_) | (refine wpList_load_row rfl 67 _ rfl _ rfl 67 _ (0, 0) _ h_t Tryz.underlying67 rfl (by kernel_rfl) ?_))
          refine (rlost_g _ l most room ⟨sd, sn, si, ss⟩ _ _ W4 S4.out.oldX (S4.out.g 0 rfl) HD.out.len (Nat.le_trans (HD.out.nm _) (by decide)) (HD.out.wrap ⟨sd, sn, si, ss⟩)).mono ?_
          rintro e W5 ⟨ao3, cap3, rfl, hg3, hb⟩
          clear n7 h_d h_t
          have S5 := Lib.hid ((S4.out.call hb).addG hg3)
          clear hb hg3
          have h_r := (S5.out.at 2 rfl)
          go_wp2_with (first | (refine wpList_store_row rfl 32 _ _ rfl _ rfl rfl h_r rfl (by kernel_rfl) rfl ?_; intro W6 hb hg hs hn; have S6 := Lib.hid (S5.out.set 2 rfl hb hg hs hn); clear hb hg hs hn))
          refine bodyPost_ret (HRET.out _ _ _ (S6.out.at 2 rfl) rfl _ rfl) rfl ?_
          rw [HE3.out]
          exact ⟨_, _, rfl, S6.out.gX 1 rfl, S6.out.bel⟩
        · have hK : decide (0 < m.names.length) = true := decide_eq_true (List.length_pos_iff.2 hm)
          have HX : Hid (e2 = 6) := Lib.hid (by rw [HRM2.out _ hw, if_neg (by simp), if_pos hm])
          clear hw hm HRM2
          have HE3 := Lib.hid (HE2.out.trans (if_pos (by rw [HX.out]; decide)))
          rw [HX.out] at HE3
          have h_r := (S4.out.at 2 rfl)
          have h_d := (S4.out.at 0 rfl)
          go_wp2_with (first | (refine wpList_load_row rfl 32 _ rfl _ rfl 32 _ (0, 0) _ h_d Tryz.underlying32 rfl (by kernel_rfl) ?_) | (refine wpList_store_row rfl 32 _ _ rfl _ rfl rfl h_r rfl (by kernel_rfl) rfl ?_; intro W5 hb hg hs hn; have S5 := Lib.hid (S4.out.set 2 rfl hb hg hs hn); clear hb hg hs hn))
          refine bodyPost_ret (HRET.out _ _ _ (S5.out.at 2 rfl) rfl _ rfl) rfl ?_
          rw [HE3.out]
          exact ⟨_, _, rfl, S5.out.gX 0 rfl, S5.out.bel⟩
    · have hI : (m.kind != 2) = true := by simpa using hk
      have HX : Hid (e2 = 4) := Lib.hid (by rw [HRM.out _ rfl, if_pos hk])
      clear hk HRM
      obtain ⟨n0, -, -, -, -, -, -, -⟩ := cells8 (S3.out.at 4 rfl)
      have HE3 := Lib.hid (HE2.out.trans (if_pos (by rw [HX.out]; decide)))
      rw [HX.out] at HE3
      have h_r := (S3.out.at 2 rfl)
      have h_d := (S3.out.at 0 rfl)
      go_wp2_with (first | (refine wpList_load_row rfl 32 _ rfl _ rfl 32 _ (0, 0) _ h_d Tryz.underlying32 rfl (by kernel_rfl) ?_) | (refine wpList_store_row rfl 32 _ _ rfl _ rfl rfl h_r rfl (by kernel_rfl) rfl ?_; intro W4 hb hg hs hn; have S4 := Lib.hid (S3.out.set 2 rfl hb hg hs hn); clear hb hg hs hn))
      refine bodyPost_ret (HRET.out _ _ _ (S4.out.at 2 rfl) rfl _ rfl) rfl ?_
      rw [HE3.out]
      exact ⟨_, _, rfl, S4.out.gX 0 rfl, S4.out.bel⟩
  · have hI : (e1 != 0) = true := by simpa using h0
    have HE2 := Lib.hid (HE.out.trans (if_pos h0))
    clear HE h0
    have h_r := (S3.out.at 2 rfl)
    have h_d := (S3.out.at 0 rfl)
    go_wp2_with (first | (refine wpList_load_row rfl 32 _ rfl _ rfl 32 _ (0, 0) _ h_d Tryz.underlying32 rfl (by kernel_rfl) ?_) | (refine wpList_store_row rfl 32 _ _ rfl _ rfl rfl h_r rfl (by kernel_rfl) rfl ?_; intro W4 hb hg hs hn; have S4 := Lib.hid (S3.out.set 2 rfl hb hg hs hn); clear hb hg hs hn))
    refine bodyPost_ret (HRET.out _ _ _ (S4.out.at 2 rfl) rfl _ rfl) rfl ?_
    rw [HE2.out]
    exact ⟨_, _, rfl, S4.out.gX 0 rfl, S4.out.bel⟩
set_option maxRecDepth 100000 in
set_option maxHeartbeats 4000000 in
theorem rlink_g (X : Nat → Prop) (l : List NodeL) (most room who fr : Int) (old path : Str) (ao : Option Addr) (cap : Nat) (w : World) (hX : Old X w) (hg : GivesX X l (.slice ao l.length cap) w) (hd : Dsk l) (hplold : old.length ≤ 10000) (hplpath : path.length ≤ 10000) :
    Calls Tryz.prog 23 #[diskV ao l.length cap most room, asV who fr, .string (bs old), .string (bs path)] w fun e w' => ChgIs X (linkL l who fr old path) most room e w w' := by
  have S0 := Lib.hid (St.start (G := [(l, .slice ao l.length cap)]) (N := []) hX (one_g hg) no_n)
  have HD := Lib.hid hd
  have HRET : Hid (∀ (W : World) (cs : Array Value) (fr), W.heap[w.heap.size + 2]? = some (.cells cs 32 fr) → cs.size = 3 → ∀ tmps : Array Value, tmps.getD 8 undef = .pointer (some ⟨w.heap.size + 2, 0, none⟩) → (results Tryz.f23 tmps).run Tryz.prog W = .ok (.tuple #[.agg cs, tmps.getD 9 undef]) W) := Lib.hid fun W cs fr h hs tmps ht =>
  results_ct (p := 8) (u := 9) (ty := 32) rfl tmps W (w.heap.size + 2) _ cs fr _ ht h Tryz.underlying32 rfl (by rw [hs]; kernel_rfl)
  clear hX hg hd
  go_enter Tryz.func23, Tryz.ntmps23
  go_upto_region 1 with (fail)
  refine code_fresh3 ?_
  intro W1 hb hA0 hA1 hA2 hs
  have S1 := Lib.hid (S0.out.new3 hb hA0 hA1 hA2)
  clear hb hA0 hA1 hA2 hs
  have h_d := (S1.out.at 0 rfl)
  obtain ⟨a0, a1⟩ := cells2 (S1.out.at 1 rfl)
  go_wp2_with (first | (refine wpList_load_row rfl 32 _ rfl _ rfl 32 _ (0, 0) _ h_d Tryz.underlying32 rfl (by kernel_rfl) ?_))
  refine (xrnode_g _ l HD.out most room who fr old false hplold _ W1 (S1.out.g 0 rfl)).mono ?_
  rintro e W2 ⟨rfl, hb⟩
  clear h_d a0 a1
  have S2 := Lib.hid (S1.out.call hb)
  clear hb
  obtain ⟨O, hO⟩ : ∃ O, O = wnodeL (walkL l who fr old false) := ⟨_, rfl⟩
  rw [← hO]
  obtain ⟨R, hR⟩ : ∃ R, R = walkL l who fr path false := ⟨_, rfl⟩
  obtain ⟨m, hm⟩ : ∃ m, m = nodeL l O.1 := ⟨_, rfl⟩
  have HE := Lib.hid (link_at hO hR hm)
  have HM := Lib.hid hm
  have HLK := Lib.hid (links_small HD.out O.1)
  rw [← hm] at HLK
  have HR := Lib.hid hR
  clear hO hR hm
  obtain ⟨i, n⟩ := O
  obtain ⟨⟨sd, sn, si, ss⟩, n2⟩ := R
  dsimp only at HE HM
  by_cases h0 : n = 0
  · subst h0
    have HE2 := Lib.hid (HE.out.trans (if_neg (by simp)))
    clear HE
    have h_d := (S2.out.at 0 rfl)
    go_wp2_with (first | (refine wpList_load_row rfl 32 _ rfl _ rfl 32 _ (0, 0) _ h_d Tryz.underlying32 rfl (by kernel_rfl) ?_))
    refine (rget_g _ l most room i _ W2 (S2.out.g 0 rfl) HD.out.len).mono ?_
    rintro e W3 ⟨ao1, cp1, rfl, hn1, hb⟩
    clear h_d
    have S3 := Lib.hid ((S2.out.call hb).addN hn1)
    clear hb hn1
    rw [← HM.out] at S3 ⊢
    go_upto_region 5 with (fail)
    refine code_fresh1 ?_
    intro W4 hb hA0 hs
    have S4 := Lib.hid (S3.out.new1 hb hA0)
    clear hb hA0 hs
    by_cases hk : m.kind = 2
    · have hI : (m.kind == 2) = true := by simpa using hk
      have HE3 := Lib.hid (HE2.out.trans (if_pos hk))
      clear HE2 hk
      obtain ⟨n0, -, -, -, -, -, -, -⟩ := cells8 (S4.out.at 3 rfl)
      have h_r := (S4.out.at 2 rfl)
      have h_d := (S4.out.at 0 rfl)
      go_wp2_with (first | (refine wpList_load_row rfl 32 _ rfl _ rfl 32 _ (0, 0) _ h_d Tryz.underlying32 rfl (by kernel_rfl) ?_) | (refine wpList_store_row rfl 32 _ _ rfl _ rfl rfl h_r rfl (by kernel_rfl) rfl ?_; intro W5 hb hg hs hn; have S5 := Lib.hid (S4.out.set 2 rfl hb hg hs hn); clear hb hg hs hn))
      refine bodyPost_ret (HRET.out _ _ _ (S5.out.at 2 rfl) rfl _ rfl) rfl ?_
      rw [HE3.out]
      exact ⟨_, _, rfl, S5.out.gX 0 rfl, S5.out.bel⟩
    have hI : (m.kind == 2) = false := by simpa using hk
    have HE3 := Lib.hid (HE2.out.trans (if_neg hk))
    clear HE2 hk
    by_cases h20 : 20 ≤ m.links
    · have hJ : decide ((20 : Int) ≤ m.links) = true := decide_eq_true h20
      have HE4 := Lib.hid (HE3.out.trans (if_pos h20))
      clear HE3 h20
      obtain ⟨n0, -, -, n3, -, -, -, -⟩ := cells8 (S4.out.at 3 rfl)
      have h_r := (S4.out.at 2 rfl)
      have h_d := (S4.out.at 0 rfl)
      go_wp2_with (first | (refine wpList_load_row rfl 32 _ rfl _ rfl 32 _ (0, 0) _ h_d Tryz.underlying32 rfl (by kernel_rfl) ?_) | (refine wpList_store_row rfl 32 _ _ rfl _ rfl rfl h_r rfl (by kernel_rfl) rfl ?_; intro W5 hb hg hs hn; have S5 := Lib.hid (S4.out.set 2 rfl hb hg hs hn); clear hb hg hs hn))
      refine bodyPost_ret (HRET.out _ _ _ (S5.out.at 2 rfl) rfl _ rfl) rfl ?_
      rw [HE4.out]
      exact ⟨_, _, rfl, S5.out.gX 0 rfl, S5.out.bel⟩
    have hJ : decide ((20 : Int) ≤ m.links) = false := decide_eq_false h20
    have HE4 := Lib.hid (HE3.out.trans (if_neg h20))
    clear HE3 h20
    obtain ⟨n0, -, -, n3, -, -, -, -⟩ := cells8 (S4.out.at 3 rfl)
    obtain ⟨a0, a1⟩ := cells2 (S4.out.at 1 rfl)
    have h_d := (S4.out.at 0 rfl)
    go_wp2_with (first | (refine wpList_load_row rfl 32 _ rfl _ rfl 32 _ (0, 0) _ h_d Tryz.underlying32 rfl (by kernel_rfl) ?_))
    refine (xrwalk_g _ l HD.out most room who fr path false hplpath _ W4 (S4.out.g 0 rfl)).mono ?_
    rintro e W5 ⟨rfl, hb⟩
    clear n0 n3 a0 a1 h_d
    have S5 := Lib.hid (S4.out.call hb)
    clear hb
    rw [← HR.out]
    go_upto_region 10 with (fail)
    refine code_fresh1 ?_
    intro W6 hb hA0 hs
    have S6 := Lib.hid (S5.out.new1 hb hA0)
    clear hb hA0 hs
    have HSp : Hid (spotE l who (⟨sd, sn, si, ss⟩, n2) = if n2 ≠ 0 then n2 else freeE l who ⟨sd, sn, si, ss⟩) := Lib.hid rfl
    by_cases h2 : n2 = 0
    · subst h2
      have HSp2 := Lib.hid (HSp.out.trans (if_neg (by simp)))
      clear HSp
      have h_d := (S6.out.at 0 rfl)
      have h_a := (S6.out.at 1 rfl)
      have h_t := (S6.out.at 4 rfl)
      go_wp2_with (first | (refine wpList_load_row rfl 32 _ rfl _ rfl 32 _ (0, 0) _ h_d Tryz.underlying32 rfl (by kernel_rfl) ?_) | (refine wpList_load_row rfl 39 _ rfl _ rfl 39 _ (0, 0) _ h_a Tryz.underlying39 rfl (by kernel_rfl) ?_) | (refine wpList_load_row rfl 67 _ rfl _ rfl 67 _ (0, 0) _ h_t Tryz.underlying67 rfl (by kernel_rfl) ?_))
      refine (rfree_g l most room who fr ⟨sd, sn, si, ss⟩ ao cap W6 (S6.out.g 0 rfl).none HD.out.len).mono ?_
      rintro e W7 ⟨rfl, hb⟩
      clear h_d h_a h_t
      have S7 := Lib.hid (S6.out.call hb)
      clear hb
      rw [HSp2.out] at HE4
      generalize freeE l who ⟨sd, sn, si, ss⟩ = f at *
      clear HSp2
      by_cases h3 : f = 0
      · subst h3
        have HE5 := Lib.hid (HE4.out.trans (if_neg (by simp)))
        clear HE4
        have HSz : Hid (∀ j, (nodeL (setL l i (moreN m)) j).names.length ≤ 10000) := Lib.hid fun j => Nat.le_trans ((Siz.set (a := 110) (c := 130) HD.out.sm (n := moreN m) (by have := Siz.node (a := 110) (c := 130) HD.out.sm i; rw [← HM.out] at this; exact this) i).node j).2 (by decide)
        cases ss with
        | true =>
          have HE6 := Lib.hid (HE5.out.trans (if_pos rfl))
          clear HE5
          obtain ⟨-, -, -, t3⟩ := cells4 (S7.out.at 4 rfl)
          have h_r := (S7.out.at 2 rfl)
          have h_d := (S7.out.at 0 rfl)
          go_wp2_with (first | (refine wpList_load_row rfl 32 _ rfl _ rfl 32 _ (0, 0) _ h_d Tryz.underlying32 rfl (by kernel_rfl) ?_) | (refine wpList_store_row rfl 32 _ _ rfl _ rfl rfl h_r rfl (by kernel_rfl) rfl ?_; intro W8 hb hg hs hn; have S8 := Lib.hid (S7.out.set 2 rfl hb hg hs hn); clear hb hg hs hn))
          refine bodyPost_ret (HRET.out _ _ _ (S8.out.at 2 rfl) rfl _ rfl) rfl ?_
          rw [HE6.out]
          exact ⟨_, _, rfl, S8.out.gX 0 rfl, S8.out.bel⟩
        | false =>
          have HE6 := Lib.hid (HE5.out.trans (if_neg (by simp)))
          clear HE5
          obtain ⟨-, -, -, t3⟩ := cells4 (S7.out.at 4 rfl)
          obtain ⟨n0, n1, n2, n3, n4, n5, n6, n7⟩ := cells8 (S7.out.at 3 rfl)
          have fn := fun j => Lib.frozen_of_heap (S7.out.at 3 rfl) j
          have hw : IntKind.i64.wrap (m.links + 1) = m.links + 1 := Go.IntWalk.i64_in _ (by have := HLK.out; omega)
          go_upto_region 17 with (fail)
          refine code_set1 (S7.out.at 3 rfl) ?_
          intro W8 hb hg hs hn
          clear t3 n0 n1 n2 n3 n4 n5 n6 n7 fn
          have S8 := Lib.hid (S7.out.set 3 rfl hb hg hs hn)
          clear hb hg hs hn
          clear hw
          have HM2 : Hid (moreN m = ⟨m.kind, m.mode, m.owner, m.links + 1, m.opn, m.up, m.data, m.names⟩) := Lib.hid rfl
          have h_d := (S8.out.at 0 rfl)
          have h_t := (S8.out.at 4 rfl)
          have h_n := (S8.out.at 3 rfl)
          refine wp_region_held_drew (S := fun W => W.heap[w.heap.size]? = some (.cells #[.slice ao l.length cap, .int .i64 most, .int .i64 room] 32 (0, 0)) ∧ W.heap[W5.heap.size]? = some (.cells #[.int .i64 sd, .string (bs sn), .int .i64 si, .bool false] 67 (0, 0)) ∧ W.heap[W3.heap.size]? = some (.cells #[.int .i64 m.kind, .int .i64 m.mode, .int .i64 m.owner, .int .i64 (m.links + 1), .int .i64 m.opn, .int .i64 m.up, .string (bs m.data), .slice ao1 m.names.length cp1] 74 (0, 0)) ∧ True) (by kernel_rfl) ⟨(S8.out.at 0 rfl), (S8.out.at 4 rfl), (S8.out.at 3 rfl), trivial⟩ (fun hHeld => ?_)
          clear h_d h_t h_n
          have S9 := Lib.hid (S8.out.call (Below.refl W8.heap.size W8).drew)
          generalize W8.drew = W9 at *
          refine wpAnyH_take (i := 0) rfl (by kernel_rfl) (by kernel_rfl) (by kernel_rfl) (fun _ _ _ h => h) (yieldsIf_load_row (by rfl) 32 _ rfl _ rfl 32 _ (0, 0) _ (fun _ h => h.1) Tryz.underlying32 rfl (by kernel_rfl)) hHeld ?_
          (try simp only [pt, Act.put])
          refine wpAnyH_take (i := 1) (v := ?v1) rfl (by kernel_rfl) (by kernel_rfl) (by kernel_rfl) (fun _ _ _ h => h) (Or.inl ⟨by rfl, ?hy1⟩) hHeld ?rest1
          case hy1 => (intro w hSw; (try dsimp only at hSw); (try go_split_ands); go_simp; first | done | with_reducible rfl)
          (try simp only [pt, Act.put])
          refine wpAnyH_take (i := 2) rfl (by kernel_rfl) (by kernel_rfl) (by kernel_rfl) (fun _ _ _ h => h) (yieldsIf_load_row (by rfl) 74 _ rfl _ rfl 74 _ (0, 0) _ (fun _ h => h.2.2.1) Tryz.underlying74 rfl (by kernel_rfl)) hHeld ?_
          (try simp only [pt, Act.put])
          refine wpAnyH_take (i := 4) rfl (by kernel_rfl) (by kernel_rfl) (by kernel_rfl) (fun _ _ _ h => h) (yieldsIf_load_row (by rfl) 67 _ rfl _ rfl 67 _ (0, 0) _ (fun _ h => h.2.1) Tryz.underlying67 rfl (by kernel_rfl)) hHeld ?_
          (try simp only [pt, Act.put])
          refine wpAnyH_take (i := 5) (v := ?v2) rfl (by kernel_rfl) (by kernel_rfl) (by kernel_rfl) (fun _ _ _ h => h) (Or.inl ⟨by rfl, ?hy2⟩) hHeld ?rest2
          case hy2 => (intro w hSw; (try dsimp only at hSw); (try go_split_ands); go_simp; first | done | with_reducible rfl)
          (try simp only [pt, Act.put])
          refine wpAnyH_ready (rs := [3]) (by kernel_rfl) (by simp) ?_
          refine AllReadyH.cons rfl (fun K hK => ?_) AllReadyH.nil
          go_simp
          refine (rset_g _ l most room i (moreN m) _ _ W9 S9.out.oldX (S9.out.g 0 rfl) HD.out.len ((S9.out.n 0 rfl).same rfl)).mono ?_
          rintro e W10 ⟨ao3, cap3, rfl, hg3, hb⟩
          have S10 := Lib.hid ((S9.out.call hb).addG hg3)
          clear hb hHeld hg3
          go_wp2_with fail
          refine hK.out _ _ ⟨(S10.out.at 0 rfl), (S10.out.at 4 rfl), (S10.out.at 3 rfl), trivial⟩ (fun hHeld => ?_)
          clear hK K
          (try simp only [pt, Act.put])
          refine wpAnyH_ready (rs := [6]) (by kernel_rfl) (by simp) ?_
          refine AllReadyH.cons rfl (fun K hK => ?_) AllReadyH.nil
          go_simp
          refine (rnamed_g _ (setL l i (moreN m)) most room i ⟨sd, sn, si, false⟩ _ _ W10 S10.out.oldX (S10.out.g 1 rfl) (by rw [setL_len]; exact HD.out.len) (HSz.out _)).mono ?_
          rintro e W11 ⟨ao4, cap4, rfl, hg4, hb⟩
          have S11 := Lib.hid ((S10.out.call hb).addG hg4)
          clear hb hHeld hg4
          go_wp2_with fail
          refine hK.out _ _ ⟨(S11.out.at 0 rfl), (S11.out.at 4 rfl), (S11.out.at 3 rfl), trivial⟩ (fun hHeld => ?_)
          clear hK K
          (try simp only [pt, Act.put])
          refine wpAnyH_ready (rs := [7]) (by kernel_rfl) (by simp) ?_
          refine AllReadyH.cons rfl (fun K hK => ?_) AllReadyH.nil
          rw [if_pos (by rfl)]
          refine wp_store_row 32 _ _ rfl _ rfl rfl (S11.out.at 2 rfl) rfl (by kernel_rfl) rfl ?_
          intro W12 hb hg hs hn
          have S12 := Lib.hid (S11.out.set 2 rfl hb hg hs hn)
          clear hb hg hs hn hHeld
          refine hK.out _ _ ⟨(S12.out.at 0 rfl), (S12.out.at 4 rfl), (S12.out.at 3 rfl), trivial⟩ (fun hHeld => ?_)
          clear hK K
          (try simp only [pt, Act.put])
          refine wpAnyH_take (i := 8) (v := ?v3) rfl (by kernel_rfl) (by kernel_rfl) (by kernel_rfl) (fun _ _ _ h => h) (Or.inl ⟨by rfl, ?hy3⟩) hHeld ?rest3
          case hy3 => (intro w hSw; (try dsimp only at hSw); (try go_split_ands); go_simp; first | done | with_reducible rfl)
          (try simp only [pt, Act.put])
          refine wpAnyH_done (by kernel_rfl) ?_ _
          go_wp2_with fail
          refine bodyPost_ret (HRET.out _ _ _ (S12.out.at 2 rfl) rfl _ rfl) rfl ?_
          rw [HE6.out]
          exact ⟨_, _, rfl, S12.out.gX 2 rfl, S12.out.bel⟩
      · have hK : (f != 0) = true := by simpa using h3
        have HE5 := Lib.hid (HE4.out.trans (if_pos h3))
        clear HE4 h3
        have h_r := (S7.out.at 2 rfl)
        have h_d := (S7.out.at 0 rfl)
        go_wp2_with (first | (refine wpList_load_row rfl 32 _ rfl _ rfl 32 _ (0, 0) _ h_d Tryz.underlying32 rfl (by kernel_rfl) ?_) | (refine wpList_store_row rfl 32 _ _ rfl _ rfl rfl h_r rfl (by kernel_rfl) rfl ?_; intro W8 hb hg hs hn; have S8 := Lib.hid (S7.out.set 2 rfl hb hg hs hn); clear hb hg hs hn))
        refine bodyPost_ret (HRET.out _ _ _ (S8.out.at 2 rfl) rfl _ rfl) rfl ?_
        rw [HE5.out]
        exact ⟨_, _, rfl, S8.out.gX 0 rfl, S8.out.bel⟩
    · have hK : (n2 == 0) = false := by simpa using h2
      have hK2 : (n2 != 0) = true := by simpa using h2
      have HSp2 := Lib.hid (HSp.out.trans (if_pos h2))
      rw [HSp2.out] at HE4
      have HE5 := Lib.hid (HE4.out.trans (if_pos h2))
      clear HSp HSp2 HE4 h2
      have h_r := (S6.out.at 2 rfl)
      have h_d := (S6.out.at 0 rfl)
      go_wp2_with (first | (refine wpList_load_row rfl 32 _ rfl _ rfl 32 _ (0, 0) _ h_d Tryz.underlying32 rfl (by kernel_rfl) ?_) | (refine wpList_store_row rfl 32 _ _ rfl _ rfl rfl h_r rfl (by kernel_rfl) rfl ?_; intro W7 hb hg hs hn; have S7 := Lib.hid (S6.out.set 2 rfl hb hg hs hn); clear hb hg hs hn))
      refine bodyPost_ret (HRET.out _ _ _ (S7.out.at 2 rfl) rfl _ rfl) rfl ?_
      rw [HE5.out]
      exact ⟨_, _, rfl, S7.out.gX 0 rfl, S7.out.bel⟩
  · have hI : (n != 0) = true := by simpa using h0
    have HE2 := Lib.hid (HE.out.trans (if_pos h0))
    clear HE h0
    have h_r := (S2.out.at 2 rfl)
    have h_d := (S2.out.at 0 rfl)
    go_wp2_with (first | (refine wpList_load_row rfl 32 _ rfl _ rfl 32 _ (0, 0) _ h_d Tryz.underlying32 rfl (by kernel_rfl) ?_) | (refine wpList_store_row rfl 32 _ _ rfl _ rfl rfl h_r rfl (by kernel_rfl) rfl ?_; intro W3 hb hg hs hn; have S3 := Lib.hid (S2.out.set 2 rfl hb hg hs hn); clear hb hg hs hn))
    refine bodyPost_ret (HRET.out _ _ _ (S3.out.at 2 rfl) rfl _ rfl) rfl ?_
    rw [HE2.out]
    exact ⟨_, _, rfl, S3.out.gX 0 rfl, S3.out.bel⟩
end Go.Proofs.YtpmhmippoefcfaaGreatDoor
