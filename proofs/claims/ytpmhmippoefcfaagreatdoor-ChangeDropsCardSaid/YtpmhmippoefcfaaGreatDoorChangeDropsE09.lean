/-
  The program's linked.
-/
import Derived.RangeFuncNested
import Derived.RangeFuncBound
import Derived.RangeFuncCalls
import Derived.RangeFuncLeaves
import Derived.RangeFuncBox
import Derived.Shelf.Abstract
import Derived.Shelf.RegionOpen
import Derived.WalkKit
import Derived.OwnWalkIn
import Derived.TacticsInMore
import Derived.LoopNIn
import Derived.LoopIn
import Derived.Lib.Hide
import Derived.Outline
import Derived.Deep.QuietTactic
import Derived.Deep.AppendLies
import Derived.BigQuiet
import Derived.Lib.Strings
import Derived.WalkSmall
import Derived.Shelf.Small.Strs
import Derived.Shelf.Strings.Search1
import Derived.Shelf.Strings.Prefix
import Derived.Laws.AppendOwn
import Derived.Laws.OwnMore
import Derived.Laws.AppendOwnNone
import Derived.WideShapes
import Derived.Lib.TrimByte
import Derived.Lib.Bytealg
import Derived.Lib.QuietBelow
import Derived.Deep.DrawnRows
import Derived.Laws.Cover1
import Derived.WalkMore
import Derived.Shelf.Spec.SlicesGrow
import Derived.StillTailTactics
import Derived.Laws.BitsLemmas
import Derived.Laws.RangeAny
import Derived.Laws.Runes
import Derived.Lib.Builder
import Derived.Deep.WholeRow
import Derived.Lib.OthersKept
import Derived.Shelf.SlSorted.Search
import Derived.LaidEql
import Derived.Stop.Asserts
import Derived.RowKitTokens
import Derived.Deep.RegionHeld3
import Derived.Deep.RegionLaw
import Derived.Handy
import Derived.Laws.IdiomCopy
import Derived.Lib.SliceRun
import Derived.Laws.ResultCell
import Derived.Deep.LoopGhost
import Derived.Deep.DeepCutAuto
import Derived.Deep.MidRow
import Derived.BigRegion
import Derived.Test.YtpmhmippoefcfaaGreatDoorProg
import Derived.Test.YtpmhmippoefcfaaGreatDoorShelf
import Derived.Test.YtpmhmippoefcfaaGreatDoorB01
import Derived.Test.YtpmhmippoefcfaaGreatDoorB02
import Derived.Test.YtpmhmippoefcfaaGreatDoorB04
import Derived.Test.YtpmhmippoefcfaaGreatDoorB05
import Derived.Test.YtpmhmippoefcfaaGreatDoorB07
import Derived.Test.YtpmhmippoefcfaaGreatDoorB08
import Derived.Test.YtpmhmippoefcfaaGreatDoorB12
import Derived.Test.YtpmhmippoefcfaaGreatDoorB13
import Derived.Test.YtpmhmippoefcfaaGreatDoorB14
import Derived.Test.YtpmhmippoefcfaaGreatDoorB15
import Derived.Test.YtpmhmippoefcfaaGreatDoorB16
import Derived.Test.YtpmhmippoefcfaaGreatDoorB17
import Derived.Test.YtpmhmippoefcfaaGreatDoorB18
import Derived.Test.YtpmhmippoefcfaaGreatDoorB21
import Derived.Test.YtpmhmippoefcfaaGreatDoorChangeDropsE08
namespace Go.Proofs.YtpmhmippoefcfaaGreatDoor
open Go.RowKit Go.Shelf
attribute [local go_sem ↓] Go.wp_at_zero Go.wp_at_succ
set_option maxRecDepth 100000 in
set_option maxHeartbeats 40000000 in
theorem linked_g (X : Nat → Prop) {S : Nat → Addr} (l : List NodeL) (most room who fr : Int) (old path : Str) (ao : Option Addr) (cap : Nat) (w : World) (hX : Old X w) (hg : GivesX X l (.slice ao l.length cap) w) (hd : Dsk l) (hplold : old.length ≤ 10000) (hplpath : path.length ≤ 10000) (hs : Sent S w) :
    Calls Tryz.prog 48 #[diskV ao l.length cap most room, asV who fr, .string (bs old), .string (bs path)] w fun e w' => TwoIs X S (placeOf l who old (walkL l who fr old false)) (placeOf l who path (walkL l who fr path false)) (linkedE l who old path (walkL l who fr old false) (walkL l who fr path false)) e w w' := by
  have S0 := Lib.hid (St.start (G := [(l, .slice ao l.length cap)]) (N := []) hX (one_g hg) no_n)
  have HD := Lib.hid hd
  have HS := Lib.hid hs
  have HRET : Hid (∀ (W : World) (cs cs2 : Array Value) (fr fr2), W.heap[w.heap.size + 2]? = some (.cells cs 93 fr) → cs.size = 22 → W.heap[w.heap.size + 3]? = some (.cells cs2 93 fr2) → cs2.size = 22 → ∀ tmps : Array Value, tmps.getD 8 undef = .pointer (some ⟨w.heap.size + 2, 0, none⟩) → tmps.getD 9 undef = .pointer (some ⟨w.heap.size + 3, 0, none⟩) → (results Tryz.f48 tmps).run Tryz.prog W = .ok (.tuple #[.agg cs, .agg cs2, tmps.getD 10 undef]) W) := Lib.hid fun W cs cs2 fr fr2 h hs h2 hs2 tmps ht ht2 =>
  results_cct (p := 8) (q := 9) (u := 10) (ty := 93) (ty2 := 93) rfl tmps W (w.heap.size + 2) (w.heap.size + 3) _ _ cs cs2 fr fr2 _ _ ht h ht2 h2 Tryz.underlying93 rfl (by rw [hs]; kernel_rfl) Tryz.underlying93 rfl (by rw [hs2]; kernel_rfl)
  clear hX hg hd hs
  go_enter Tryz.func48, Tryz.ntmps48
  go_upto_region 1 with (fail)
  refine code_fresh4 ?_
  intro W1 hb hA0 hA1 hA2 hA3 hs
  have S1 := Lib.hid (S0.out.new4 hb hA0 hA1 hA2 hA3)
  clear hb hA0 hA1 hA2 hA3 hs
  have h_d := (S1.out.at 0 rfl)
  have h_a := (S1.out.at 1 rfl)
  go_wp2_with (first | (refine wpList_load_row rfl 24 _ rfl _ rfl 24 _ (0, 0) _ h_d Tryz.underlying24 rfl (by kernel_rfl) ?_) | (refine wpList_load_row rfl 26 _ rfl _ rfl 26 _ (0, 0) _ h_a Tryz.underlying26 rfl (by kernel_rfl) ?_))
  refine (findthere_g _ l most room who fr old _ _ W1 S1.out.oldX (S1.out.g 0 rfl) HD.out hplold (HS.out.keep S1.out.bel)).mono ?_
  rintro e W2 ⟨v, aod, capd, aon, capn, rfl, hv, hn1, hn2, hb⟩
  clear h_d h_a
  obtain ⟨p, hp⟩ : ∃ p, p = placeOf l who old (walkL l who fr old false) := ⟨_, rfl⟩
  obtain ⟨n, hn⟩ : ∃ n, n = thereE (walkL l who fr old false) := ⟨_, rfl⟩
  rw [← hp] at hn1 hn2 ⊢
  rw [← hn] at hv
  have S2 := Lib.hid (((S1.out.call hb).addN hn1).addN hn2)
  clear hb hn1 hn2
  have HV := Lib.hid hv
  have HPp := Lib.hid hp
  have HNn := Lib.hid hn
  clear hp hn
  obtain ⟨q, hq⟩ : ∃ q, q = placeOf l who path (walkL l who fr path false) := ⟨_, rfl⟩
  obtain ⟨f, hf⟩ : ∃ f, f = (walkL l who fr path false).2 := ⟨_, rfl⟩
  obtain ⟨t, ht⟩ : ∃ t, t = toEnterE q 2 := ⟨_, rfl⟩
  have HE := Lib.hid (linked_at HPp.out hq HNn.out hf ht)
  have HQ := Lib.hid hq
  have HF := Lib.hid hf
  have HT := Lib.hid ht
  clear hq hf ht
  have h_r1 := (S2.out.at 2 rfl)
  go_upto_region 2 with (first | (refine wpList_store_row rfl 93 _ _ rfl _ rfl rfl h_r1 rfl (by kernel_rfl) rfl ?_; intro W3 hb hg hs hn; have S3 := Lib.hid (S2.out.set 2 rfl hb hg hs hn); clear hb hg hs hn))
  clear h_r1
  rcases hv.form with ⟨h0, rfl⟩ | ⟨h0, c1, c2, rfl⟩
  · subst h0
    have HE2 := Lib.hid (HE.out.trans (if_neg (by simp)))
    clear HE hv
    have h_r1 := (S3.out.at 2 rfl)
    go_wp2_with (first | (refine wpList_load_row rfl 93 _ rfl _ rfl 93 _ (0, 0) _ h_r1 Tryz.underlying93 rfl (by kernel_rfl) ?_))
    refine (isdir_any p _ _ W3).mono ?_
    rintro e W4 ⟨rfl, hb⟩
    clear h_r1
    have S4 := Lib.hid (S3.out.call hb)
    clear hb
    cases hk : (p.nn.kind == 2) with
    | true =>
      have HE3 := Lib.hid (HE2.out.trans (if_pos hk))
      clear HE2 HV
      go_upto_region 5 with (fail)
      have h_r1 := (S4.out.at 2 rfl)
      have h_r2 := (S4.out.at 3 rfl)
      refine wp_region_held_drew (S := fun W => W.heap[w.heap.size + 2]? = some (.cells (pcells p (.slice aod p.dn.names.length capd) (.slice aon p.nn.names.length capn)) 93 (0, 0)) ∧ W.heap[w.heap.size + 3]? = some (.cells (pcells (⟨0, [], zeroS, zeroN, zeroN⟩ : PlaceL) (.slice none 0 0) (.slice none 0 0)) 93 (0, 0)) ∧ W.cell? ⟨6, 0, none⟩ = some (sentV (S 5)) ∧ True) (by kernel_rfl) ⟨(S4.out.at 2 rfl), (S4.out.at 3 rfl), (HS.out.keep S4.out.bel).e5, trivial⟩ (fun hHeld => ?_)
      clear h_r1 h_r2
      have S5 := Lib.hid (S4.out.call (Below.refl W4.heap.size W4).drew)
      generalize W4.drew = W5 at *
      refine wpAnyH_take (i := 0) rfl (by kernel_rfl) (by kernel_rfl) (by kernel_rfl) (fun _ _ _ h => h) (yieldsIf_load_row (by rfl) 93 _ rfl _ rfl 93 _ (0, 0) _ (fun _ h => h.1) Tryz.underlying93 rfl (by kernel_rfl)) hHeld ?_
      (try simp only [pt, Act.put])
      refine wpAnyH_take (i := 1) rfl (by kernel_rfl) (by kernel_rfl) (by kernel_rfl) (fun _ _ _ h => h) (yieldsIf_load_row (by rfl) 93 _ rfl _ rfl 93 _ (0, 0) _ (fun _ h => h.2.1) Tryz.underlying93 rfl (by kernel_rfl)) hHeld ?_
      (try simp only [pt, Act.put])
      refine wpAnyH_take (i := 2) rfl (by kernel_rfl) (by kernel_rfl) (by kernel_rfl) (fun _ _ _ h => h) (yieldsIf_load_row (by rfl) 93 _ rfl _ rfl 93 _ (0, 0) _ (fun _ h => h.1) Tryz.underlying93 rfl (by kernel_rfl)) hHeld ?_
      (try simp only [pt, Act.put])
      refine wpAnyH_take (i := 3) (v := ?v1) rfl (by kernel_rfl) (by kernel_rfl) (by kernel_rfl) (fun _ _ _ h => h) (Or.inl ⟨by rfl, ?hy1⟩) hHeld ?rest1
      case hy1 => (intro w hSw; (try dsimp only at hSw); (try go_split_ands); go_simp; first | done | with_reducible rfl)
      (try simp only [pt, Act.put])
      refine wpAnyH_ready (rs := [4]) (by kernel_rfl) (by simp) ?_
      refine AllReadyH.cons rfl (fun K hK => ?_) AllReadyH.nil
      go_simp
      refine (fault_any p _ _ _ _ W5).mono ?_
      rintro e W6 ⟨rfl, hb⟩
      have S6 := Lib.hid (S5.out.call hb)
      clear hb hHeld
      go_wp2_with fail
      refine hK.out _ _ ⟨(S6.out.at 2 rfl), (S6.out.at 3 rfl), (HS.out.keep S6.out.bel).e5, trivial⟩ (fun hHeld => ?_)
      clear hK K
      (try simp only [pt, Act.put])
      refine wpAnyH_ready (rs := [5]) (by kernel_rfl) (by simp) ?_
      refine AllReadyH.cons rfl (fun K hK => ?_) AllReadyH.nil
      rw [if_pos (by rfl)]
      refine wp_store_row 93 _ _ rfl _ rfl rfl (S6.out.at 2 rfl) rfl (by kernel_rfl) rfl ?_
      intro W7 hb hg hs hn
      have S7 := Lib.hid (S6.out.set 2 rfl hb hg hs hn)
      clear hb hg hs hn hHeld
      refine hK.out _ _ ⟨(S7.out.at 2 rfl), (S7.out.at 3 rfl), (HS.out.keep S7.out.bel).e5, trivial⟩ (fun hHeld => ?_)
      clear hK K
      (try simp only [pt, Act.put])
      refine wpAnyH_ready (rs := [6]) (by kernel_rfl) (by simp) ?_
      refine AllReadyH.cons rfl (fun K hK => ?_) AllReadyH.nil
      rw [if_pos (by rfl)]
      refine wp_store_row 93 _ _ rfl _ rfl rfl (S7.out.at 3 rfl) rfl (by kernel_rfl) rfl ?_
      intro W8 hb hg hs hn
      have S8 := Lib.hid (S7.out.set 3 rfl hb hg hs hn)
      clear hb hg hs hn hHeld
      refine hK.out _ _ ⟨(S8.out.at 2 rfl), (S8.out.at 3 rfl), (HS.out.keep S8.out.bel).e5, trivial⟩ (fun hHeld => ?_)
      clear hK K
      (try simp only [pt, Act.put])
      refine wpAnyH_take (i := 7) (v := ?v2) rfl (by kernel_rfl) (by kernel_rfl) (by kernel_rfl) (fun _ _ _ h => h) (Or.inl ⟨by rfl, ?hy2⟩) hHeld ?rest2
      case hy2 => (intro w hSw; (try dsimp only at hSw); (try go_split_ands); go_simp; first | done | with_reducible rfl)
      (try simp only [pt, Act.put])
      refine wpAnyH_done (by kernel_rfl) ?_ _
      go_wp2_with fail
      refine bodyPost_ret (HRET.out _ _ _ _ _ (S8.out.at 2 rfl) rfl (S8.out.at 3 rfl) rfl _ rfl rfl) rfl ?_
      exact TwoIs.of p (⟨0, [], zeroS, zeroN, zeroN⟩ : PlaceL) (aod2 := none) (capd2 := 0) (aon2 := none) (capn2 := 0) HE3.out (ErrIs.sent 5 (by decide) _) (fun hc => absurd hc (by first | exact HNZ.out | decide)) (S8.out.nX 0 rfl) (S8.out.nX 1 rfl) (NodeX.zero _ _) (NodeX.zero _ _) S8.out.bel
    | false =>
      have HE3 := Lib.hid (HE2.out.trans (if_neg (by rw [hk]; decide)))
      clear HE2 HV
      by_cases hL : 20 ≤ p.nn.links
      · have hJ : decide ((20 : Int) ≤ p.nn.links) = true := decide_eq_true hL
        have HE4 := Lib.hid (HE3.out.trans (if_pos hL))
        clear HE3 hL
        obtain ⟨-, -, -, -, -, -, -, -, -, -, -, -, -, -, -, -, -, r117, -, -, -, -⟩ := cells22 (S4.out.at 2 rfl)
        go_upto_region 7 with (fail)
        clear r117
        have h_r1 := (S4.out.at 2 rfl)
        have h_r2 := (S4.out.at 3 rfl)
        refine wp_region_held_drew (S := fun W => W.heap[w.heap.size + 2]? = some (.cells (pcells p (.slice aod p.dn.names.length capd) (.slice aon p.nn.names.length capn)) 93 (0, 0)) ∧ W.heap[w.heap.size + 3]? = some (.cells (pcells (⟨0, [], zeroS, zeroN, zeroN⟩ : PlaceL) (.slice none 0 0) (.slice none 0 0)) 93 (0, 0)) ∧ W.cell? ⟨8, 0, none⟩ = some (sentV (S 11)) ∧ True) (by kernel_rfl) ⟨(S4.out.at 2 rfl), (S4.out.at 3 rfl), (HS.out.keep S4.out.bel).e11, trivial⟩ (fun hHeld => ?_)
        clear h_r1 h_r2
        have S5 := Lib.hid (S4.out.call (Below.refl W4.heap.size W4).drew)
        generalize W4.drew = W5 at *
        refine wpAnyH_take (i := 0) rfl (by kernel_rfl) (by kernel_rfl) (by kernel_rfl) (fun _ _ _ h => h) (yieldsIf_load_row (by rfl) 93 _ rfl _ rfl 93 _ (0, 0) _ (fun _ h => h.1) Tryz.underlying93 rfl (by kernel_rfl)) hHeld ?_
        (try simp only [pt, Act.put])
        refine wpAnyH_take (i := 1) rfl (by kernel_rfl) (by kernel_rfl) (by kernel_rfl) (fun _ _ _ h => h) (yieldsIf_load_row (by rfl) 93 _ rfl _ rfl 93 _ (0, 0) _ (fun _ h => h.2.1) Tryz.underlying93 rfl (by kernel_rfl)) hHeld ?_
        (try simp only [pt, Act.put])
        refine wpAnyH_take (i := 2) rfl (by kernel_rfl) (by kernel_rfl) (by kernel_rfl) (fun _ _ _ h => h) (yieldsIf_load_row (by rfl) 93 _ rfl _ rfl 93 _ (0, 0) _ (fun _ h => h.1) Tryz.underlying93 rfl (by kernel_rfl)) hHeld ?_
        (try simp only [pt, Act.put])
        refine wpAnyH_take (i := 3) (v := ?v3) rfl (by kernel_rfl) (by kernel_rfl) (by kernel_rfl) (fun _ _ _ h => h) (Or.inl ⟨by rfl, ?hy3⟩) hHeld ?rest3
        case hy3 => (intro w hSw; (try dsimp only at hSw); (try go_split_ands); go_simp; first | done | with_reducible rfl)
        (try simp only [pt, Act.put])
        refine wpAnyH_ready (rs := [4]) (by kernel_rfl) (by simp) ?_
        refine AllReadyH.cons rfl (fun K hK => ?_) AllReadyH.nil
        go_simp
        refine (fault_any p _ _ _ _ W5).mono ?_
        rintro e W6 ⟨rfl, hb⟩
        have S6 := Lib.hid (S5.out.call hb)
        clear hb hHeld
        go_wp2_with fail
        refine hK.out _ _ ⟨(S6.out.at 2 rfl), (S6.out.at 3 rfl), (HS.out.keep S6.out.bel).e11, trivial⟩ (fun hHeld => ?_)
        clear hK K
        (try simp only [pt, Act.put])
        refine wpAnyH_ready (rs := [5]) (by kernel_rfl) (by simp) ?_
        refine AllReadyH.cons rfl (fun K hK => ?_) AllReadyH.nil
        rw [if_pos (by rfl)]
        refine wp_store_row 93 _ _ rfl _ rfl rfl (S6.out.at 2 rfl) rfl (by kernel_rfl) rfl ?_
        intro W7 hb hg hs hn
        have S7 := Lib.hid (S6.out.set 2 rfl hb hg hs hn)
        clear hb hg hs hn hHeld
        refine hK.out _ _ ⟨(S7.out.at 2 rfl), (S7.out.at 3 rfl), (HS.out.keep S7.out.bel).e11, trivial⟩ (fun hHeld => ?_)
        clear hK K
        (try simp only [pt, Act.put])
        refine wpAnyH_ready (rs := [6]) (by kernel_rfl) (by simp) ?_
        refine AllReadyH.cons rfl (fun K hK => ?_) AllReadyH.nil
        rw [if_pos (by rfl)]
        refine wp_store_row 93 _ _ rfl _ rfl rfl (S7.out.at 3 rfl) rfl (by kernel_rfl) rfl ?_
        intro W8 hb hg hs hn
        have S8 := Lib.hid (S7.out.set 3 rfl hb hg hs hn)
        clear hb hg hs hn hHeld
        refine hK.out _ _ ⟨(S8.out.at 2 rfl), (S8.out.at 3 rfl), (HS.out.keep S8.out.bel).e11, trivial⟩ (fun hHeld => ?_)
        clear hK K
        (try simp only [pt, Act.put])
        refine wpAnyH_take (i := 7) (v := ?v4) rfl (by kernel_rfl) (by kernel_rfl) (by kernel_rfl) (fun _ _ _ h => h) (Or.inl ⟨by rfl, ?hy4⟩) hHeld ?rest4
        case hy4 => (intro w hSw; (try dsimp only at hSw); (try go_split_ands); go_simp; first | done | with_reducible rfl)
        (try simp only [pt, Act.put])
        refine wpAnyH_done (by kernel_rfl) ?_ _
        go_wp2_with fail
        refine bodyPost_ret (HRET.out _ _ _ _ _ (S8.out.at 2 rfl) rfl (S8.out.at 3 rfl) rfl _ rfl rfl) rfl ?_
        exact TwoIs.of p (⟨0, [], zeroS, zeroN, zeroN⟩ : PlaceL) (aod2 := none) (capd2 := 0) (aon2 := none) (capn2 := 0) HE4.out (ErrIs.sent 11 (by decide) _) (fun hc => absurd hc (by first | exact HNZ.out | decide)) (S8.out.nX 0 rfl) (S8.out.nX 1 rfl) (NodeX.zero _ _) (NodeX.zero _ _) S8.out.bel
      · have hJ : decide ((20 : Int) ≤ p.nn.links) = false := decide_eq_false hL
        have HE4 := Lib.hid (HE3.out.trans (if_neg hL))
        clear HE3 hL
        obtain ⟨-, -, -, -, -, -, -, -, -, -, -, -, -, -, -, -, -, r117, -, -, -, -⟩ := cells22 (S4.out.at 2 rfl)
        have h_d := (S4.out.at 0 rfl)
        have h_a := (S4.out.at 1 rfl)
        go_wp2_with (first | (refine wpList_load_row rfl 24 _ rfl _ rfl 24 _ (0, 0) _ h_d Tryz.underlying24 rfl (by kernel_rfl) ?_) | (refine wpList_load_row rfl 26 _ rfl _ rfl 26 _ (0, 0) _ h_a Tryz.underlying26 rfl (by kernel_rfl) ?_))
        refine (find_g _ l most room who fr path _ _ W4 S4.out.oldX (S4.out.g 0 rfl) HD.out hplpath (HS.out.keep S4.out.bel)).mono ?_
        rintro e W5 ⟨v2, aod2, capd2, aon2, capn2, rfl, hv2, hn1, hn2, hb⟩
        clear r117 h_d h_a
        rw [← HQ.out] at hn1 hn2 ⊢
        rw [← HF.out] at hv2
        have S5 := Lib.hid (((S4.out.call hb).addN hn1).addN hn2)
        clear hb hn1 hn2 hk hJ
        have HV2 := Lib.hid hv2
        have h_r2 := (S5.out.at 3 rfl)
        go_upto_region 9 with (first | (refine wpList_store_row rfl 93 _ _ rfl _ rfl rfl h_r2 rfl (by kernel_rfl) rfl ?_; intro W6 hb hg hs hn; have S6 := Lib.hid (S5.out.set 3 rfl hb hg hs hn); clear hb hg hs hn))
        clear h_r2
        rcases hv2.form with ⟨h0, rfl⟩ | ⟨h0, c1, c2, rfl⟩
        · subst h0
          have HE5 := Lib.hid (HE4.out.trans (if_neg (by simp)))
          clear HE4 hv2 HV2
          have h_r2 := (S6.out.at 3 rfl)
          go_wp2_with (first | (refine wpList_load_row rfl 93 _ rfl _ rfl 93 _ (0, 0) _ h_r2 Tryz.underlying93 rfl (by kernel_rfl) ?_))
          refine (toenter2_any q _ _ W6 (HS.out.keep S6.out.bel)).mono ?_
          rintro e W7 ⟨v3, rfl, hv3, hb⟩
          clear h_r2
          have S7 := Lib.hid (S6.out.call hb)
          clear hb
          rw [← HT.out] at hv3
          have HV3 := Lib.hid hv3
          rcases hv3.form with ⟨h1, rfl⟩ | ⟨h1, c1, c2, rfl⟩
          · subst h1
            have HE6 := Lib.hid (HE5.out.trans (if_neg (by simp)))
            clear HE5 hv3 HV3
            cases hsl : q.s.slash with
            | true =>
              have HE7 := Lib.hid (HE6.out.trans (if_pos hsl))
              clear HE6
              obtain ⟨-, -, -, -, -, r25, -, -, -, -, -, -, -, -, -, -, -, -, -, -, -, -⟩ := cells22 (S7.out.at 3 rfl)
              go_upto_region 12 with (fail)
              clear hsl
              have h_r2 := (S7.out.at 3 rfl)
              have g4 := (HS.out.keep S7.out.bel).e4
              go_wp2_with (first | (refine wpList_load_row rfl 93 _ rfl _ rfl 93 _ (0, 0) _ h_r2 Tryz.underlying93 rfl (by kernel_rfl) ?_))
              refine (fault_any q _ _ _ _ W7).mono ?_
              rintro e W8 ⟨rfl, hb⟩
              clear r25 h_r2 g4
              have S8 := Lib.hid (S7.out.call hb)
              clear hb
              go_upto_region 13 with (fail)
              have h_r1 := (S8.out.at 2 rfl)
              have h_r2 := (S8.out.at 3 rfl)
              refine wp_region_held_drew (S := fun W => W.heap[w.heap.size + 2]? = some (.cells (pcells p (.slice aod p.dn.names.length capd) (.slice aon p.nn.names.length capn)) 93 (0, 0)) ∧ W.heap[w.heap.size + 3]? = some (.cells (pcells q (.slice aod2 q.dn.names.length capd2) (.slice aon2 q.nn.names.length capn2)) 93 (0, 0)) ∧ True) (by kernel_rfl) ⟨(S8.out.at 2 rfl), (S8.out.at 3 rfl), trivial⟩ (fun hHeld => ?_)
              clear h_r1 h_r2
              have S9 := Lib.hid (S8.out.call (Below.refl W8.heap.size W8).drew)
              generalize W8.drew = W9 at *
              refine wpAnyH_take (i := 0) rfl (by kernel_rfl) (by kernel_rfl) (by kernel_rfl) (fun _ _ _ h => h) (yieldsIf_load_row (by rfl) 93 _ rfl _ rfl 93 _ (0, 0) _ (fun _ h => h.1) Tryz.underlying93 rfl (by kernel_rfl)) hHeld ?_
              (try simp only [pt, Act.put])
              refine wpAnyH_take (i := 1) rfl (by kernel_rfl) (by kernel_rfl) (by kernel_rfl) (fun _ _ _ h => h) (yieldsIf_load_row (by rfl) 93 _ rfl _ rfl 93 _ (0, 0) _ (fun _ h => h.2.1) Tryz.underlying93 rfl (by kernel_rfl)) hHeld ?_
              (try simp only [pt, Act.put])
              refine wpAnyH_take (i := 2) (v := ?v5) rfl (by kernel_rfl) (by kernel_rfl) (by kernel_rfl) (fun _ _ _ h => h) (Or.inl ⟨by rfl, ?hy5⟩) hHeld ?rest5
              case hy5 => (intro w hSw; (try dsimp only at hSw); (try go_split_ands); go_simp; first | done | with_reducible rfl)
              (try simp only [pt, Act.put])
              refine wpAnyH_ready (rs := [3]) (by kernel_rfl) (by simp) ?_
              refine AllReadyH.cons rfl (fun K hK => ?_) AllReadyH.nil
              rw [if_pos (by rfl)]
              refine wp_store_row 93 _ _ rfl _ rfl rfl (S9.out.at 2 rfl) rfl (by kernel_rfl) rfl ?_
              intro W10 hb hg hs hn
              have S10 := Lib.hid (S9.out.set 2 rfl hb hg hs hn)
              clear hb hg hs hn hHeld
              refine hK.out _ _ ⟨(S10.out.at 2 rfl), (S10.out.at 3 rfl), trivial⟩ (fun hHeld => ?_)
              clear hK K
              (try simp only [pt, Act.put])
              refine wpAnyH_ready (rs := [4]) (by kernel_rfl) (by simp) ?_
              refine AllReadyH.cons rfl (fun K hK => ?_) AllReadyH.nil
              rw [if_pos (by rfl)]
              refine wp_store_row 93 _ _ rfl _ rfl rfl (S10.out.at 3 rfl) rfl (by kernel_rfl) rfl ?_
              intro W11 hb hg hs hn
              have S11 := Lib.hid (S10.out.set 3 rfl hb hg hs hn)
              clear hb hg hs hn hHeld
              refine hK.out _ _ ⟨(S11.out.at 2 rfl), (S11.out.at 3 rfl), trivial⟩ (fun hHeld => ?_)
              clear hK K
              (try simp only [pt, Act.put])
              refine wpAnyH_take (i := 5) (v := ?v6) rfl (by kernel_rfl) (by kernel_rfl) (by kernel_rfl) (fun _ _ _ h => h) (Or.inl ⟨by rfl, ?hy6⟩) hHeld ?rest6
              case hy6 => (intro w hSw; (try dsimp only at hSw); (try go_split_ands); go_simp; first | done | with_reducible rfl)
              (try simp only [pt, Act.put])
              refine wpAnyH_done (by kernel_rfl) ?_ _
              go_wp2_with fail
              refine bodyPost_ret (HRET.out _ _ _ _ _ (S11.out.at 2 rfl) rfl (S11.out.at 3 rfl) rfl _ rfl rfl) rfl ?_
              exact TwoIs.of p q HE7.out (ErrIs.sent 4 (by decide) _) (fun hc => absurd hc (by decide)) (S11.out.nX 0 rfl) (S11.out.nX 1 rfl) (S11.out.nX 2 rfl) (S11.out.nX 3 rfl) S11.out.bel
            | false =>
              have HE7 := Lib.hid (HE6.out.trans (if_neg (by rw [hsl]; decide)))
              clear HE6
              obtain ⟨-, -, -, -, -, r25, -, -, -, -, -, -, -, -, -, -, -, -, -, -, -, -⟩ := cells22 (S7.out.at 3 rfl)
              go_upto_region 13 with (fail)
              clear hsl
              clear r25
              have h_r1 := (S7.out.at 2 rfl)
              have h_r2 := (S7.out.at 3 rfl)
              refine wp_region_held_drew (S := fun W => W.heap[w.heap.size + 2]? = some (.cells (pcells p (.slice aod p.dn.names.length capd) (.slice aon p.nn.names.length capn)) 93 (0, 0)) ∧ W.heap[w.heap.size + 3]? = some (.cells (pcells q (.slice aod2 q.dn.names.length capd2) (.slice aon2 q.nn.names.length capn2)) 93 (0, 0)) ∧ True) (by kernel_rfl) ⟨(S7.out.at 2 rfl), (S7.out.at 3 rfl), trivial⟩ (fun hHeld => ?_)
              clear h_r1 h_r2
              have S8 := Lib.hid (S7.out.call (Below.refl W7.heap.size W7).drew)
              generalize W7.drew = W8 at *
              refine wpAnyH_take (i := 0) rfl (by kernel_rfl) (by kernel_rfl) (by kernel_rfl) (fun _ _ _ h => h) (yieldsIf_load_row (by rfl) 93 _ rfl _ rfl 93 _ (0, 0) _ (fun _ h => h.1) Tryz.underlying93 rfl (by kernel_rfl)) hHeld ?_
              (try simp only [pt, Act.put])
              refine wpAnyH_take (i := 1) rfl (by kernel_rfl) (by kernel_rfl) (by kernel_rfl) (fun _ _ _ h => h) (yieldsIf_load_row (by rfl) 93 _ rfl _ rfl 93 _ (0, 0) _ (fun _ h => h.2.1) Tryz.underlying93 rfl (by kernel_rfl)) hHeld ?_
              (try simp only [pt, Act.put])
              refine wpAnyH_take (i := 2) (v := ?v7) rfl (by kernel_rfl) (by kernel_rfl) (by kernel_rfl) (fun _ _ _ h => h) (Or.inl ⟨by rfl, ?hy7⟩) hHeld ?rest7
              case hy7 => (intro w hSw; (try dsimp only at hSw); (try go_split_ands); go_simp; first | done | with_reducible rfl)
              (try simp only [pt, Act.put])
              refine wpAnyH_ready (rs := [3]) (by kernel_rfl) (by simp) ?_
              refine AllReadyH.cons rfl (fun K hK => ?_) AllReadyH.nil
              rw [if_pos (by rfl)]
              refine wp_store_row 93 _ _ rfl _ rfl rfl (S8.out.at 2 rfl) rfl (by kernel_rfl) rfl ?_
              intro W9 hb hg hs hn
              have S9 := Lib.hid (S8.out.set 2 rfl hb hg hs hn)
              clear hb hg hs hn hHeld
              refine hK.out _ _ ⟨(S9.out.at 2 rfl), (S9.out.at 3 rfl), trivial⟩ (fun hHeld => ?_)
              clear hK K
              (try simp only [pt, Act.put])
              refine wpAnyH_ready (rs := [4]) (by kernel_rfl) (by simp) ?_
              refine AllReadyH.cons rfl (fun K hK => ?_) AllReadyH.nil
              rw [if_pos (by rfl)]
              refine wp_store_row 93 _ _ rfl _ rfl rfl (S9.out.at 3 rfl) rfl (by kernel_rfl) rfl ?_
              intro W10 hb hg hs hn
              have S10 := Lib.hid (S9.out.set 3 rfl hb hg hs hn)
              clear hb hg hs hn hHeld
              refine hK.out _ _ ⟨(S10.out.at 2 rfl), (S10.out.at 3 rfl), trivial⟩ (fun hHeld => ?_)
              clear hK K
              (try simp only [pt, Act.put])
              refine wpAnyH_take (i := 5) (v := ?v8) rfl (by kernel_rfl) (by kernel_rfl) (by kernel_rfl) (fun _ _ _ h => h) (Or.inl ⟨by rfl, ?hy8⟩) hHeld ?rest8
              case hy8 => (intro w hSw; (try dsimp only at hSw); (try go_split_ands); go_simp; first | done | with_reducible rfl)
              (try simp only [pt, Act.put])
              refine wpAnyH_done (by kernel_rfl) ?_ _
              go_wp2_with fail
              refine bodyPost_ret (HRET.out _ _ _ _ _ (S10.out.at 2 rfl) rfl (S10.out.at 3 rfl) rfl _ rfl rfl) rfl ?_
              exact TwoIs.of p q HE7.out ErrIs.nil (fun _ => ⟨HPp.out, HQ.out⟩) (S10.out.nX 0 rfl) (S10.out.nX 1 rfl) (S10.out.nX 2 rfl) (S10.out.nX 3 rfl) S10.out.bel
          · have HE6 := Lib.hid (HE5.out.trans (if_pos h1))
            have HNZ : Hid (t ≠ 0) := Lib.hid h1
            clear HE5 h1 hv3
            go_upto_region 13 with (fail)
            have h_r1 := (S7.out.at 2 rfl)
            have h_r2 := (S7.out.at 3 rfl)
            refine wp_region_held_drew (S := fun W => W.heap[w.heap.size + 2]? = some (.cells (pcells p (.slice aod p.dn.names.length capd) (.slice aon p.nn.names.length capn)) 93 (0, 0)) ∧ W.heap[w.heap.size + 3]? = some (.cells (pcells q (.slice aod2 q.dn.names.length capd2) (.slice aon2 q.nn.names.length capn2)) 93 (0, 0)) ∧ True) (by kernel_rfl) ⟨(S7.out.at 2 rfl), (S7.out.at 3 rfl), trivial⟩ (fun hHeld => ?_)
            clear h_r1 h_r2
            have S8 := Lib.hid (S7.out.call (Below.refl W7.heap.size W7).drew)
            generalize W7.drew = W8 at *
            refine wpAnyH_take (i := 0) rfl (by kernel_rfl) (by kernel_rfl) (by kernel_rfl) (fun _ _ _ h => h) (yieldsIf_load_row (by rfl) 93 _ rfl _ rfl 93 _ (0, 0) _ (fun _ h => h.1) Tryz.underlying93 rfl (by kernel_rfl)) hHeld ?_
            (try simp only [pt, Act.put])
            refine wpAnyH_take (i := 1) rfl (by kernel_rfl) (by kernel_rfl) (by kernel_rfl) (fun _ _ _ h => h) (yieldsIf_load_row (by rfl) 93 _ rfl _ rfl 93 _ (0, 0) _ (fun _ h => h.2.1) Tryz.underlying93 rfl (by kernel_rfl)) hHeld ?_
            (try simp only [pt, Act.put])
            refine wpAnyH_take (i := 2) (v := ?v9) rfl (by kernel_rfl) (by kernel_rfl) (by kernel_rfl) (fun _ _ _ h => h) (Or.inl ⟨by rfl, ?hy9⟩) hHeld ?rest9
            case hy9 => (intro w hSw; (try dsimp only at hSw); (try go_split_ands); go_simp; first | done | with_reducible rfl)
            (try simp only [pt, Act.put])
            refine wpAnyH_ready (rs := [3]) (by kernel_rfl) (by simp) ?_
            refine AllReadyH.cons rfl (fun K hK => ?_) AllReadyH.nil
            rw [if_pos (by rfl)]
            refine wp_store_row 93 _ _ rfl _ rfl rfl (S8.out.at 2 rfl) rfl (by kernel_rfl) rfl ?_
            intro W9 hb hg hs hn
            have S9 := Lib.hid (S8.out.set 2 rfl hb hg hs hn)
            clear hb hg hs hn hHeld
            refine hK.out _ _ ⟨(S9.out.at 2 rfl), (S9.out.at 3 rfl), trivial⟩ (fun hHeld => ?_)
            clear hK K
            (try simp only [pt, Act.put])
            refine wpAnyH_ready (rs := [4]) (by kernel_rfl) (by simp) ?_
            refine AllReadyH.cons rfl (fun K hK => ?_) AllReadyH.nil
            rw [if_pos (by rfl)]
            refine wp_store_row 93 _ _ rfl _ rfl rfl (S9.out.at 3 rfl) rfl (by kernel_rfl) rfl ?_
            intro W10 hb hg hs hn
            have S10 := Lib.hid (S9.out.set 3 rfl hb hg hs hn)
            clear hb hg hs hn hHeld
            refine hK.out _ _ ⟨(S10.out.at 2 rfl), (S10.out.at 3 rfl), trivial⟩ (fun hHeld => ?_)
            clear hK K
            (try simp only [pt, Act.put])
            refine wpAnyH_take (i := 5) (v := ?v10) rfl (by kernel_rfl) (by kernel_rfl) (by kernel_rfl) (fun _ _ _ h => h) (Or.inl ⟨by rfl, ?hy10⟩) hHeld ?rest10
            case hy10 => (intro w hSw; (try dsimp only at hSw); (try go_split_ands); go_simp; first | done | with_reducible rfl)
            (try simp only [pt, Act.put])
            refine wpAnyH_done (by kernel_rfl) ?_ _
            go_wp2_with fail
            refine bodyPost_ret (HRET.out _ _ _ _ _ (S10.out.at 2 rfl) rfl (S10.out.at 3 rfl) rfl _ rfl rfl) rfl ?_
            exact TwoIs.of p q HE6.out HV3.out (fun hc => absurd hc HNZ.out) (S10.out.nX 0 rfl) (S10.out.nX 1 rfl) (S10.out.nX 2 rfl) (S10.out.nX 3 rfl) S10.out.bel
        · have HE5 := Lib.hid (HE4.out.trans (if_pos h0))
          have HNZ : Hid (f ≠ 0) := Lib.hid h0
          clear HE4 h0 hv2
          go_upto_region 13 with (fail)
          have h_r1 := (S6.out.at 2 rfl)
          have h_r2 := (S6.out.at 3 rfl)
          refine wp_region_held_drew (S := fun W => W.heap[w.heap.size + 2]? = some (.cells (pcells p (.slice aod p.dn.names.length capd) (.slice aon p.nn.names.length capn)) 93 (0, 0)) ∧ W.heap[w.heap.size + 3]? = some (.cells (pcells q (.slice aod2 q.dn.names.length capd2) (.slice aon2 q.nn.names.length capn2)) 93 (0, 0)) ∧ True) (by kernel_rfl) ⟨(S6.out.at 2 rfl), (S6.out.at 3 rfl), trivial⟩ (fun hHeld => ?_)
          clear h_r1 h_r2
          have S7 := Lib.hid (S6.out.call (Below.refl W6.heap.size W6).drew)
          generalize W6.drew = W7 at *
          refine wpAnyH_take (i := 0) rfl (by kernel_rfl) (by kernel_rfl) (by kernel_rfl) (fun _ _ _ h => h) (yieldsIf_load_row (by rfl) 93 _ rfl _ rfl 93 _ (0, 0) _ (fun _ h => h.1) Tryz.underlying93 rfl (by kernel_rfl)) hHeld ?_
          (try simp only [pt, Act.put])
          refine wpAnyH_take (i := 1) rfl (by kernel_rfl) (by kernel_rfl) (by kernel_rfl) (fun _ _ _ h => h) (yieldsIf_load_row (by rfl) 93 _ rfl _ rfl 93 _ (0, 0) _ (fun _ h => h.2.1) Tryz.underlying93 rfl (by kernel_rfl)) hHeld ?_
          (try simp only [pt, Act.put])
          refine wpAnyH_take (i := 2) (v := ?v11) rfl (by kernel_rfl) (by kernel_rfl) (by kernel_rfl) (fun _ _ _ h => h) (Or.inl ⟨by rfl, ?hy11⟩) hHeld ?rest11
          case hy11 => (intro w hSw; (try dsimp only at hSw); (try go_split_ands); go_simp; first | done | with_reducible rfl)
          (try simp only [pt, Act.put])
          refine wpAnyH_ready (rs := [3]) (by kernel_rfl) (by simp) ?_
          refine AllReadyH.cons rfl (fun K hK => ?_) AllReadyH.nil
          rw [if_pos (by rfl)]
          refine wp_store_row 93 _ _ rfl _ rfl rfl (S7.out.at 2 rfl) rfl (by kernel_rfl) rfl ?_
          intro W8 hb hg hs hn
          have S8 := Lib.hid (S7.out.set 2 rfl hb hg hs hn)
          clear hb hg hs hn hHeld
          refine hK.out _ _ ⟨(S8.out.at 2 rfl), (S8.out.at 3 rfl), trivial⟩ (fun hHeld => ?_)
          clear hK K
          (try simp only [pt, Act.put])
          refine wpAnyH_ready (rs := [4]) (by kernel_rfl) (by simp) ?_
          refine AllReadyH.cons rfl (fun K hK => ?_) AllReadyH.nil
          rw [if_pos (by rfl)]
          refine wp_store_row 93 _ _ rfl _ rfl rfl (S8.out.at 3 rfl) rfl (by kernel_rfl) rfl ?_
          intro W9 hb hg hs hn
          have S9 := Lib.hid (S8.out.set 3 rfl hb hg hs hn)
          clear hb hg hs hn hHeld
          refine hK.out _ _ ⟨(S9.out.at 2 rfl), (S9.out.at 3 rfl), trivial⟩ (fun hHeld => ?_)
          clear hK K
          (try simp only [pt, Act.put])
          refine wpAnyH_take (i := 5) (v := ?v12) rfl (by kernel_rfl) (by kernel_rfl) (by kernel_rfl) (fun _ _ _ h => h) (Or.inl ⟨by rfl, ?hy12⟩) hHeld ?rest12
          case hy12 => (intro w hSw; (try dsimp only at hSw); (try go_split_ands); go_simp; first | done | with_reducible rfl)
          (try simp only [pt, Act.put])
          refine wpAnyH_done (by kernel_rfl) ?_ _
          go_wp2_with fail
          refine bodyPost_ret (HRET.out _ _ _ _ _ (S9.out.at 2 rfl) rfl (S9.out.at 3 rfl) rfl _ rfl rfl) rfl ?_
          exact TwoIs.of p q HE5.out HV2.out (fun hc => absurd hc HNZ.out) (S9.out.nX 0 rfl) (S9.out.nX 1 rfl) (S9.out.nX 2 rfl) (S9.out.nX 3 rfl) S9.out.bel
  · have HE2 := Lib.hid (HE.out.trans (if_pos h0))
    have HNZ : Hid (n ≠ 0) := Lib.hid h0
    clear HE h0 hv
    go_upto_region 3 with (fail)
    have h_r1 := (S3.out.at 2 rfl)
    have h_r2 := (S3.out.at 3 rfl)
    refine wp_region_held_drew (S := fun W => W.heap[w.heap.size + 2]? = some (.cells (pcells p (.slice aod p.dn.names.length capd) (.slice aon p.nn.names.length capn)) 93 (0, 0)) ∧ W.heap[w.heap.size + 3]? = some (.cells (pcells (⟨0, [], zeroS, zeroN, zeroN⟩ : PlaceL) (.slice none 0 0) (.slice none 0 0)) 93 (0, 0)) ∧ True) (by kernel_rfl) ⟨(S3.out.at 2 rfl), (S3.out.at 3 rfl), trivial⟩ (fun hHeld => ?_)
    clear h_r1 h_r2
    have S4 := Lib.hid (S3.out.call (Below.refl W3.heap.size W3).drew)
    generalize W3.drew = W4 at *
    refine wpAnyH_take (i := 0) rfl (by kernel_rfl) (by kernel_rfl) (by kernel_rfl) (fun _ _ _ h => h) (yieldsIf_load_row (by rfl) 93 _ rfl _ rfl 93 _ (0, 0) _ (fun _ h => h.1) Tryz.underlying93 rfl (by kernel_rfl)) hHeld ?_
    (try simp only [pt, Act.put])
    refine wpAnyH_take (i := 1) rfl (by kernel_rfl) (by kernel_rfl) (by kernel_rfl) (fun _ _ _ h => h) (yieldsIf_load_row (by rfl) 93 _ rfl _ rfl 93 _ (0, 0) _ (fun _ h => h.2.1) Tryz.underlying93 rfl (by kernel_rfl)) hHeld ?_
    (try simp only [pt, Act.put])
    refine wpAnyH_take (i := 2) (v := ?v13) rfl (by kernel_rfl) (by kernel_rfl) (by kernel_rfl) (fun _ _ _ h => h) (Or.inl ⟨by rfl, ?hy13⟩) hHeld ?rest13
    case hy13 => (intro w hSw; (try dsimp only at hSw); (try go_split_ands); go_simp; first | done | with_reducible rfl)
    (try simp only [pt, Act.put])
    refine wpAnyH_ready (rs := [3]) (by kernel_rfl) (by simp) ?_
    refine AllReadyH.cons rfl (fun K hK => ?_) AllReadyH.nil
    rw [if_pos (by rfl)]
    refine wp_store_row 93 _ _ rfl _ rfl rfl (S4.out.at 2 rfl) rfl (by kernel_rfl) rfl ?_
    intro W5 hb hg hs hn
    have S5 := Lib.hid (S4.out.set 2 rfl hb hg hs hn)
    clear hb hg hs hn hHeld
    refine hK.out _ _ ⟨(S5.out.at 2 rfl), (S5.out.at 3 rfl), trivial⟩ (fun hHeld => ?_)
    clear hK K
    (try simp only [pt, Act.put])
    refine wpAnyH_ready (rs := [4]) (by kernel_rfl) (by simp) ?_
    refine AllReadyH.cons rfl (fun K hK => ?_) AllReadyH.nil
    rw [if_pos (by rfl)]
    refine wp_store_row 93 _ _ rfl _ rfl rfl (S5.out.at 3 rfl) rfl (by kernel_rfl) rfl ?_
    intro W6 hb hg hs hn
    have S6 := Lib.hid (S5.out.set 3 rfl hb hg hs hn)
    clear hb hg hs hn hHeld
    refine hK.out _ _ ⟨(S6.out.at 2 rfl), (S6.out.at 3 rfl), trivial⟩ (fun hHeld => ?_)
    clear hK K
    (try simp only [pt, Act.put])
    refine wpAnyH_take (i := 5) (v := ?v14) rfl (by kernel_rfl) (by kernel_rfl) (by kernel_rfl) (fun _ _ _ h => h) (Or.inl ⟨by rfl, ?hy14⟩) hHeld ?rest14
    case hy14 => (intro w hSw; (try dsimp only at hSw); (try go_split_ands); go_simp; first | done | with_reducible rfl)
    (try simp only [pt, Act.put])
    refine wpAnyH_done (by kernel_rfl) ?_ _
    go_wp2_with fail
    refine bodyPost_ret (HRET.out _ _ _ _ _ (S6.out.at 2 rfl) rfl (S6.out.at 3 rfl) rfl _ rfl rfl) rfl ?_
    exact TwoIs.of p (⟨0, [], zeroS, zeroN, zeroN⟩ : PlaceL) (aod2 := none) (capd2 := 0) (aon2 := none) (capn2 := 0) HE2.out HV.out (fun hc => absurd hc (by first | exact HNZ.out | decide)) (S6.out.nX 0 rfl) (S6.out.nX 1 rfl) (NodeX.zero _ _) (NodeX.zero _ _) S6.out.bel
end Go.Proofs.YtpmhmippoefcfaaGreatDoor
