/-
  The program's moved. What keeps a place from being taken: toTakeDir, toTake. The document's Rename. The program's Rename, plainly.
-/
import Derived.RangeFuncNested
import Derived.RangeFuncBound
import Derived.RangeFuncCalls
import Derived.RangeFuncLeaves
import Derived.RangeFuncBox
import Derived.Shelf.Abstract
import Derived.Shelf.RegionOpen
import Derived.WalkKit
import Derived.OwnWalkIn
import Derived.TacticsInMore
import Derived.LoopNIn
import Derived.LoopIn
import Derived.Lib.Hide
import Derived.Outline
import Derived.Deep.QuietTactic
import Derived.Deep.AppendLies
import Derived.BigQuiet
import Derived.Lib.Strings
import Derived.WalkSmall
import Derived.Shelf.Small.Strs
import Derived.Shelf.Strings.Search1
import Derived.Shelf.Strings.Prefix
import Derived.Laws.AppendOwn
import Derived.Laws.OwnMore
import Derived.Laws.AppendOwnNone
import Derived.WideShapes
import Derived.Lib.TrimByte
import Derived.Lib.Bytealg
import Derived.Lib.QuietBelow
import Derived.Deep.DrawnRows
import Derived.Laws.Cover1
import Derived.WalkMore
import Derived.Shelf.Spec.SlicesGrow
import Derived.StillTailTactics
import Derived.Laws.BitsLemmas
import Derived.Laws.RangeAny
import Derived.Laws.Runes
import Derived.Lib.Builder
import Derived.Deep.WholeRow
import Derived.Lib.OthersKept
import Derived.Shelf.SlSorted.Search
import Derived.LaidEql
import Derived.Stop.Asserts
import Derived.RowKitTokens
import Derived.Deep.RegionHeld3
import Derived.Deep.RegionLaw
import Derived.Handy
import Derived.Laws.IdiomCopy
import Derived.Lib.SliceRun
import Derived.Laws.ResultCell
import Derived.Deep.LoopGhost
import Derived.Deep.DeepCutAuto
import Derived.Deep.MidRow
import Derived.BigRegion
import Derived.Test.YtpmhmippoefcfaaGreatDoorProg
import Derived.Test.YtpmhmippoefcfaaGreatDoorShelf
import Derived.Test.YtpmhmippoefcfaaGreatDoorB01
import Derived.Test.YtpmhmippoefcfaaGreatDoorB02
import Derived.Test.YtpmhmippoefcfaaGreatDoorB04
import Derived.Test.YtpmhmippoefcfaaGreatDoorB05
import Derived.Test.YtpmhmippoefcfaaGreatDoorB06
import Derived.Test.YtpmhmippoefcfaaGreatDoorB07
import Derived.Test.YtpmhmippoefcfaaGreatDoorB08
import Derived.Test.YtpmhmippoefcfaaGreatDoorB09
import Derived.Test.YtpmhmippoefcfaaGreatDoorB10
import Derived.Test.YtpmhmippoefcfaaGreatDoorB12
import Derived.Test.YtpmhmippoefcfaaGreatDoorB13
import Derived.Test.YtpmhmippoefcfaaGreatDoorB14
import Derived.Test.YtpmhmippoefcfaaGreatDoorB16
import Derived.Test.YtpmhmippoefcfaaGreatDoorB17
import Derived.Test.YtpmhmippoefcfaaGreatDoorB18
import Derived.Test.YtpmhmippoefcfaaGreatDoorB21
namespace Go.Proofs.YtpmhmippoefcfaaGreatDoor
open Go.RowKit Go.Shelf
attribute [local go_sem ↓] Go.wp_at_zero Go.wp_at_succ
/-- What is wrong with two names of a node, the first of which is to go. -/
def movedE (l : List NodeL) (who1 who2 : Int) (old path : Str) (R1 R2 : ResL) : Int :=
  if thereE R1 ≠ 0 then thereE R1 else if R2.2 ≠ 0 then R2.2 else toMoveE (placeOf l who1 old R1) (placeOf l who2 path R2)
theorem moved_at {l : List NodeL} {who1 who2 : Int} {old path : Str} {R1 R2 : ResL} {p q : PlaceL} {e f t : Int} (hp : p = placeOf l who1 old R1) (hq : q = placeOf l who2 path R2) (he : e = thereE R1) (hf : f = R2.2) (ht : t = toMoveE p q) :
    movedE l who1 who2 old path R1 R2 = if e ≠ 0 then e else if f ≠ 0 then f else t := by
  subst hp; subst hq; subst he; subst hf; subst ht; rfl
set_option maxRecDepth 100000 in
set_option maxHeartbeats 40000000 in
theorem moved_g (X : Nat → Prop) {S : Nat → Addr} (l : List NodeL) (most room who fr who2 fr2 : Int) (old path : Str) (ao : Option Addr) (cap : Nat) (w : World) (hX : Old X w) (hg : GivesX X l (.slice ao l.length cap) w) (hd : Dsk l) (hplold : old.length ≤ 10000) (hplpath : path.length ≤ 10000) (hs : Sent S w) :
    Calls Tryz.prog 62 #[diskV ao l.length cap most room, asV who fr, asV who2 fr2, .string (bs old), .string (bs path)] w fun e w' => TwoIs X S (placeOf l who old (walkL l who fr old false)) (placeOf l who2 path (walkL l who2 fr2 path false)) (movedE l who who2 old path (walkL l who fr old false) (walkL l who2 fr2 path false)) e w w' := by
  have S0 := Lib.hid (St.start (G := [(l, .slice ao l.length cap)]) (N := []) hX (one_g hg) no_n)
  have HD := Lib.hid hd
  have HS := Lib.hid hs
  have HRET : Hid (∀ (W : World) (cs cs2 : Array Value) (fr fr2), W.heap[w.heap.size + 3]? = some (.cells cs 93 fr) → cs.size = 22 → W.heap[w.heap.size + 4]? = some (.cells cs2 93 fr2) → cs2.size = 22 → ∀ tmps : Array Value, tmps.getD 10 undef = .pointer (some ⟨w.heap.size + 3, 0, none⟩) → tmps.getD 11 undef = .pointer (some ⟨w.heap.size + 4, 0, none⟩) → (results Tryz.f62 tmps).run Tryz.prog W = .ok (.tuple #[.agg cs, .agg cs2, tmps.getD 12 undef]) W) := Lib.hid fun W cs cs2 fr fr2 h hs h2 hs2 tmps ht ht2 =>
  results_cct (p := 10) (q := 11) (u := 12) (ty := 93) (ty2 := 93) rfl tmps W (w.heap.size + 3) (w.heap.size + 4) _ _ cs cs2 fr fr2 _ _ ht h ht2 h2 Tryz.underlying93 rfl (by rw [hs]; kernel_rfl) Tryz.underlying93 rfl (by rw [hs2]; kernel_rfl)
  clear hX hg hd hs
  go_enter Tryz.func62, Tryz.ntmps62
  go_upto_region 1 with (fail)
  refine code_fresh5 ?_
  intro W1 hb hA0 hA1 hA2 hA3 hA4 hs
  have S1 := Lib.hid (S0.out.new5 hb hA0 hA1 hA2 hA3 hA4)
  clear hb hA0 hA1 hA2 hA3 hA4 hs
  have h_d := (S1.out.at 0 rfl)
  have h_a := (S1.out.at 1 rfl)
  go_wp2_with (first | (refine wpList_load_row rfl 24 _ rfl _ rfl 24 _ (0, 0) _ h_d Tryz.underlying24 rfl (by kernel_rfl) ?_) | (refine wpList_load_row rfl 26 _ rfl _ rfl 26 _ (0, 0) _ h_a Tryz.underlying26 rfl (by kernel_rfl) ?_))
  refine (findthere_g _ l most room who fr old _ _ W1 S1.out.oldX (S1.out.g 0 rfl) HD.out hplold (HS.out.keep S1.out.bel)).mono ?_
  rintro e W2 ⟨v, aod, capd, aon, capn, rfl, hv, hn1, hn2, hb⟩
  clear h_d h_a
  obtain ⟨p, hp⟩ : ∃ p, p = placeOf l who old (walkL l who fr old false) := ⟨_, rfl⟩
  obtain ⟨n, hn⟩ : ∃ n, n = thereE (walkL l who fr old false) := ⟨_, rfl⟩
  rw [← hp] at hn1 hn2 ⊢
  rw [← hn] at hv
  have S2 := Lib.hid (((S1.out.call hb).addN hn1).addN hn2)
  clear hb hn1 hn2
  have HV := Lib.hid hv
  have HPp := Lib.hid hp
  have HNn := Lib.hid hn
  clear hp hn
  obtain ⟨q, hq⟩ : ∃ q, q = placeOf l who2 path (walkL l who2 fr2 path false) := ⟨_, rfl⟩
  obtain ⟨f, hf⟩ : ∃ f, f = (walkL l who2 fr2 path false).2 := ⟨_, rfl⟩
  obtain ⟨t, ht⟩ : ∃ t, t = toMoveE p q := ⟨_, rfl⟩
  have HE := Lib.hid (moved_at HPp.out hq HNn.out hf ht)
  have HQ := Lib.hid hq
  have HF := Lib.hid hf
  have HT := Lib.hid ht
  clear hq hf ht
  have h_r1 := (S2.out.at 3 rfl)
  go_upto_region 2 with (first | (refine wpList_store_row rfl 93 _ _ rfl _ rfl rfl h_r1 rfl (by kernel_rfl) rfl ?_; intro W3 hb hg hs hn; have S3 := Lib.hid (S2.out.set 3 rfl hb hg hs hn); clear hb hg hs hn))
  clear h_r1
  rcases hv.form with ⟨h0, rfl⟩ | ⟨h0, c1, c2, rfl⟩
  · subst h0
    have HE2 := Lib.hid (HE.out.trans (if_neg (by simp)))
    clear HE hv
    have h_d := (S3.out.at 0 rfl)
    have h_b := (S3.out.at 2 rfl)
    go_wp2_with (first | (refine wpList_load_row rfl 24 _ rfl _ rfl 24 _ (0, 0) _ h_d Tryz.underlying24 rfl (by kernel_rfl) ?_) | (refine wpList_load_row rfl 26 _ rfl _ rfl 26 _ (0, 0) _ h_b Tryz.underlying26 rfl (by kernel_rfl) ?_))
    refine (find_g _ l most room who2 fr2 path _ _ W3 S3.out.oldX (S3.out.g 0 rfl) HD.out hplpath (HS.out.keep S3.out.bel)).mono ?_
    rintro e W4 ⟨v2, aod2, capd2, aon2, capn2, rfl, hv2, hn1, hn2, hb⟩
    clear h_d h_b
    rw [← HQ.out] at hn1 hn2 ⊢
    rw [← HF.out] at hv2
    have S4 := Lib.hid (((S3.out.call hb).addN hn1).addN hn2)
    clear hb hn1 hn2
    have HV2 := Lib.hid hv2
    have h_r2 := (S4.out.at 4 rfl)
    go_upto_region 5 with (first | (refine wpList_store_row rfl 93 _ _ rfl _ rfl rfl h_r2 rfl (by kernel_rfl) rfl ?_; intro W5 hb hg hs hn; have S5 := Lib.hid (S4.out.set 4 rfl hb hg hs hn); clear hb hg hs hn))
    clear h_r2
    rcases hv2.form with ⟨h0, rfl⟩ | ⟨h0, c1, c2, rfl⟩
    · subst h0
      have HE3 := Lib.hid (HE2.out.trans (if_neg (by simp)))
      clear HE2 hv2 HV2
      go_upto_region 7 with (fail)
      have h_r1 := (S5.out.at 3 rfl)
      have h_r2 := (S5.out.at 4 rfl)
      refine wp_region_held_drew (S := fun W => W.heap[w.heap.size + 3]? = some (.cells (pcells p (.slice aod p.dn.names.length capd) (.slice aon p.nn.names.length capn)) 93 (0, 0)) ∧ W.heap[w.heap.size + 4]? = some (.cells (pcells q (.slice aod2 q.dn.names.length capd2) (.slice aon2 q.nn.names.length capn2)) 93 (0, 0)) ∧ True) (by kernel_rfl) ⟨(S5.out.at 3 rfl), (S5.out.at 4 rfl), trivial⟩ (fun hHeld => ?_)
      clear h_r1 h_r2
      have S6 := Lib.hid (S5.out.call (Below.refl W5.heap.size W5).drew)
      generalize W5.drew = W6 at *
      refine wpAnyH_take (i := 0) rfl (by kernel_rfl) (by kernel_rfl) (by kernel_rfl) (fun _ _ _ h => h) (yieldsIf_load_row (by rfl) 93 _ rfl _ rfl 93 _ (0, 0) _ (fun _ h => h.1) Tryz.underlying93 rfl (by kernel_rfl)) hHeld ?_
      (try simp only [pt, Act.put])
      refine wpAnyH_take (i := 1) rfl (by kernel_rfl) (by kernel_rfl) (by kernel_rfl) (fun _ _ _ h => h) (yieldsIf_load_row (by rfl) 93 _ rfl _ rfl 93 _ (0, 0) _ (fun _ h => h.2.1) Tryz.underlying93 rfl (by kernel_rfl)) hHeld ?_
      (try simp only [pt, Act.put])
      refine wpAnyH_take (i := 2) rfl (by kernel_rfl) (by kernel_rfl) (by kernel_rfl) (fun _ _ _ h => h) (yieldsIf_load_row (by rfl) 93 _ rfl _ rfl 93 _ (0, 0) _ (fun _ h => h.1) Tryz.underlying93 rfl (by kernel_rfl)) hHeld ?_
      (try simp only [pt, Act.put])
      refine wpAnyH_take (i := 3) rfl (by kernel_rfl) (by kernel_rfl) (by kernel_rfl) (fun _ _ _ h => h) (yieldsIf_load_row (by rfl) 93 _ rfl _ rfl 93 _ (0, 0) _ (fun _ h => h.2.1) Tryz.underlying93 rfl (by kernel_rfl)) hHeld ?_
      (try simp only [pt, Act.put])
      refine wpAnyH_ready (rs := [4]) (by kernel_rfl) (by simp) ?_
      refine AllReadyH.cons rfl (fun K hK => ?_) AllReadyH.nil
      go_simp
      refine (tomove_any p q _ _ _ _ W6 (HS.out.keep S6.out.bel)).mono ?_
      rintro e W7 ⟨v3, rfl, hv3, hb⟩
      have S7 := Lib.hid (S6.out.call hb)
      rw [← HT.out] at hv3
      have HV3 := Lib.hid hv3
      clear hb hHeld hv3
      go_wp2_with fail
      refine hK.out _ _ ⟨(S7.out.at 3 rfl), (S7.out.at 4 rfl), trivial⟩ (fun hHeld => ?_)
      clear hK K
      (try simp only [pt, Act.put])
      refine wpAnyH_ready (rs := [5]) (by kernel_rfl) (by simp) ?_
      refine AllReadyH.cons rfl (fun K hK => ?_) AllReadyH.nil
      rw [if_pos (by rfl)]
      refine wp_store_row 93 _ _ rfl _ rfl rfl (S7.out.at 3 rfl) rfl (by kernel_rfl) rfl ?_
      intro W8 hb hg hs hn
      have S8 := Lib.hid (S7.out.set 3 rfl hb hg hs hn)
      clear hb hg hs hn hHeld
      refine hK.out _ _ ⟨(S8.out.at 3 rfl), (S8.out.at 4 rfl), trivial⟩ (fun hHeld => ?_)
      clear hK K
      (try simp only [pt, Act.put])
      refine wpAnyH_ready (rs := [6]) (by kernel_rfl) (by simp) ?_
      refine AllReadyH.cons rfl (fun K hK => ?_) AllReadyH.nil
      rw [if_pos (by rfl)]
      refine wp_store_row 93 _ _ rfl _ rfl rfl (S8.out.at 4 rfl) rfl (by kernel_rfl) rfl ?_
      intro W9 hb hg hs hn
      have S9 := Lib.hid (S8.out.set 4 rfl hb hg hs hn)
      clear hb hg hs hn hHeld
      refine hK.out _ _ ⟨(S9.out.at 3 rfl), (S9.out.at 4 rfl), trivial⟩ (fun hHeld => ?_)
      clear hK K
      (try simp only [pt, Act.put])
      refine wpAnyH_take (i := 7) (v := ?v1) rfl (by kernel_rfl) (by kernel_rfl) (by kernel_rfl) (fun _ _ _ h => h) (Or.inl ⟨by rfl, ?hy1⟩) hHeld ?rest1
      case hy1 => (intro w hSw; (try dsimp only at hSw); (try go_split_ands); go_simp; first | done | with_reducible rfl)
      (try simp only [pt, Act.put])
      refine wpAnyH_done (by kernel_rfl) ?_ _
      go_wp2_with fail
      refine bodyPost_ret (HRET.out _ _ _ _ _ (S9.out.at 3 rfl) rfl (S9.out.at 4 rfl) rfl _ rfl rfl) rfl ?_
      exact TwoIs.of p q HE3.out HV3.out (fun _ => ⟨HPp.out, HQ.out⟩) (S9.out.nX 0 rfl) (S9.out.nX 1 rfl) (S9.out.nX 2 rfl) (S9.out.nX 3 rfl) S9.out.bel
    · have HE3 := Lib.hid (HE2.out.trans (if_pos h0))
      have HNZ : Hid (f ≠ 0) := Lib.hid h0
      clear HE2 h0 hv2
      go_upto_region 6 with (fail)
      have h_r1 := (S5.out.at 3 rfl)
      have h_r2 := (S5.out.at 4 rfl)
      refine wp_region_held_drew (S := fun W => W.heap[w.heap.size + 3]? = some (.cells (pcells p (.slice aod p.dn.names.length capd) (.slice aon p.nn.names.length capn)) 93 (0, 0)) ∧ W.heap[w.heap.size + 4]? = some (.cells (pcells q (.slice aod2 q.dn.names.length capd2) (.slice aon2 q.nn.names.length capn2)) 93 (0, 0)) ∧ True) (by kernel_rfl) ⟨(S5.out.at 3 rfl), (S5.out.at 4 rfl), trivial⟩ (fun hHeld => ?_)
      clear h_r1 h_r2
      have S6 := Lib.hid (S5.out.call (Below.refl W5.heap.size W5).drew)
      generalize W5.drew = W6 at *
      refine wpAnyH_take (i := 0) rfl (by kernel_rfl) (by kernel_rfl) (by kernel_rfl) (fun _ _ _ h => h) (yieldsIf_load_row (by rfl) 93 _ rfl _ rfl 93 _ (0, 0) _ (fun _ h => h.1) Tryz.underlying93 rfl (by kernel_rfl)) hHeld ?_
      (try simp only [pt, Act.put])
      refine wpAnyH_take (i := 1) rfl (by kernel_rfl) (by kernel_rfl) (by kernel_rfl) (fun _ _ _ h => h) (yieldsIf_load_row (by rfl) 93 _ rfl _ rfl 93 _ (0, 0) _ (fun _ h => h.2.1) Tryz.underlying93 rfl (by kernel_rfl)) hHeld ?_
      (try simp only [pt, Act.put])
      refine wpAnyH_take (i := 2) (v := ?v2) rfl (by kernel_rfl) (by kernel_rfl) (by kernel_rfl) (fun _ _ _ h => h) (Or.inl ⟨by rfl, ?hy2⟩) hHeld ?rest2
      case hy2 => (intro w hSw; (try dsimp only at hSw); (try go_split_ands); go_simp; first | done | with_reducible rfl)
      (try simp only [pt, Act.put])
      refine wpAnyH_ready (rs := [3]) (by kernel_rfl) (by simp) ?_
      refine AllReadyH.cons rfl (fun K hK => ?_) AllReadyH.nil
      rw [if_pos (by rfl)]
      refine wp_store_row 93 _ _ rfl _ rfl rfl (S6.out.at 3 rfl) rfl (by kernel_rfl) rfl ?_
      intro W7 hb hg hs hn
      have S7 := Lib.hid (S6.out.set 3 rfl hb hg hs hn)
      clear hb hg hs hn hHeld
      refine hK.out _ _ ⟨(S7.out.at 3 rfl), (S7.out.at 4 rfl), trivial⟩ (fun hHeld => ?_)
      clear hK K
      (try simp only [pt, Act.put])
      refine wpAnyH_ready (rs := [4]) (by kernel_rfl) (by simp) ?_
      refine AllReadyH.cons rfl (fun K hK => ?_) AllReadyH.nil
      rw [if_pos (by rfl)]
      refine wp_store_row 93 _ _ rfl _ rfl rfl (S7.out.at 4 rfl) rfl (by kernel_rfl) rfl ?_
      intro W8 hb hg hs hn
      have S8 := Lib.hid (S7.out.set 4 rfl hb hg hs hn)
      clear hb hg hs hn hHeld
      refine hK.out _ _ ⟨(S8.out.at 3 rfl), (S8.out.at 4 rfl), trivial⟩ (fun hHeld => ?_)
      clear hK K
      (try simp only [pt, Act.put])
      refine wpAnyH_take (i := 5) (v := ?v3) rfl (by kernel_rfl) (by kernel_rfl) (by kernel_rfl) (fun _ _ _ h => h) (Or.inl ⟨by rfl, ?hy3⟩) hHeld ?rest3
      case hy3 => (intro w hSw; (try dsimp only at hSw); (try go_split_ands); go_simp; first | done | with_reducible rfl)
      (try simp only [pt, Act.put])
      refine wpAnyH_done (by kernel_rfl) ?_ _
      go_wp2_with fail
      refine bodyPost_ret (HRET.out _ _ _ _ _ (S8.out.at 3 rfl) rfl (S8.out.at 4 rfl) rfl _ rfl rfl) rfl ?_
      exact TwoIs.of p q HE3.out HV2.out (fun hc => absurd hc HNZ.out) (S8.out.nX 0 rfl) (S8.out.nX 1 rfl) (S8.out.nX 2 rfl) (S8.out.nX 3 rfl) S8.out.bel
  · have HE2 := Lib.hid (HE.out.trans (if_pos h0))
    have HNZ : Hid (n ≠ 0) := Lib.hid h0
    clear HE h0 hv
    go_upto_region 3 with (fail)
    have h_r1 := (S3.out.at 3 rfl)
    have h_r2 := (S3.out.at 4 rfl)
    refine wp_region_held_drew (S := fun W => W.heap[w.heap.size + 3]? = some (.cells (pcells p (.slice aod p.dn.names.length capd) (.slice aon p.nn.names.length capn)) 93 (0, 0)) ∧ W.heap[w.heap.size + 4]? = some (.cells (pcells (⟨0, [], zeroS, zeroN, zeroN⟩ : PlaceL) (.slice none 0 0) (.slice none 0 0)) 93 (0, 0)) ∧ True) (by kernel_rfl) ⟨(S3.out.at 3 rfl), (S3.out.at 4 rfl), trivial⟩ (fun hHeld => ?_)
    clear h_r1 h_r2
    have S4 := Lib.hid (S3.out.call (Below.refl W3.heap.size W3).drew)
    generalize W3.drew = W4 at *
    refine wpAnyH_take (i := 0) rfl (by kernel_rfl) (by kernel_rfl) (by kernel_rfl) (fun _ _ _ h => h) (yieldsIf_load_row (by rfl) 93 _ rfl _ rfl 93 _ (0, 0) _ (fun _ h => h.1) Tryz.underlying93 rfl (by kernel_rfl)) hHeld ?_
    (try simp only [pt, Act.put])
    refine wpAnyH_take (i := 1) rfl (by kernel_rfl) (by kernel_rfl) (by kernel_rfl) (fun _ _ _ h => h) (yieldsIf_load_row (by rfl) 93 _ rfl _ rfl 93 _ (0, 0) _ (fun _ h => h.2.1) Tryz.underlying93 rfl (by kernel_rfl)) hHeld ?_
    (try simp only [pt, Act.put])
    refine wpAnyH_take (i := 2) (v := ?v4) rfl (by kernel_rfl) (by kernel_rfl) (by kernel_rfl) (fun _ _ _ h => h) (Or.inl ⟨by rfl, ?hy4⟩) hHeld ?rest4
    case hy4 => (intro w hSw; (try dsimp only at hSw); (try go_split_ands); go_simp; first | done | with_reducible rfl)
    (try simp only [pt, Act.put])
    refine wpAnyH_ready (rs := [3]) (by kernel_rfl) (by simp) ?_
    refine AllReadyH.cons rfl (fun K hK => ?_) AllReadyH.nil
    rw [if_pos (by rfl)]
    refine wp_store_row 93 _ _ rfl _ rfl rfl (S4.out.at 3 rfl) rfl (by kernel_rfl) rfl ?_
    intro W5 hb hg hs hn
    have S5 := Lib.hid (S4.out.set 3 rfl hb hg hs hn)
    clear hb hg hs hn hHeld
    refine hK.out _ _ ⟨(S5.out.at 3 rfl), (S5.out.at 4 rfl), trivial⟩ (fun hHeld => ?_)
    clear hK K
    (try simp only [pt, Act.put])
    refine wpAnyH_ready (rs := [4]) (by kernel_rfl) (by simp) ?_
    refine AllReadyH.cons rfl (fun K hK => ?_) AllReadyH.nil
    rw [if_pos (by rfl)]
    refine wp_store_row 93 _ _ rfl _ rfl rfl (S5.out.at 4 rfl) rfl (by kernel_rfl) rfl ?_
    intro W6 hb hg hs hn
    have S6 := Lib.hid (S5.out.set 4 rfl hb hg hs hn)
    clear hb hg hs hn hHeld
    refine hK.out _ _ ⟨(S6.out.at 3 rfl), (S6.out.at 4 rfl), trivial⟩ (fun hHeld => ?_)
    clear hK K
    (try simp only [pt, Act.put])
    refine wpAnyH_take (i := 5) (v := ?v5) rfl (by kernel_rfl) (by kernel_rfl) (by kernel_rfl) (fun _ _ _ h => h) (Or.inl ⟨by rfl, ?hy5⟩) hHeld ?rest5
    case hy5 => (intro w hSw; (try dsimp only at hSw); (try go_split_ands); go_simp; first | done | with_reducible rfl)
    (try simp only [pt, Act.put])
    refine wpAnyH_done (by kernel_rfl) ?_ _
    go_wp2_with fail
    refine bodyPost_ret (HRET.out _ _ _ _ _ (S6.out.at 3 rfl) rfl (S6.out.at 4 rfl) rfl _ rfl rfl) rfl ?_
    exact TwoIs.of p (⟨0, [], zeroS, zeroN, zeroN⟩ : PlaceL) (aod2 := none) (capd2 := 0) (aon2 := none) (capn2 := 0) HE2.out HV.out (fun hc => absurd hc HNZ.out) (S6.out.nX 0 rfl) (S6.out.nX 1 rfl) (NodeX.zero _ _) (NodeX.zero _ _) S6.out.bel
end Go.Proofs.YtpmhmippoefcfaaGreatDoor
namespace Go.Proofs.YtpmhmippoefcfaaGreatDoor
open Go.RowKit Go.Shelf
attribute [local go_sem ↓] Go.wp_at_zero Go.wp_at_succ
def toTakeDirE (l : List NodeL) (q p : PlaceL) : Int :=
  if withinQ l q.s.dir p.s.ino = true then 15 else if (q.s.ino != -1) = true ∧ (q.nn.kind == 2) = false then 4 else if decide (0 < q.nn.names.length) = true then 6 else 0
def toTakeE (l : List NodeL) (q p : PlaceL) : Int :=
  if decide (q.dn.links < 1) = true then 2 else if (p.nn.kind == 2) = true then toTakeDirE l q p else if (q.nn.kind == 2) = true then 5 else if q.s.slash = true then 4 else 0
set_option maxRecDepth 100000 in
set_option maxHeartbeats 4000000 in
theorem totakedir_any {S : Nat → Addr} (l : List NodeL) (most room : Int) (q p : PlaceL) (ao aon : Option Addr) (cap capn : Nat) (vd ud un : Value) (w : World) (hg : GivesX (fun _ => False) l (.slice ao l.length cap) w) (hd : Ord l) (hs : Sent S w) :
    Calls Tryz.prog 99 #[.agg (pcells q vd (.slice aon q.nn.names.length capn)), diskV ao l.length cap most room, .agg (pcells p ud un)] w fun e w' => TellsE S (toTakeDirE l q p) e w w' := by
  have HS := Lib.hid hs
  have HD := Lib.hid hd
  have S0 := Lib.hid (St.start (G := [(l, .slice ao l.length cap)]) (N := []) (w := w) (fun _ h => h.elim) (one_g hg) no_n)
  clear hs hd hg
  go_enter Tryz.func99, Tryz.ntmps99
  go_upto_region 1 with (fail)
  refine code_fresh3 ?_
  intro W1 hb hA0 hA1 hA2 hs
  have S1 := Lib.hid (S0.out.new3 hb hA0 hA1 hA2)
  clear hb hA0 hA1 hA2 hs
  obtain ⟨-, -, q2, -, -, -, -, -, -, -, -, -, -, -, -, -, -, -, -, -, -, -⟩ := cells22 (S1.out.at 0 rfl)
  obtain ⟨-, -, -, -, p4, -, -, -, -, -, -, -, -, -, -, -, -, -, -, -, -, -⟩ := cells22 (S1.out.at 2 rfl)
  have h_d := (S1.out.at 1 rfl)
  go_wp2_with (first | (refine wpList_load_row rfl 24 _ rfl _ rfl 24 _ (0, 0) _ h_d Tryz.underlying24 rfl (by kernel_rfl) ?_))
  refine (within_g l most room q.s.dir p.s.ino ao cap W1 (S1.out.g 0 rfl).none HD.out.len HD.out.nm).mono ?_
  rintro e W2 ⟨rfl, hb⟩
  clear q2 p4 h_d
  have S2 := Lib.hid (S1.out.call hb)
  clear hb
  cases h1 : withinQ l q.s.dir p.s.ino with
  | true =>
    have HE := Lib.hid (show toTakeDirE l q p = 15 by simp [toTakeDirE, h1])
    have h_q := (S2.out.at 0 rfl)
    have g15 := (HS.out.keep S2.out.bel).e15
    go_wp2_with (first | (refine wpList_load_row rfl 93 _ rfl _ rfl 93 _ (0, 0) _ h_q Tryz.underlying93 rfl (by kernel_rfl) ?_))
    refine (fault_any q vd (.slice aon q.nn.names.length capn) _ _ W2).mono ?_
    rintro e W3 ⟨rfl, hb⟩
    go_wp2_with fail
    go_ret
    exact TellsE.of HE.out (ErrIs.sent 15 (by decide) _) (S2.out.call hb).bel
  | false =>
    have h_q := (S2.out.at 0 rfl)
    go_wp2_with (first | (refine wpList_load_row rfl 93 _ rfl _ rfl 93 _ (0, 0) _ h_q Tryz.underlying93 rfl (by kernel_rfl) ?_))
    refine (there_any q vd (.slice aon q.nn.names.length capn) W2).mono ?_
    rintro e W3 ⟨rfl, hb⟩
    clear h_q
    have S3 := Lib.hid (S2.out.call hb)
    clear hb
    cases h2 : (q.s.ino != -1) with
    | true =>
      have h_q := (S3.out.at 0 rfl)
      go_wp2_with (first | (refine wpList_load_rowG rfl 93 _ rfl _ rfl 93 _ (0, 0) _ h_q Tryz.underlying93 rfl (by kernel_rfl) ?_))
      refine (isdir_any q _ _ W3).mono ?_
      rintro e W4 ⟨rfl, hb⟩
      clear h_q
      have S4 := Lib.hid (S3.out.call hb)
      clear hb
      cases h3 : (q.nn.kind == 2) with
      | false =>
        have HE := Lib.hid (show toTakeDirE l q p = 4 by simp [toTakeDirE, h1, h2, h3])
        have h_q := (S4.out.at 0 rfl)
        have g4 := (HS.out.keep S4.out.bel).e4
        go_wp2_with (first | (refine wpList_load_row rfl 93 _ rfl _ rfl 93 _ (0, 0) _ h_q Tryz.underlying93 rfl (by kernel_rfl) ?_))
        refine (fault_any q vd (.slice aon q.nn.names.length capn) _ _ W4).mono ?_
        rintro e W5 ⟨rfl, hb⟩
        go_wp2_with fail
        go_ret
        exact TellsE.of HE.out (ErrIs.sent 4 (by decide) _) (S4.out.call hb).bel
      | true =>
        obtain ⟨-, -, -, -, -, -, -, -, -, -, -, -, -, -, -, -, -, -, -, -, -, q21⟩ := cells22 (S4.out.at 0 rfl)
        cases h5 : decide (0 < q.nn.names.length) with
        | true =>
          have HE := Lib.hid (show toTakeDirE l q p = 6 by (unfold toTakeDirE; rw [h1, h2, h3, h5]; simp))
          have h_q := (S4.out.at 0 rfl)
          have g6 := (HS.out.keep S4.out.bel).e6
          go_wp2_with (first | (refine wpList_load_row rfl 93 _ rfl _ rfl 93 _ (0, 0) _ h_q Tryz.underlying93 rfl (by kernel_rfl) ?_))
          refine (fault_any q vd (.slice aon q.nn.names.length capn) _ _ W4).mono ?_
          rintro e W5 ⟨rfl, hb⟩
          go_wp2_with fail
          go_ret
          exact TellsE.of HE.out (ErrIs.sent 6 (by decide) _) (S4.out.call hb).bel
        | false =>
          have HE := Lib.hid (show toTakeDirE l q p = 0 by (unfold toTakeDirE; rw [h1, h2, h3, h5]; simp))
          go_wp2_with fail
          go_ret
          exact TellsE.of HE.out ErrIs.nil S4.out.bel
    | false =>
      obtain ⟨-, -, -, -, -, -, -, -, -, -, -, -, -, -, -, -, -, -, -, -, -, q21⟩ := cells22 (S3.out.at 0 rfl)
      cases h5 : decide (0 < q.nn.names.length) with
      | true =>
        have HE := Lib.hid (show toTakeDirE l q p = 6 by (unfold toTakeDirE; rw [h1, h2, h5]; simp))
        have h_q := (S3.out.at 0 rfl)
        have g6 := (HS.out.keep S3.out.bel).e6
        go_wp2_with (first | (refine wpList_load_row rfl 93 _ rfl _ rfl 93 _ (0, 0) _ h_q Tryz.underlying93 rfl (by kernel_rfl) ?_))
        refine (fault_any q vd (.slice aon q.nn.names.length capn) _ _ W3).mono ?_
        rintro e W4 ⟨rfl, hb⟩
        go_wp2_with fail
        go_ret
        exact TellsE.of HE.out (ErrIs.sent 6 (by decide) _) (S3.out.call hb).bel
      | false =>
        have HE := Lib.hid (show toTakeDirE l q p = 0 by (unfold toTakeDirE; rw [h1, h2, h5]; simp))
        go_wp2_with fail
        go_ret
        exact TellsE.of HE.out ErrIs.nil S3.out.bel
set_option maxRecDepth 100000 in
set_option maxHeartbeats 4000000 in
theorem totake_any {S : Nat → Addr} (l : List NodeL) (most room : Int) (q p : PlaceL) (ao aon : Option Addr) (cap capn : Nat) (vd ud un : Value) (w : World) (hg : GivesX (fun _ => False) l (.slice ao l.length cap) w) (hd : Ord l) (hs : Sent S w) :
    Calls Tryz.prog 63 #[.agg (pcells q vd (.slice aon q.nn.names.length capn)), diskV ao l.length cap most room, .agg (pcells p ud un)] w fun e w' => TellsE S (toTakeE l q p) e w w' := by
  have HS := Lib.hid hs
  have HD := Lib.hid hd
  have S0 := Lib.hid (St.start (G := [(l, .slice ao l.length cap)]) (N := []) (w := w) (fun _ h => h.elim) (one_g hg) no_n)
  clear hs hd hg
  go_enter Tryz.func63, Tryz.ntmps63
  go_upto_region 1 with (fail)
  refine code_fresh3 ?_
  intro W1 hb hA0 hA1 hA2 hs
  have S1 := Lib.hid (S0.out.new3 hb hA0 hA1 hA2)
  clear hb hA0 hA1 hA2 hs
  have h_q := (S1.out.at 0 rfl)
  go_wp2_with (first | (refine wpList_load_row rfl 93 _ rfl _ rfl 93 _ (0, 0) _ h_q Tryz.underlying93 rfl (by kernel_rfl) ?_))
  refine (gone_any q vd (.slice aon q.nn.names.length capn) W1).mono ?_
  rintro e W2 ⟨rfl, hb⟩
  clear h_q
  have S2 := Lib.hid (S1.out.call hb)
  clear hb
  cases h1 : decide (q.dn.links < 1) with
  | true =>
    have HE := Lib.hid (show toTakeE l q p = 2 by (unfold toTakeE; rw [h1]; rfl))
    have h_q := (S2.out.at 0 rfl)
    have g2 := (HS.out.keep S2.out.bel).e2
    go_wp2_with (first | (refine wpList_load_row rfl 93 _ rfl _ rfl 93 _ (0, 0) _ h_q Tryz.underlying93 rfl (by kernel_rfl) ?_))
    refine (fault_any q vd (.slice aon q.nn.names.length capn) _ _ W2).mono ?_
    rintro e W3 ⟨rfl, hb⟩
    go_wp2_with fail
    go_ret
    exact TellsE.of HE.out (ErrIs.sent 2 (by decide) _) (S2.out.call hb).bel
  | false =>
    have h_p := (S2.out.at 2 rfl)
    go_wp2_with (first | (refine wpList_load_row rfl 93 _ rfl _ rfl 93 _ (0, 0) _ h_p Tryz.underlying93 rfl (by kernel_rfl) ?_))
    refine (isdir_any p ud un W2).mono ?_
    rintro e W3 ⟨rfl, hb⟩
    clear h_p
    have S3 := Lib.hid (S2.out.call hb)
    clear hb
    cases h2 : (p.nn.kind == 2) with
    | true =>
      have HE := Lib.hid (show toTakeE l q p = toTakeDirE l q p by (unfold toTakeE; rw [h1, h2]; rfl))
      have h_q := (S3.out.at 0 rfl)
      have h_d := (S3.out.at 1 rfl)
      have h_p := (S3.out.at 2 rfl)
      go_wp2_with (first | (refine wpList_load_row rfl 93 _ rfl _ rfl 93 _ (0, 0) _ h_q Tryz.underlying93 rfl (by kernel_rfl) ?_) | (refine wpList_load_row rfl 24 _ rfl _ rfl 24 _ (0, 0) _ h_d Tryz.underlying24 rfl (by kernel_rfl) ?_) | (refine wpList_load_row rfl 93 _ rfl _ rfl 93 _ (0, 0) _ h_p Tryz.underlying93 rfl (by kernel_rfl) ?_))
      refine (totakedir_any l most room q p ao aon cap capn vd ud un W3 (S3.out.g 0 rfl).none HD.out (HS.out.keep S3.out.bel)).mono ?_
      rintro e W4 ⟨v, rfl, hv, hb⟩
      clear h_q h_d h_p
      go_wp2_with fail
      go_ret
      exact TellsE.of HE.out hv (S3.out.call hb).bel
    | false =>
      have h_q := (S3.out.at 0 rfl)
      go_wp2_with (first | (refine wpList_load_row rfl 93 _ rfl _ rfl 93 _ (0, 0) _ h_q Tryz.underlying93 rfl (by kernel_rfl) ?_))
      refine (isdir_any q vd (.slice aon q.nn.names.length capn) W3).mono ?_
      rintro e W4 ⟨rfl, hb⟩
      clear h_q
      have S4 := Lib.hid (S3.out.call hb)
      clear hb
      cases h3 : (q.nn.kind == 2) with
      | true =>
        have HE := Lib.hid (show toTakeE l q p = 5 by (unfold toTakeE; rw [h1, h2, h3]; rfl))
        have h_q := (S4.out.at 0 rfl)
        have g5 := (HS.out.keep S4.out.bel).e5
        go_wp2_with (first | (refine wpList_load_row rfl 93 _ rfl _ rfl 93 _ (0, 0) _ h_q Tryz.underlying93 rfl (by kernel_rfl) ?_))
        refine (fault_any q vd (.slice aon q.nn.names.length capn) _ _ W4).mono ?_
        rintro e W5 ⟨rfl, hb⟩
        go_wp2_with fail
        go_ret
        exact TellsE.of HE.out (ErrIs.sent 5 (by decide) _) (S4.out.call hb).bel
      | false =>
        cases h4 : q.s.slash with
        | true =>
          obtain ⟨-, -, -, -, -, q5, -, -, -, -, -, -, -, -, -, -, -, -, -, -, -, -⟩ := cells22 (S4.out.at 0 rfl)
          rw [h4] at q5
          have HE4 := Lib.hid h4
          clear h4
          have HE := Lib.hid (show toTakeE l q p = 4 by (unfold toTakeE; rw [h1, h2, h3, HE4.out]; rfl))
          have h_q := (S4.out.at 0 rfl)
          have g4 := (HS.out.keep S4.out.bel).e4
          go_wp2_with (first | (refine wpList_load_row rfl 93 _ rfl _ rfl 93 _ (0, 0) _ h_q Tryz.underlying93 rfl (by kernel_rfl) ?_))
          refine (fault_any q vd (.slice aon q.nn.names.length capn) _ _ W4).mono ?_
          rintro e W5 ⟨rfl, hb⟩
          go_wp2_with fail
          go_ret
          exact TellsE.of HE.out (ErrIs.sent 4 (by decide) _) (S4.out.call hb).bel
        | false =>
          obtain ⟨-, -, -, -, -, q5, -, -, -, -, -, -, -, -, -, -, -, -, -, -, -, -⟩ := cells22 (S4.out.at 0 rfl)
          rw [h4] at q5
          have HE := Lib.hid (show toTakeE l q p = 0 by (unfold toTakeE; rw [h1, h2, h3, h4]; rfl))
          go_wp2_with fail
          go_ret
          exact TellsE.of HE.out ErrIs.nil S4.out.bel
end Go.Proofs.YtpmhmippoefcfaaGreatDoor
namespace Go.Proofs.YtpmhmippoefcfaaGreatDoor
open Go.RowKit Go.Shelf
attribute [local go_sem ↓] Go.wp_at_zero Go.wp_at_succ
theorem over_ne (l : List NodeL) (s t : SpotL) : overE l s t ≠ -1 := by
  unfold overE
  repeat' split
  all_goals decide
end Go.Proofs.YtpmhmippoefcfaaGreatDoor
namespace Go.Proofs.YtpmhmippoefcfaaGreatDoor
open Go.RowKit Go.Shelf
attribute [local go_sem ↓] Go.wp_at_zero Go.wp_at_succ
theorem got_there {l : List NodeL} (hd : Dsk l) {who fr : Int} {path : Str} (h : (walkL l who fr path false).2 = 0) : gotB l (walkL l who fr path false).1.ino = ((walkL l who fr path false).1.ino != -1) := by
  rcases walk_ino hd.rig who fr path false h with h1 | h1
  · rw [h1]
    unfold gotB inL
    rw [decide_eq_false (by decide)]
    rfl
  · rw [h1]
    have := got_le h1
    have h2 : (walkL l who fr path false).1.ino ≠ -1 := by omega
    symm
    simpa using h2
theorem take_eq {l : List NodeL} (hd : Dsk l) {who1 fr1 who2 fr2 : Int} {old path : Str} (h1 : (walkL l who1 fr1 old false).2 = 0) (h2 : (walkL l who2 fr2 path false).2 = 0) :
    toTakeE l (placeOf l who2 path (walkL l who2 fr2 path false)) (placeOf l who1 old (walkL l who1 fr1 old false)) = overE l (walkL l who1 fr1 old false).1 (walkL l who2 fr2 path false).1 := by
  obtain ⟨p1, p2, p3, p4⟩ := place_ino (l := l) (who := who1) (path := old) h1
  obtain ⟨q1, q2, q3, q4⟩ := place_ino (l := l) (who := who2) (path := path) h2
  have hg := got_there hd h2
  obtain ⟨d, e, hk⟩ := spot_dir (walk_spot hd.rig h2)
  unfold toTakeE toTakeDirE overE
  rw [p1, p4, q1, q3, q4, hg]
  rw [show withinQ l (walkL l who2 fr2 path false).1.dir (walkL l who1 fr1 old false).1.ino = beneathL l (l.length + 1) (walkL l who2 fr2 path false).1.dir (walkL l who1 fr1 old false).1.ino by rw [e]; exact within_eq hd.rig hk _]
  have hz : ((walkL l who2 fr2 path false).1.ino != -1) = false → nodeL l (walkL l who2 fr2 path false).1.ino = zeroN := fun h => nodeL_no (hg.trans h)
  generalize hm : nodeL l (walkL l who2 fr2 path false).1.ino = m at *
  generalize nodeL l (walkL l who1 fr1 old false).1.ino = n
  generalize nodeL l (walkL l who2 fr2 path false).1.dir = dn
  generalize beneathL l (l.length + 1) (walkL l who2 fr2 path false).1.dir (walkL l who1 fr1 old false).1.ino = bn
  generalize (walkL l who2 fr2 path false).1.slash = sl
  generalize ((walkL l who2 fr2 path false).1.ino != -1) = th at *
  clear hg
  by_cases a1 : dn.links < 1
  · simp [a1]
  · by_cases a2 : n.kind = 2
    · cases bn
      · cases th
        · rw [hz rfl]
          simp [a1, a2, zeroN]
        · by_cases a3 : m.kind = 2
          · by_cases a4 : m.names = []
            · simp [a1, a2, a3, a4]
            · have : 0 < m.names.length := List.length_pos_iff.2 a4
              simp [a1, a2, a3, a4, this]
          · simp [a1, a2, a3]
      · simp [a1, a2]
    · cases th
      · rw [hz rfl]
        simp [a1, a2, zeroN]
      · by_cases a3 : m.kind = 2 <;> simp [a1, a2, a3]
theorem rename_eq {l : List NodeL} (hd : Dsk l) {who1 fr1 who2 fr2 : Int} {old path : Str} {n : Int} (hn : n = movedE l who1 who2 old path (walkL l who1 fr1 old false) (walkL l who2 fr2 path false)) :
    renameL l who1 fr1 who2 fr2 old path = if n ≠ 0 ∨ (placeOf l who1 old (walkL l who1 fr1 old false)).s.ino = (placeOf l who2 path (walkL l who2 fr2 path false)).s.ino then (l, n)
      else if toTakeE l (placeOf l who2 path (walkL l who2 fr2 path false)) (placeOf l who1 old (walkL l who1 fr1 old false)) ≠ 0 then (l, toTakeE l (placeOf l who2 path (walkL l who2 fr2 path false)) (placeOf l who1 old (walkL l who1 fr1 old false)))
      else (moveL l (placeOf l who1 old (walkL l who1 fr1 old false)).s (placeOf l who2 path (walkL l who2 fr2 path false)).s, 0) := by
  subst hn
  unfold renameL movedE
  by_cases h0 : thereE (walkL l who1 fr1 old false) = 0
  · by_cases h2 : (walkL l who2 fr2 path false).2 = 0
    · obtain ⟨h1, _⟩ := pthere_zero h0
      rw [take_eq hd h1 h2]
      have ho := over_ne l (walkL l who1 fr1 old false).1 (walkL l who2 fr2 path false).1
      obtain ⟨p1, p2, p3, p4⟩ := place_ino (l := l) (who := who1) (path := old) h1
      obtain ⟨q1, q2, q3, q4⟩ := place_ino (l := l) (who := who2) (path := path) h2
      rw [h0, h2]
      unfold toMoveE isNameB renameE writesL
      rw [p1, p2, p3, q1, q2, q3]
      generalize overE l (walkL l who1 fr1 old false).1 (walkL l who2 fr2 path false).1 = o at *
      generalize (walkL l who1 fr1 old false).1 = s
      generalize (walkL l who2 fr2 path false).1 = t
      generalize mayB (nodeL l s.dir).mode (nodeL l s.dir).owner who1 2 = w1
      generalize mayB (nodeL l t.dir).mode (nodeL l t.dir).owner who2 2 = w2
      by_cases hst : s.ino = t.ino <;> cases dotsB s.name <;> cases dotsB t.name <;> cases w1 <;> cases w2 <;> simp [hst, ho]
    · rw [h0, if_neg (show ¬ (0 : Int) ≠ 0 by decide), if_neg (show ¬ (0 : Int) ≠ 0 by decide), if_pos h2, if_pos h2, if_pos (.inl h2)]
  · rw [if_pos h0, if_pos h0, if_pos (.inl h0)]
/-- What holds where a name is moved. -/
structure Moves (l : List NodeL) (s t : SpotL) : Prop where
  sd : s.ino ≠ s.dir
  st : s.ino ≠ t.dir
  ne : s.ino ≠ t.ino
  td : 0 ≤ t.ino → t.ino ≠ t.dir
  ts : 0 ≤ t.ino → t.ino ≠ s.dir
theorem moves_of {l : List NodeL} (hd : Dsk l) {who1 fr1 who2 fr2 : Int} {old path : Str} (hn : movedE l who1 who2 old path (walkL l who1 fr1 old false) (walkL l who2 fr2 path false) = 0)
    (hi : (placeOf l who1 old (walkL l who1 fr1 old false)).s.ino ≠ (placeOf l who2 path (walkL l who2 fr2 path false)).s.ino)
    (ht : toTakeE l (placeOf l who2 path (walkL l who2 fr2 path false)) (placeOf l who1 old (walkL l who1 fr1 old false)) = 0) :
    Moves l (walkL l who1 fr1 old false).1 (walkL l who2 fr2 path false).1 ∧ thereE (walkL l who1 fr1 old false) = 0 ∧ (walkL l who2 fr2 path false).2 = 0 := by
  unfold movedE at hn
  by_cases h0 : thereE (walkL l who1 fr1 old false) = 0
  · by_cases h2 : (walkL l who2 fr2 path false).2 = 0
    · obtain ⟨h1, h3⟩ := pthere_zero h0
      rw [take_eq hd h1 h2] at ht
      obtain ⟨p1, p2, p3, p4⟩ := place_ino (l := l) (who := who1) (path := old) h1
      obtain ⟨q1, q2, q3, q4⟩ := place_ino (l := l) (who := who2) (path := path) h2
      rw [h0, h2, if_neg (by decide), if_neg (by decide)] at hn
      rw [p1, q1] at hi
      have hE : renameE l who1 who2 (walkL l who1 fr1 old false).1 (walkL l who2 fr2 path false).1 = 0 := by
        unfold toMoveE isNameB at hn
        rw [p1, p2, p3, q1, q2, q3] at hn
        unfold renameE writesL
        rw [ht]
        generalize mayB (nodeL l (walkL l who1 fr1 old false).1.dir).mode (nodeL l (walkL l who1 fr1 old false).1.dir).owner who1 2 = w1 at *
        generalize mayB (nodeL l (walkL l who2 fr2 path false).1.dir).mode (nodeL l (walkL l who2 fr2 path false).1.dir).owner who2 2 = w2 at *
        generalize dotsB (walkL l who1 fr1 old false).1.name = b1 at *
        generalize dotsB (walkL l who2 fr2 path false).1.name = b2 at *
        cases b1 <;> cases b2 <;> cases w1 <;> cases w2 <;> simp_all
      obtain ⟨d1, d2, x, m⟩ := move_of hd.rig (walk_spot hd.rig h1) (walk_spot hd.rig h2) h3 hE
      refine ⟨?_, h0, h2⟩
      have hR := (Rig.of hd.rig).1
      have hxd1 : x ≠ d1 := by
        by_cases hx2 : (nd l x).kind = 2
        · exact (up_holder hR m.sf m.x0 (fun h => h) hx2).2.1
        · rintro rfl; exact hx2 m.sk
      have hxd2 : x ≠ d2 := by
        by_cases hx2 : (nd l x).kind = 2
        · rintro rfl
          have := m.bn hx2
          unfold beneathL at this
          rw [if_pos rfl] at this
          cases this
        · rintro rfl; exact hx2 m.tk
      refine ⟨by rw [m.si, m.sd]; omega, by rw [m.si, m.td]; omega, hi, fun h => ?_, fun h => ?_⟩
      · obtain ⟨y, hy⟩ := Int.eq_ofNat_of_zero_le h
        obtain ⟨a1, a2, a3, a4, a5⟩ := m.ty y hy
        rw [hy, m.td]
        intro e
        have e : y = d2 := by omega
        subst e
        split at a5
        · rw [a5.2] at a1; cases a1
        · exact a5 m.tk
      · obtain ⟨y, hy⟩ := Int.eq_ofNat_of_zero_le h
        obtain ⟨a1, a2, a3, a4, a5⟩ := m.ty y hy
        rw [hy, m.sd]
        intro e
        have e : y = d1 := by omega
        subst e
        split at a5
        · have hsf := m.sf
          rw [a5.2] at hsf; cases hsf
        · exact a5 m.sk
    · rw [h0, if_neg (by decide), if_pos h2] at hn
      exact absurd hn h2
  · rw [if_pos h0] at hn
    exact absurd hn h0
theorem node_lost {l : List NodeL} {s : SpotL} {i : Int} (h1 : i ≠ s.dir) (h2 : i ≠ s.ino) : nodeL (lostL l s) i = nodeL l i := by
  have h3 : nodeL (setL (droppedL l s) s.ino (lessN (nodeL (droppedL l s) s.ino))) i = nodeL l i := (node_set_ne h2 _).trans (node_set_ne h1 _)
  unfold lostL settleL
  split
  · exact (node_set_ne h2 _).trans h3
  · exact h3
theorem pmove_eq {l : List NodeL} {s t : SpotL} (m : Moves l s t) : moveL l s t = setL (namedL (movedL l s t) t s.ino) s.ino (placeN (nodeL l s.ino) t.dir) := by
  unfold moveL
  rw [show nodeL (namedL (movedL l s t) t s.ino) s.ino = nodeL l s.ino from ?_]
  refine (node_set_ne m.st _).trans ?_
  unfold movedL
  split
  · exact (node_lost m.st m.ne).trans (node_set_ne m.sd _)
  · exact node_set_ne m.sd _
end Go.Proofs.YtpmhmippoefcfaaGreatDoor
