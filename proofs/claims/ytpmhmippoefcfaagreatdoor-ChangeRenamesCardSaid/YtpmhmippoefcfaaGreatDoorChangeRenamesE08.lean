/-
  The document's Rename.
-/
import Derived.RangeFuncNested
import Derived.RangeFuncBound
import Derived.RangeFuncCalls
import Derived.RangeFuncLeaves
import Derived.RangeFuncBox
import Derived.Shelf.Abstract
import Derived.Shelf.RegionOpen
import Derived.WalkKit
import Derived.OwnWalkIn
import Derived.TacticsInMore
import Derived.LoopNIn
import Derived.LoopIn
import Derived.Lib.Hide
import Derived.Outline
import Derived.Deep.QuietTactic
import Derived.Deep.AppendLies
import Derived.BigQuiet
import Derived.Lib.Strings
import Derived.WalkSmall
import Derived.Shelf.Small.Strs
import Derived.Shelf.Strings.Search1
import Derived.Shelf.Strings.Prefix
import Derived.Laws.AppendOwn
import Derived.Laws.OwnMore
import Derived.Laws.AppendOwnNone
import Derived.WideShapes
import Derived.Lib.TrimByte
import Derived.Lib.Bytealg
import Derived.Lib.QuietBelow
import Derived.Deep.DrawnRows
import Derived.Laws.Cover1
import Derived.WalkMore
import Derived.Shelf.Spec.SlicesGrow
import Derived.StillTailTactics
import Derived.Laws.BitsLemmas
import Derived.Laws.RangeAny
import Derived.Laws.Runes
import Derived.Lib.Builder
import Derived.Deep.WholeRow
import Derived.Lib.OthersKept
import Derived.Shelf.SlSorted.Search
import Derived.LaidEql
import Derived.Stop.Asserts
import Derived.RowKitTokens
import Derived.Deep.RegionHeld3
import Derived.Deep.RegionLaw
import Derived.Handy
import Derived.Laws.IdiomCopy
import Derived.Lib.SliceRun
import Derived.Laws.ResultCell
import Derived.Deep.LoopGhost
import Derived.Deep.DeepCutAuto
import Derived.Deep.MidRow
import Derived.BigRegion
import Derived.Test.YtpmhmippoefcfaaGreatDoorProg
import Derived.Test.YtpmhmippoefcfaaGreatDoorShelf
import Derived.Test.YtpmhmippoefcfaaGreatDoorB01
import Derived.Test.YtpmhmippoefcfaaGreatDoorB02
import Derived.Test.YtpmhmippoefcfaaGreatDoorB04
import Derived.Test.YtpmhmippoefcfaaGreatDoorB06
import Derived.Test.YtpmhmippoefcfaaGreatDoorB07
import Derived.Test.YtpmhmippoefcfaaGreatDoorB08
import Derived.Test.YtpmhmippoefcfaaGreatDoorB09
import Derived.Test.YtpmhmippoefcfaaGreatDoorB10
import Derived.Test.YtpmhmippoefcfaaGreatDoorB12
import Derived.Test.YtpmhmippoefcfaaGreatDoorB13
import Derived.Test.YtpmhmippoefcfaaGreatDoorB14
import Derived.Test.YtpmhmippoefcfaaGreatDoorB22
import Derived.Test.YtpmhmippoefcfaaGreatDoorChangeRenamesE02
import Derived.Test.YtpmhmippoefcfaaGreatDoorChangeRenamesE03
import Derived.Test.YtpmhmippoefcfaaGreatDoorChangeRenamesE06
import Derived.Test.YtpmhmippoefcfaaGreatDoorChangeRenamesE07
namespace Go.Proofs.YtpmhmippoefcfaaGreatDoor
open Go.RowKit Go.Shelf
attribute [local go_sem ↓] Go.wp_at_zero Go.wp_at_succ
theorem rename_at {l : List NodeL} {who1 fr1 who2 fr2 : Int} {old path : Str} {R1 R2 : ResL} (h1 : R1 = walkL l who1 fr1 old false) (h2 : R2 = walkL l who2 fr2 path false) :
    renameL l who1 fr1 who2 fr2 old path = if thereE R1 ≠ 0 then (l, thereE R1) else if R2.2 ≠ 0 then (l, R2.2) else if renameE l who1 who2 R1.1 R2.1 = -1 then (l, 0) else if renameE l who1 who2 R1.1 R2.1 ≠ 0 then (l, renameE l who1 who2 R1.1 R2.1) else (moveL l R1.1 R2.1, 0) := by
  subst h1; subst h2; rfl
theorem renameE_at {l : List NodeL} {who1 who2 : Int} {s t : SpotL} {d1 d2 w1 w2 : Bool} {g : Int} (h1 : d1 = dotsB s.name) (h2 : d2 = dotsB t.name) (h3 : w1 = writesL l who1 s.dir) (h4 : w2 = writesL l who2 t.dir) (h5 : g = overE l s t) :
    renameE l who1 who2 s t = if d1 = true ∨ d2 = true then 1 else if w1 = false ∨ w2 = false then 7 else if s.ino = t.ino then -1 else g := by
  subst h1; subst h2; subst h3; subst h4; subst h5; rfl
theorem move_at {l L1 L2 L3 : List NodeL} {s t : SpotL} {n : NodeL} (h1 : L1 = droppedL l s) (h2 : L2 = if 0 ≤ t.ino then lostL L1 t else L1) (h3 : L3 = namedL L2 t s.ino) (h4 : n = nodeL L3 s.ino) : moveL l s t = setL L3 s.ino (placeN n t.dir) := by
  subst h1; subst h2; subst h3; subst h4; rfl
theorem wrap_moved {l : List NodeL} (h : Dsk l) (s t : SpotL) : IntKind.i64.wrap ((nodeL (droppedL (droppedL l s) t) t.ino).links - 1) = (nodeL (droppedL (droppedL l s) t) t.ino).links - 1 := by
  rw [drop_links, drop_links]
  have := links_small h t.ino
  exact Go.IntWalk.i64_in _ (by omega)
set_option maxRecDepth 100000 in
set_option maxHeartbeats 40000000 in
theorem rrename_g (X : Nat → Prop) (l : List NodeL) (most room who1 fr1 who2 fr2 : Int) (old path : Str) (ao : Option Addr) (cap : Nat) (w : World) (hX : Old X w) (hg : GivesX X l (.slice ao l.length cap) w) (hd : Dsk l) (hplold : old.length ≤ 10000) (hplpath : path.length ≤ 10000) :
    Calls Tryz.prog 31 #[diskV ao l.length cap most room, asV who1 fr1, asV who2 fr2, .string (bs old), .string (bs path)] w fun e w' => ChgIs X (renameL l who1 fr1 who2 fr2 old path) most room e w w' := by
  have S0 := Lib.hid (St.start (G := [(l, .slice ao l.length cap)]) (N := []) hX (one_g hg) no_n)
  have HD := Lib.hid hd
  have HRET : Hid (∀ (W : World) (cs : Array Value) (fr), W.heap[w.heap.size + 3]? = some (.cells cs 32 fr) → cs.size = 3 → ∀ tmps : Array Value, tmps.getD 10 undef = .pointer (some ⟨w.heap.size + 3, 0, none⟩) → (results Tryz.f31 tmps).run Tryz.prog W = .ok (.tuple #[.agg cs, tmps.getD 11 undef]) W) := Lib.hid fun W cs fr h hs tmps ht =>
  results_ct (p := 10) (u := 11) (ty := 32) rfl tmps W (w.heap.size + 3) _ cs fr _ ht h Tryz.underlying32 rfl (by rw [hs]; kernel_rfl)
  clear hX hg hd
  go_enter Tryz.func31, Tryz.ntmps31
  go_upto_region 1 with (fail)
  refine code_fresh4 ?_
  intro W1 hb hA0 hA1 hA2 hA3 hs
  have S1 := Lib.hid (S0.out.new4 hb hA0 hA1 hA2 hA3)
  clear hb hA0 hA1 hA2 hA3 hs
  have h_d := (S1.out.at 0 rfl)
  have h_a := (S1.out.at 1 rfl)
  go_wp2_with (first | (refine wpList_load_row rfl 32 _ rfl _ rfl 32 _ (0, 0) _ h_d Tryz.underlying32 rfl (by kernel_rfl) ?_) | (refine wpList_load_row rfl 39 _ rfl _ rfl 39 _ (0, 0) _ h_a Tryz.underlying39 rfl (by kernel_rfl) ?_))
  refine (rthere_g _ l most room who1 fr1 old _ _ W1 S1.out.oldX (S1.out.g 0 rfl) HD.out hplold).mono ?_
  rintro e W2 ⟨ao1, cp1, rfl, hn1, hb⟩
  clear h_d h_a
  have S2 := Lib.hid ((S1.out.call hb).addN hn1)
  clear hb hn1
  obtain ⟨R1, hR1⟩ : ∃ R, R = walkL l who1 fr1 old false := ⟨_, rfl⟩
  rw [← hR1] at S2 ⊢
  obtain ⟨R2, hR2⟩ : ∃ R, R = walkL l who2 fr2 path false := ⟨_, rfl⟩
  have HE := Lib.hid (rename_at hR1 hR2)
  have HR2 := Lib.hid hR2
  clear hR1 hR2
  obtain ⟨⟨sd, sn, si, ss⟩, q1⟩ := R1
  obtain ⟨⟨td, tn, ti, ts⟩, n2⟩ := R2
  dsimp only at HE
  dsimp only at S2
  generalize thereE (⟨sd, sn, si, ss⟩, q1) = e1 at *
  generalize nodeL l si = m at S2 ⊢
  go_upto_region 2 with (fail)
  refine code_fresh2 ?_
  intro W3 hb hA0 hA1 hs
  have S3 := Lib.hid (S2.out.new2 hb hA0 hA1)
  clear hb hA0 hA1 hs
  by_cases h0 : e1 = 0
  · subst h0
    have HE2 := Lib.hid (HE.out.trans (if_neg (by simp)))
    clear HE
    have h_d := (S3.out.at 0 rfl)
    obtain ⟨b0, b1⟩ := cells2 (S3.out.at 2 rfl)
    go_wp2_with (first | (refine wpList_load_row rfl 32 _ rfl _ rfl 32 _ (0, 0) _ h_d Tryz.underlying32 rfl (by kernel_rfl) ?_))
    refine (xrwalk_g _ l HD.out most room who2 fr2 path false hplpath _ W3 (S3.out.g 0 rfl)).mono ?_
    rintro e W4 ⟨rfl, hb⟩
    clear h_d b0 b1
    have S4 := Lib.hid (S3.out.call hb)
    clear hb
    rw [← HR2.out]
    go_upto_region 5 with (fail)
    refine code_fresh1 ?_
    intro W5 hb hA0 hs
    have S5 := Lib.hid (S4.out.new1 hb hA0)
    clear hb hA0 hs
    by_cases h2 : n2 = 0
    · subst h2
      have HE3 := Lib.hid (HE2.out.trans (if_neg (by simp)))
      clear HE2
      obtain ⟨d1, hd1⟩ : ∃ d, d = dotsB sn := ⟨_, rfl⟩
      obtain ⟨d2, hd2⟩ : ∃ d, d = dotsB tn := ⟨_, rfl⟩
      obtain ⟨w1, hw1⟩ : ∃ d, d = writesL l who1 sd := ⟨_, rfl⟩
      obtain ⟨w2, hw2⟩ : ∃ d, d = writesL l who2 td := ⟨_, rfl⟩
      obtain ⟨g, hgv⟩ : ∃ d, d = overE l ⟨sd, sn, si, ss⟩ ⟨td, tn, ti, ts⟩ := ⟨_, rfl⟩
      have HQ := Lib.hid (renameE_at (s := ⟨sd, sn, si, ss⟩) (t := ⟨td, tn, ti, ts⟩) hd1 hd2 hw1 hw2 hgv)
      have HG1 : Hid (g ≠ -1) := Lib.hid (by rw [hgv]; exact over_ne _ _ _)
      have H1 := Lib.hid hd1
      have H2 := Lib.hid hd2
      have H3 := Lib.hid hw1
      have H4 := Lib.hid hw2
      have H5 := Lib.hid hgv
      clear hd1 hd2 hw1 hw2 hgv
      dsimp only at HQ
      generalize renameE l who1 who2 ⟨sd, sn, si, ss⟩ ⟨td, tn, ti, ts⟩ = E at *
      obtain ⟨-, s1, -, -⟩ := cells4 (S5.out.at 4 rfl)
      obtain ⟨-, t1, -, -⟩ := cells4 (S5.out.at 6 rfl)
      go_wp2_with fail
      refine (rdots_any sn _).mono ?_
      rintro e w9 ⟨rfl, rfl⟩
      rw [← H1.out]
      cases d1 with
      | true =>
        have HX : Hid (E = 1) := Lib.hid (by rw [HQ.out, if_pos (.inl rfl)])
        have HE4 := Lib.hid ((HE3.out.trans (if_neg (by rw [HX.out]; decide))).trans (if_pos (by rw [HX.out]; decide)))
        rw [HX.out] at HE4
        clear HE3 HX
        have h_r := (S5.out.at 3 rfl)
        have h_d := (S5.out.at 0 rfl)
        go_wp2_with (first | (refine wpList_load_row rfl 32 _ rfl _ rfl 32 _ (0, 0) _ h_d Tryz.underlying32 rfl (by kernel_rfl) ?_) | (refine wpList_store_row rfl 32 _ _ rfl _ rfl rfl h_r rfl (by kernel_rfl) rfl ?_; intro W6 hb hg hs hn; have S6 := Lib.hid (S5.out.set 3 rfl hb hg hs hn); clear hb hg hs hn))
        refine bodyPost_ret (HRET.out _ _ _ (S6.out.at 3 rfl) rfl _ rfl) rfl ?_
        rw [HE4.out]
        exact ⟨_, _, rfl, S6.out.gX 0 rfl, S6.out.bel⟩
      | false =>
        go_wp2_with fail
        refine (rdots_any tn _).mono ?_
        rintro e w9 ⟨rfl, rfl⟩
        rw [← H2.out]
        cases d2 with
        | true =>
          have HX : Hid (E = 1) := Lib.hid (by rw [HQ.out, if_pos (.inr rfl)])
          have HE4 := Lib.hid ((HE3.out.trans (if_neg (by rw [HX.out]; decide))).trans (if_pos (by rw [HX.out]; decide)))
          rw [HX.out] at HE4
          clear HE3 HX
          have h_r := (S5.out.at 3 rfl)
          have h_d := (S5.out.at 0 rfl)
          go_wp2_with (first | (refine wpList_load_row rfl 32 _ rfl _ rfl 32 _ (0, 0) _ h_d Tryz.underlying32 rfl (by kernel_rfl) ?_) | (refine wpList_store_row rfl 32 _ _ rfl _ rfl rfl h_r rfl (by kernel_rfl) rfl ?_; intro W6 hb hg hs hn; have S6 := Lib.hid (S5.out.set 3 rfl hb hg hs hn); clear hb hg hs hn))
          refine bodyPost_ret (HRET.out _ _ _ (S6.out.at 3 rfl) rfl _ rfl) rfl ?_
          rw [HE4.out]
          exact ⟨_, _, rfl, S6.out.gX 0 rfl, S6.out.bel⟩
        | false =>
          have HQ2 := Lib.hid (HQ.out.trans (if_neg (by simp)))
          clear HQ
          obtain ⟨a0, -⟩ := cells2 (S5.out.at 1 rfl)
          obtain ⟨s0, -, -, -⟩ := cells4 (S5.out.at 4 rfl)
          have h_d := (S5.out.at 0 rfl)
          go_wp2_with (first | (refine wpList_load_row rfl 32 _ rfl _ rfl 32 _ (0, 0) _ h_d Tryz.underlying32 rfl (by kernel_rfl) ?_))
          refine (rwrites_g l most room who1 sd ao cap W5 (S5.out.g 0 rfl).none HD.out.len).mono ?_
          rintro e W6 ⟨rfl, hb⟩
          clear s1 t1 a0 s0 h_d
          have S6 := Lib.hid (S5.out.call hb)
          clear hb
          rw [← H3.out]
          cases w1 with
          | false =>
            go_upto_region 10 with (fail)
            have HX : Hid (E = 7) := Lib.hid (by rw [HQ2.out]; simp)
            have HE4 := Lib.hid ((HE3.out.trans (if_neg (by rw [HX.out]; decide))).trans (if_pos (by rw [HX.out]; decide)))
            rw [HX.out] at HE4
            clear HE3 HX
            have h_r := (S6.out.at 3 rfl)
            have h_d := (S6.out.at 0 rfl)
            go_wp2_with (first | (refine wpList_load_row rfl 32 _ rfl _ rfl 32 _ (0, 0) _ h_d Tryz.underlying32 rfl (by kernel_rfl) ?_) | (refine wpList_store_row rfl 32 _ _ rfl _ rfl rfl h_r rfl (by kernel_rfl) rfl ?_; intro W7 hb hg hs hn; have S7 := Lib.hid (S6.out.set 3 rfl hb hg hs hn); clear hb hg hs hn))
            refine bodyPost_ret (HRET.out _ _ _ (S7.out.at 3 rfl) rfl _ rfl) rfl ?_
            rw [HE4.out]
            exact ⟨_, _, rfl, S7.out.gX 0 rfl, S7.out.bel⟩
          | true =>
            obtain ⟨d0, d1, d2⟩ := cells3 (S6.out.at 0 rfl)
            obtain ⟨b0, -⟩ := cells2 (S6.out.at 2 rfl)
            obtain ⟨t0, -, -, -⟩ := cells4 (S6.out.at 6 rfl)
            go_wp2_with fail
            refine (rwrites_g l most room who2 td ao cap W6 (S6.out.g 0 rfl).none HD.out.len).mono ?_
            rintro e W7 ⟨rfl, hb⟩
            clear d0 d1 d2 b0 t0
            have S7 := Lib.hid (S6.out.call hb)
            clear hb
            rw [← H4.out]
            cases w2 with
            | false =>
              go_upto_region 10 with (fail)
              have HX : Hid (E = 7) := Lib.hid (by rw [HQ2.out]; simp)
              have HE4 := Lib.hid ((HE3.out.trans (if_neg (by rw [HX.out]; decide))).trans (if_pos (by rw [HX.out]; decide)))
              rw [HX.out] at HE4
              clear HE3 HX
              have h_r := (S7.out.at 3 rfl)
              have h_d := (S7.out.at 0 rfl)
              go_wp2_with (first | (refine wpList_load_row rfl 32 _ rfl _ rfl 32 _ (0, 0) _ h_d Tryz.underlying32 rfl (by kernel_rfl) ?_) | (refine wpList_store_row rfl 32 _ _ rfl _ rfl rfl h_r rfl (by kernel_rfl) rfl ?_; intro W8 hb hg hs hn; have S8 := Lib.hid (S7.out.set 3 rfl hb hg hs hn); clear hb hg hs hn))
              refine bodyPost_ret (HRET.out _ _ _ (S8.out.at 3 rfl) rfl _ rfl) rfl ?_
              rw [HE4.out]
              exact ⟨_, _, rfl, S8.out.gX 0 rfl, S8.out.bel⟩
            | true =>
              have HQ3 := Lib.hid (HQ2.out.trans (if_neg (by simp)))
              clear HQ2
              by_cases hst : si = ti
              · have hI : (si == ti) = true := by simpa using hst
                have HX : Hid (E = -1) := Lib.hid (by rw [HQ3.out, if_pos hst])
                have HE4 := Lib.hid (HE3.out.trans (if_pos HX.out))
                clear HE3 HX HQ3 hst
                obtain ⟨-, -, s2, -⟩ := cells4 (S7.out.at 4 rfl)
                obtain ⟨-, -, t2, -⟩ := cells4 (S7.out.at 6 rfl)
                have h_r := (S7.out.at 3 rfl)
                have h_d := (S7.out.at 0 rfl)
                go_wp2_with (first | (refine wpList_load_row rfl 32 _ rfl _ rfl 32 _ (0, 0) _ h_d Tryz.underlying32 rfl (by kernel_rfl) ?_) | (refine wpList_store_row rfl 32 _ _ rfl _ rfl rfl h_r rfl (by kernel_rfl) rfl ?_; intro W8 hb hg hs hn; have S8 := Lib.hid (S7.out.set 3 rfl hb hg hs hn); clear hb hg hs hn))
                refine bodyPost_ret (HRET.out _ _ _ (S8.out.at 3 rfl) rfl _ rfl) rfl ?_
                rw [HE4.out]
                exact ⟨_, _, rfl, S8.out.gX 0 rfl, S8.out.bel⟩
              have hI : (si == ti) = false := by simpa using hst
              have HQ4 := Lib.hid (HQ3.out.trans (if_neg hst))
              clear HQ3 hst
              obtain ⟨-, -, s2, -⟩ := cells4 (S7.out.at 4 rfl)
              obtain ⟨-, -, t2, -⟩ := cells4 (S7.out.at 6 rfl)
              have h_d := (S7.out.at 0 rfl)
              have h_s := (S7.out.at 4 rfl)
              have h_t := (S7.out.at 6 rfl)
              go_wp2_with (first | (refine wpList_load_row rfl 32 _ rfl _ rfl 32 _ (0, 0) _ h_d Tryz.underlying32 rfl (by kernel_rfl) ?_) | (refine wpList_load_row rfl 67 _ rfl _ rfl 67 _ (0, 0) _ h_s Tryz.underlying67 rfl (by kernel_rfl) ?_) | (refine wpList_load_row rfl 67 _ rfl _ rfl 67 _ (0, 0) _ h_t Tryz.underlying67 rfl (by kernel_rfl) ?_))
              refine (rover_g l most room ⟨sd, sn, si, ss⟩ ⟨td, tn, ti, ts⟩ _ _ W7 (S7.out.g 0 rfl).none HD.out).mono ?_
              rintro e W8 ⟨rfl, hb⟩
              clear s2 t2 h_d h_s h_t
              have S8 := Lib.hid (S7.out.call hb)
              clear hb
              rw [← H5.out]
              by_cases hgz : g = 0
              · subst hgz
                have HE4 := Lib.hid ((HE3.out.trans (if_neg (by rw [HQ4.out]; decide))).trans (if_neg (by rw [HQ4.out]; decide)))
                clear HE3 HQ4 HG1 H1 H2 H3 H4 H5 HR2
                have HSz : Hid (Siz 110 130 l) := Lib.hid HD.out.sm
                have HW := Lib.hid (wrap_moved HD.out ⟨sd, sn, si, ss⟩ ⟨td, tn, ti, ts⟩)
                obtain ⟨s0, -, -, -⟩ := cells4 (S8.out.at 4 rfl)
                have h_d := (S8.out.at 0 rfl)
                go_wp2_with (first | (refine wpList_load_row rfl 32 _ rfl _ rfl 32 _ (0, 0) _ h_d Tryz.underlying32 rfl (by kernel_rfl) ?_))
                refine (rget_g _ l most room sd _ W8 (S8.out.g 0 rfl) HD.out.len).mono ?_
                rintro e W9 ⟨ao5, cp5, rfl, hn5, hb⟩
                clear s0 h_d
                have S9 := Lib.hid ((S8.out.call hb).addN hn5)
                clear hb hn5
                obtain ⟨L1, hL1⟩ : ∃ L, L = droppedL l ⟨sd, sn, si, ss⟩ := ⟨_, rfl⟩
                have HL1 : Hid (L1 = setL l sd (dropN (nodeL l sd) sn)) := Lib.hid hL1
                have HS1 : Hid (Siz 110 130 L1) := Lib.hid (by rw [hL1]; exact HSz.out.dropped _)
                have hnx := (HSz.out.node sd).2
                rw [← hL1] at HW
                have HQ1 := Lib.hid hL1
                clear hL1
                generalize nodeL l sd = x at *
                go_upto_region 17 with (fail)
                refine code_fresh1 ?_
                intro W10 hb hA0 hs
                have S10 := Lib.hid (S9.out.new1 hb hA0)
                clear hb hA0 hs
                obtain ⟨-, -, -, -, -, -, -, x7⟩ := cells8 (S10.out.at 7 rfl)
                have fx := fun j => Lib.frozen_of_heap (S10.out.at 7 rfl) j
                obtain ⟨-, s1, -, -⟩ := cells4 (S10.out.at 4 rfl)
                go_wp2_with fail
                refine (rdrop_g _ x _ sn W10 S10.out.oldX (S10.out.n 1 rfl) (Nat.le_trans hnx (by decide))).mono ?_
                rintro e W11 ⟨ao6, cp6, rfl, hn6, hb⟩
                clear x7 fx s1
                have S11 := Lib.hid ((S10.out.call hb).addN hn6)
                clear hb hn6
                obtain ⟨x0, x1, x2, x3, x4, x5, x6, x7⟩ := cells8 (S11.out.at 7 rfl)
                have fx := fun j => Lib.frozen_of_heap (S11.out.at 7 rfl) j
                go_upto_region 18 with (fail)
                refine code_set1 (S11.out.at 7 rfl) ?_
                intro W12 hb hg hs hn
                clear x0 x1 x2 x3 x4 x5 x6 x7 fx
                have S12 := Lib.hid (S11.out.set 7 rfl hb hg hs hn)
                clear hb hg hs hn
                clear hnx
                obtain ⟨s0, -, -, -⟩ := cells4 (S12.out.at 4 rfl)
                have h_d := (S12.out.at 0 rfl)
                have h_x := (S12.out.at 7 rfl)
                go_wp2_with (first | (refine wpList_load_row rfl 32 _ rfl _ rfl 32 _ (0, 0) _ h_d Tryz.underlying32 rfl (by kernel_rfl) ?_) | (refine wpList_load_row rfl 74 _ rfl _ rfl 74 _ (0, 0) _ h_x Tryz.underlying74 rfl (by kernel_rfl) ?_))
                refine (rset_g _ l most room sd (dropN x sn) _ _ W12 S12.out.oldX (S12.out.g 0 rfl) HD.out.len (S12.out.n 2 rfl)).mono ?_
                rintro e W13 ⟨ao7, cp7, rfl, hg7, hb⟩
                clear s0 h_d h_x
                have S13 := Lib.hid ((S12.out.call hb).addG hg7)
                clear hb hg7
                rw [← HL1.out] at S13 ⊢
                have h_d := (S13.out.at 0 rfl)
                go_upto_region 19 with (first | (refine wpList_store_row rfl 32 _ _ rfl _ rfl rfl h_d rfl (by kernel_rfl) rfl ?_; intro W14 hb hg hs hn; have S14 := Lib.hid (S13.out.set 0 rfl hb hg hs hn); clear hb hg hs hn))
                clear h_d
                obtain ⟨L2, hL2⟩ : ∃ L, L = (if 0 ≤ ti then lostL L1 ⟨td, tn, ti, ts⟩ else L1) := ⟨_, rfl⟩
                have HS2 : Hid (Siz 110 130 L2) := Lib.hid (by rw [hL2]; split <;> first | exact HS1.out.lost _ | exact HS1.out)
                obtain ⟨L3, hL3⟩ : ∃ L, L = namedL L2 ⟨td, tn, ti, ts⟩ si := ⟨_, rfl⟩
                have HS3 : Hid (Siz 110 261 L3) := Lib.hid (by rw [hL3]; exact HS2.out.named _ _)
                obtain ⟨y, hy⟩ : ∃ y, y = nodeL L3 si := ⟨_, rfl⟩
                have HMv := Lib.hid (move_at (s := ⟨sd, sn, si, ss⟩) (t := ⟨td, tn, ti, ts⟩) HQ1.out hL2 hL3 hy)
                have HL2 := Lib.hid hL2
                have HL3 := Lib.hid hL3
                have HY := Lib.hid hy
                clear hL2 hL3 hy
                dsimp only at HMv
                by_cases ht : 0 ≤ ti
                · have hT : decide (0 ≤ ti) = true := decide_eq_true ht
                  have HL2b := Lib.hid (HL2.out.trans (if_pos ht))
                  clear ht HL2
                  obtain ⟨-, -, t2, -⟩ := cells4 (S14.out.at 6 rfl)
                  have h_d := (S14.out.at 0 rfl)
                  have h_t := (S14.out.at 6 rfl)
                  go_wp2_with (first | (refine wpList_load_row rfl 32 _ rfl _ rfl 32 _ (0, 0) _ h_d Tryz.underlying32 rfl (by kernel_rfl) ?_) | (refine wpList_load_row rfl 67 _ rfl _ rfl 67 _ (0, 0) _ h_t Tryz.underlying67 rfl (by kernel_rfl) ?_))
                  have hwq : IntKind.i64.wrap ((nodeL (droppedL L1 ⟨td, tn, ti, ts⟩) (SpotL.ino ⟨td, tn, ti, ts⟩)).links - 1) = (nodeL (droppedL L1 ⟨td, tn, ti, ts⟩) (SpotL.ino ⟨td, tn, ti, ts⟩)).links - 1 := HW.out
                  have hC := rlost_g _ L1 most room ⟨td, tn, ti, ts⟩ _ _ W14 S14.out.oldX (S14.out.g 1 rfl) (Nat.le_trans HS1.out.1 (by decide)) (Nat.le_trans (HS1.out.node _).2 (by decide)) hwq
                  clear hwq
                  refine (hC).mono ?_
                  rintro e W15 ⟨ao8, cp8, rfl, hg8, hb⟩
                  clear t2 h_d h_t hC
                  have S15 := Lib.hid ((S14.out.call hb).addG hg8)
                  clear hb hg8
                  rw [← HL2b.out] at S15 ⊢
                  have h_d := (S15.out.at 0 rfl)
                  go_upto_region 21 with (first | (refine wpList_store_row rfl 32 _ _ rfl _ rfl rfl h_d rfl (by kernel_rfl) rfl ?_; intro W16 hb hg hs hn; have S16 := Lib.hid (S15.out.set 0 rfl hb hg hs hn); clear hb hg hs hn))
                  clear h_d
                  have h_d := (S16.out.at 0 rfl)
                  have h_t := (S16.out.at 6 rfl)
                  obtain ⟨-, -, s2, -⟩ := cells4 (S16.out.at 4 rfl)
                  go_wp2_with (first | (refine wpList_load_row rfl 32 _ rfl _ rfl 32 _ (0, 0) _ h_d Tryz.underlying32 rfl (by kernel_rfl) ?_) | (refine wpList_load_row rfl 67 _ rfl _ rfl 67 _ (0, 0) _ h_t Tryz.underlying67 rfl (by kernel_rfl) ?_))
                  refine (rnamed_g _ L2 most room si ⟨td, tn, ti, ts⟩ _ _ W16 S16.out.oldX (S16.out.g 2 rfl) (Nat.le_trans HS2.out.1 (by decide)) (Nat.le_trans (HS2.out.node _).2 (by decide))).mono ?_
                  rintro e W17 ⟨ao9, cp9, rfl, hg9, hb⟩
                  clear h_d h_t s2
                  have S17 := Lib.hid ((S16.out.call hb).addG hg9)
                  clear hb hg9
                  rw [← HL3.out] at S17 ⊢
                  have h_d := (S17.out.at 0 rfl)
                  go_upto_region 22 with (first | (refine wpList_store_row rfl 32 _ _ rfl _ rfl rfl h_d rfl (by kernel_rfl) rfl ?_; intro W18 hb hg hs hn; have S18 := Lib.hid (S17.out.set 0 rfl hb hg hs hn); clear hb hg hs hn))
                  clear h_d
                  obtain ⟨-, -, s2, -⟩ := cells4 (S18.out.at 4 rfl)
                  have h_d := (S18.out.at 0 rfl)
                  go_wp2_with (first | (refine wpList_load_row rfl 32 _ rfl _ rfl 32 _ (0, 0) _ h_d Tryz.underlying32 rfl (by kernel_rfl) ?_))
                  refine (rget_g _ L3 most room si _ W18 (S18.out.g 3 rfl) (Nat.le_trans HS3.out.1 (by decide))).mono ?_
                  rintro e W19 ⟨ao10, cp10, rfl, hn10, hb⟩
                  clear s2 h_d
                  have S19 := Lib.hid ((S18.out.call hb).addN hn10)
                  clear hb hn10
                  rw [← HY.out] at S19 ⊢
                  go_upto_region 23 with (fail)
                  refine code_fresh1 ?_
                  intro W20 hb hA0 hs
                  have S20 := Lib.hid (S19.out.new1 hb hA0)
                  clear hb hA0 hs
                  by_cases hk : y.kind = 2
                  · have hK : (y.kind == 2) = true := by simpa using hk
                    have HP : Hid (placeN y td = ⟨y.kind, y.mode, y.owner, y.links, y.opn, td, y.data, y.names⟩) := Lib.hid (by unfold placeN; rw [if_pos hk])
                    clear hk
                    obtain ⟨y0, y1, y2, y3, y4, y5, y6, y7⟩ := cells8 (S20.out.at 8 rfl)
                    have fy := fun j => Lib.frozen_of_heap (S20.out.at 8 rfl) j
                    obtain ⟨t0, -, -, -⟩ := cells4 (S20.out.at 6 rfl)
                    go_upto_region 25 with (fail)
                    refine code_set1 (S20.out.at 8 rfl) ?_
                    intro W21 hb hg hs hn
                    clear y0 y1 y2 y3 y4 y5 y6 y7 fy t0
                    have S21 := Lib.hid (S20.out.set 8 rfl hb hg hs hn)
                    clear hb hg hs hn
                    rw [HP.out] at HMv
                    have HE5 := Lib.hid (HE4.out.trans (by rw [HMv.out]))
                    clear HE4 HMv HP
                    obtain ⟨-, -, s2, -⟩ := cells4 (S21.out.at 4 rfl)
                    have h_d := (S21.out.at 0 rfl)
                    have h_y := (S21.out.at 8 rfl)
                    go_wp2_with (first | (refine wpList_load_row rfl 32 _ rfl _ rfl 32 _ (0, 0) _ h_d Tryz.underlying32 rfl (by kernel_rfl) ?_) | (refine wpList_load_row rfl 74 _ rfl _ rfl 74 _ (0, 0) _ h_y Tryz.underlying74 rfl (by kernel_rfl) ?_))
                    refine (rset_g _ L3 most room si ⟨y.kind, y.mode, y.owner, y.links, y.opn, td, y.data, y.names⟩ _ _ W21 S21.out.oldX (S21.out.g 3 rfl) (Nat.le_trans HS3.out.1 (by decide)) ((S21.out.n 3 rfl).same rfl)).mono ?_
                    rintro e W22 ⟨ao11, cp11, rfl, hg11, hb⟩
                    clear s2 h_d h_y
                    have S22 := Lib.hid ((S21.out.call hb).addG hg11)
                    clear hb hg11
                    have h_r := (S22.out.at 3 rfl)
                    go_wp2_with (first | (refine wpList_store_row rfl 32 _ _ rfl _ rfl rfl h_r rfl (by kernel_rfl) rfl ?_; intro W23 hb hg hs hn; have S23 := Lib.hid (S22.out.set 3 rfl hb hg hs hn); clear hb hg hs hn))
                    refine bodyPost_ret (HRET.out _ _ _ (S23.out.at 3 rfl) rfl _ rfl) rfl ?_
                    rw [HE5.out]
                    exact ⟨_, _, rfl, S23.out.gX 4 rfl, S23.out.bel⟩
                  · have hK : (y.kind == 2) = false := by simpa using hk
                    have HP : Hid (placeN y td = ⟨y.kind, y.mode, y.owner, y.links, y.opn, y.up, y.data, y.names⟩) := Lib.hid (by unfold placeN; rw [if_neg hk])
                    clear hk
                    obtain ⟨y0, -, -, -, -, -, -, -⟩ := cells8 (S20.out.at 8 rfl)
                    rw [HP.out] at HMv
                    have HE5 := Lib.hid (HE4.out.trans (by rw [HMv.out]))
                    clear HE4 HMv HP
                    obtain ⟨-, -, s2, -⟩ := cells4 (S20.out.at 4 rfl)
                    have h_d := (S20.out.at 0 rfl)
                    have h_y := (S20.out.at 8 rfl)
                    go_wp2_with (first | (refine wpList_load_row rfl 32 _ rfl _ rfl 32 _ (0, 0) _ h_d Tryz.underlying32 rfl (by kernel_rfl) ?_) | (refine wpList_load_row rfl 74 _ rfl _ rfl 74 _ (0, 0) _ h_y Tryz.underlying74 rfl (by kernel_rfl) ?_))
                    refine (rset_g _ L3 most room si ⟨y.kind, y.mode, y.owner, y.links, y.opn, y.up, y.data, y.names⟩ _ _ W20 S20.out.oldX (S20.out.g 3 rfl) (Nat.le_trans HS3.out.1 (by decide)) ((S20.out.n 3 rfl).same rfl)).mono ?_
                    rintro e W21 ⟨ao11, cp11, rfl, hg11, hb⟩
                    clear y0 s2 h_d h_y
                    have S21 := Lib.hid ((S20.out.call hb).addG hg11)
                    clear hb hg11
                    have h_r := (S21.out.at 3 rfl)
                    go_wp2_with (first | (refine wpList_store_row rfl 32 _ _ rfl _ rfl rfl h_r rfl (by kernel_rfl) rfl ?_; intro W22 hb hg hs hn; have S22 := Lib.hid (S21.out.set 3 rfl hb hg hs hn); clear hb hg hs hn))
                    refine bodyPost_ret (HRET.out _ _ _ (S22.out.at 3 rfl) rfl _ rfl) rfl ?_
                    rw [HE5.out]
                    exact ⟨_, _, rfl, S22.out.gX 4 rfl, S22.out.bel⟩
                · have hT : decide (0 ≤ ti) = false := decide_eq_false ht
                  have HL2b := Lib.hid (HL2.out.trans (if_neg ht))
                  clear ht HL2
                  obtain ⟨-, -, t2, -⟩ := cells4 (S14.out.at 6 rfl)
                  rw [← HL2b.out] at S14 ⊢
                  have h_d := (S14.out.at 0 rfl)
                  have h_t := (S14.out.at 6 rfl)
                  obtain ⟨-, -, s2, -⟩ := cells4 (S14.out.at 4 rfl)
                  go_wp2_with (first | (refine wpList_load_row rfl 32 _ rfl _ rfl 32 _ (0, 0) _ h_d Tryz.underlying32 rfl (by kernel_rfl) ?_) | (refine wpList_load_row rfl 67 _ rfl _ rfl 67 _ (0, 0) _ h_t Tryz.underlying67 rfl (by kernel_rfl) ?_))
                  refine (rnamed_g _ L2 most room si ⟨td, tn, ti, ts⟩ _ _ W14 S14.out.oldX (S14.out.g 1 rfl) (Nat.le_trans HS2.out.1 (by decide)) (Nat.le_trans (HS2.out.node _).2 (by decide))).mono ?_
                  rintro e W15 ⟨ao9, cp9, rfl, hg9, hb⟩
                  clear t2 h_d h_t s2
                  have S15 := Lib.hid ((S14.out.call hb).addG hg9)
                  clear hb hg9
                  rw [← HL3.out] at S15 ⊢
                  have h_d := (S15.out.at 0 rfl)
                  go_upto_region 22 with (first | (refine wpList_store_row rfl 32 _ _ rfl _ rfl rfl h_d rfl (by kernel_rfl) rfl ?_; intro W16 hb hg hs hn; have S16 := Lib.hid (S15.out.set 0 rfl hb hg hs hn); clear hb hg hs hn))
                  clear h_d
                  obtain ⟨-, -, s2, -⟩ := cells4 (S16.out.at 4 rfl)
                  have h_d := (S16.out.at 0 rfl)
                  go_wp2_with (first | (refine wpList_load_row rfl 32 _ rfl _ rfl 32 _ (0, 0) _ h_d Tryz.underlying32 rfl (by kernel_rfl) ?_))
                  refine (rget_g _ L3 most room si _ W16 (S16.out.g 2 rfl) (Nat.le_trans HS3.out.1 (by decide))).mono ?_
                  rintro e W17 ⟨ao10, cp10, rfl, hn10, hb⟩
                  clear s2 h_d
                  have S17 := Lib.hid ((S16.out.call hb).addN hn10)
                  clear hb hn10
                  rw [← HY.out] at S17 ⊢
                  go_upto_region 23 with (fail)
                  refine code_fresh1 ?_
                  intro W18 hb hA0 hs
                  have S18 := Lib.hid (S17.out.new1 hb hA0)
                  clear hb hA0 hs
                  by_cases hk : y.kind = 2
                  · have hK : (y.kind == 2) = true := by simpa using hk
                    have HP : Hid (placeN y td = ⟨y.kind, y.mode, y.owner, y.links, y.opn, td, y.data, y.names⟩) := Lib.hid (by unfold placeN; rw [if_pos hk])
                    clear hk
                    obtain ⟨y0, y1, y2, y3, y4, y5, y6, y7⟩ := cells8 (S18.out.at 8 rfl)
                    have fy := fun j => Lib.frozen_of_heap (S18.out.at 8 rfl) j
                    obtain ⟨t0, -, -, -⟩ := cells4 (S18.out.at 6 rfl)
                    go_upto_region 25 with (fail)
                    refine code_set1 (S18.out.at 8 rfl) ?_
                    intro W19 hb hg hs hn
                    clear y0 y1 y2 y3 y4 y5 y6 y7 fy t0
                    have S19 := Lib.hid (S18.out.set 8 rfl hb hg hs hn)
                    clear hb hg hs hn
                    rw [HP.out] at HMv
                    have HE5 := Lib.hid (HE4.out.trans (by rw [HMv.out]))
                    clear HE4 HMv HP
                    obtain ⟨-, -, s2, -⟩ := cells4 (S19.out.at 4 rfl)
                    have h_d := (S19.out.at 0 rfl)
                    have h_y := (S19.out.at 8 rfl)
                    go_wp2_with (first | (refine wpList_load_row rfl 32 _ rfl _ rfl 32 _ (0, 0) _ h_d Tryz.underlying32 rfl (by kernel_rfl) ?_) | (refine wpList_load_row rfl 74 _ rfl _ rfl 74 _ (0, 0) _ h_y Tryz.underlying74 rfl (by kernel_rfl) ?_))
                    refine (rset_g _ L3 most room si ⟨y.kind, y.mode, y.owner, y.links, y.opn, td, y.data, y.names⟩ _ _ W19 S19.out.oldX (S19.out.g 2 rfl) (Nat.le_trans HS3.out.1 (by decide)) ((S19.out.n 3 rfl).same rfl)).mono ?_
                    rintro e W20 ⟨ao11, cp11, rfl, hg11, hb⟩
                    clear s2 h_d h_y
                    have S20 := Lib.hid ((S19.out.call hb).addG hg11)
                    clear hb hg11
                    have h_r := (S20.out.at 3 rfl)
                    go_wp2_with (first | (refine wpList_store_row rfl 32 _ _ rfl _ rfl rfl h_r rfl (by kernel_rfl) rfl ?_; intro W21 hb hg hs hn; have S21 := Lib.hid (S20.out.set 3 rfl hb hg hs hn); clear hb hg hs hn))
                    refine bodyPost_ret (HRET.out _ _ _ (S21.out.at 3 rfl) rfl _ rfl) rfl ?_
                    rw [HE5.out]
                    exact ⟨_, _, rfl, S21.out.gX 3 rfl, S21.out.bel⟩
                  · have hK : (y.kind == 2) = false := by simpa using hk
                    have HP : Hid (placeN y td = ⟨y.kind, y.mode, y.owner, y.links, y.opn, y.up, y.data, y.names⟩) := Lib.hid (by unfold placeN; rw [if_neg hk])
                    clear hk
                    obtain ⟨y0, -, -, -, -, -, -, -⟩ := cells8 (S18.out.at 8 rfl)
                    rw [HP.out] at HMv
                    have HE5 := Lib.hid (HE4.out.trans (by rw [HMv.out]))
                    clear HE4 HMv HP
                    obtain ⟨-, -, s2, -⟩ := cells4 (S18.out.at 4 rfl)
                    have h_d := (S18.out.at 0 rfl)
                    have h_y := (S18.out.at 8 rfl)
                    go_wp2_with (first | (refine wpList_load_row rfl 32 _ rfl _ rfl 32 _ (0, 0) _ h_d Tryz.underlying32 rfl (by kernel_rfl) ?_) | (refine wpList_load_row rfl 74 _ rfl _ rfl 74 _ (0, 0) _ h_y Tryz.underlying74 rfl (by kernel_rfl) ?_))
                    refine (rset_g _ L3 most room si ⟨y.kind, y.mode, y.owner, y.links, y.opn, y.up, y.data, y.names⟩ _ _ W18 S18.out.oldX (S18.out.g 2 rfl) (Nat.le_trans HS3.out.1 (by decide)) ((S18.out.n 3 rfl).same rfl)).mono ?_
                    rintro e W19 ⟨ao11, cp11, rfl, hg11, hb⟩
                    clear y0 s2 h_d h_y
                    have S19 := Lib.hid ((S18.out.call hb).addG hg11)
                    clear hb hg11
                    have h_r := (S19.out.at 3 rfl)
                    go_wp2_with (first | (refine wpList_store_row rfl 32 _ _ rfl _ rfl rfl h_r rfl (by kernel_rfl) rfl ?_; intro W20 hb hg hs hn; have S20 := Lib.hid (S19.out.set 3 rfl hb hg hs hn); clear hb hg hs hn))
                    refine bodyPost_ret (HRET.out _ _ _ (S20.out.at 3 rfl) rfl _ rfl) rfl ?_
                    rw [HE5.out]
                    exact ⟨_, _, rfl, S20.out.gX 3 rfl, S20.out.bel⟩
              · have hJ : (g != 0) = true := by simpa using hgz
                have HE4 := Lib.hid ((HE3.out.trans (if_neg (by rw [HQ4.out]; exact HG1.out))).trans (if_pos (by rw [HQ4.out]; exact hgz)))
                rw [HQ4.out] at HE4
                clear HE3 HQ4 hgz
                have h_r := (S8.out.at 3 rfl)
                have h_d := (S8.out.at 0 rfl)
                go_wp2_with (first | (refine wpList_load_row rfl 32 _ rfl _ rfl 32 _ (0, 0) _ h_d Tryz.underlying32 rfl (by kernel_rfl) ?_) | (refine wpList_store_row rfl 32 _ _ rfl _ rfl rfl h_r rfl (by kernel_rfl) rfl ?_; intro W9 hb hg hs hn; have S9 := Lib.hid (S8.out.set 3 rfl hb hg hs hn); clear hb hg hs hn))
                refine bodyPost_ret (HRET.out _ _ _ (S9.out.at 3 rfl) rfl _ rfl) rfl ?_
                rw [HE4.out]
                exact ⟨_, _, rfl, S9.out.gX 0 rfl, S9.out.bel⟩
    · have hI : (n2 != 0) = true := by simpa using h2
      have HE3 := Lib.hid (HE2.out.trans (if_pos h2))
      clear HE2 h2
      have h_r := (S5.out.at 3 rfl)
      have h_d := (S5.out.at 0 rfl)
      go_wp2_with (first | (refine wpList_load_row rfl 32 _ rfl _ rfl 32 _ (0, 0) _ h_d Tryz.underlying32 rfl (by kernel_rfl) ?_) | (refine wpList_store_row rfl 32 _ _ rfl _ rfl rfl h_r rfl (by kernel_rfl) rfl ?_; intro W6 hb hg hs hn; have S6 := Lib.hid (S5.out.set 3 rfl hb hg hs hn); clear hb hg hs hn))
      refine bodyPost_ret (HRET.out _ _ _ (S6.out.at 3 rfl) rfl _ rfl) rfl ?_
      rw [HE3.out]
      exact ⟨_, _, rfl, S6.out.gX 0 rfl, S6.out.bel⟩
  · have hI : (e1 != 0) = true := by simpa using h0
    have HE2 := Lib.hid (HE.out.trans (if_pos h0))
    clear HE h0
    have h_r := (S3.out.at 3 rfl)
    have h_d := (S3.out.at 0 rfl)
    go_wp2_with (first | (refine wpList_load_row rfl 32 _ rfl _ rfl 32 _ (0, 0) _ h_d Tryz.underlying32 rfl (by kernel_rfl) ?_) | (refine wpList_store_row rfl 32 _ _ rfl _ rfl rfl h_r rfl (by kernel_rfl) rfl ?_; intro W4 hb hg hs hn; have S4 := Lib.hid (S3.out.set 3 rfl hb hg hs hn); clear hb hg hs hn))
    refine bodyPost_ret (HRET.out _ _ _ (S4.out.at 3 rfl) rfl _ rfl) rfl ?_
    rw [HE2.out]
    exact ⟨_, _, rfl, S4.out.gX 0 rfl, S4.out.bel⟩
end Go.Proofs.YtpmhmippoefcfaaGreatDoor
