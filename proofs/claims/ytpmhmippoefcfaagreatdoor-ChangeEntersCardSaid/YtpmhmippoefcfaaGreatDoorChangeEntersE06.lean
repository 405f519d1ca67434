/-
  How large a disk becomes. The document's enter, Make, Mkdir, Symlink. The document's Make, Mkdir, Symlink, Chmod. The statements' small functions: who acts. Disks that a change gives may be changed again; the example of the statements on changes, plainly. The program's Make, Mkdir, Symlink.
-/
import Derived.RangeFuncNested
import Derived.RangeFuncBound
import Derived.RangeFuncCalls
import Derived.RangeFuncLeaves
import Derived.RangeFuncBox
import Derived.Shelf.Abstract
import Derived.Shelf.RegionOpen
import Derived.WalkKit
import Derived.OwnWalkIn
import Derived.TacticsInMore
import Derived.LoopNIn
import Derived.LoopIn
import Derived.Lib.Hide
import Derived.Outline
import Derived.Deep.QuietTactic
import Derived.Deep.AppendLies
import Derived.BigQuiet
import Derived.Lib.Strings
import Derived.WalkSmall
import Derived.Shelf.Small.Strs
import Derived.Shelf.Strings.Search1
import Derived.Shelf.Strings.Prefix
import Derived.Laws.AppendOwn
import Derived.Laws.OwnMore
import Derived.Laws.AppendOwnNone
import Derived.WideShapes
import Derived.Lib.TrimByte
import Derived.Lib.Bytealg
import Derived.Laws.BitsLemmas
import Derived.Laws.RangeAny
import Derived.Laws.Runes
import Derived.Lib.Builder
import Derived.Deep.WholeRow
import Derived.WalkMore
import Derived.Lib.OthersKept
import Derived.Lib.QuietBelow
import Derived.Deep.DrawnRows
import Derived.Laws.Cover1
import Derived.Shelf.SlSorted.Search
import Derived.Shelf.Spec.SlicesGrow
import Derived.StillTailTactics
import Derived.LaidEql
import Derived.Stop.Asserts
import Derived.RowKitTokens
import Derived.Deep.RegionHeld3
import Derived.Deep.RegionLaw
import Derived.Handy
import Derived.Laws.IdiomCopy
import Derived.Lib.SliceRun
import Derived.Laws.ResultCell
import Derived.Deep.LoopGhost
import Derived.Deep.DeepCutAuto
import Derived.Deep.MidRow
import Derived.BigRegion
import Derived.Test.YtpmhmippoefcfaaGreatDoorProg
import Derived.Test.YtpmhmippoefcfaaGreatDoorShelf
import Derived.Test.YtpmhmippoefcfaaGreatDoorB01
import Derived.Test.YtpmhmippoefcfaaGreatDoorB02
import Derived.Test.YtpmhmippoefcfaaGreatDoorB04
import Derived.Test.YtpmhmippoefcfaaGreatDoorB06
import Derived.Test.YtpmhmippoefcfaaGreatDoorB07
import Derived.Test.YtpmhmippoefcfaaGreatDoorB08
import Derived.Test.YtpmhmippoefcfaaGreatDoorB09
import Derived.Test.YtpmhmippoefcfaaGreatDoorB10
import Derived.Test.YtpmhmippoefcfaaGreatDoorB12
import Derived.Test.YtpmhmippoefcfaaGreatDoorB13
import Derived.Test.YtpmhmippoefcfaaGreatDoorB14
import Derived.Test.YtpmhmippoefcfaaGreatDoorB17
import Derived.Test.YtpmhmippoefcfaaGreatDoorB20
import Derived.Test.YtpmhmippoefcfaaGreatDoorB21
import Derived.Test.YtpmhmippoefcfaaGreatDoorChangeEntersE01
import Derived.Test.YtpmhmippoefcfaaGreatDoorChangeEntersE02
import Derived.Test.YtpmhmippoefcfaaGreatDoorChangeEntersE04
import Derived.Test.YtpmhmippoefcfaaGreatDoorChangeEntersE05
namespace Go.Proofs.YtpmhmippoefcfaaGreatDoor
section
variable {a c : Nat} {l : List NodeL} (h : Siz a c l) (most room who fr : Int) (path : Str)
include h
theorem siz_mkfile (mode : Int) : Siz (a + 1) (2 * c + 1) (mkfileL l most room who fr path mode).1 := by
  unfold mkfileL
  split
  · exact siz_same h
  · split
    · exact siz_same h
    · exact h.enter ⟨Nat.zero_le _, Nat.zero_le _⟩ _ _ _ _
theorem siz_mkdir (mode : Int) : Siz (a + 1) (2 * c + 1) (mkdirL l most room who fr path mode).1 := by
  unfold mkdirL
  split
  · exact siz_same h
  · exact h.enter ⟨Nat.zero_le _, Nat.zero_le _⟩ _ _ _ _
theorem siz_symlink (text : Str) : Siz (a + 1) (2 * c + 1) (symlinkL l most room who fr text path).1 := by
  unfold symlinkL
  split
  · exact siz_same h
  · split
    · exact siz_same h
    · rename_i hl
      split
      · exact siz_same h
      · split
        · exact siz_same h
        · exact h.enter ⟨by show text.length ≤ 300; omega, Nat.zero_le _⟩ _ _ _ _
end
end Go.Proofs.YtpmhmippoefcfaaGreatDoor
namespace Go.Proofs.YtpmhmippoefcfaaGreatDoor
open Go.RowKit Go.Shelf
attribute [local go_sem ↓] Go.wp_at_zero Go.wp_at_succ
theorem enter_at {l : List NodeL} {most room who : Int} {s : SpotL} {n : NodeL} (e : Int) (he : freeE l who s = e) : enterL l most room who s n = if e ≠ 0 then (l, 0, e) else if addE l most room (ownN n who) ≠ 0 then (l, 0, addE l most room (ownN n who)) else (namedL (addL l most room (ownN n who)) s (addI l most room (ownN n who)), addI l most room (ownN n who), 0) := by
  subst he; rfl
theorem small_add {l : List NodeL} (h : Small l) {n : NodeL} (hn : SmallN n) (most room : Int) : (addL l most room n).length ≤ 10000 ∧ ∀ i, (nodeL (addL l most room n) i).names.length ≤ 10000 := by
  have hs : Siz 111 130 (addL l most room n) := Siz.add (a := 110) (c := 130) ⟨h.1, h.2⟩ hn most room
  exact ⟨Nat.le_trans hs.1 (by decide), fun i => Nat.le_trans (hs.node i).2 (by decide)⟩
set_option maxRecDepth 100000 in
set_option maxHeartbeats 4000000 in
theorem renter_g (X : Nat → Prop) (l : List NodeL) (most room who fr : Int) (s : SpotL) (n : NodeL) (ao aon : Option Addr) (cap capn : Nat) (w : World) (hX : Old X w) (hg : GivesX X l (.slice ao l.length cap) w) (hd : Dsk l) (hn : NodeX X n (.slice aon n.names.length capn) w) (hns : SmallN n) :
    Calls Tryz.prog 45 #[diskV ao l.length cap most room, asV who fr, spotV s, nval n (.slice aon n.names.length capn)] w fun e w' => MakIs X (enterL l most room who s n) most room e w w' := by
  have S0 := Lib.hid (St.start (G := [(l, .slice ao l.length cap)]) (N := [(n, .slice aon n.names.length capn)]) hX (one_g hg) (one_n hn))
  have HD := Lib.hid hd
  have HNS := Lib.hid hns
  have HRET : Hid (∀ (W : World) (cs : Array Value) (fr), W.heap[w.heap.size + 4]? = some (.cells cs 32 fr) → cs.size = 3 → ∀ tmps : Array Value, tmps.getD 8 undef = .pointer (some ⟨w.heap.size + 4, 0, none⟩) → (results Tryz.f45 tmps).run Tryz.prog W = .ok (.tuple #[.agg cs, tmps.getD 9 undef, tmps.getD 10 undef]) W) := Lib.hid fun W cs fr h hs tmps ht =>
  results_ctt (p := 8) (u := 9) (v := 10) (ty := 32) rfl tmps W (w.heap.size + 4) _ cs fr _ ht h Tryz.underlying32 rfl (by rw [hs]; kernel_rfl)
  clear hX hg hd hn hns
  go_enter Tryz.func45, Tryz.ntmps45
  go_upto_region 1 with (fail)
  refine code_fresh5 ?_
  intro W1 hb hA0 hA1 hA2 hA3 hA4 hs
  have S1 := Lib.hid (S0.out.new5 hb hA0 hA1 hA2 hA3 hA4)
  clear hb hA0 hA1 hA2 hA3 hA4 hs
  have h_d := (S1.out.at 0 rfl)
  have h_a := (S1.out.at 1 rfl)
  have h_s := (S1.out.at 2 rfl)
  go_wp2_with (first | (refine wpList_load_row rfl 32 _ rfl _ rfl 32 _ (0, 0) _ h_d Tryz.underlying32 rfl (by kernel_rfl) ?_) | (refine wpList_load_row rfl 39 _ rfl _ rfl 39 _ (0, 0) _ h_a Tryz.underlying39 rfl (by kernel_rfl) ?_) | (refine wpList_load_row rfl 67 _ rfl _ rfl 67 _ (0, 0) _ h_s Tryz.underlying67 rfl (by kernel_rfl) ?_))
  refine (rfree_g l most room who fr s ao cap W1 (S1.out.g 0 rfl).none HD.out.len).mono ?_
  rintro e W2 ⟨rfl, hb⟩
  clear h_d h_a h_s
  have S2 := Lib.hid (S1.out.call hb)
  clear hb
  obtain ⟨f, hf⟩ : ∃ f, f = freeE l who s := ⟨_, rfl⟩
  rw [← hf]
  have HE := Lib.hid (enter_at (most := most) (room := room) (n := n) f hf.symm)
  clear hf
  by_cases h0 : f = 0
  · subst h0
    have HE2 := Lib.hid (HE.out.trans (if_neg (by simp)))
    clear HE
    obtain ⟨n0, n1, n2, n3, n4, n5, n6, n7⟩ := cells8 (S2.out.at 3 rfl)
    have fn := fun j => Lib.frozen_of_heap (S2.out.at 3 rfl) j
    go_upto_region 5 with (fail)
    refine code_set1 (S2.out.at 3 rfl) ?_
    intro W3 hb hg hs hn
    clear n0 n1 n2 n3 n4 n5 n6 n7 fn
    have S3 := Lib.hid (S2.out.set 3 rfl hb hg hs hn)
    clear hb hg hs hn
    obtain ⟨a0, a1⟩ := cells2 (S3.out.at 1 rfl)
    obtain ⟨n0, n1, n2, n3, n4, n5, n6, n7⟩ := cells8 (S3.out.at 3 rfl)
    have fn := fun j => Lib.frozen_of_heap (S3.out.at 3 rfl) j
    go_upto_region 6 with (fail)
    refine code_set1 (S3.out.at 3 rfl) ?_
    intro W4 hb hg hs hn
    clear a0 a1 n0 n1 n2 n3 n4 n5 n6 n7 fn
    have S4 := Lib.hid (S3.out.set 3 rfl hb hg hs hn)
    clear hb hg hs hn
    have h_d := (S4.out.at 0 rfl)
    have h_n := (S4.out.at 3 rfl)
    go_wp2_with (first | (refine wpList_load_row rfl 32 _ rfl _ rfl 32 _ (0, 0) _ h_d Tryz.underlying32 rfl (by kernel_rfl) ?_) | (refine wpList_load_row rfl 74 _ rfl _ rfl 74 _ (0, 0) _ h_n Tryz.underlying74 rfl (by kernel_rfl) ?_))
    refine (radd_g (n := ownN n who) _ l most room _ _ _ _ W4 S4.out.oldX (S4.out.g 0 rfl) HD.out.sm ((S4.out.n 0 rfl).same rfl) HNS.out).mono ?_
    rintro e W5 ⟨ao2, cap2, rfl, hg2, hb⟩
    clear h_d h_n
    have S5 := Lib.hid ((S4.out.call hb).addG hg2)
    clear hb hg2
    have HL := Lib.hid (small_add HD.out.sm (n := ownN n who) HNS.out most room)
    generalize addL l most room (ownN n who) = l2 at *
    generalize addI l most room (ownN n who) = i2 at *
    generalize addE l most room (ownN n who) = e2 at *
    go_upto_region 7 with (fail)
    refine code_fresh1 ?_
    intro W6 hb hA0 hs
    have S6 := Lib.hid (S5.out.new1 hb hA0)
    clear hb hA0 hs
    by_cases h1 : e2 = 0
    · subst h1
      have HE3 := Lib.hid (HE2.out.trans (if_neg (by simp)))
      clear HE2
      have h_e := (S6.out.at 5 rfl)
      have h_s := (S6.out.at 2 rfl)
      go_wp2_with (first | (refine wpList_load_row rfl 32 _ rfl _ rfl 32 _ (0, 0) _ h_e Tryz.underlying32 rfl (by kernel_rfl) ?_) | (refine wpList_load_row rfl 67 _ rfl _ rfl 67 _ (0, 0) _ h_s Tryz.underlying67 rfl (by kernel_rfl) ?_))
      refine (rnamed_g _ l2 most room i2 s _ _ W6 S6.out.oldX (S6.out.g 1 rfl) HL.out.1 (HL.out.2 _)).mono ?_
      rintro e W7 ⟨ao3, cap3, rfl, hg3, hb⟩
      clear h_e h_s
      have S7 := Lib.hid ((S6.out.call hb).addG hg3)
      clear hb hg3
      have h_r := (S7.out.at 4 rfl)
      go_wp2_with (first | (refine wpList_store_row rfl 32 _ _ rfl _ rfl rfl h_r rfl (by kernel_rfl) rfl ?_; intro W8 hb hg hs hn; have S8 := Lib.hid (S7.out.set 4 rfl hb hg hs hn); clear hb hg hs hn))
      refine bodyPost_ret (HRET.out _ _ _ (S8.out.at 4 rfl) rfl _ rfl) rfl ?_
      rw [HE3.out]
      exact ⟨_, _, rfl, S8.out.gX 2 rfl, S8.out.bel⟩
    · have hI : (e2 != 0) = true := by simpa using h1
      have HE3 := Lib.hid (HE2.out.trans (if_pos h1))
      clear HE2 h1
      have h_r := (S6.out.at 4 rfl)
      have h_d := (S6.out.at 0 rfl)
      go_wp2_with (first | (refine wpList_load_row rfl 32 _ rfl _ rfl 32 _ (0, 0) _ h_d Tryz.underlying32 rfl (by kernel_rfl) ?_) | (refine wpList_store_row rfl 32 _ _ rfl _ rfl rfl h_r rfl (by kernel_rfl) rfl ?_; intro W7 hb hg hs hn; have S7 := Lib.hid (S6.out.set 4 rfl hb hg hs hn); clear hb hg hs hn))
      refine bodyPost_ret (HRET.out _ _ _ (S7.out.at 4 rfl) rfl _ rfl) rfl ?_
      rw [HE3.out]
      exact ⟨_, _, rfl, S7.out.gX 0 rfl, S7.out.bel⟩
  · have hI : (f != 0) = true := by simpa using h0
    have HE2 := Lib.hid (HE.out.trans (if_pos h0))
    clear HE h0
    have h_r := (S2.out.at 4 rfl)
    have h_d := (S2.out.at 0 rfl)
    go_wp2_with (first | (refine wpList_load_row rfl 32 _ rfl _ rfl 32 _ (0, 0) _ h_d Tryz.underlying32 rfl (by kernel_rfl) ?_) | (refine wpList_store_row rfl 32 _ _ rfl _ rfl rfl h_r rfl (by kernel_rfl) rfl ?_; intro W3 hb hg hs hn; have S3 := Lib.hid (S2.out.set 4 rfl hb hg hs hn); clear hb hg hs hn))
    refine bodyPost_ret (HRET.out _ _ _ (S3.out.at 4 rfl) rfl _ rfl) rfl ?_
    rw [HE2.out]
    exact ⟨_, _, rfl, S3.out.gX 0 rfl, S3.out.bel⟩
end Go.Proofs.YtpmhmippoefcfaaGreatDoor
namespace Go.Proofs.YtpmhmippoefcfaaGreatDoor
open Go.RowKit Go.Shelf
attribute [local go_sem ↓] Go.wp_at_zero Go.wp_at_succ
theorem mkfile_at {l : List NodeL} {most room who fr mode : Int} {path : Str} {R : ResL} (hR : R = walkL l who fr path false) : mkfileL l most room who fr path mode = if R.2 ≠ 0 then (l, 0, R.2) else if R.1.slash = true ∧ R.1.ino < 0 then (l, 0, 5) else enterL l most room who R.1 (fileN mode) := by
  subst hR; rfl
theorem mkdir_at {l : List NodeL} {most room who fr mode : Int} {path : Str} {R : ResL} (hR : R = walkL l who fr path false) : mkdirL l most room who fr path mode = if R.2 ≠ 0 then (l, R.2) else ((enterL l most room who R.1 (dirN mode R.1.dir)).1, (enterL l most room who R.1 (dirN mode R.1.dir)).2.2) := by
  subst hR; rfl
theorem symlink_at {l : List NodeL} {most room who fr : Int} {text path : Str} {R : ResL} (hR : R = walkL l who fr path false) (h0 : text ≠ []) (h1 : ¬ 100 < text.length) : symlinkL l most room who fr text path = if R.2 ≠ 0 then (l, R.2) else if R.1.slash = true ∧ R.1.ino < 0 then (l, 4) else ((enterL l most room who R.1 (linkN text)).1, (enterL l most room who R.1 (linkN text)).2.2) := by
  subst hR; unfold symlinkL; rw [if_neg h0, if_neg h1]
set_option maxRecDepth 100000 in
set_option maxHeartbeats 4000000 in
theorem rmkfile_g (X : Nat → Prop) (l : List NodeL) (most room who fr : Int) (path : Str) (mode : Int) (ao : Option Addr) (cap : Nat) (w : World) (hX : Old X w) (hg : GivesX X l (.slice ao l.length cap) w) (hd : Dsk l) (hplpath : path.length ≤ 10000) :
    Calls Tryz.prog 15 #[diskV ao l.length cap most room, asV who fr, .string (bs path), .int .i64 mode] w fun e w' => MakIs X (mkfileL l most room who fr path mode) most room e w w' := by
  have S0 := Lib.hid (St.start (G := [(l, .slice ao l.length cap)]) (N := []) hX (one_g hg) no_n)
  have HD := Lib.hid hd
  have HRET : Hid (∀ (W : World) (cs : Array Value) (fr), W.heap[w.heap.size + 2]? = some (.cells cs 32 fr) → cs.size = 3 → ∀ tmps : Array Value, tmps.getD 8 undef = .pointer (some ⟨w.heap.size + 2, 0, none⟩) → (results Tryz.f15 tmps).run Tryz.prog W = .ok (.tuple #[.agg cs, tmps.getD 9 undef, tmps.getD 10 undef]) W) := Lib.hid fun W cs fr h hs tmps ht =>
  results_ctt (p := 8) (u := 9) (v := 10) (ty := 32) rfl tmps W (w.heap.size + 2) _ cs fr _ ht h Tryz.underlying32 rfl (by rw [hs]; kernel_rfl)
  clear hX hg hd
  go_enter Tryz.func15, Tryz.ntmps15
  go_upto_region 1 with (fail)
  refine code_fresh3 ?_
  intro W1 hb hA0 hA1 hA2 hs
  have S1 := Lib.hid (S0.out.new3 hb hA0 hA1 hA2)
  clear hb hA0 hA1 hA2 hs
  have h_d := (S1.out.at 0 rfl)
  obtain ⟨a0, a1⟩ := cells2 (S1.out.at 1 rfl)
  go_wp2_with (first | (refine wpList_load_row rfl 32 _ rfl _ rfl 32 _ (0, 0) _ h_d Tryz.underlying32 rfl (by kernel_rfl) ?_))
  refine (xrwalk_g _ l HD.out most room who fr path false hplpath _ W1 (S1.out.g 0 rfl)).mono ?_
  rintro e W2 ⟨rfl, hb⟩
  clear h_d a0 a1
  have S2 := Lib.hid (S1.out.call hb)
  clear hb
  obtain ⟨R, hR⟩ : ∃ R, R = walkL l who fr path false := ⟨_, rfl⟩
  rw [← hR]
  have HE := Lib.hid (mkfile_at (most := most) (room := room) (mode := mode) hR)
  clear hR
  obtain ⟨⟨sd, sn, si, ss⟩, n⟩ := R
  dsimp only at HE
  go_upto_region 2 with (fail)
  refine code_fresh1 ?_
  intro W3 hb hA0 hs
  have S3 := Lib.hid (S2.out.new1 hb hA0)
  clear hb hA0 hs
  by_cases h0 : n = 0
  · subst h0
    have HE2 := Lib.hid (HE.out.trans (if_neg (by simp)))
    clear HE
    cases ss with
    | false =>
      have HE3 := Lib.hid (HE2.out.trans (if_neg (fun h => by cases h.1)))
      clear HE2
      obtain ⟨-, -, t2, t3⟩ := cells4 (S3.out.at 3 rfl)
      have h_d := (S3.out.at 0 rfl)
      have h_a := (S3.out.at 1 rfl)
      have h_t := (S3.out.at 3 rfl)
      go_wp2_with (first | (refine wpList_load_row rfl 32 _ rfl _ rfl 32 _ (0, 0) _ h_d Tryz.underlying32 rfl (by kernel_rfl) ?_) | (refine wpList_load_row rfl 39 _ rfl _ rfl 39 _ (0, 0) _ h_a Tryz.underlying39 rfl (by kernel_rfl) ?_) | (refine wpList_load_row rfl 67 _ rfl _ rfl 67 _ (0, 0) _ h_t Tryz.underlying67 rfl (by kernel_rfl) ?_))
      rw [i64_and63 mode]
      refine (renter_g _ l most room who fr ⟨sd, sn, si, false⟩ (fileN mode) _ none _ 0 W3 S3.out.oldX (S3.out.g 0 rfl) HD.out (node_nil rfl) ⟨Nat.zero_le _, Nat.zero_le _⟩).mono ?_
      rintro e W4 ⟨ao3, cap3, rfl, hg3, hb⟩
      clear t2 t3 h_d h_a h_t
      have S4 := Lib.hid ((S3.out.call hb).addG hg3)
      clear hb hg3
      have h_r := (S4.out.at 2 rfl)
      go_wp2_with (first | (refine wpList_store_row rfl 32 _ _ rfl _ rfl rfl h_r rfl (by kernel_rfl) rfl ?_; intro W5 hb hg hs hn; have S5 := Lib.hid (S4.out.set 2 rfl hb hg hs hn); clear hb hg hs hn))
      refine bodyPost_ret (HRET.out _ _ _ (S5.out.at 2 rfl) rfl _ rfl) rfl ?_
      rw [HE3.out]
      exact ⟨_, _, rfl, S5.out.gX 1 rfl, S5.out.bel⟩
    | true =>
      by_cases hi : si < 0
      · have hI : decide (si < 0) = true := decide_eq_true hi
        have HE3 := Lib.hid (HE2.out.trans (if_pos ⟨rfl, hi⟩))
        clear HE2 hi
        obtain ⟨-, -, t2, t3⟩ := cells4 (S3.out.at 3 rfl)
        have h_r := (S3.out.at 2 rfl)
        have h_d := (S3.out.at 0 rfl)
        go_wp2_with (first | (refine wpList_load_row rfl 32 _ rfl _ rfl 32 _ (0, 0) _ h_d Tryz.underlying32 rfl (by kernel_rfl) ?_) | (refine wpList_store_row rfl 32 _ _ rfl _ rfl rfl h_r rfl (by kernel_rfl) rfl ?_; intro W4 hb hg hs hn; have S4 := Lib.hid (S3.out.set 2 rfl hb hg hs hn); clear hb hg hs hn))
        refine bodyPost_ret (HRET.out _ _ _ (S4.out.at 2 rfl) rfl _ rfl) rfl ?_
        rw [HE3.out]
        exact ⟨_, _, rfl, S4.out.gX 0 rfl, S4.out.bel⟩
      · have hI : decide (si < 0) = false := decide_eq_false hi
        have HE3 := Lib.hid (HE2.out.trans (if_neg fun h => hi h.2))
        clear HE2 hi
        obtain ⟨-, -, t2, t3⟩ := cells4 (S3.out.at 3 rfl)
        have h_d := (S3.out.at 0 rfl)
        have h_a := (S3.out.at 1 rfl)
        have h_t := (S3.out.at 3 rfl)
        go_wp2_with (first | (refine wpList_load_row rfl 32 _ rfl _ rfl 32 _ (0, 0) _ h_d Tryz.underlying32 rfl (by kernel_rfl) ?_) | (refine wpList_load_row rfl 39 _ rfl _ rfl 39 _ (0, 0) _ h_a Tryz.underlying39 rfl (by kernel_rfl) ?_) | (refine wpList_load_row rfl 67 _ rfl _ rfl 67 _ (0, 0) _ h_t Tryz.underlying67 rfl (by kernel_rfl) ?_))
        rw [i64_and63 mode]
        refine (renter_g _ l most room who fr ⟨sd, sn, si, true⟩ (fileN mode) _ none _ 0 W3 S3.out.oldX (S3.out.g 0 rfl) HD.out (node_nil rfl) ⟨Nat.zero_le _, Nat.zero_le _⟩).mono ?_
        rintro e W4 ⟨ao3, cap3, rfl, hg3, hb⟩
        clear t2 t3 h_d h_a h_t
        have S4 := Lib.hid ((S3.out.call hb).addG hg3)
        clear hb hg3
        have h_r := (S4.out.at 2 rfl)
        go_wp2_with (first | (refine wpList_store_row rfl 32 _ _ rfl _ rfl rfl h_r rfl (by kernel_rfl) rfl ?_; intro W5 hb hg hs hn; have S5 := Lib.hid (S4.out.set 2 rfl hb hg hs hn); clear hb hg hs hn))
        refine bodyPost_ret (HRET.out _ _ _ (S5.out.at 2 rfl) rfl _ rfl) rfl ?_
        rw [HE3.out]
        exact ⟨_, _, rfl, S5.out.gX 1 rfl, S5.out.bel⟩
  · have hI : (n != 0) = true := by simpa using h0
    have HE2 := Lib.hid (HE.out.trans (if_pos h0))
    clear HE h0
    have h_r := (S3.out.at 2 rfl)
    have h_d := (S3.out.at 0 rfl)
    go_wp2_with (first | (refine wpList_load_row rfl 32 _ rfl _ rfl 32 _ (0, 0) _ h_d Tryz.underlying32 rfl (by kernel_rfl) ?_) | (refine wpList_store_row rfl 32 _ _ rfl _ rfl rfl h_r rfl (by kernel_rfl) rfl ?_; intro W4 hb hg hs hn; have S4 := Lib.hid (S3.out.set 2 rfl hb hg hs hn); clear hb hg hs hn))
    refine bodyPost_ret (HRET.out _ _ _ (S4.out.at 2 rfl) rfl _ rfl) rfl ?_
    rw [HE2.out]
    exact ⟨_, _, rfl, S4.out.gX 0 rfl, S4.out.bel⟩
set_option maxRecDepth 100000 in
set_option maxHeartbeats 4000000 in
theorem rmkdir_g (X : Nat → Prop) (l : List NodeL) (most room who fr : Int) (path : Str) (mode : Int) (ao : Option Addr) (cap : Nat) (w : World) (hX : Old X w) (hg : GivesX X l (.slice ao l.length cap) w) (hd : Dsk l) (hplpath : path.length ≤ 10000) :
    Calls Tryz.prog 18 #[diskV ao l.length cap most room, asV who fr, .string (bs path), .int .i64 mode] w fun e w' => ChgIs X (mkdirL l most room who fr path mode) most room e w w' := by
  have S0 := Lib.hid (St.start (G := [(l, .slice ao l.length cap)]) (N := []) hX (one_g hg) no_n)
  have HD := Lib.hid hd
  have HRET : Hid (∀ (W : World) (cs : Array Value) (fr), W.heap[w.heap.size + 2]? = some (.cells cs 32 fr) → cs.size = 3 → ∀ tmps : Array Value, tmps.getD 8 undef = .pointer (some ⟨w.heap.size + 2, 0, none⟩) → (results Tryz.f18 tmps).run Tryz.prog W = .ok (.tuple #[.agg cs, tmps.getD 9 undef]) W) := Lib.hid fun W cs fr h hs tmps ht =>
  results_ct (p := 8) (u := 9) (ty := 32) rfl tmps W (w.heap.size + 2) _ cs fr _ ht h Tryz.underlying32 rfl (by rw [hs]; kernel_rfl)
  clear hX hg hd
  go_enter Tryz.func18, Tryz.ntmps18
  go_upto_region 1 with (fail)
  refine code_fresh3 ?_
  intro W1 hb hA0 hA1 hA2 hs
  have S1 := Lib.hid (S0.out.new3 hb hA0 hA1 hA2)
  clear hb hA0 hA1 hA2 hs
  have h_d := (S1.out.at 0 rfl)
  obtain ⟨a0, a1⟩ := cells2 (S1.out.at 1 rfl)
  go_wp2_with (first | (refine wpList_load_row rfl 32 _ rfl _ rfl 32 _ (0, 0) _ h_d Tryz.underlying32 rfl (by kernel_rfl) ?_))
  refine (xrwalk_g _ l HD.out most room who fr path false hplpath _ W1 (S1.out.g 0 rfl)).mono ?_
  rintro e W2 ⟨rfl, hb⟩
  clear h_d a0 a1
  have S2 := Lib.hid (S1.out.call hb)
  clear hb
  obtain ⟨R, hR⟩ : ∃ R, R = walkL l who fr path false := ⟨_, rfl⟩
  rw [← hR]
  have HE := Lib.hid (mkdir_at (most := most) (room := room) (mode := mode) hR)
  clear hR
  obtain ⟨⟨sd, sn, si, ss⟩, n⟩ := R
  dsimp only at HE
  go_upto_region 2 with (fail)
  refine code_fresh1 ?_
  intro W3 hb hA0 hs
  have S3 := Lib.hid (S2.out.new1 hb hA0)
  clear hb hA0 hs
  by_cases h0 : n = 0
  · subst h0
    have HE2 := Lib.hid (HE.out.trans (if_neg (by simp)))
    clear HE
    have h_d := (S3.out.at 0 rfl)
    have h_a := (S3.out.at 1 rfl)
    have h_t := (S3.out.at 3 rfl)
    obtain ⟨t0, -, -, -⟩ := cells4 (S3.out.at 3 rfl)
    go_wp2_with (first | (refine wpList_load_row rfl 32 _ rfl _ rfl 32 _ (0, 0) _ h_d Tryz.underlying32 rfl (by kernel_rfl) ?_) | (refine wpList_load_row rfl 39 _ rfl _ rfl 39 _ (0, 0) _ h_a Tryz.underlying39 rfl (by kernel_rfl) ?_) | (refine wpList_load_row rfl 67 _ rfl _ rfl 67 _ (0, 0) _ h_t Tryz.underlying67 rfl (by kernel_rfl) ?_))
    rw [i64_and63 mode]
    refine (renter_g _ l most room who fr ⟨sd, sn, si, ss⟩ (dirN mode sd) _ none _ 0 W3 S3.out.oldX (S3.out.g 0 rfl) HD.out (node_nil rfl) ⟨Nat.zero_le _, Nat.zero_le _⟩).mono ?_
    rintro e W4 ⟨ao3, cap3, rfl, hg3, hb⟩
    clear h_d h_a h_t t0
    have S4 := Lib.hid ((S3.out.call hb).addG hg3)
    clear hb hg3
    go_upto_region 5 with (fail)
    refine code_fresh1 ?_
    intro W5 hb hA0 hs
    have S5 := Lib.hid (S4.out.new1 hb hA0)
    clear hb hA0 hs
    have h_r := (S5.out.at 2 rfl)
    have h_e := (S5.out.at 4 rfl)
    go_wp2_with (first | (refine wpList_load_row rfl 32 _ rfl _ rfl 32 _ (0, 0) _ h_e Tryz.underlying32 rfl (by kernel_rfl) ?_) | (refine wpList_store_row rfl 32 _ _ rfl _ rfl rfl h_r rfl (by kernel_rfl) rfl ?_; intro W6 hb hg hs hn; have S6 := Lib.hid (S5.out.set 2 rfl hb hg hs hn); clear hb hg hs hn))
    refine bodyPost_ret (HRET.out _ _ _ (S6.out.at 2 rfl) rfl _ rfl) rfl ?_
    rw [HE2.out]
    exact ⟨_, _, rfl, S6.out.gX 1 rfl, S6.out.bel⟩
  · have hI : (n != 0) = true := by simpa using h0
    have HE2 := Lib.hid (HE.out.trans (if_pos h0))
    clear HE h0
    have h_r := (S3.out.at 2 rfl)
    have h_d := (S3.out.at 0 rfl)
    go_wp2_with (first | (refine wpList_load_row rfl 32 _ rfl _ rfl 32 _ (0, 0) _ h_d Tryz.underlying32 rfl (by kernel_rfl) ?_) | (refine wpList_store_row rfl 32 _ _ rfl _ rfl rfl h_r rfl (by kernel_rfl) rfl ?_; intro W4 hb hg hs hn; have S4 := Lib.hid (S3.out.set 2 rfl hb hg hs hn); clear hb hg hs hn))
    refine bodyPost_ret (HRET.out _ _ _ (S4.out.at 2 rfl) rfl _ rfl) rfl ?_
    rw [HE2.out]
    exact ⟨_, _, rfl, S4.out.gX 0 rfl, S4.out.bel⟩
set_option maxRecDepth 100000 in
set_option maxHeartbeats 4000000 in
theorem rsymlink_g (X : Nat → Prop) (l : List NodeL) (most room who fr : Int) (text path : Str) (ao : Option Addr) (cap : Nat) (w : World) (hX : Old X w) (hg : GivesX X l (.slice ao l.length cap) w) (hd : Dsk l) (hplpath : path.length ≤ 10000) :
    Calls Tryz.prog 20 #[diskV ao l.length cap most room, asV who fr, .string (bs text), .string (bs path)] w fun e w' => ChgIs X (symlinkL l most room who fr text path) most room e w w' := by
  have S0 := Lib.hid (St.start (G := [(l, .slice ao l.length cap)]) (N := []) hX (one_g hg) no_n)
  have HD := Lib.hid hd
  have HRET : Hid (∀ (W : World) (cs : Array Value) (fr), W.heap[w.heap.size + 2]? = some (.cells cs 32 fr) → cs.size = 3 → ∀ tmps : Array Value, tmps.getD 8 undef = .pointer (some ⟨w.heap.size + 2, 0, none⟩) → (results Tryz.f20 tmps).run Tryz.prog W = .ok (.tuple #[.agg cs, tmps.getD 9 undef]) W) := Lib.hid fun W cs fr h hs tmps ht =>
  results_ct (p := 8) (u := 9) (ty := 32) rfl tmps W (w.heap.size + 2) _ cs fr _ ht h Tryz.underlying32 rfl (by rw [hs]; kernel_rfl)
  clear hX hg hd
  by_cases t0 : text = []
  · have hI : (text == []) = true := by simpa using t0
    have HE : Hid (symlinkL l most room who fr text path = (l, 2)) := Lib.hid (by unfold symlinkL; rw [if_pos t0])
    clear t0
    go_enter Tryz.func20, Tryz.ntmps20
    go_upto_region 1 with (fail)
    refine code_fresh3 ?_
    intro W1 hb hA0 hA1 hA2 hs
    have S1 := Lib.hid (S0.out.new3 hb hA0 hA1 hA2)
    clear hb hA0 hA1 hA2 hs
    have h_r := (S1.out.at 2 rfl)
    have h_d := (S1.out.at 0 rfl)
    go_wp2_with (first | (refine wpList_load_row rfl 32 _ rfl _ rfl 32 _ (0, 0) _ h_d Tryz.underlying32 rfl (by kernel_rfl) ?_) | (refine wpList_store_row rfl 32 _ _ rfl _ rfl rfl h_r rfl (by kernel_rfl) rfl ?_; intro W2 hb hg hs hn; have S2 := Lib.hid (S1.out.set 2 rfl hb hg hs hn); clear hb hg hs hn))
    refine bodyPost_ret (HRET.out _ _ _ (S2.out.at 2 rfl) rfl _ rfl) rfl ?_
    rw [HE.out]
    exact ⟨_, _, rfl, S2.out.gX 0 rfl, S2.out.bel⟩
  have hI : (text == []) = false := by simpa using t0
  by_cases t1 : 100 < text.length
  · have hJ : decide ((100 : Int) < (text.length : Int)) = true := decide_eq_true (by omega)
    have HE : Hid (symlinkL l most room who fr text path = (l, 9)) := Lib.hid (by unfold symlinkL; rw [if_neg t0, if_pos t1])
    clear t0 t1
    go_enter Tryz.func20, Tryz.ntmps20
    go_upto_region 1 with (fail)
    refine code_fresh3 ?_
    intro W1 hb hA0 hA1 hA2 hs
    have S1 := Lib.hid (S0.out.new3 hb hA0 hA1 hA2)
    clear hb hA0 hA1 hA2 hs
    have h_r := (S1.out.at 2 rfl)
    have h_d := (S1.out.at 0 rfl)
    go_wp2_with (first | (refine wpList_load_row rfl 32 _ rfl _ rfl 32 _ (0, 0) _ h_d Tryz.underlying32 rfl (by kernel_rfl) ?_) | (refine wpList_store_row rfl 32 _ _ rfl _ rfl rfl h_r rfl (by kernel_rfl) rfl ?_; intro W2 hb hg hs hn; have S2 := Lib.hid (S1.out.set 2 rfl hb hg hs hn); clear hb hg hs hn))
    refine bodyPost_ret (HRET.out _ _ _ (S2.out.at 2 rfl) rfl _ rfl) rfl ?_
    rw [HE.out]
    exact ⟨_, _, rfl, S2.out.gX 0 rfl, S2.out.bel⟩
  have hJ : decide ((100 : Int) < (text.length : Int)) = false := decide_eq_false (by omega)
  have HT : Hid (text ≠ [] ∧ ¬ 100 < text.length) := Lib.hid ⟨t0, t1⟩
  clear t0 t1
  go_enter Tryz.func20, Tryz.ntmps20
  go_upto_region 1 with (fail)
  refine code_fresh3 ?_
  intro W1 hb hA0 hA1 hA2 hs
  have S1 := Lib.hid (S0.out.new3 hb hA0 hA1 hA2)
  clear hb hA0 hA1 hA2 hs
  have h_d := (S1.out.at 0 rfl)
  obtain ⟨a0, a1⟩ := cells2 (S1.out.at 1 rfl)
  go_wp2_with (first | (refine wpList_load_row rfl 32 _ rfl _ rfl 32 _ (0, 0) _ h_d Tryz.underlying32 rfl (by kernel_rfl) ?_))
  refine (xrwalk_g _ l HD.out most room who fr path false hplpath _ W1 (S1.out.g 0 rfl)).mono ?_
  rintro e W2 ⟨rfl, hb⟩
  clear h_d a0 a1
  have S2 := Lib.hid (S1.out.call hb)
  clear hb
  obtain ⟨R, hR⟩ : ∃ R, R = walkL l who fr path false := ⟨_, rfl⟩
  rw [← hR]
  have HE := Lib.hid ((fun hR => symlink_at (most := most) (room := room) hR HT.out.1 HT.out.2) hR)
  clear hR
  obtain ⟨⟨sd, sn, si, ss⟩, n⟩ := R
  dsimp only at HE
  go_upto_region 6 with (fail)
  refine code_fresh1 ?_
  intro W3 hb hA0 hs
  have S3 := Lib.hid (S2.out.new1 hb hA0)
  clear hb hA0 hs
  by_cases h0 : n = 0
  · subst h0
    have HE2 := Lib.hid (HE.out.trans (if_neg (by simp)))
    clear HE
    cases ss with
    | false =>
      have HE3 := Lib.hid (HE2.out.trans (if_neg (fun h => by cases h.1)))
      clear HE2
      obtain ⟨-, -, t2, t3⟩ := cells4 (S3.out.at 3 rfl)
      have h_d := (S3.out.at 0 rfl)
      have h_a := (S3.out.at 1 rfl)
      have h_t := (S3.out.at 3 rfl)
      go_wp2_with (first | (refine wpList_load_row rfl 32 _ rfl _ rfl 32 _ (0, 0) _ h_d Tryz.underlying32 rfl (by kernel_rfl) ?_) | (refine wpList_load_row rfl 39 _ rfl _ rfl 39 _ (0, 0) _ h_a Tryz.underlying39 rfl (by kernel_rfl) ?_) | (refine wpList_load_row rfl 67 _ rfl _ rfl 67 _ (0, 0) _ h_t Tryz.underlying67 rfl (by kernel_rfl) ?_))
      refine (renter_g _ l most room who fr ⟨sd, sn, si, false⟩ (linkN text) _ none _ 0 W3 S3.out.oldX (S3.out.g 0 rfl) HD.out (node_nil rfl) ⟨(by have := HT.out.2; show text.length ≤ 300; omega), Nat.zero_le _⟩).mono ?_
      rintro e W4 ⟨ao3, cap3, rfl, hg3, hb⟩
      clear t2 t3 h_d h_a h_t
      have S4 := Lib.hid ((S3.out.call hb).addG hg3)
      clear hb hg3
      go_upto_region 11 with (fail)
      refine code_fresh1 ?_
      intro W5 hb hA0 hs
      have S5 := Lib.hid (S4.out.new1 hb hA0)
      clear hb hA0 hs
      have h_r := (S5.out.at 2 rfl)
      have h_e := (S5.out.at 4 rfl)
      go_wp2_with (first | (refine wpList_load_row rfl 32 _ rfl _ rfl 32 _ (0, 0) _ h_e Tryz.underlying32 rfl (by kernel_rfl) ?_) | (refine wpList_store_row rfl 32 _ _ rfl _ rfl rfl h_r rfl (by kernel_rfl) rfl ?_; intro W6 hb hg hs hn; have S6 := Lib.hid (S5.out.set 2 rfl hb hg hs hn); clear hb hg hs hn))
      refine bodyPost_ret (HRET.out _ _ _ (S6.out.at 2 rfl) rfl _ rfl) rfl ?_
      rw [HE3.out]
      exact ⟨_, _, rfl, S6.out.gX 1 rfl, S6.out.bel⟩
    | true =>
      by_cases hi : si < 0
      · have hI : decide (si < 0) = true := decide_eq_true hi
        have HE3 := Lib.hid (HE2.out.trans (if_pos ⟨rfl, hi⟩))
        clear HE2 hi
        obtain ⟨-, -, t2, t3⟩ := cells4 (S3.out.at 3 rfl)
        have h_r := (S3.out.at 2 rfl)
        have h_d := (S3.out.at 0 rfl)
        go_wp2_with (first | (refine wpList_load_row rfl 32 _ rfl _ rfl 32 _ (0, 0) _ h_d Tryz.underlying32 rfl (by kernel_rfl) ?_) | (refine wpList_store_row rfl 32 _ _ rfl _ rfl rfl h_r rfl (by kernel_rfl) rfl ?_; intro W4 hb hg hs hn; have S4 := Lib.hid (S3.out.set 2 rfl hb hg hs hn); clear hb hg hs hn))
        refine bodyPost_ret (HRET.out _ _ _ (S4.out.at 2 rfl) rfl _ rfl) rfl ?_
        rw [HE3.out]
        exact ⟨_, _, rfl, S4.out.gX 0 rfl, S4.out.bel⟩
      · have hI : decide (si < 0) = false := decide_eq_false hi
        have HE3 := Lib.hid (HE2.out.trans (if_neg fun h => hi h.2))
        clear HE2 hi
        obtain ⟨-, -, t2, t3⟩ := cells4 (S3.out.at 3 rfl)
        have h_d := (S3.out.at 0 rfl)
        have h_a := (S3.out.at 1 rfl)
        have h_t := (S3.out.at 3 rfl)
        go_wp2_with (first | (refine wpList_load_row rfl 32 _ rfl _ rfl 32 _ (0, 0) _ h_d Tryz.underlying32 rfl (by kernel_rfl) ?_) | (refine wpList_load_row rfl 39 _ rfl _ rfl 39 _ (0, 0) _ h_a Tryz.underlying39 rfl (by kernel_rfl) ?_) | (refine wpList_load_row rfl 67 _ rfl _ rfl 67 _ (0, 0) _ h_t Tryz.underlying67 rfl (by kernel_rfl) ?_))
        refine (renter_g _ l most room who fr ⟨sd, sn, si, true⟩ (linkN text) _ none _ 0 W3 S3.out.oldX (S3.out.g 0 rfl) HD.out (node_nil rfl) ⟨(by have := HT.out.2; show text.length ≤ 300; omega), Nat.zero_le _⟩).mono ?_
        rintro e W4 ⟨ao3, cap3, rfl, hg3, hb⟩
        clear t2 t3 h_d h_a h_t
        have S4 := Lib.hid ((S3.out.call hb).addG hg3)
        clear hb hg3
        go_upto_region 11 with (fail)
        refine code_fresh1 ?_
        intro W5 hb hA0 hs
        have S5 := Lib.hid (S4.out.new1 hb hA0)
        clear hb hA0 hs
        have h_r := (S5.out.at 2 rfl)
        have h_e := (S5.out.at 4 rfl)
        go_wp2_with (first | (refine wpList_load_row rfl 32 _ rfl _ rfl 32 _ (0, 0) _ h_e Tryz.underlying32 rfl (by kernel_rfl) ?_) | (refine wpList_store_row rfl 32 _ _ rfl _ rfl rfl h_r rfl (by kernel_rfl) rfl ?_; intro W6 hb hg hs hn; have S6 := Lib.hid (S5.out.set 2 rfl hb hg hs hn); clear hb hg hs hn))
        refine bodyPost_ret (HRET.out _ _ _ (S6.out.at 2 rfl) rfl _ rfl) rfl ?_
        rw [HE3.out]
        exact ⟨_, _, rfl, S6.out.gX 1 rfl, S6.out.bel⟩
  · have hI : (n != 0) = true := by simpa using h0
    have HE2 := Lib.hid (HE.out.trans (if_pos h0))
    clear HE h0
    have h_r := (S3.out.at 2 rfl)
    have h_d := (S3.out.at 0 rfl)
    go_wp2_with (first | (refine wpList_load_row rfl 32 _ rfl _ rfl 32 _ (0, 0) _ h_d Tryz.underlying32 rfl (by kernel_rfl) ?_) | (refine wpList_store_row rfl 32 _ _ rfl _ rfl rfl h_r rfl (by kernel_rfl) rfl ?_; intro W4 hb hg hs hn; have S4 := Lib.hid (S3.out.set 2 rfl hb hg hs hn); clear hb hg hs hn))
    refine bodyPost_ret (HRET.out _ _ _ (S4.out.at 2 rfl) rfl _ rfl) rfl ?_
    rw [HE2.out]
    exact ⟨_, _, rfl, S4.out.gX 0 rfl, S4.out.bel⟩
end Go.Proofs.YtpmhmippoefcfaaGreatDoor
namespace Go.Proofs.YtpmhmippoefcfaaGreatDoor
open Go.RowKit Go.Shelf
attribute [local go_sem ↓] Go.wp_at_zero Go.wp_at_succ
set_option maxRecDepth 100000 in
set_option maxHeartbeats 4000000 in
theorem as_any (who fr : Int) (w : World) : Calls Tryz.prog 16 #[asV who fr] w fun e w' => e = .returned (asV who fr) ∧ Below w.heap.size w w' := by
  have S0 := Lib.hid (St.start (X := fun _ => False) (G := []) (N := []) (w := w) (fun _ h => h.elim) (fun _ h => by cases h) (fun _ h => by cases h))
  have HRET : Hid (∀ (W : World) (cs : Array Value) (fr), W.heap[w.heap.size + 1]? = some (.cells cs 39 fr) → cs.size = 2 → ∀ tmps : Array Value, tmps.getD 2 undef = .pointer (some ⟨w.heap.size + 1, 0, none⟩) → (results Tryz.f16 tmps).run Tryz.prog W = .ok (.agg cs) W) := Lib.hid fun W cs fr h hs tmps ht =>
  results_cell_row (p := 2)  (ty := 39) rfl tmps W (w.heap.size + 1) _ cs fr _ ht h Tryz.underlying39 rfl (by rw [hs]; kernel_rfl)
  go_enter Tryz.func16, Tryz.ntmps16
  go_upto_region 1 with (fail)
  refine code_fresh2 ?_
  intro W1 hb hA0 hA1 hs
  have S1 := Lib.hid (S0.out.new2 hb hA0 hA1)
  clear hb hA0 hA1 hs
  have h_r := (S1.out.at 1 rfl)
  have h_a := (S1.out.at 0 rfl)
  go_wp2_with (first | (refine wpList_load_row rfl 26 _ rfl _ rfl 26 _ (0, 0) _ h_a Tryz.underlying26 rfl (by kernel_rfl) ?_) | (refine wpList_store_row rfl 39 _ _ rfl _ rfl rfl h_r rfl (by kernel_rfl) rfl ?_; intro W2 hb hg hs hn; have S2 := Lib.hid (S1.out.set 1 rfl hb hg hs hn); clear hb hg hs hn))
  refine bodyPost_ret (HRET.out _ _ _ (S2.out.at 1 rfl) rfl _ rfl) rfl ?_
  exact ⟨rfl, S2.out.bel⟩
end Go.Proofs.YtpmhmippoefcfaaGreatDoor
namespace Go.Proofs.YtpmhmippoefcfaaGreatDoor
open Go.RowKit Go.Shelf
section
variable {l : List NodeL} {most room : Int} (h : rightQ l most room = true) (who fr : Int) (path : Str)
include h
theorem q_aft : Aft l most room := ⟨q_right h, q_dsk h⟩
theorem aft_mkfile (mode : Int) : Aft (mkfileL l most room who fr path mode).1 most room := aft_of (right_mkfile (q_right h) who fr path mode) (siz_mkfile (q_siz h) most room who fr path mode)
theorem aft_mkdir (mode : Int) : Aft (mkdirL l most room who fr path mode).1 most room := aft_of (right_mkdir (q_right h) who fr path mode) (siz_mkdir (q_siz h) most room who fr path mode)
theorem aft_symlink (text : Str) : Aft (symlinkL l most room who fr text path).1 most room := aft_of (right_symlink (q_right h) who fr path text) (siz_symlink (q_siz h) most room who fr path text)
end
end Go.Proofs.YtpmhmippoefcfaaGreatDoor
namespace Go.Proofs.YtpmhmippoefcfaaGreatDoor
open Go.RowKit Go.Shelf
attribute [local go_sem ↓] Go.wp_at_zero Go.wp_at_succ
theorem symlink_eq {l : List NodeL} (hd : Dsk l) (most room who fr : Int) {text : Str} (path : Str) (h1 : text ≠ []) (h2 : ¬ 100 < text.length) :
    symlinkL l most room who fr text path = ((penterL l most room who path (walkL l who fr path false) (linkN text)).1, (penterL l most room who path (walkL l who fr path false) (linkN text)).2.2) := by
  unfold symlinkL
  rw [if_neg h1, if_neg h2]
  by_cases h0 : (walkL l who fr path false).2 = 0
  · rw [if_neg (by simp [h0]), penter_enter hd h0 (m := linkN text) rfl]
    by_cases h3 : (walkL l who fr path false).1.slash = true ∧ (walkL l who fr path false).1.ino < 0
    · rw [if_pos h3, if_neg (fun h => absurd (show (3 : Int) = 1 from h.1) (by decide)), if_pos ⟨rfl, h3⟩]
    · rw [if_neg h3, if_neg (fun h => absurd (show (3 : Int) = 1 from h.1) (by decide)), if_neg (fun h => h3 h.2)]
  · rw [if_pos h0, penter_bad h0]
end Go.Proofs.YtpmhmippoefcfaaGreatDoor
