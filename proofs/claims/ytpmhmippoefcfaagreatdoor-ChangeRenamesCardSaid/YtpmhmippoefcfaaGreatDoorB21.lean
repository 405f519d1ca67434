/-
  The program's Make, Mkdir, Symlink. The program's Symlink, Unlink, Rmdir. The program's Chmod. The program's Link.
-/
import Derived.RangeFuncNested
import Derived.RangeFuncBound
import Derived.RangeFuncCalls
import Derived.RangeFuncLeaves
import Derived.RangeFuncBox
import Derived.Shelf.Abstract
import Derived.Shelf.RegionOpen
import Derived.WalkKit
import Derived.OwnWalkIn
import Derived.TacticsInMore
import Derived.LoopNIn
import Derived.LoopIn
import Derived.Lib.Hide
import Derived.Outline
import Derived.Deep.QuietTactic
import Derived.Deep.AppendLies
import Derived.BigQuiet
import Derived.Lib.Strings
import Derived.WalkSmall
import Derived.Shelf.Small.Strs
import Derived.Shelf.Strings.Search1
import Derived.Shelf.Strings.Prefix
import Derived.Laws.AppendOwn
import Derived.Laws.OwnMore
import Derived.Laws.AppendOwnNone
import Derived.WideShapes
import Derived.Lib.TrimByte
import Derived.Lib.Bytealg
import Derived.Lib.QuietBelow
import Derived.Deep.DrawnRows
import Derived.Laws.Cover1
import Derived.WalkMore
import Derived.Shelf.Spec.SlicesGrow
import Derived.StillTailTactics
import Derived.Laws.BitsLemmas
import Derived.Laws.RangeAny
import Derived.Laws.Runes
import Derived.Lib.Builder
import Derived.Deep.WholeRow
import Derived.Lib.OthersKept
import Derived.Shelf.SlSorted.Search
import Derived.LaidEql
import Derived.Stop.Asserts
import Derived.RowKitTokens
import Derived.Deep.RegionHeld3
import Derived.Deep.RegionLaw
import Derived.Handy
import Derived.Laws.IdiomCopy
import Derived.Lib.SliceRun
import Derived.Laws.ResultCell
import Derived.Deep.LoopGhost
import Derived.Deep.DeepCutAuto
import Derived.Deep.MidRow
import Derived.BigRegion
import Derived.Test.YtpmhmippoefcfaaGreatDoorProg
import Derived.Test.YtpmhmippoefcfaaGreatDoorShelf
import Derived.Test.YtpmhmippoefcfaaGreatDoorB01
import Derived.Test.YtpmhmippoefcfaaGreatDoorB02
import Derived.Test.YtpmhmippoefcfaaGreatDoorB04
import Derived.Test.YtpmhmippoefcfaaGreatDoorB05
import Derived.Test.YtpmhmippoefcfaaGreatDoorB06
import Derived.Test.YtpmhmippoefcfaaGreatDoorB07
import Derived.Test.YtpmhmippoefcfaaGreatDoorB08
import Derived.Test.YtpmhmippoefcfaaGreatDoorB09
import Derived.Test.YtpmhmippoefcfaaGreatDoorB10
import Derived.Test.YtpmhmippoefcfaaGreatDoorB12
import Derived.Test.YtpmhmippoefcfaaGreatDoorB13
import Derived.Test.YtpmhmippoefcfaaGreatDoorB14
import Derived.Test.YtpmhmippoefcfaaGreatDoorB16
import Derived.Test.YtpmhmippoefcfaaGreatDoorB17
import Derived.Test.YtpmhmippoefcfaaGreatDoorB18
import Derived.Test.YtpmhmippoefcfaaGreatDoorB19
import Derived.Test.YtpmhmippoefcfaaGreatDoorB20
namespace Go.Proofs.YtpmhmippoefcfaaGreatDoor
open Go.RowKit Go.Shelf
attribute [local go_sem ↓] Go.wp_at_zero Go.wp_at_succ
theorem to_enter_at {l : List NodeL} (hd : Dsk l) {who fr : Int} {path : Str} (h0 : (walkL l who fr path false).2 = 0) (k : Int) : toEnterE (placeOf l who path (walkL l who fr path false)) k =
    if k = 1 ∧ (walkL l who fr path false).1.slash = true ∧ (walkL l who fr path false).1.ino < 0 then 5 else if k = 3 ∧ (walkL l who fr path false).1.slash = true ∧ (walkL l who fr path false).1.ino < 0 then 4 else freeE l who (walkL l who fr path false).1 := by
  have hi := ino_there hd h0
  unfold placeOf
  rw [if_neg (by simp [h0])]
  unfold toEnterE freeE writesL
  dsimp only
  rw [hi]
  generalize (walkL l who fr path false).1 = s
  by_cases hn : s.ino < 0
  · have h1 : ¬ 0 ≤ s.ino := by omega
    simp [hn, h1]
  · have h1 : 0 ≤ s.ino := by omega
    simp [hn, h1]
theorem penter_enter {l : List NodeL} (hd : Dsk l) {most room who fr : Int} {path : Str} {n m : NodeL} (h0 : (walkL l who fr path false).2 = 0) (hm : penN n who (walkL l who fr path false).1.dir = ownN m who) :
    penterL l most room who path (walkL l who fr path false) n =
    if n.kind = 1 ∧ (walkL l who fr path false).1.slash = true ∧ (walkL l who fr path false).1.ino < 0 then (l, 0, 5) else if n.kind = 3 ∧ (walkL l who fr path false).1.slash = true ∧ (walkL l who fr path false).1.ino < 0 then (l, 0, 4) else enterL l most room who (walkL l who fr path false).1 m := by
  unfold penterL
  rw [if_neg (by simp [h0]), to_enter_at hd h0, hm]
  split
  · rw [if_pos (by decide)]
  · split
    · rw [if_pos (by decide)]
    · rfl
theorem penter_bad {l : List NodeL} {most room who fr : Int} {path : Str} {n : NodeL} (h0 : (walkL l who fr path false).2 ≠ 0) : penterL l most room who path (walkL l who fr path false) n = (l, 0, (walkL l who fr path false).2) := by
  unfold penterL
  rw [if_pos h0]
theorem make_eq {l : List NodeL} (hd : Dsk l) (most room who fr : Int) (path : Str) (mode : Int) : mkfileL l most room who fr path mode = penterL l most room who path (walkL l who fr path false) (fileN mode) := by
  unfold mkfileL
  by_cases h0 : (walkL l who fr path false).2 = 0
  · rw [if_neg (by simp [h0]), penter_enter hd h0 (m := fileN mode) rfl]
    by_cases h1 : (walkL l who fr path false).1.slash = true ∧ (walkL l who fr path false).1.ino < 0
    · rw [if_pos h1, if_pos ⟨rfl, h1⟩]
    · rw [if_neg h1, if_neg (fun h => h1 h.2), if_neg (fun h => absurd (show (1 : Int) = 3 from h.1) (by decide))]
  · rw [if_pos h0, penter_bad h0]
def dir0 (mode : Int) : NodeL := ⟨2, mode % 64, 0, 0, 0, 0, [], []⟩
theorem mkdir_eq {l : List NodeL} (hd : Dsk l) (most room who fr : Int) (path : Str) (mode : Int) : mkdirL l most room who fr path mode = ((penterL l most room who path (walkL l who fr path false) (dir0 mode)).1, (penterL l most room who path (walkL l who fr path false) (dir0 mode)).2.2) := by
  unfold mkdirL
  by_cases h0 : (walkL l who fr path false).2 = 0
  · rw [if_neg (by simp [h0]), penter_enter hd h0 (n := dir0 mode) (m := dirN mode (walkL l who fr path false).1.dir) rfl]
    rw [if_neg (fun h => absurd (show (2 : Int) = 1 from h.1) (by decide)), if_neg (fun h => absurd (show (2 : Int) = 3 from h.1) (by decide))]
  · rw [if_pos h0, penter_bad h0]
theorem six_below (m : Int) (w : World) : Calls Tryz.prog 44 #[.int .i64 m] w fun e w' => e = .returned (.int .i64 (m % 64)) ∧ Below w.heap.size w w' := by
  refine (six_any m w).mono ?_
  rintro e w' ⟨h, rfl⟩
  exact ⟨h, Below.refl _ _⟩
set_option maxRecDepth 100000 in
set_option maxHeartbeats 4000000 in
theorem pmake_g (X : Nat → Prop) {S : Nat → Addr} (l : List NodeL) (most room who fr : Int) (path : Str) (mode : Int) (ao : Option Addr) (cap : Nat) (w : World) (hX : Old X w) (hg : GivesX X l (.slice ao l.length cap) w) (hd : Dsk l) (hplpath : path.length ≤ 10000) (hs : Sent S w) :
    Calls Tryz.prog 14 #[diskV ao l.length cap most room, asV who fr, .string (bs path), .int .i64 mode] w fun e w' => MakIs X (mkfileL l most room who fr path mode) most room e w w' := by
  have S0 := Lib.hid (St.start (G := [(l, .slice ao l.length cap)]) (N := []) hX (one_g hg) no_n)
  have HD := Lib.hid hd
  have HS := Lib.hid hs
  have HRET : Hid (∀ (W : World) (cs : Array Value) (fr), W.heap[w.heap.size + 2]? = some (.cells cs 24 fr) → cs.size = 3 → ∀ tmps : Array Value, tmps.getD 8 undef = .pointer (some ⟨w.heap.size + 2, 0, none⟩) → (results Tryz.f14 tmps).run Tryz.prog W = .ok (.tuple #[.agg cs, tmps.getD 9 undef, tmps.getD 10 undef]) W) := Lib.hid fun W cs fr h hs tmps ht =>
  results_ctt (p := 8) (u := 9) (v := 10) (ty := 24) rfl tmps W (w.heap.size + 2) _ cs fr _ ht h Tryz.underlying24 rfl (by rw [hs]; kernel_rfl)
  clear hX hg hd hs
  go_enter Tryz.func14, Tryz.ntmps14
  go_upto_region 1 with (fail)
  refine code_fresh3 ?_
  intro W1 hb hA0 hA1 hA2 hs
  have S1 := Lib.hid (S0.out.new3 hb hA0 hA1 hA2)
  clear hb hA0 hA1 hA2 hs
  go_upto_region 1 with (fail)
  have h_d := (S1.out.at 0 rfl)
  have h_a := (S1.out.at 1 rfl)
  refine wp_region_held_drew (S := fun W => W.heap[w.heap.size]? = some (.cells #[.slice ao l.length cap, .int .i64 most, .int .i64 room] 24 (0, 0)) ∧ W.heap[w.heap.size + 1]? = some (.cells #[.int .i64 who, .int .i64 fr] 26 (0, 0)) ∧ True) (by kernel_rfl) ⟨(S1.out.at 0 rfl), (S1.out.at 1 rfl), trivial⟩ (fun hHeld => ?_)
  clear h_d h_a
  have S2 := Lib.hid (S1.out.call (Below.refl W1.heap.size W1).drew)
  generalize W1.drew = W2 at *
  refine wpAnyH_take (i := 0) rfl (by kernel_rfl) (by kernel_rfl) (by kernel_rfl) (fun _ _ _ h => h) (yieldsIf_load_row (by rfl) 24 _ rfl _ rfl 24 _ (0, 0) _ (fun _ h => h.1) Tryz.underlying24 rfl (by kernel_rfl)) hHeld ?_
  (try simp only [pt, Act.put])
  refine wpAnyH_take (i := 1) rfl (by kernel_rfl) (by kernel_rfl) (by kernel_rfl) (fun _ _ _ h => h) (yieldsIf_load_row (by rfl) 26 _ rfl _ rfl 26 _ (0, 0) _ (fun _ h => h.2.1) Tryz.underlying26 rfl (by kernel_rfl)) hHeld ?_
  (try simp only [pt, Act.put])
  refine wpAnyH_take (i := 2) (v := ?v1) rfl (by kernel_rfl) (by kernel_rfl) (by kernel_rfl) (fun _ _ _ h => h) (Or.inl ⟨by rfl, ?hy1⟩) hHeld ?rest1
  case hy1 => (intro w hSw; (try dsimp only at hSw); (try go_split_ands); go_simp; first | done | with_reducible rfl)
  (try simp only [pt, Act.put])
  refine wpAnyH_take (i := 3) (v := ?v2) rfl (by kernel_rfl) (by kernel_rfl) (by kernel_rfl) (fun _ _ _ h => h) (Or.inl ⟨by rfl, ?hy2⟩) hHeld ?rest2
  case hy2 => (intro w hSw; (try dsimp only at hSw); (try go_split_ands); go_simp; first | done | with_reducible rfl)
  (try simp only [pt, Act.put])
  refine wpAnyH_ready (rs := [4]) (by kernel_rfl) (by simp) ?_
  refine AllReadyH.cons rfl (fun K hK => ?_) AllReadyH.nil
  go_simp
  refine (six_below mode W2).mono ?_
  rintro e W3 ⟨rfl, hb⟩
  have S3 := Lib.hid (S2.out.call hb)
  clear hb hHeld
  go_wp2_with fail
  refine hK.out _ _ ⟨(S3.out.at 0 rfl), (S3.out.at 1 rfl), trivial⟩ (fun hHeld => ?_)
  clear hK K
  (try simp only [pt, Act.put])
  refine wpAnyH_take (i := 5) (v := ?v3) rfl (by kernel_rfl) (by kernel_rfl) (by kernel_rfl) (fun _ _ _ h => h) (Or.inl ⟨by rfl, ?hy3⟩) hHeld ?rest3
  case hy3 => (intro w hSw; (try dsimp only at hSw); (try go_split_ands); go_simp; first | done | with_reducible rfl)
  (try simp only [pt, Act.put])
  refine wpAnyH_ready (rs := [6]) (by kernel_rfl) (by simp) ?_
  refine AllReadyH.cons rfl (fun K hK => ?_) AllReadyH.nil
  go_simp
  refine (penter_g (m := fileN mode) _ l most room who fr path _ _ _ _ W3 S3.out.oldX (S3.out.g 0 rfl) HD.out hplpath (HS.out.keep S3.out.bel) (node_nil rfl) ⟨Nat.zero_le _, Nat.zero_le _⟩ List.Pairwise.nil (.inl rfl)).mono ?_
  rintro e W4 ⟨ao1, cp1, rfl, hg1, hb⟩
  have S4 := Lib.hid ((S3.out.call hb).addG hg1)
  clear hb hHeld hg1
  go_wp2_with fail
  refine hK.out _ _ ⟨(S4.out.at 0 rfl), (S4.out.at 1 rfl), trivial⟩ (fun hHeld => ?_)
  clear hK K
  (try simp only [pt, Act.put])
  refine wpAnyH_take (i := 7) (v := ?v4) rfl (by kernel_rfl) (by kernel_rfl) (by kernel_rfl) (fun _ _ _ h => h) (Or.inl ⟨by rfl, ?hy4⟩) hHeld ?rest4
  case hy4 => (intro w hSw; (try dsimp only at hSw); (try go_split_ands); go_simp; first | done | with_reducible rfl)
  (try simp only [pt, Act.put])
  refine wpAnyH_take (i := 8) (v := ?v5) rfl (by kernel_rfl) (by kernel_rfl) (by kernel_rfl) (fun _ _ _ h => h) (Or.inl ⟨by rfl, ?hy5⟩) hHeld ?rest5
  case hy5 => (intro w hSw; (try dsimp only at hSw); (try go_split_ands); go_simp; first | done | with_reducible rfl)
  (try simp only [pt, Act.put])
  refine wpAnyH_take (i := 9) (v := ?v6) rfl (by kernel_rfl) (by kernel_rfl) (by kernel_rfl) (fun _ _ _ h => h) (Or.inl ⟨by rfl, ?hy6⟩) hHeld ?rest6
  case hy6 => (intro w hSw; (try dsimp only at hSw); (try go_split_ands); go_simp; first | done | with_reducible rfl)
  (try simp only [pt, Act.put])
  refine wpAnyH_ready (rs := [10]) (by kernel_rfl) (by simp) ?_
  refine AllReadyH.cons rfl (fun K hK => ?_) AllReadyH.nil
  rw [if_pos (by rfl)]
  refine wp_store_row 24 _ _ rfl _ rfl rfl (S4.out.at 2 rfl) rfl (by kernel_rfl) rfl ?_
  intro W5 hb hg hs hn
  have S5 := Lib.hid (S4.out.set 2 rfl hb hg hs hn)
  clear hb hg hs hn hHeld
  refine hK.out _ _ ⟨(S5.out.at 0 rfl), (S5.out.at 1 rfl), trivial⟩ (fun hHeld => ?_)
  clear hK K
  (try simp only [pt, Act.put])
  refine wpAnyH_take (i := 11) (v := ?v7) rfl (by kernel_rfl) (by kernel_rfl) (by kernel_rfl) (fun _ _ _ h => h) (Or.inl ⟨by rfl, ?hy7⟩) hHeld ?rest7
  case hy7 => (intro w hSw; (try dsimp only at hSw); (try go_split_ands); go_simp; first | done | with_reducible rfl)
  (try simp only [pt, Act.put])
  refine wpAnyH_take (i := 12) (v := ?v8) rfl (by kernel_rfl) (by kernel_rfl) (by kernel_rfl) (fun _ _ _ h => h) (Or.inl ⟨by rfl, ?hy8⟩) hHeld ?rest8
  case hy8 => (intro w hSw; (try dsimp only at hSw); (try go_split_ands); go_simp; first | done | with_reducible rfl)
  (try simp only [pt, Act.put])
  refine wpAnyH_done (by kernel_rfl) ?_ _
  go_wp2_with fail
  rw [make_eq HD.out]
  refine bodyPost_ret (HRET.out _ _ _ (S5.out.at 2 rfl) rfl _ rfl) rfl ?_
  exact ⟨_, _, rfl, S5.out.gX 1 rfl, S5.out.bel⟩
set_option maxRecDepth 100000 in
set_option maxHeartbeats 4000000 in
theorem pmkdir_g (X : Nat → Prop) {S : Nat → Addr} (l : List NodeL) (most room who fr : Int) (path : Str) (mode : Int) (ao : Option Addr) (cap : Nat) (w : World) (hX : Old X w) (hg : GivesX X l (.slice ao l.length cap) w) (hd : Dsk l) (hplpath : path.length ≤ 10000) (hs : Sent S w) :
    Calls Tryz.prog 17 #[diskV ao l.length cap most room, asV who fr, .string (bs path), .int .i64 mode] w fun e w' => ChgIs X (mkdirL l most room who fr path mode) most room e w w' := by
  have S0 := Lib.hid (St.start (G := [(l, .slice ao l.length cap)]) (N := []) hX (one_g hg) no_n)
  rw [mkdir_eq hd]
  have HD := Lib.hid hd
  have HS := Lib.hid hs
  have HRET : Hid (∀ (W : World) (cs : Array Value) (fr), W.heap[w.heap.size + 2]? = some (.cells cs 24 fr) → cs.size = 3 → ∀ tmps : Array Value, tmps.getD 8 undef = .pointer (some ⟨w.heap.size + 2, 0, none⟩) → (results Tryz.f17 tmps).run Tryz.prog W = .ok (.tuple #[.agg cs, tmps.getD 9 undef]) W) := Lib.hid fun W cs fr h hs tmps ht =>
  results_ct (p := 8) (u := 9) (ty := 24) rfl tmps W (w.heap.size + 2) _ cs fr _ ht h Tryz.underlying24 rfl (by rw [hs]; kernel_rfl)
  clear hX hg hd hs
  go_enter Tryz.func17, Tryz.ntmps17
  go_upto_region 1 with (fail)
  refine code_fresh3 ?_
  intro W1 hb hA0 hA1 hA2 hs
  have S1 := Lib.hid (S0.out.new3 hb hA0 hA1 hA2)
  clear hb hA0 hA1 hA2 hs
  go_upto_region 1 with (fail)
  have h_d := (S1.out.at 0 rfl)
  have h_a := (S1.out.at 1 rfl)
  refine wp_region_held_drew (S := fun W => W.heap[w.heap.size]? = some (.cells #[.slice ao l.length cap, .int .i64 most, .int .i64 room] 24 (0, 0)) ∧ W.heap[w.heap.size + 1]? = some (.cells #[.int .i64 who, .int .i64 fr] 26 (0, 0)) ∧ True) (by kernel_rfl) ⟨(S1.out.at 0 rfl), (S1.out.at 1 rfl), trivial⟩ (fun hHeld => ?_)
  clear h_d h_a
  have S2 := Lib.hid (S1.out.call (Below.refl W1.heap.size W1).drew)
  generalize W1.drew = W2 at *
  refine wpAnyH_take (i := 0) rfl (by kernel_rfl) (by kernel_rfl) (by kernel_rfl) (fun _ _ _ h => h) (yieldsIf_load_row (by rfl) 24 _ rfl _ rfl 24 _ (0, 0) _ (fun _ h => h.1) Tryz.underlying24 rfl (by kernel_rfl)) hHeld ?_
  (try simp only [pt, Act.put])
  refine wpAnyH_take (i := 1) rfl (by kernel_rfl) (by kernel_rfl) (by kernel_rfl) (fun _ _ _ h => h) (yieldsIf_load_row (by rfl) 26 _ rfl _ rfl 26 _ (0, 0) _ (fun _ h => h.2.1) Tryz.underlying26 rfl (by kernel_rfl)) hHeld ?_
  (try simp only [pt, Act.put])
  refine wpAnyH_take (i := 2) (v := ?v9) rfl (by kernel_rfl) (by kernel_rfl) (by kernel_rfl) (fun _ _ _ h => h) (Or.inl ⟨by rfl, ?hy9⟩) hHeld ?rest9
  case hy9 => (intro w hSw; (try dsimp only at hSw); (try go_split_ands); go_simp; first | done | with_reducible rfl)
  (try simp only [pt, Act.put])
  refine wpAnyH_take (i := 3) (v := ?v10) rfl (by kernel_rfl) (by kernel_rfl) (by kernel_rfl) (fun _ _ _ h => h) (Or.inl ⟨by rfl, ?hy10⟩) hHeld ?rest10
  case hy10 => (intro w hSw; (try dsimp only at hSw); (try go_split_ands); go_simp; first | done | with_reducible rfl)
  (try simp only [pt, Act.put])
  refine wpAnyH_ready (rs := [4, 11]) (by kernel_rfl) (by simp) ?_
  refine AllReadyH.cons rfl (fun K hK => ?_) (AllReadyH.cons rfl (fun K hK => ?_) AllReadyH.nil)
  · skip
    go_simp
    refine (six_below mode W2).mono ?_
    rintro e W3 ⟨rfl, hb⟩
    have S3 := Lib.hid (S2.out.call hb)
    clear hb hHeld
    go_wp2_with fail
    refine hK.out _ _ ⟨(S3.out.at 0 rfl), (S3.out.at 1 rfl), trivial⟩ (fun hHeld => ?_)
    clear hK K
    (try simp only [pt, Act.put])
    refine wpAnyH_take (i := 5) (v := ?v11) rfl (by kernel_rfl) (by kernel_rfl) (by kernel_rfl) (fun _ _ _ h => h) (Or.inl ⟨by rfl, ?hy11⟩) hHeld ?rest11
    case hy11 => (intro w hSw; (try dsimp only at hSw); (try go_split_ands); go_simp; first | done | with_reducible rfl)
    (try simp only [pt, Act.put])
    refine wpAnyH_ready (rs := [6, 11]) (by kernel_rfl) (by simp) ?_
    refine AllReadyH.cons rfl (fun K hK => ?_) (AllReadyH.cons rfl (fun K hK => ?_) AllReadyH.nil)
    · skip
      go_simp
      refine (penter_g (m := dir0 mode) _ l most room who fr path _ _ _ _ W3 S3.out.oldX (S3.out.g 0 rfl) HD.out hplpath (HS.out.keep S3.out.bel) (node_nil rfl) ⟨Nat.zero_le _, Nat.zero_le _⟩ List.Pairwise.nil (.inr (.inl rfl))).mono ?_
      rintro e W4 ⟨ao1, cp1, rfl, hg1, hb⟩
      have S4 := Lib.hid ((S3.out.call hb).addG hg1)
      clear hb hHeld hg1
      go_wp2_with fail
      refine hK.out _ _ ⟨(S4.out.at 0 rfl), (S4.out.at 1 rfl), trivial⟩ (fun hHeld => ?_)
      clear hK K
      (try simp only [pt, Act.put])
      refine wpAnyH_take (i := 7) (v := ?v12) rfl (by kernel_rfl) (by kernel_rfl) (by kernel_rfl) (fun _ _ _ h => h) (Or.inl ⟨by rfl, ?hy12⟩) hHeld ?rest12
      case hy12 => (intro w hSw; (try dsimp only at hSw); (try go_split_ands); go_simp; first | done | with_reducible rfl)
      (try simp only [pt, Act.put])
      refine wpAnyH_take (i := 8) (v := ?v13) rfl (by kernel_rfl) (by kernel_rfl) (by kernel_rfl) (fun _ _ _ h => h) (Or.inl ⟨by rfl, ?hy13⟩) hHeld ?rest13
      case hy13 => (intro w hSw; (try dsimp only at hSw); (try go_split_ands); go_simp; first | done | with_reducible rfl)
      (try simp only [pt, Act.put])
      refine wpAnyH_take (i := 9) (v := ?v14) rfl (by kernel_rfl) (by kernel_rfl) (by kernel_rfl) (fun _ _ _ h => h) (Or.inl ⟨by rfl, ?hy14⟩) hHeld ?rest14
      case hy14 => (intro w hSw; (try dsimp only at hSw); (try go_split_ands); go_simp; first | done | with_reducible rfl)
      (try simp only [pt, Act.put])
      refine wpAnyH_take (i := 10) (v := ?v15) rfl (by kernel_rfl) (by kernel_rfl) (by kernel_rfl) (fun _ _ _ h => h) (Or.inl ⟨by rfl, ?hy15⟩) hHeld ?rest15
      case hy15 => (intro w hSw; (try dsimp only at hSw); (try go_split_ands); go_simp; first | done | with_reducible rfl)
      (try simp only [pt, Act.put])
      refine wpAnyH_ready (rs := [11]) (by kernel_rfl) (by simp) ?_
      refine AllReadyH.cons rfl (fun K hK => ?_) AllReadyH.nil
      go_simp
      refine fresh1 (P := fun W => K _ W) ?_
      intro W5 hb hn hs
      have S5 := Lib.hid (S4.out.new1 hb hn)
      clear hb hn hs hHeld
      refine hK.out _ _ ⟨(S5.out.at 0 rfl), (S5.out.at 1 rfl), trivial⟩ (fun hHeld => ?_)
      clear hK K
      (try simp only [pt, Act.put])
      refine wpAnyH_ready (rs := [12]) (by kernel_rfl) (by simp) ?_
      refine AllReadyH.cons rfl (fun K hK => ?_) AllReadyH.nil
      rw [if_pos (by rfl)]
      refine wp_store_row 24 _ _ rfl _ rfl rfl (S5.out.at 3 rfl) rfl (by kernel_rfl) rfl ?_
      intro W6 hb hg hs hn
      have S6 := Lib.hid (S5.out.set 3 rfl hb hg hs hn)
      clear hb hg hs hn hHeld
      refine hK.out _ _ ⟨(S6.out.at 0 rfl), (S6.out.at 1 rfl), trivial⟩ (fun hHeld => ?_)
      clear hK K
      (try simp only [pt, Act.put])
      refine wpAnyH_take (i := 13) (v := ?v16) rfl (by kernel_rfl) (by kernel_rfl) (by kernel_rfl) (fun _ _ _ h => h) (Or.inl ⟨by rfl, ?hy16⟩) hHeld ?rest16
      case hy16 => (intro w hSw; (try dsimp only at hSw); (try go_split_ands); go_simp; first | done | with_reducible rfl)
      (try simp only [pt, Act.put])
      refine wpAnyH_take (i := 14) (v := ?v17) rfl (by kernel_rfl) (by kernel_rfl) (by kernel_rfl) (fun _ _ _ h => h) (Or.inl ⟨by rfl, ?hy17⟩) hHeld ?rest17
      case hy17 => (intro w hSw; (try dsimp only at hSw); (try go_split_ands); go_simp; first | done | with_reducible rfl)
      (try simp only [pt, Act.put])
      refine wpAnyH_done (by kernel_rfl) ?_ _
      have h_e := (S6.out.at 3 rfl)
      have h_r := (S6.out.at 2 rfl)
      go_wp2_with (first | (refine wpList_load_row rfl 24 _ rfl _ rfl 24 _ (0, 0) _ h_e Tryz.underlying24 rfl (by kernel_rfl) ?_) | (refine wpList_store_row rfl 24 _ _ rfl _ rfl rfl h_r rfl (by kernel_rfl) rfl ?_; intro W7 hb hg hs hn; have S7 := Lib.hid (S6.out.set 2 rfl hb hg hs hn); clear hb hg hs hn))
      refine bodyPost_ret (HRET.out _ _ _ (S7.out.at 2 rfl) rfl _ rfl) rfl ?_
      exact ⟨_, _, rfl, S7.out.gX 1 rfl, S7.out.bel⟩
    · skip
      go_simp
      refine fresh1 (P := fun W => K _ W) ?_
      intro W4 hb hn hs
      have S4 := Lib.hid (S3.out.new1 hb hn)
      clear hb hn hs hHeld
      refine hK.out _ _ ⟨(S4.out.at 0 rfl), (S4.out.at 1 rfl), trivial⟩ (fun hHeld => ?_)
      clear hK K
      (try simp only [pt, Act.put])
      refine wpAnyH_ready (rs := [6]) (by kernel_rfl) (by simp) ?_
      refine AllReadyH.cons rfl (fun K hK => ?_) AllReadyH.nil
      go_simp
      refine (penter_g (m := dir0 mode) _ l most room who fr path _ _ _ _ W4 S4.out.oldX (S4.out.g 0 rfl) HD.out hplpath (HS.out.keep S4.out.bel) (node_nil rfl) ⟨Nat.zero_le _, Nat.zero_le _⟩ List.Pairwise.nil (.inr (.inl rfl))).mono ?_
      rintro e W5 ⟨ao1, cp1, rfl, hg1, hb⟩
      have S5 := Lib.hid ((S4.out.call hb).addG hg1)
      clear hb hHeld hg1
      go_wp2_with fail
      refine hK.out _ _ ⟨(S5.out.at 0 rfl), (S5.out.at 1 rfl), trivial⟩ (fun hHeld => ?_)
      clear hK K
      (try simp only [pt, Act.put])
      refine wpAnyH_take (i := 7) (v := ?v18) rfl (by kernel_rfl) (by kernel_rfl) (by kernel_rfl) (fun _ _ _ h => h) (Or.inl ⟨by rfl, ?hy18⟩) hHeld ?rest18
      case hy18 => (intro w hSw; (try dsimp only at hSw); (try go_split_ands); go_simp; first | done | with_reducible rfl)
      (try simp only [pt, Act.put])
      refine wpAnyH_take (i := 8) (v := ?v19) rfl (by kernel_rfl) (by kernel_rfl) (by kernel_rfl) (fun _ _ _ h => h) (Or.inl ⟨by rfl, ?hy19⟩) hHeld ?rest19
      case hy19 => (intro w hSw; (try dsimp only at hSw); (try go_split_ands); go_simp; first | done | with_reducible rfl)
      (try simp only [pt, Act.put])
      refine wpAnyH_take (i := 9) (v := ?v20) rfl (by kernel_rfl) (by kernel_rfl) (by kernel_rfl) (fun _ _ _ h => h) (Or.inl ⟨by rfl, ?hy20⟩) hHeld ?rest20
      case hy20 => (intro w hSw; (try dsimp only at hSw); (try go_split_ands); go_simp; first | done | with_reducible rfl)
      (try simp only [pt, Act.put])
      refine wpAnyH_take (i := 10) (v := ?v21) rfl (by kernel_rfl) (by kernel_rfl) (by kernel_rfl) (fun _ _ _ h => h) (Or.inl ⟨by rfl, ?hy21⟩) hHeld ?rest21
      case hy21 => (intro w hSw; (try dsimp only at hSw); (try go_split_ands); go_simp; first | done | with_reducible rfl)
      (try simp only [pt, Act.put])
      refine wpAnyH_ready (rs := [12]) (by kernel_rfl) (by simp) ?_
      refine AllReadyH.cons rfl (fun K hK => ?_) AllReadyH.nil
      rw [if_pos (by rfl)]
      refine wp_store_row 24 _ _ rfl _ rfl rfl (S5.out.at 3 rfl) rfl (by kernel_rfl) rfl ?_
      intro W6 hb hg hs hn
      have S6 := Lib.hid (S5.out.set 3 rfl hb hg hs hn)
      clear hb hg hs hn hHeld
      refine hK.out _ _ ⟨(S6.out.at 0 rfl), (S6.out.at 1 rfl), trivial⟩ (fun hHeld => ?_)
      clear hK K
      (try simp only [pt, Act.put])
      refine wpAnyH_take (i := 13) (v := ?v22) rfl (by kernel_rfl) (by kernel_rfl) (by kernel_rfl) (fun _ _ _ h => h) (Or.inl ⟨by rfl, ?hy22⟩) hHeld ?rest22
      case hy22 => (intro w hSw; (try dsimp only at hSw); (try go_split_ands); go_simp; first | done | with_reducible rfl)
      (try simp only [pt, Act.put])
      refine wpAnyH_take (i := 14) (v := ?v23) rfl (by kernel_rfl) (by kernel_rfl) (by kernel_rfl) (fun _ _ _ h => h) (Or.inl ⟨by rfl, ?hy23⟩) hHeld ?rest23
      case hy23 => (intro w hSw; (try dsimp only at hSw); (try go_split_ands); go_simp; first | done | with_reducible rfl)
      (try simp only [pt, Act.put])
      refine wpAnyH_done (by kernel_rfl) ?_ _
      have h_e := (S6.out.at 3 rfl)
      have h_r := (S6.out.at 2 rfl)
      go_wp2_with (first | (refine wpList_load_row rfl 24 _ rfl _ rfl 24 _ (0, 0) _ h_e Tryz.underlying24 rfl (by kernel_rfl) ?_) | (refine wpList_store_row rfl 24 _ _ rfl _ rfl rfl h_r rfl (by kernel_rfl) rfl ?_; intro W7 hb hg hs hn; have S7 := Lib.hid (S6.out.set 2 rfl hb hg hs hn); clear hb hg hs hn))
      refine bodyPost_ret (HRET.out _ _ _ (S7.out.at 2 rfl) rfl _ rfl) rfl ?_
      exact ⟨_, _, rfl, S7.out.gX 1 rfl, S7.out.bel⟩
  · skip
    go_simp
    refine fresh1 (P := fun W => K _ W) ?_
    intro W3 hb hn hs
    have S3 := Lib.hid (S2.out.new1 hb hn)
    clear hb hn hs hHeld
    refine hK.out _ _ ⟨(S3.out.at 0 rfl), (S3.out.at 1 rfl), trivial⟩ (fun hHeld => ?_)
    clear hK K
    (try simp only [pt, Act.put])
    refine wpAnyH_ready (rs := [4]) (by kernel_rfl) (by simp) ?_
    refine AllReadyH.cons rfl (fun K hK => ?_) AllReadyH.nil
    go_simp
    refine (six_below mode W3).mono ?_
    rintro e W4 ⟨rfl, hb⟩
    have S4 := Lib.hid (S3.out.call hb)
    clear hb hHeld
    go_wp2_with fail
    refine hK.out _ _ ⟨(S4.out.at 0 rfl), (S4.out.at 1 rfl), trivial⟩ (fun hHeld => ?_)
    clear hK K
    (try simp only [pt, Act.put])
    refine wpAnyH_take (i := 5) (v := ?v24) rfl (by kernel_rfl) (by kernel_rfl) (by kernel_rfl) (fun _ _ _ h => h) (Or.inl ⟨by rfl, ?hy24⟩) hHeld ?rest24
    case hy24 => (intro w hSw; (try dsimp only at hSw); (try go_split_ands); go_simp; first | done | with_reducible rfl)
    (try simp only [pt, Act.put])
    refine wpAnyH_ready (rs := [6]) (by kernel_rfl) (by simp) ?_
    refine AllReadyH.cons rfl (fun K hK => ?_) AllReadyH.nil
    go_simp
    refine (penter_g (m := dir0 mode) _ l most room who fr path _ _ _ _ W4 S4.out.oldX (S4.out.g 0 rfl) HD.out hplpath (HS.out.keep S4.out.bel) (node_nil rfl) ⟨Nat.zero_le _, Nat.zero_le _⟩ List.Pairwise.nil (.inr (.inl rfl))).mono ?_
    rintro e W5 ⟨ao1, cp1, rfl, hg1, hb⟩
    have S5 := Lib.hid ((S4.out.call hb).addG hg1)
    clear hb hHeld hg1
    go_wp2_with fail
    refine hK.out _ _ ⟨(S5.out.at 0 rfl), (S5.out.at 1 rfl), trivial⟩ (fun hHeld => ?_)
    clear hK K
    (try simp only [pt, Act.put])
    refine wpAnyH_take (i := 7) (v := ?v25) rfl (by kernel_rfl) (by kernel_rfl) (by kernel_rfl) (fun _ _ _ h => h) (Or.inl ⟨by rfl, ?hy25⟩) hHeld ?rest25
    case hy25 => (intro w hSw; (try dsimp only at hSw); (try go_split_ands); go_simp; first | done | with_reducible rfl)
    (try simp only [pt, Act.put])
    refine wpAnyH_take (i := 8) (v := ?v26) rfl (by kernel_rfl) (by kernel_rfl) (by kernel_rfl) (fun _ _ _ h => h) (Or.inl ⟨by rfl, ?hy26⟩) hHeld ?rest26
    case hy26 => (intro w hSw; (try dsimp only at hSw); (try go_split_ands); go_simp; first | done | with_reducible rfl)
    (try simp only [pt, Act.put])
    refine wpAnyH_take (i := 9) (v := ?v27) rfl (by kernel_rfl) (by kernel_rfl) (by kernel_rfl) (fun _ _ _ h => h) (Or.inl ⟨by rfl, ?hy27⟩) hHeld ?rest27
    case hy27 => (intro w hSw; (try dsimp only at hSw); (try go_split_ands); go_simp; first | done | with_reducible rfl)
    (try simp only [pt, Act.put])
    refine wpAnyH_take (i := 10) (v := ?v28) rfl (by kernel_rfl) (by kernel_rfl) (by kernel_rfl) (fun _ _ _ h => h) (Or.inl ⟨by rfl, ?hy28⟩) hHeld ?rest28
    case hy28 => (intro w hSw; (try dsimp only at hSw); (try go_split_ands); go_simp; first | done | with_reducible rfl)
    (try simp only [pt, Act.put])
    refine wpAnyH_ready (rs := [12]) (by kernel_rfl) (by simp) ?_
    refine AllReadyH.cons rfl (fun K hK => ?_) AllReadyH.nil
    rw [if_pos (by rfl)]
    refine wp_store_row 24 _ _ rfl _ rfl rfl (S5.out.at 3 rfl) rfl (by kernel_rfl) rfl ?_
    intro W6 hb hg hs hn
    have S6 := Lib.hid (S5.out.set 3 rfl hb hg hs hn)
    clear hb hg hs hn hHeld
    refine hK.out _ _ ⟨(S6.out.at 0 rfl), (S6.out.at 1 rfl), trivial⟩ (fun hHeld => ?_)
    clear hK K
    (try simp only [pt, Act.put])
    refine wpAnyH_take (i := 13) (v := ?v29) rfl (by kernel_rfl) (by kernel_rfl) (by kernel_rfl) (fun _ _ _ h => h) (Or.inl ⟨by rfl, ?hy29⟩) hHeld ?rest29
    case hy29 => (intro w hSw; (try dsimp only at hSw); (try go_split_ands); go_simp; first | done | with_reducible rfl)
    (try simp only [pt, Act.put])
    refine wpAnyH_take (i := 14) (v := ?v30) rfl (by kernel_rfl) (by kernel_rfl) (by kernel_rfl) (fun _ _ _ h => h) (Or.inl ⟨by rfl, ?hy30⟩) hHeld ?rest30
    case hy30 => (intro w hSw; (try dsimp only at hSw); (try go_split_ands); go_simp; first | done | with_reducible rfl)
    (try simp only [pt, Act.put])
    refine wpAnyH_done (by kernel_rfl) ?_ _
    have h_e := (S6.out.at 3 rfl)
    have h_r := (S6.out.at 2 rfl)
    go_wp2_with (first | (refine wpList_load_row rfl 24 _ rfl _ rfl 24 _ (0, 0) _ h_e Tryz.underlying24 rfl (by kernel_rfl) ?_) | (refine wpList_store_row rfl 24 _ _ rfl _ rfl rfl h_r rfl (by kernel_rfl) rfl ?_; intro W7 hb hg hs hn; have S7 := Lib.hid (S6.out.set 2 rfl hb hg hs hn); clear hb hg hs hn))
    refine bodyPost_ret (HRET.out _ _ _ (S7.out.at 2 rfl) rfl _ rfl) rfl ?_
    exact ⟨_, _, rfl, S7.out.gX 1 rfl, S7.out.bel⟩
end Go.Proofs.YtpmhmippoefcfaaGreatDoor
namespace Go.Proofs.YtpmhmippoefcfaaGreatDoor
open Go.RowKit Go.Shelf
attribute [local go_sem ↓] Go.wp_at_zero Go.wp_at_succ
theorem node_set_ne {l : List NodeL} {i j : Int} (h : j ≠ i) (n : NodeL) : nodeL (setL l i n) j = nodeL l j := by
  unfold setL
  split
  · rename_i hi
    obtain ⟨k, hk, hlt⟩ := in_nat hi
    rw [hk, Int.toNat_natCast]
    have hin : inL (l.set k n) j = inL l j := by unfold inL; rw [List.length_set]
    have hat : 0 ≤ j → atI (l.set k n) j = atI l j := fun h0 => by
      have hne : k ≠ j.toNat := fun e => h (by rw [hk]; omega)
      unfold atI
      rw [List.getD_eq_getElem?_getD, List.getD_eq_getElem?_getD, List.getElem?_set_ne hne]
    rcases (show j < 0 ∨ 0 ≤ j by omega) with h2 | h2
    · have hn : ∀ l : List NodeL, gotB l j = false := fun l => by unfold gotB inL; rw [decide_eq_false (by omega)]; rfl
      rw [nodeL_no (hn _), nodeL_no (hn _)]
    · unfold nodeL gotB
      rw [hin, hat h2]
  · rfl
theorem lost_at {l : List NodeL} {s : SpotL} {n : NodeL} (hn : n = nodeL l s.ino) (hne : s.ino ≠ s.dir) : settleL (setL (droppedL l s) s.ino (lessN n)) s.ino = lostL l s := by
  unfold lostL
  rw [hn, show nodeL (droppedL l s) s.ino = nodeL l s.ino from node_set_ne hne _]
theorem pthere_zero {R : ResL} (h : thereE R = 0) : R.2 = 0 ∧ 0 ≤ R.1.ino := by
  unfold thereE at h
  split at h
  · rename_i h1; exact absurd h h1
  · rename_i h1
    split at h
    · cases h
    · exact ⟨by omega, by omega⟩
theorem there_kind {l : List NodeL} (hd : Dsk l) {who fr : Int} {path : Str} (h : thereE (walkL l who fr path false) = 0) :
    (nodeL l (walkL l who fr path false).1.ino).kind = 1 ∨ (nodeL l (walkL l who fr path false).1.ino).kind = 2 ∨ (nodeL l (walkL l who fr path false).1.ino).kind = 3 := by
  obtain ⟨h1, h2⟩ := pthere_zero h
  rcases walk_ino hd.rig who fr path false h1 with h3 | h3
  · omega
  · exact right_kind hd.rig h3
theorem punlink_at {l : List NodeL} {who fr : Int} {path : Str} {p : PlaceL} {e t : Int} (hp : p = placeOf l who path (walkL l who fr path false)) (he : e = thereE (walkL l who fr path false)) (ht : t = toUnlinkE p) :
    unlinkL l who fr path = if e ≠ 0 then (l, e) else if t ≠ 0 then (l, t) else (lostL l p.s, 0) := by
  subst hp; subst he; subst ht
  unfold unlinkL
  by_cases h0 : thereE (walkL l who fr path false) = 0
  · obtain ⟨h1, h2, h3, h4⟩ := place_ino (l := l) (who := who) (path := path) (pthere_zero h0).1
    have hE : toUnlinkE (placeOf l who path (walkL l who fr path false)) = if (nodeL l (walkL l who fr path false).1.ino).kind = 2 then 5 else if writesL l who (walkL l who fr path false).1.dir = false then 7 else 0 := by
      unfold toUnlinkE
      rw [h2, h3, h4]
      unfold writesL
      by_cases hk : (nodeL l (walkL l who fr path false).1.ino).kind = 2
      · rw [if_pos hk, if_pos (by rw [hk]; rfl)]
      · rw [if_neg hk, if_neg (by simpa using hk)]
    rw [h0, if_neg (show ¬ (0 : Int) ≠ 0 by decide), if_neg (show ¬ (0 : Int) ≠ 0 by decide), hE, h1]
    by_cases hk : (nodeL l (walkL l who fr path false).1.ino).kind = 2
    · rw [if_pos hk, if_pos hk, if_pos (show (5 : Int) ≠ 0 by decide)]
    · rw [if_neg hk, if_neg hk]
      by_cases hw : writesL l who (walkL l who fr path false).1.dir = false
      · rw [if_pos hw, if_pos hw, if_pos (show (7 : Int) ≠ 0 by decide)]
      · rw [if_neg hw, if_neg hw, if_neg (show ¬ (0 : Int) ≠ 0 by decide)]
  · rw [if_pos h0, if_pos h0]
theorem unlink_facts {l : List NodeL} (hd : Dsk l) {who fr : Int} {path : Str} {p : PlaceL} (hp : p = placeOf l who path (walkL l who fr path false)) (h0 : thereE (walkL l who fr path false) = 0) (h1 : toUnlinkE p = 0) :
    p.nn = nodeL l p.s.ino ∧ p.s.ino ≠ p.s.dir ∧ (p.nn.kind = 1 ∨ p.nn.kind = 2 ∨ p.nn.kind = 3) := by
  obtain ⟨h2, h3, h4, h5⟩ := place_ino (l := l) (who := who) (path := path) (pthere_zero h0).1
  rw [← hp] at h2 h3 h4 h5
  refine ⟨by rw [h5, h2], fun e => ?_, by rw [h5]; exact there_kind hd h0⟩
  obtain ⟨d, hdd, hdk⟩ := spot_dir (walk_spot hd.rig (pthere_zero h0).1)
  rw [h2] at e
  have : p.nn.kind = 2 := by rw [h5, e, hdd, nodeL_nd (by rw [hdk]; decide), hdk]
  unfold toUnlinkE at h1
  rw [this] at h1
  cases h1
theorem prmdir_at {l : List NodeL} {who fr : Int} {path : Str} {p : PlaceL} {e t : Int} (hp : p = placeOf l who path (walkL l who fr path false)) (he : e = thereE (walkL l who fr path false)) (ht : t = toRmdirE p) :
    rmdirL l who fr path = if e ≠ 0 then (l, e) else if t ≠ 0 then (l, t) else (lostL l p.s, 0) := by
  subst hp; subst he; subst ht
  unfold rmdirL
  by_cases h0 : thereE (walkL l who fr path false) = 0
  · obtain ⟨h1, h2, h3, h4⟩ := place_ino (l := l) (who := who) (path := path) (pthere_zero h0).1
    have hE : toRmdirE (placeOf l who path (walkL l who fr path false)) = rmdirE l who (walkL l who fr path false).1 := by
      unfold toRmdirE rmdirE isNameB
      rw [dots_nm, h1, h2, h3, h4]
      unfold writesL
      generalize (walkL l who fr path false).1 = s
      generalize nodeL l s.ino = m
      by_cases hk : m.kind = 2 <;> by_cases hn2 : s.name = [46, 46] <;> by_cases hn1 : s.name = [46] <;> by_cases hn0 : s.name = [] <;> cases m.names <;> simp_all
    rw [h0, if_neg (show ¬ (0 : Int) ≠ 0 by decide), if_neg (show ¬ (0 : Int) ≠ 0 by decide), hE, h1]
  · rw [if_pos h0, if_pos h0]
theorem rmdir_facts {l : List NodeL} (hd : Dsk l) {who fr : Int} {path : Str} {p : PlaceL} (hp : p = placeOf l who path (walkL l who fr path false)) (h0 : thereE (walkL l who fr path false) = 0) (h1 : toRmdirE p = 0) :
    p.nn = nodeL l p.s.ino ∧ p.s.ino ≠ p.s.dir ∧ (p.nn.kind = 1 ∨ p.nn.kind = 2 ∨ p.nn.kind = 3) := by
  obtain ⟨h2, h3, h4, h5⟩ := place_ino (l := l) (who := who) (path := path) (pthere_zero h0).1
  rw [← hp] at h2 h3 h4 h5
  refine ⟨by rw [h5, h2], fun e => ?_, by rw [h5]; exact there_kind hd h0⟩
  obtain ⟨d, hdd, hdk⟩ := spot_dir (walk_spot hd.rig (pthere_zero h0).1)
  rw [h2] at e
  have hnn : p.nn = nd l d := by rw [h5, e, hdd, nodeL_nd (by rw [hdk]; decide)]
  have hz : p.nn.names = [] ∧ isNameB p = true := by
    unfold toRmdirE at h1
    split at h1
    · cases h1
    · split at h1
      · cases h1
      · split at h1
        · cases h1
        · rename_i hin
          split at h1
          · cases h1
          · split at h1
            · cases h1
            · rename_i hl
              refine ⟨?_, by simpa using hin⟩
              simpa [List.length_pos_iff] using hl
  have hdt : dotsB (walkL l who fr path false).1.name = false := by
    have h6 := hz.2
    unfold isNameB at h6
    rw [h2] at h6
    simpa using h6
  obtain ⟨_, y, hy1, hy2, _, _⟩ := spot_old hd.rig (walk_spot hd.rig (pthere_zero h0).1) (pthere_zero h0).2 hdt hdd hdk
  rw [← hnn, hz.1] at hy2
  cases hy2
theorem lose_at (X : Nat → Prop) {l : List NodeL} (hd : Dsk l) (most room : Int) {p : PlaceL} (ao aod aon : Option Addr) (cap capd capn : Nat) (w : World) (hX : Old X w) (hg : GivesX X l (.slice ao l.length cap) w)
    (hn : NodeX X p.nn (.slice aon p.nn.names.length capn) w) (hf : p.nn = nodeL l p.s.ino ∧ p.s.ino ≠ p.s.dir ∧ (p.nn.kind = 1 ∨ p.nn.kind = 2 ∨ p.nn.kind = 3)) :
    Calls Tryz.prog 57 #[diskV ao l.length cap most room, .agg (pcells p (.slice aod p.dn.names.length capd) (.slice aon p.nn.names.length capn))] w fun e w' => RDiskIs X (lostL l p.s) most room e w w' := by
  rw [← lost_at hf.1 hf.2.1]
  refine lose_g X l most room p ao aod aon cap capd capn w hX hg hd.ord hn ?_ hf.2.2 ?_
  · rw [hf.1]; exact hd.ord.node _
  · rw [hf.1]
    have := links_small hd p.s.ino
    exact Go.IntWalk.i64_in _ (by omega)
set_option maxRecDepth 100000 in
set_option maxHeartbeats 4000000 in
theorem punlink_g (X : Nat → Prop) {S : Nat → Addr} (l : List NodeL) (most room who fr : Int) (path : Str) (ao : Option Addr) (cap : Nat) (w : World) (hX : Old X w) (hg : GivesX X l (.slice ao l.length cap) w) (hd : Dsk l) (hplpath : path.length ≤ 10000) (hs : Sent S w) :
    Calls Tryz.prog 24 #[diskV ao l.length cap most room, asV who fr, .string (bs path)] w fun e w' => ChgIs X (unlinkL l who fr path) most room e w w' := by
  have S0 := Lib.hid (St.start (G := [(l, .slice ao l.length cap)]) (N := []) hX (one_g hg) no_n)
  have HD := Lib.hid hd
  have HS := Lib.hid hs
  have HRET : Hid (∀ (W : World) (cs : Array Value) (fr), W.heap[w.heap.size + 2]? = some (.cells cs 24 fr) → cs.size = 3 → ∀ tmps : Array Value, tmps.getD 6 undef = .pointer (some ⟨w.heap.size + 2, 0, none⟩) → (results Tryz.f24 tmps).run Tryz.prog W = .ok (.tuple #[.agg cs, tmps.getD 7 undef]) W) := Lib.hid fun W cs fr h hs tmps ht =>
  results_ct (p := 6) (u := 7) (ty := 24) rfl tmps W (w.heap.size + 2) _ cs fr _ ht h Tryz.underlying24 rfl (by rw [hs]; kernel_rfl)
  clear hX hg hd hs
  go_enter Tryz.func24, Tryz.ntmps24
  go_upto_region 1 with (fail)
  refine code_fresh3 ?_
  intro W1 hb hA0 hA1 hA2 hs
  have S1 := Lib.hid (S0.out.new3 hb hA0 hA1 hA2)
  clear hb hA0 hA1 hA2 hs
  have h_d := (S1.out.at 0 rfl)
  have h_a := (S1.out.at 1 rfl)
  go_wp2_with (first | (refine wpList_load_row rfl 24 _ rfl _ rfl 24 _ (0, 0) _ h_d Tryz.underlying24 rfl (by kernel_rfl) ?_) | (refine wpList_load_row rfl 26 _ rfl _ rfl 26 _ (0, 0) _ h_a Tryz.underlying26 rfl (by kernel_rfl) ?_))
  refine (findthere_g _ l most room who fr path _ _ W1 S1.out.oldX (S1.out.g 0 rfl) HD.out hplpath (HS.out.keep S1.out.bel)).mono ?_
  rintro e W2 ⟨v, aod, capd, aon, capn, rfl, hv, hn1, hn2, hb⟩
  clear h_d h_a
  obtain ⟨p, hp⟩ : ∃ p, p = placeOf l who path (walkL l who fr path false) := ⟨_, rfl⟩
  obtain ⟨n, hn⟩ : ∃ n, n = thereE (walkL l who fr path false) := ⟨_, rfl⟩
  rw [← hp] at hn1 hn2 ⊢
  rw [← hn] at hv
  have S2 := Lib.hid (((S1.out.call hb).addN hn1).addN hn2)
  clear hb hn1 hn2
  have HV := Lib.hid hv
  have HPp := Lib.hid hp
  have HNn := Lib.hid hn
  clear hp hn
  go_upto_region 2 with (first | (refine wpList_fresh1 ?_; intro W3 hb hn hs; have S3 := Lib.hid (S2.out.new1 hb hn); have h_p := S3.out.at 3 rfl; clear hb hn hs) | (refine wpList_store_row rfl 93 _ _ rfl _ rfl rfl h_p rfl (by kernel_rfl) rfl ?_; intro W4 hb hg hs hn; have S4 := Lib.hid (S3.out.set 3 rfl hb hg hs hn); clear hb hg hs hn))
  clear h_p
  obtain ⟨t, ht⟩ : ∃ t, t = toUnlinkE p := ⟨_, rfl⟩
  have HE := Lib.hid (punlink_at HPp.out HNn.out ht)
  have HT := Lib.hid ht
  clear ht
  rcases hv.form with ⟨h0, rfl⟩ | ⟨h0, q, c, rfl⟩
  · subst h0
    have HE2 := Lib.hid (HE.out.trans (if_neg (by simp)))
    clear HE hv
    have h_p := (S4.out.at 3 rfl)
    go_wp2_with (first | (refine wpList_load_row rfl 93 _ rfl _ rfl 93 _ (0, 0) _ h_p Tryz.underlying93 rfl (by kernel_rfl) ?_))
    refine (tounlink_any p _ _ W4 (HS.out.keep S4.out.bel)).mono ?_
    rintro e W5 ⟨v2, rfl, hv2, hb⟩
    clear h_p
    have S5 := Lib.hid (S4.out.call hb)
    clear hb
    rw [← HT.out] at hv2
    have HV2 := Lib.hid hv2
    rcases hv2.form with ⟨h1, rfl⟩ | ⟨h1, q, c, rfl⟩
    · subst h1
      have HE3 := Lib.hid (HE2.out.trans (if_neg (by simp)))
      have HF := Lib.hid (unlink_facts HD.out HPp.out HNn.out.symm HT.out.symm)
      clear HE2 hv2
      have h_d := (S5.out.at 0 rfl)
      have h_p := (S5.out.at 3 rfl)
      go_wp2_with (first | (refine wpList_load_row rfl 24 _ rfl _ rfl 24 _ (0, 0) _ h_d Tryz.underlying24 rfl (by kernel_rfl) ?_) | (refine wpList_load_row rfl 93 _ rfl _ rfl 93 _ (0, 0) _ h_p Tryz.underlying93 rfl (by kernel_rfl) ?_))
      refine (lose_at _ HD.out most room _ _ _ _ _ _ W5 S5.out.oldX (S5.out.g 0 rfl) (S5.out.n 1 rfl) HF.out).mono ?_
      rintro e W6 ⟨ao1, cp1, rfl, hg1, hb⟩
      clear h_d h_p
      have S6 := Lib.hid ((S5.out.call hb).addG hg1)
      clear hb hg1
      have h_r := (S6.out.at 2 rfl)
      go_wp2_with (first | (refine wpList_store_row rfl 24 _ _ rfl _ rfl rfl h_r rfl (by kernel_rfl) rfl ?_; intro W7 hb hg hs hn; have S7 := Lib.hid (S6.out.set 2 rfl hb hg hs hn); clear hb hg hs hn))
      refine bodyPost_ret (HRET.out _ _ _ (S7.out.at 2 rfl) rfl _ rfl) rfl ?_
      rw [HE3.out]
      exact ⟨_, _, rfl, S7.out.gX 1 rfl, S7.out.bel⟩
    · have HE3 := Lib.hid (HE2.out.trans (if_pos h1))
      clear HE2 h1 hv2
      go_upto_region 5 with (fail)
      have h_d := (S5.out.at 0 rfl)
      refine wp_region_held_drew (S := fun W => W.heap[w.heap.size]? = some (.cells #[.slice ao l.length cap, .int .i64 most, .int .i64 room] 24 (0, 0)) ∧ True) (by kernel_rfl) ⟨(S5.out.at 0 rfl), trivial⟩ (fun hHeld => ?_)
      clear h_d
      have S6 := Lib.hid (S5.out.call (Below.refl W5.heap.size W5).drew)
      generalize W5.drew = W6 at *
      refine wpAnyH_take (i := 0) rfl (by kernel_rfl) (by kernel_rfl) (by kernel_rfl) (fun _ _ _ h => h) (yieldsIf_load_row (by rfl) 24 _ rfl _ rfl 24 _ (0, 0) _ (fun _ h => h.1) Tryz.underlying24 rfl (by kernel_rfl)) hHeld ?_
      (try simp only [pt, Act.put])
      refine wpAnyH_take (i := 1) (v := ?v11) rfl (by kernel_rfl) (by kernel_rfl) (by kernel_rfl) (fun _ _ _ h => h) (Or.inl ⟨by rfl, ?hy11⟩) hHeld ?rest11
      case hy11 => (intro w hSw; (try dsimp only at hSw); (try go_split_ands); go_simp; first | done | with_reducible rfl)
      (try simp only [pt, Act.put])
      refine wpAnyH_ready (rs := [2]) (by kernel_rfl) (by simp) ?_
      refine AllReadyH.cons rfl (fun K hK => ?_) AllReadyH.nil
      go_simp
      refine (chg_number (HS.out.keep S6.out.bel) HV2.out).mono ?_
      rintro e W7 ⟨rfl, hb⟩
      have S7 := Lib.hid (S6.out.call hb)
      clear hb hHeld
      go_wp2_with fail
      refine hK.out _ _ ⟨(S7.out.at 0 rfl), trivial⟩ (fun hHeld => ?_)
      clear hK K
      (try simp only [pt, Act.put])
      refine wpAnyH_ready (rs := [3]) (by kernel_rfl) (by simp) ?_
      refine AllReadyH.cons rfl (fun K hK => ?_) AllReadyH.nil
      rw [if_pos (by rfl)]
      refine wp_store_row 24 _ _ rfl _ rfl rfl (S7.out.at 2 rfl) rfl (by kernel_rfl) rfl ?_
      intro W8 hb hg hs hn
      have S8 := Lib.hid (S7.out.set 2 rfl hb hg hs hn)
      clear hb hg hs hn hHeld
      refine hK.out _ _ ⟨(S8.out.at 0 rfl), trivial⟩ (fun hHeld => ?_)
      clear hK K
      (try simp only [pt, Act.put])
      refine wpAnyH_take (i := 4) (v := ?v12) rfl (by kernel_rfl) (by kernel_rfl) (by kernel_rfl) (fun _ _ _ h => h) (Or.inl ⟨by rfl, ?hy12⟩) hHeld ?rest12
      case hy12 => (intro w hSw; (try dsimp only at hSw); (try go_split_ands); go_simp; first | done | with_reducible rfl)
      (try simp only [pt, Act.put])
      refine wpAnyH_done (by kernel_rfl) ?_ _
      go_wp2_with fail
      refine bodyPost_ret (HRET.out _ _ _ (S8.out.at 2 rfl) rfl _ rfl) rfl ?_
      rw [HE3.out]
      exact ⟨_, _, rfl, S8.out.gX 0 rfl, S8.out.bel⟩
  · have HE2 := Lib.hid (HE.out.trans (if_pos h0))
    clear HE h0 hv
    go_upto_region 5 with (fail)
    have h_d := (S4.out.at 0 rfl)
    refine wp_region_held_drew (S := fun W => W.heap[w.heap.size]? = some (.cells #[.slice ao l.length cap, .int .i64 most, .int .i64 room] 24 (0, 0)) ∧ True) (by kernel_rfl) ⟨(S4.out.at 0 rfl), trivial⟩ (fun hHeld => ?_)
    clear h_d
    have S5 := Lib.hid (S4.out.call (Below.refl W4.heap.size W4).drew)
    generalize W4.drew = W5 at *
    refine wpAnyH_take (i := 0) rfl (by kernel_rfl) (by kernel_rfl) (by kernel_rfl) (fun _ _ _ h => h) (yieldsIf_load_row (by rfl) 24 _ rfl _ rfl 24 _ (0, 0) _ (fun _ h => h.1) Tryz.underlying24 rfl (by kernel_rfl)) hHeld ?_
    (try simp only [pt, Act.put])
    refine wpAnyH_take (i := 1) (v := ?v13) rfl (by kernel_rfl) (by kernel_rfl) (by kernel_rfl) (fun _ _ _ h => h) (Or.inl ⟨by rfl, ?hy13⟩) hHeld ?rest13
    case hy13 => (intro w hSw; (try dsimp only at hSw); (try go_split_ands); go_simp; first | done | with_reducible rfl)
    (try simp only [pt, Act.put])
    refine wpAnyH_ready (rs := [2]) (by kernel_rfl) (by simp) ?_
    refine AllReadyH.cons rfl (fun K hK => ?_) AllReadyH.nil
    go_simp
    refine (chg_number (HS.out.keep S5.out.bel) HV.out).mono ?_
    rintro e W6 ⟨rfl, hb⟩
    have S6 := Lib.hid (S5.out.call hb)
    clear hb hHeld
    go_wp2_with fail
    refine hK.out _ _ ⟨(S6.out.at 0 rfl), trivial⟩ (fun hHeld => ?_)
    clear hK K
    (try simp only [pt, Act.put])
    refine wpAnyH_ready (rs := [3]) (by kernel_rfl) (by simp) ?_
    refine AllReadyH.cons rfl (fun K hK => ?_) AllReadyH.nil
    rw [if_pos (by rfl)]
    refine wp_store_row 24 _ _ rfl _ rfl rfl (S6.out.at 2 rfl) rfl (by kernel_rfl) rfl ?_
    intro W7 hb hg hs hn
    have S7 := Lib.hid (S6.out.set 2 rfl hb hg hs hn)
    clear hb hg hs hn hHeld
    refine hK.out _ _ ⟨(S7.out.at 0 rfl), trivial⟩ (fun hHeld => ?_)
    clear hK K
    (try simp only [pt, Act.put])
    refine wpAnyH_take (i := 4) (v := ?v14) rfl (by kernel_rfl) (by kernel_rfl) (by kernel_rfl) (fun _ _ _ h => h) (Or.inl ⟨by rfl, ?hy14⟩) hHeld ?rest14
    case hy14 => (intro w hSw; (try dsimp only at hSw); (try go_split_ands); go_simp; first | done | with_reducible rfl)
    (try simp only [pt, Act.put])
    refine wpAnyH_done (by kernel_rfl) ?_ _
    go_wp2_with fail
    refine bodyPost_ret (HRET.out _ _ _ (S7.out.at 2 rfl) rfl _ rfl) rfl ?_
    rw [HE2.out]
    exact ⟨_, _, rfl, S7.out.gX 0 rfl, S7.out.bel⟩
set_option maxRecDepth 100000 in
set_option maxHeartbeats 4000000 in
theorem prmdir_g (X : Nat → Prop) {S : Nat → Addr} (l : List NodeL) (most room who fr : Int) (path : Str) (ao : Option Addr) (cap : Nat) (w : World) (hX : Old X w) (hg : GivesX X l (.slice ao l.length cap) w) (hd : Dsk l) (hplpath : path.length ≤ 10000) (hs : Sent S w) :
    Calls Tryz.prog 26 #[diskV ao l.length cap most room, asV who fr, .string (bs path)] w fun e w' => ChgIs X (rmdirL l who fr path) most room e w w' := by
  have S0 := Lib.hid (St.start (G := [(l, .slice ao l.length cap)]) (N := []) hX (one_g hg) no_n)
  have HD := Lib.hid hd
  have HS := Lib.hid hs
  have HRET : Hid (∀ (W : World) (cs : Array Value) (fr), W.heap[w.heap.size + 2]? = some (.cells cs 24 fr) → cs.size = 3 → ∀ tmps : Array Value, tmps.getD 6 undef = .pointer (some ⟨w.heap.size + 2, 0, none⟩) → (results Tryz.f26 tmps).run Tryz.prog W = .ok (.tuple #[.agg cs, tmps.getD 7 undef]) W) := Lib.hid fun W cs fr h hs tmps ht =>
  results_ct (p := 6) (u := 7) (ty := 24) rfl tmps W (w.heap.size + 2) _ cs fr _ ht h Tryz.underlying24 rfl (by rw [hs]; kernel_rfl)
  clear hX hg hd hs
  go_enter Tryz.func26, Tryz.ntmps26
  go_upto_region 1 with (fail)
  refine code_fresh3 ?_
  intro W1 hb hA0 hA1 hA2 hs
  have S1 := Lib.hid (S0.out.new3 hb hA0 hA1 hA2)
  clear hb hA0 hA1 hA2 hs
  have h_d := (S1.out.at 0 rfl)
  have h_a := (S1.out.at 1 rfl)
  go_wp2_with (first | (refine wpList_load_row rfl 24 _ rfl _ rfl 24 _ (0, 0) _ h_d Tryz.underlying24 rfl (by kernel_rfl) ?_) | (refine wpList_load_row rfl 26 _ rfl _ rfl 26 _ (0, 0) _ h_a Tryz.underlying26 rfl (by kernel_rfl) ?_))
  refine (findthere_g _ l most room who fr path _ _ W1 S1.out.oldX (S1.out.g 0 rfl) HD.out hplpath (HS.out.keep S1.out.bel)).mono ?_
  rintro e W2 ⟨v, aod, capd, aon, capn, rfl, hv, hn1, hn2, hb⟩
  clear h_d h_a
  obtain ⟨p, hp⟩ : ∃ p, p = placeOf l who path (walkL l who fr path false) := ⟨_, rfl⟩
  obtain ⟨n, hn⟩ : ∃ n, n = thereE (walkL l who fr path false) := ⟨_, rfl⟩
  rw [← hp] at hn1 hn2 ⊢
  rw [← hn] at hv
  have S2 := Lib.hid (((S1.out.call hb).addN hn1).addN hn2)
  clear hb hn1 hn2
  have HV := Lib.hid hv
  have HPp := Lib.hid hp
  have HNn := Lib.hid hn
  clear hp hn
  go_upto_region 2 with (first | (refine wpList_fresh1 ?_; intro W3 hb hn hs; have S3 := Lib.hid (S2.out.new1 hb hn); have h_p := S3.out.at 3 rfl; clear hb hn hs) | (refine wpList_store_row rfl 93 _ _ rfl _ rfl rfl h_p rfl (by kernel_rfl) rfl ?_; intro W4 hb hg hs hn; have S4 := Lib.hid (S3.out.set 3 rfl hb hg hs hn); clear hb hg hs hn))
  clear h_p
  obtain ⟨t, ht⟩ : ∃ t, t = toRmdirE p := ⟨_, rfl⟩
  have HE := Lib.hid (prmdir_at HPp.out HNn.out ht)
  have HT := Lib.hid ht
  clear ht
  rcases hv.form with ⟨h0, rfl⟩ | ⟨h0, q, c, rfl⟩
  · subst h0
    have HE2 := Lib.hid (HE.out.trans (if_neg (by simp)))
    clear HE hv
    have h_p := (S4.out.at 3 rfl)
    go_wp2_with (first | (refine wpList_load_row rfl 93 _ rfl _ rfl 93 _ (0, 0) _ h_p Tryz.underlying93 rfl (by kernel_rfl) ?_))
    refine (tormdir_any p _ _ _ W4 (HS.out.keep S4.out.bel)).mono ?_
    rintro e W5 ⟨v2, rfl, hv2, hb⟩
    clear h_p
    have S5 := Lib.hid (S4.out.call hb)
    clear hb
    rw [← HT.out] at hv2
    have HV2 := Lib.hid hv2
    rcases hv2.form with ⟨h1, rfl⟩ | ⟨h1, q, c, rfl⟩
    · subst h1
      have HE3 := Lib.hid (HE2.out.trans (if_neg (by simp)))
      have HF := Lib.hid (rmdir_facts HD.out HPp.out HNn.out.symm HT.out.symm)
      clear HE2 hv2
      have h_d := (S5.out.at 0 rfl)
      have h_p := (S5.out.at 3 rfl)
      go_wp2_with (first | (refine wpList_load_row rfl 24 _ rfl _ rfl 24 _ (0, 0) _ h_d Tryz.underlying24 rfl (by kernel_rfl) ?_) | (refine wpList_load_row rfl 93 _ rfl _ rfl 93 _ (0, 0) _ h_p Tryz.underlying93 rfl (by kernel_rfl) ?_))
      refine (lose_at _ HD.out most room _ _ _ _ _ _ W5 S5.out.oldX (S5.out.g 0 rfl) (S5.out.n 1 rfl) HF.out).mono ?_
      rintro e W6 ⟨ao1, cp1, rfl, hg1, hb⟩
      clear h_d h_p
      have S6 := Lib.hid ((S5.out.call hb).addG hg1)
      clear hb hg1
      have h_r := (S6.out.at 2 rfl)
      go_wp2_with (first | (refine wpList_store_row rfl 24 _ _ rfl _ rfl rfl h_r rfl (by kernel_rfl) rfl ?_; intro W7 hb hg hs hn; have S7 := Lib.hid (S6.out.set 2 rfl hb hg hs hn); clear hb hg hs hn))
      refine bodyPost_ret (HRET.out _ _ _ (S7.out.at 2 rfl) rfl _ rfl) rfl ?_
      rw [HE3.out]
      exact ⟨_, _, rfl, S7.out.gX 1 rfl, S7.out.bel⟩
    · have HE3 := Lib.hid (HE2.out.trans (if_pos h1))
      clear HE2 h1 hv2
      go_upto_region 5 with (fail)
      have h_d := (S5.out.at 0 rfl)
      refine wp_region_held_drew (S := fun W => W.heap[w.heap.size]? = some (.cells #[.slice ao l.length cap, .int .i64 most, .int .i64 room] 24 (0, 0)) ∧ True) (by kernel_rfl) ⟨(S5.out.at 0 rfl), trivial⟩ (fun hHeld => ?_)
      clear h_d
      have S6 := Lib.hid (S5.out.call (Below.refl W5.heap.size W5).drew)
      generalize W5.drew = W6 at *
      refine wpAnyH_take (i := 0) rfl (by kernel_rfl) (by kernel_rfl) (by kernel_rfl) (fun _ _ _ h => h) (yieldsIf_load_row (by rfl) 24 _ rfl _ rfl 24 _ (0, 0) _ (fun _ h => h.1) Tryz.underlying24 rfl (by kernel_rfl)) hHeld ?_
      (try simp only [pt, Act.put])
      refine wpAnyH_take (i := 1) (v := ?v15) rfl (by kernel_rfl) (by kernel_rfl) (by kernel_rfl) (fun _ _ _ h => h) (Or.inl ⟨by rfl, ?hy15⟩) hHeld ?rest15
      case hy15 => (intro w hSw; (try dsimp only at hSw); (try go_split_ands); go_simp; first | done | with_reducible rfl)
      (try simp only [pt, Act.put])
      refine wpAnyH_ready (rs := [2]) (by kernel_rfl) (by simp) ?_
      refine AllReadyH.cons rfl (fun K hK => ?_) AllReadyH.nil
      go_simp
      refine (chg_number (HS.out.keep S6.out.bel) HV2.out).mono ?_
      rintro e W7 ⟨rfl, hb⟩
      have S7 := Lib.hid (S6.out.call hb)
      clear hb hHeld
      go_wp2_with fail
      refine hK.out _ _ ⟨(S7.out.at 0 rfl), trivial⟩ (fun hHeld => ?_)
      clear hK K
      (try simp only [pt, Act.put])
      refine wpAnyH_ready (rs := [3]) (by kernel_rfl) (by simp) ?_
      refine AllReadyH.cons rfl (fun K hK => ?_) AllReadyH.nil
      rw [if_pos (by rfl)]
      refine wp_store_row 24 _ _ rfl _ rfl rfl (S7.out.at 2 rfl) rfl (by kernel_rfl) rfl ?_
      intro W8 hb hg hs hn
      have S8 := Lib.hid (S7.out.set 2 rfl hb hg hs hn)
      clear hb hg hs hn hHeld
      refine hK.out _ _ ⟨(S8.out.at 0 rfl), trivial⟩ (fun hHeld => ?_)
      clear hK K
      (try simp only [pt, Act.put])
      refine wpAnyH_take (i := 4) (v := ?v16) rfl (by kernel_rfl) (by kernel_rfl) (by kernel_rfl) (fun _ _ _ h => h) (Or.inl ⟨by rfl, ?hy16⟩) hHeld ?rest16
      case hy16 => (intro w hSw; (try dsimp only at hSw); (try go_split_ands); go_simp; first | done | with_reducible rfl)
      (try simp only [pt, Act.put])
      refine wpAnyH_done (by kernel_rfl) ?_ _
      go_wp2_with fail
      refine bodyPost_ret (HRET.out _ _ _ (S8.out.at 2 rfl) rfl _ rfl) rfl ?_
      rw [HE3.out]
      exact ⟨_, _, rfl, S8.out.gX 0 rfl, S8.out.bel⟩
  · have HE2 := Lib.hid (HE.out.trans (if_pos h0))
    clear HE h0 hv
    go_upto_region 5 with (fail)
    have h_d := (S4.out.at 0 rfl)
    refine wp_region_held_drew (S := fun W => W.heap[w.heap.size]? = some (.cells #[.slice ao l.length cap, .int .i64 most, .int .i64 room] 24 (0, 0)) ∧ True) (by kernel_rfl) ⟨(S4.out.at 0 rfl), trivial⟩ (fun hHeld => ?_)
    clear h_d
    have S5 := Lib.hid (S4.out.call (Below.refl W4.heap.size W4).drew)
    generalize W4.drew = W5 at *
    refine wpAnyH_take (i := 0) rfl (by kernel_rfl) (by kernel_rfl) (by kernel_rfl) (fun _ _ _ h => h) (yieldsIf_load_row (by rfl) 24 _ rfl _ rfl 24 _ (0, 0) _ (fun _ h => h.1) Tryz.underlying24 rfl (by kernel_rfl)) hHeld ?_
    (try simp only [pt, Act.put])
    refine wpAnyH_take (i := 1) (v := ?v17) rfl (by kernel_rfl) (by kernel_rfl) (by kernel_rfl) (fun _ _ _ h => h) (Or.inl ⟨by rfl, ?hy17⟩) hHeld ?rest17
    case hy17 => (intro w hSw; (try dsimp only at hSw); (try go_split_ands); go_simp; first | done | with_reducible rfl)
    (try simp only [pt, Act.put])
    refine wpAnyH_ready (rs := [2]) (by kernel_rfl) (by simp) ?_
    refine AllReadyH.cons rfl (fun K hK => ?_) AllReadyH.nil
    go_simp
    refine (chg_number (HS.out.keep S5.out.bel) HV.out).mono ?_
    rintro e W6 ⟨rfl, hb⟩
    have S6 := Lib.hid (S5.out.call hb)
    clear hb hHeld
    go_wp2_with fail
    refine hK.out _ _ ⟨(S6.out.at 0 rfl), trivial⟩ (fun hHeld => ?_)
    clear hK K
    (try simp only [pt, Act.put])
    refine wpAnyH_ready (rs := [3]) (by kernel_rfl) (by simp) ?_
    refine AllReadyH.cons rfl (fun K hK => ?_) AllReadyH.nil
    rw [if_pos (by rfl)]
    refine wp_store_row 24 _ _ rfl _ rfl rfl (S6.out.at 2 rfl) rfl (by kernel_rfl) rfl ?_
    intro W7 hb hg hs hn
    have S7 := Lib.hid (S6.out.set 2 rfl hb hg hs hn)
    clear hb hg hs hn hHeld
    refine hK.out _ _ ⟨(S7.out.at 0 rfl), trivial⟩ (fun hHeld => ?_)
    clear hK K
    (try simp only [pt, Act.put])
    refine wpAnyH_take (i := 4) (v := ?v18) rfl (by kernel_rfl) (by kernel_rfl) (by kernel_rfl) (fun _ _ _ h => h) (Or.inl ⟨by rfl, ?hy18⟩) hHeld ?rest18
    case hy18 => (intro w hSw; (try dsimp only at hSw); (try go_split_ands); go_simp; first | done | with_reducible rfl)
    (try simp only [pt, Act.put])
    refine wpAnyH_done (by kernel_rfl) ?_ _
    go_wp2_with fail
    refine bodyPost_ret (HRET.out _ _ _ (S7.out.at 2 rfl) rfl _ rfl) rfl ?_
    rw [HE2.out]
    exact ⟨_, _, rfl, S7.out.gX 0 rfl, S7.out.bel⟩
end Go.Proofs.YtpmhmippoefcfaaGreatDoor
namespace Go.Proofs.YtpmhmippoefcfaaGreatDoor
open Go.RowKit Go.Shelf
attribute [local go_sem ↓] Go.wp_at_zero Go.wp_at_succ
/-- Two places, and an error. -/
def TwoIs (X : Nat → Prop) (S : Nat → Addr) (P Q : PlaceL) (n : Int) (e : Ending) (w w' : World) : Prop :=
  ∃ p q v aod capd aon capn aod2 capd2 aon2 capn2, e = .returned (.tuple #[.agg (pcells p (.slice aod p.dn.names.length capd) (.slice aon p.nn.names.length capn)), .agg (pcells q (.slice aod2 q.dn.names.length capd2) (.slice aon2 q.nn.names.length capn2)), v]) ∧ ErrIs S n v ∧ (n = 0 → p = P ∧ q = Q) ∧
    (NodeX X p.dn (.slice aod p.dn.names.length capd) w' ∧ NodeX X p.nn (.slice aon p.nn.names.length capn) w' ∧ NodeX X q.dn (.slice aod2 q.dn.names.length capd2) w' ∧ NodeX X q.nn (.slice aon2 q.nn.names.length capn2) w') ∧ Below w.heap.size w w'
theorem TwoIs.of {X : Nat → Prop} {S : Nat → Addr} {P Q : PlaceL} (p q : PlaceL) {n m : Int} {v : Value} {aod aon aod2 aon2 : Option Addr} {capd capn capd2 capn2 : Nat} {w w' : World} (hn : m = n) (hv : ErrIs S n v) (hpq : n = 0 → p = P ∧ q = Q)
    (h1 : NodeX X p.dn (.slice aod p.dn.names.length capd) w') (h2 : NodeX X p.nn (.slice aon p.nn.names.length capn) w') (h3 : NodeX X q.dn (.slice aod2 q.dn.names.length capd2) w') (h4 : NodeX X q.nn (.slice aon2 q.nn.names.length capn2) w') (hb : Below w.heap.size w w') :
    TwoIs X S P Q m (.returned (.tuple #[.agg (pcells p (.slice aod p.dn.names.length capd) (.slice aon p.nn.names.length capn)), .agg (pcells q (.slice aod2 q.dn.names.length capd2) (.slice aon2 q.nn.names.length capn2)), v])) w w' := by
  subst hn
  exact ⟨p, q, v, aod, capd, aon, capn, aod2, capd2, aon2, capn2, rfl, hv, hpq, ⟨h1, h2, h3, h4⟩, hb⟩
end Go.Proofs.YtpmhmippoefcfaaGreatDoor
namespace Go.Proofs.YtpmhmippoefcfaaGreatDoor
open Go.RowKit Go.Shelf
attribute [local go_sem ↓] Go.wp_at_zero Go.wp_at_succ
theorem place_small {l : List NodeL} (hd : Dsk l) (who : Int) (path : Str) (R : ResL) : (0 ≤ (placeOf l who path R).nn.links ∧ (placeOf l who path R).nn.links ≤ 14300) ∧ (placeOf l who path R).nn.names.length ≤ 130 ∧ Up (placeOf l who path R).nn.names ∧ (placeOf l who path R).nn.data.length ≤ 300 := by
  unfold placeOf
  split
  · exact ⟨⟨by decide, by decide⟩, by decide, List.Pairwise.nil, by decide⟩
  · exact ⟨links_small hd _, hd.nm _, (hd.ord.node _).2, (Siz.node (a := 110) (c := 130) hd.sm _).1⟩
end Go.Proofs.YtpmhmippoefcfaaGreatDoor
