/-
  The document's Node. What the changes of a disk have in common: what is told; the ways, of whatever reads as these nodes. How large a disk becomes. The document's Make, Mkdir, Symlink, Chmod. The document's there, Unlink, Rmdir, Link. The statements' small functions: who acts. Disks that a change gives may be changed again; the example of the statements on changes, plainly.
-/
import Derived.RangeFuncNested
import Derived.RangeFuncBound
import Derived.RangeFuncCalls
import Derived.RangeFuncLeaves
import Derived.RangeFuncBox
import Derived.Shelf.Abstract
import Derived.Shelf.RegionOpen
import Derived.WalkKit
import Derived.OwnWalkIn
import Derived.TacticsInMore
import Derived.LoopNIn
import Derived.LoopIn
import Derived.Lib.Hide
import Derived.Outline
import Derived.Deep.QuietTactic
import Derived.Deep.AppendLies
import Derived.BigQuiet
import Derived.Lib.Strings
import Derived.WalkSmall
import Derived.Shelf.Small.Strs
import Derived.Shelf.Strings.Search1
import Derived.Shelf.Strings.Prefix
import Derived.Laws.AppendOwn
import Derived.Laws.OwnMore
import Derived.Laws.AppendOwnNone
import Derived.WideShapes
import Derived.Lib.TrimByte
import Derived.Lib.Bytealg
import Derived.Lib.QuietBelow
import Derived.Deep.DrawnRows
import Derived.Laws.Cover1
import Derived.WalkMore
import Derived.Shelf.Spec.SlicesGrow
import Derived.StillTailTactics
import Derived.Laws.BitsLemmas
import Derived.Laws.RangeAny
import Derived.Laws.Runes
import Derived.Lib.Builder
import Derived.Deep.WholeRow
import Derived.Lib.OthersKept
import Derived.Shelf.SlSorted.Search
import Derived.LaidEql
import Derived.Stop.Asserts
import Derived.RowKitTokens
import Derived.Deep.RegionHeld3
import Derived.Deep.RegionLaw
import Derived.Handy
import Derived.Laws.IdiomCopy
import Derived.Lib.SliceRun
import Derived.Laws.ResultCell
import Derived.Deep.LoopGhost
import Derived.Deep.DeepCutAuto
import Derived.Deep.MidRow
import Derived.BigRegion
import Derived.Test.YtpmhmippoefcfaaGreatDoorProg
import Derived.Test.YtpmhmippoefcfaaGreatDoorShelf
import Derived.Test.YtpmhmippoefcfaaGreatDoorB01
import Derived.Test.YtpmhmippoefcfaaGreatDoorB02
import Derived.Test.YtpmhmippoefcfaaGreatDoorB04
import Derived.Test.YtpmhmippoefcfaaGreatDoorB05
import Derived.Test.YtpmhmippoefcfaaGreatDoorB06
import Derived.Test.YtpmhmippoefcfaaGreatDoorB07
import Derived.Test.YtpmhmippoefcfaaGreatDoorB08
import Derived.Test.YtpmhmippoefcfaaGreatDoorB09
import Derived.Test.YtpmhmippoefcfaaGreatDoorB10
import Derived.Test.YtpmhmippoefcfaaGreatDoorB12
import Derived.Test.YtpmhmippoefcfaaGreatDoorB13
import Derived.Test.YtpmhmippoefcfaaGreatDoorB14
import Derived.Test.YtpmhmippoefcfaaGreatDoorB17
import Derived.Test.YtpmhmippoefcfaaGreatDoorChangeDropsE01
import Derived.Test.YtpmhmippoefcfaaGreatDoorChangeDropsE02
import Derived.Test.YtpmhmippoefcfaaGreatDoorChangeDropsE03
import Derived.Test.YtpmhmippoefcfaaGreatDoorChangeDropsE04
import Derived.Test.YtpmhmippoefcfaaGreatDoorChangeDropsE05
import Derived.Test.YtpmhmippoefcfaaGreatDoorChangeDropsE06
namespace Go.Proofs.YtpmhmippoefcfaaGreatDoor
open Go.RowKit Go.Shelf
attribute [local go_sem ↓] Go.wp_at_zero Go.wp_at_succ
theorem rwalk_any (v : Value) (ms : List NodeM) (most room who fr : Int) (path : Str) (follow : Bool) (w : World) (hv : RdM w.heap.size v ms w) (hd : DskW ms) (hpl : path.length ≤ 10000) :
    Calls Tryz.prog 36 #[.agg #[v, .int .i64 most, .int .i64 room], .int .i64 who, .int .i64 fr, .string (bs path), .bool follow] w fun e w' => WalkIs (walkL (pl ms) who fr path follow) e w w' :=
  rwalk_R _ v ms most room who fr path follow w hv hd hpl rfl
set_option maxRecDepth 100000 in
set_option maxHeartbeats 4000000 in
theorem rnode_any (v : Value) (ms : List NodeM) (most room who fr : Int) (path : Str) (follow : Bool) (w : World) (hv : RdM w.heap.size v ms w) (hd : DskW ms) (hpl : path.length ≤ 10000) :
    Calls Tryz.prog 34 #[.agg #[v, .int .i64 most, .int .i64 room], .int .i64 who, .int .i64 fr, .string (bs path), .bool follow] w fun e w' => WNodeIs (walkL (pl ms) who fr path follow) e w w' := by
  obtain ⟨aod, capd, rfl, _, _⟩ := rdm_form hv
  have hb0 : Below w.heap.size w (w.alloc (.cells #[.slice aod ms.length capd, .int .i64 most, .int .i64 room] 32)) := (Below.refl _ w).alloc (Nat.le_refl _) _
  have HW := Lib.hid (rwalk_any (.slice aod ms.length capd) ms most room who fr path follow _ (rdm_keep hv hb0) hd hpl)
  obtain ⟨R, hR⟩ : ∃ R, R = walkL (pl ms) who fr path follow := ⟨_, rfl⟩
  rw [← hR] at HW ⊢
  clear hv hR
  obtain ⟨⟨sd, sn, si, ss⟩, n⟩ := R
  go_enter Tryz.func34, Tryz.ntmps34
  go_wp2_with fail
  refine HW.out.mono ?_
  rintro e w1 ⟨rfl, hb1⟩
  have HB1 := Lib.hid (ret_tr hb0 hb1)
  clear hb0 hb1
  by_cases h0 : n = 0
  · subst h0
    by_cases hm : si < 0
    · have hI : decide (si < 0) = true := by simpa using hm
      have HN : Hid (wnodeL (⟨sd, sn, si, ss⟩, 0) = (0, 2)) := Lib.hid (by unfold wnodeL; rw [if_neg (by simp), if_pos hm])
      clear hm
      go_wp2_with fail
      refine post_fresh1 ?_
      intro W5 hb5 hn5 hs5
      go_ret2
      exact ⟨by rw [HN.out]; rfl, ret_tr HB1.out hb5⟩
    · have hI : decide (si < 0) = false := by simpa using hm
      have HN : Hid (wnodeL (⟨sd, sn, si, ss⟩, 0) = (si, 0)) := Lib.hid (by unfold wnodeL; rw [if_neg (by simp), if_neg hm])
      clear hm
      go_wp2_with fail
      refine post_fresh1 ?_
      intro W5 hb5 hn5 hs5
      go_ret2
      exact ⟨by rw [HN.out]; rfl, ret_tr HB1.out hb5⟩
  · have hI : (n != 0) = true := by simpa using h0
    have HN : Hid (wnodeL (⟨sd, sn, si, ss⟩, n) = (0, n)) := Lib.hid (by unfold wnodeL; rw [if_pos h0])
    clear h0
    go_wp2_with fail
    refine post_fresh1 ?_
    intro W5 hb5 hn5 hs5
    go_ret2
    exact ⟨by rw [HN.out]; rfl, ret_tr HB1.out hb5⟩
end Go.Proofs.YtpmhmippoefcfaaGreatDoor
namespace Go.Proofs.YtpmhmippoefcfaaGreatDoor
open Go.RowKit Go.Shelf
theorem xrwalk_g (X : Nat → Prop) (l : List NodeL) (hd : Dsk l) (a b who fr : Int) (path : Str) (follow : Bool) (hpl : path.length ≤ 10000) (v : Value) (W : World) (hg : GivesX X l v W) :
    Calls Tryz.prog 36 #[.agg #[v, .int .i64 a, .int .i64 b], .int .i64 who, .int .i64 fr, .string (bs path), .bool follow] W fun e w' => WalkIs (walkL l who fr path follow) e W w' := by
  obtain ⟨m, rfl, h⟩ := hg.gives
  exact rwalk_any v m a b who fr path follow W h (hd.w m rfl) hpl
theorem xrnode_g (X : Nat → Prop) (l : List NodeL) (hd : Dsk l) (a b who fr : Int) (path : Str) (follow : Bool) (hpl : path.length ≤ 10000) (v : Value) (W : World) (hg : GivesX X l v W) :
    Calls Tryz.prog 34 #[.agg #[v, .int .i64 a, .int .i64 b], .int .i64 who, .int .i64 fr, .string (bs path), .bool follow] W fun e w' => WNodeIs (walkL l who fr path follow) e W w' := by
  obtain ⟨m, rfl, h⟩ := hg.gives
  exact rnode_any v m a b who fr path follow W h (hd.w m rfl) hpl
end Go.Proofs.YtpmhmippoefcfaaGreatDoor
namespace Go.Proofs.YtpmhmippoefcfaaGreatDoor
section
variable {a c : Nat} {l : List NodeL} (h : Siz a c l) (most room who fr : Int) (path : Str)
include h
theorem siz_link (old : Str) : Siz (a + 1) (2 * c + 1) (linkL l who fr old path).1 := by
  unfold linkL
  repeat' split
  all_goals first | exact siz_same h | exact ((h.set (n := moreN _) (h.node _) _).named _ _).mono (by omega) (Nat.le_refl _)
theorem siz_unlink : Siz (a + 1) (2 * c + 1) (unlinkL l who fr path).1 := by
  unfold unlinkL
  repeat' split
  all_goals first | exact siz_same h | exact siz_same (h.lost _)
theorem siz_rmdir : Siz (a + 1) (2 * c + 1) (rmdirL l who fr path).1 := by
  unfold rmdirL
  repeat' split
  all_goals first | exact siz_same h | exact siz_same (h.lost _)
theorem siz_chmod (mode : Int) : Siz (a + 1) (2 * c + 1) (chmodL l who fr path mode).1 := by
  unfold chmodL
  repeat' split
  all_goals first | exact siz_same h | exact siz_same (h.set (n := modeN _ mode) (h.node _) _)
end
end Go.Proofs.YtpmhmippoefcfaaGreatDoor
namespace Go.Proofs.YtpmhmippoefcfaaGreatDoor
open Go.RowKit Go.Shelf
attribute [local go_sem ↓] Go.wp_at_zero Go.wp_at_succ
theorem chmod_at {l : List NodeL} {who fr mode : Int} {path : Str} {R : Int × Int} (hR : R = wnodeL (walkL l who fr path true)) : chmodL l who fr path mode = if R.2 ≠ 0 then (l, R.2) else if who ≠ 0 ∧ who ≠ (nodeL l R.1).owner then (l, 7) else (setL l R.1 (modeN (nodeL l R.1) mode), 0) := by
  subst hR; rfl
set_option maxRecDepth 100000 in
set_option maxHeartbeats 4000000 in
theorem rchmod_g (X : Nat → Prop) (l : List NodeL) (most room who fr : Int) (path : Str) (mode : Int) (ao : Option Addr) (cap : Nat) (w : World) (hX : Old X w) (hg : GivesX X l (.slice ao l.length cap) w) (hd : Dsk l) (hplpath : path.length ≤ 10000) :
    Calls Tryz.prog 29 #[diskV ao l.length cap most room, asV who fr, .string (bs path), .int .i64 mode] w fun e w' => ChgIs X (chmodL l who fr path mode) most room e w w' := by
  have S0 := Lib.hid (St.start (G := [(l, .slice ao l.length cap)]) (N := []) hX (one_g hg) no_n)
  have HD := Lib.hid hd
  have HRET : Hid (∀ (W : World) (cs : Array Value) (fr), W.heap[w.heap.size + 2]? = some (.cells cs 32 fr) → cs.size = 3 → ∀ tmps : Array Value, tmps.getD 8 undef = .pointer (some ⟨w.heap.size + 2, 0, none⟩) → (results Tryz.f29 tmps).run Tryz.prog W = .ok (.tuple #[.agg cs, tmps.getD 9 undef]) W) := Lib.hid fun W cs fr h hs tmps ht =>
  results_ct (p := 8) (u := 9) (ty := 32) rfl tmps W (w.heap.size + 2) _ cs fr _ ht h Tryz.underlying32 rfl (by rw [hs]; kernel_rfl)
  clear hX hg hd
  go_enter Tryz.func29, Tryz.ntmps29
  go_upto_region 1 with (fail)
  refine code_fresh3 ?_
  intro W1 hb hA0 hA1 hA2 hs
  have S1 := Lib.hid (S0.out.new3 hb hA0 hA1 hA2)
  clear hb hA0 hA1 hA2 hs
  have h_d := (S1.out.at 0 rfl)
  obtain ⟨a0, a1⟩ := cells2 (S1.out.at 1 rfl)
  go_wp2_with (first | (refine wpList_load_row rfl 32 _ rfl _ rfl 32 _ (0, 0) _ h_d Tryz.underlying32 rfl (by kernel_rfl) ?_))
  refine (xrnode_g _ l HD.out most room who fr path true hplpath _ W1 (S1.out.g 0 rfl)).mono ?_
  rintro e W2 ⟨rfl, hb⟩
  clear h_d a0 a1
  have S2 := Lib.hid (S1.out.call hb)
  clear hb
  obtain ⟨R, hR⟩ : ∃ R, R = wnodeL (walkL l who fr path true) := ⟨_, rfl⟩
  rw [← hR]
  have HE := Lib.hid (chmod_at (mode := mode) hR)
  clear hR
  obtain ⟨i, n⟩ := R
  dsimp only at HE
  by_cases h0 : n = 0
  · subst h0
    have HE2 := Lib.hid (HE.out.trans (if_neg (by simp)))
    clear HE
    have h_d := (S2.out.at 0 rfl)
    go_wp2_with (first | (refine wpList_load_row rfl 32 _ rfl _ rfl 32 _ (0, 0) _ h_d Tryz.underlying32 rfl (by kernel_rfl) ?_))
    refine (rget_g _ l most room i _ W2 (S2.out.g 0 rfl) HD.out.len).mono ?_
    rintro e W3 ⟨ao1, cp1, rfl, hn1, hb⟩
    clear h_d
    have S3 := Lib.hid ((S2.out.call hb).addN hn1)
    clear hb hn1
    generalize nodeL l i = m at *
    go_upto_region 5 with (fail)
    refine code_fresh1 ?_
    intro W4 hb hA0 hs
    have S4 := Lib.hid (S3.out.new1 hb hA0)
    clear hb hA0 hs
    by_cases h1 : who ≠ 0 ∧ who ≠ m.owner
    · have hA : (who != 0) = true := by simpa using h1.1
      have hB : (who != m.owner) = true := by simpa using h1.2
      have HE3 := Lib.hid (HE2.out.trans (if_pos h1))
      clear HE2 h1
      obtain ⟨a0, -⟩ := cells2 (S4.out.at 1 rfl)
      obtain ⟨-, -, n2, -, -, -, -, -⟩ := cells8 (S4.out.at 3 rfl)
      have h_r := (S4.out.at 2 rfl)
      have h_d := (S4.out.at 0 rfl)
      go_wp2_with (first | (refine wpList_load_row rfl 32 _ rfl _ rfl 32 _ (0, 0) _ h_d Tryz.underlying32 rfl (by kernel_rfl) ?_) | (refine wpList_store_row rfl 32 _ _ rfl _ rfl rfl h_r rfl (by kernel_rfl) rfl ?_; intro W5 hb hg hs hn; have S5 := Lib.hid (S4.out.set 2 rfl hb hg hs hn); clear hb hg hs hn))
      refine bodyPost_ret (HRET.out _ _ _ (S5.out.at 2 rfl) rfl _ rfl) rfl ?_
      rw [HE3.out]
      exact ⟨_, _, rfl, S5.out.gX 0 rfl, S5.out.bel⟩
    · have HE3 := Lib.hid (HE2.out.trans (if_neg h1))
      have hA : (who != 0) = false ∨ ((who != 0) = true ∧ (who != m.owner) = false) := by
        by_cases h2 : who = 0
        · exact .inl (by simpa using h2)
        · exact .inr ⟨by simpa using h2, Bool.eq_false_iff.2 fun h3 => h1 ⟨h2, by simpa using h3⟩⟩
      clear HE2 h1
      rcases hA with hA | ⟨hA, hB⟩
      all_goals
        obtain ⟨a0, -⟩ := cells2 (S4.out.at 1 rfl)
        obtain ⟨n0, n1, n2, n3, n4, n5, n6, n7⟩ := cells8 (S4.out.at 3 rfl)
        have fn := fun j => Lib.frozen_of_heap (S4.out.at 3 rfl) j
        go_upto_region 8 with (fail)
        rw [i64_and63 mode]
        refine code_set1 (S4.out.at 3 rfl) ?_
        intro W5 hb hg hs hn
        clear a0 n0 n1 n2 n3 n4 n5 n6 n7 fn
        have S5 := Lib.hid (S4.out.set 3 rfl hb hg hs hn)
        clear hb hg hs hn
        have h_d := (S5.out.at 0 rfl)
        have h_n := (S5.out.at 3 rfl)
        go_wp2_with (first | (refine wpList_load_row rfl 32 _ rfl _ rfl 32 _ (0, 0) _ h_d Tryz.underlying32 rfl (by kernel_rfl) ?_) | (refine wpList_load_row rfl 74 _ rfl _ rfl 74 _ (0, 0) _ h_n Tryz.underlying74 rfl (by kernel_rfl) ?_))
        refine (rset_g _ l most room i (modeN m mode) _ _ W5 S5.out.oldX (S5.out.g 0 rfl) HD.out.len ((S5.out.n 0 rfl).same rfl)).mono ?_
        rintro e W6 ⟨ao3, cap3, rfl, hg3, hb⟩
        clear h_d h_n
        have S6 := Lib.hid ((S5.out.call hb).addG hg3)
        clear hb hg3
        have h_r := (S6.out.at 2 rfl)
        go_wp2_with (first | (refine wpList_store_row rfl 32 _ _ rfl _ rfl rfl h_r rfl (by kernel_rfl) rfl ?_; intro W7 hb hg hs hn; have S7 := Lib.hid (S6.out.set 2 rfl hb hg hs hn); clear hb hg hs hn))
        refine bodyPost_ret (HRET.out _ _ _ (S7.out.at 2 rfl) rfl _ rfl) rfl ?_
        rw [HE3.out]
        exact ⟨_, _, rfl, S7.out.gX 1 rfl, S7.out.bel⟩
  · have hI : (n != 0) = true := by simpa using h0
    have HE2 := Lib.hid (HE.out.trans (if_pos h0))
    clear HE h0
    have h_r := (S2.out.at 2 rfl)
    have h_d := (S2.out.at 0 rfl)
    go_wp2_with (first | (refine wpList_load_row rfl 32 _ rfl _ rfl 32 _ (0, 0) _ h_d Tryz.underlying32 rfl (by kernel_rfl) ?_) | (refine wpList_store_row rfl 32 _ _ rfl _ rfl rfl h_r rfl (by kernel_rfl) rfl ?_; intro W3 hb hg hs hn; have S3 := Lib.hid (S2.out.set 2 rfl hb hg hs hn); clear hb hg hs hn))
    refine bodyPost_ret (HRET.out _ _ _ (S3.out.at 2 rfl) rfl _ rfl) rfl ?_
    rw [HE2.out]
    exact ⟨_, _, rfl, S3.out.gX 0 rfl, S3.out.bel⟩
end Go.Proofs.YtpmhmippoefcfaaGreatDoor
namespace Go.Proofs.YtpmhmippoefcfaaGreatDoor
open Go.RowKit Go.Shelf
attribute [local go_sem ↓] Go.wp_at_zero Go.wp_at_succ
theorem thereE_at {R : ResL} {s : SpotL} {n : Int} (h : R = (s, n)) : thereE R = if n ≠ 0 then n else if s.ino < 0 then 2 else 0 := by subst h; rfl
/-- What the document's there tells. -/
def ThereIs (X : Nat → Prop) (l : List NodeL) (R : ResL) (e : Ending) (w w' : World) : Prop :=
  ∃ ao cap, e = .returned (.tuple #[spotV R.1, nval (nodeL l R.1.ino) (.slice ao (nodeL l R.1.ino).names.length cap), .int .i64 (thereE R)]) ∧ NodeX X (nodeL l R.1.ino) (.slice ao (nodeL l R.1.ino).names.length cap) w' ∧ Below w.heap.size w w'
theorem unlink_at {l : List NodeL} {who fr : Int} {path : Str} {R : ResL} (hR : R = walkL l who fr path false) : unlinkL l who fr path = if thereE R ≠ 0 then (l, thereE R) else if (nodeL l R.1.ino).kind = 2 then (l, 5) else if writesL l who R.1.dir = false then (l, 7) else (lostL l R.1, 0) := by
  subst hR; rfl
theorem rmdir_at {l : List NodeL} {who fr : Int} {path : Str} {R : ResL} (hR : R = walkL l who fr path false) : rmdirL l who fr path = if thereE R ≠ 0 then (l, thereE R) else if rmdirE l who R.1 ≠ 0 then (l, rmdirE l who R.1) else (lostL l R.1, 0) := by
  subst hR; rfl
theorem rmdirE_at {l : List NodeL} {who : Int} {s : SpotL} {n : NodeL} {b : Bool} (hn : n = nodeL l s.ino) (hb : writesL l who s.dir = b) : rmdirE l who s = if n.kind ≠ 2 then 4 else if s.name = [] ∨ s.name = [46] then 1 else if s.name = [46, 46] then 6 else if b = false then 7 else if n.names ≠ [] then 6 else 0 := by
  subst hn; subst hb; rfl
theorem link_at {l : List NodeL} {who fr : Int} {old path : Str} {O : Int × Int} {R : ResL} {n : NodeL} (hO : O = wnodeL (walkL l who fr old false)) (hR : R = walkL l who fr path false) (hn : n = nodeL l O.1) :
    linkL l who fr old path = if O.2 ≠ 0 then (l, O.2) else if n.kind = 2 then (l, 5) else if 20 ≤ n.links then (l, 11) else if spotE l who R ≠ 0 then (l, spotE l who R) else if R.1.slash = true then (l, 4) else (namedL (setL l O.1 (moreN n)) R.1 O.1, 0) := by
  subst hn; subst hO; subst hR; rfl
set_option maxRecDepth 100000 in
set_option maxHeartbeats 4000000 in
theorem rthere_g (X : Nat → Prop) (l : List NodeL) (most room who fr : Int) (path : Str) (ao : Option Addr) (cap : Nat) (w : World) (hX : Old X w) (hg : GivesX X l (.slice ao l.length cap) w) (hd : Dsk l) (hplpath : path.length ≤ 10000) :
    Calls Tryz.prog 58 #[diskV ao l.length cap most room, asV who fr, .string (bs path)] w fun e w' => ThereIs X l (walkL l who fr path false) e w w' := by
  have S0 := Lib.hid (St.start (G := [(l, .slice ao l.length cap)]) (N := []) hX (one_g hg) no_n)
  have HD := Lib.hid hd
  have HRET : Hid (∀ (W : World) (cs cs2 : Array Value) (fr fr2), W.heap[w.heap.size + 2]? = some (.cells cs 67 fr) → cs.size = 4 → W.heap[w.heap.size + 3]? = some (.cells cs2 74 fr2) → cs2.size = 8 → ∀ tmps : Array Value, tmps.getD 6 undef = .pointer (some ⟨w.heap.size + 2, 0, none⟩) → tmps.getD 7 undef = .pointer (some ⟨w.heap.size + 3, 0, none⟩) → (results Tryz.f58 tmps).run Tryz.prog W = .ok (.tuple #[.agg cs, .agg cs2, tmps.getD 8 undef]) W) := Lib.hid fun W cs cs2 fr fr2 h hs h2 hs2 tmps ht ht2 =>
  results_cct (p := 6) (q := 7) (u := 8) (ty := 67) (ty2 := 74) rfl tmps W (w.heap.size + 2) (w.heap.size + 3) _ _ cs cs2 fr fr2 _ _ ht h ht2 h2 Tryz.underlying67 rfl (by rw [hs]; kernel_rfl) Tryz.underlying74 rfl (by rw [hs2]; kernel_rfl)
  clear hX hg hd
  go_enter Tryz.func58, Tryz.ntmps58
  go_upto_region 1 with (fail)
  refine code_fresh4 ?_
  intro W1 hb hA0 hA1 hA2 hA3 hs
  have S1 := Lib.hid (S0.out.new4 hb hA0 hA1 hA2 hA3)
  clear hb hA0 hA1 hA2 hA3 hs
  have h_d := (S1.out.at 0 rfl)
  obtain ⟨a0, a1⟩ := cells2 (S1.out.at 1 rfl)
  go_wp2_with (first | (refine wpList_load_row rfl 32 _ rfl _ rfl 32 _ (0, 0) _ h_d Tryz.underlying32 rfl (by kernel_rfl) ?_))
  refine (xrwalk_g _ l HD.out most room who fr path false hplpath _ W1 (S1.out.g 0 rfl)).mono ?_
  rintro e W2 ⟨rfl, hb⟩
  clear h_d a0 a1
  have S2 := Lib.hid (S1.out.call hb)
  clear hb
  obtain ⟨R, hR⟩ : ∃ R, R = walkL l who fr path false := ⟨_, rfl⟩
  rw [← hR]
  have HR := Lib.hid hR
  clear hR
  obtain ⟨⟨sd, sn, si, ss⟩, n⟩ := R
  have HE := Lib.hid (thereE_at (R := (⟨sd, sn, si, ss⟩, n)) rfl)
  dsimp only at HE
  go_upto_region 2 with (fail)
  refine code_fresh1 ?_
  intro W3 hb hA0 hs
  have S3 := Lib.hid (S2.out.new1 hb hA0)
  clear hb hA0 hs
  by_cases h0 : n = 0
  · subst h0
    by_cases hi : si < 0
    · have hI : decide (si < 0) = true := decide_eq_true hi
      have HE2 := Lib.hid ((HE.out.trans (if_neg (by simp))).trans (if_pos hi))
      clear HE hi
      obtain ⟨-, -, t2, -⟩ := cells4 (S3.out.at 4 rfl)
      have h_d := (S3.out.at 0 rfl)
      obtain ⟨-, -, t2, -⟩ := cells4 (S3.out.at 4 rfl)
      go_wp2_with (first | (refine wpList_load_row rfl 32 _ rfl _ rfl 32 _ (0, 0) _ h_d Tryz.underlying32 rfl (by kernel_rfl) ?_))
      refine (rget_g _ l most room si _ W3 (S3.out.g 0 rfl) HD.out.len).mono ?_
      rintro e W4 ⟨ao1, cp1, rfl, hn1, hb⟩
      clear t2 h_d
      have S4 := Lib.hid ((S3.out.call hb).addN hn1)
      clear hb hn1
      go_upto_region 5 with (fail)
      refine code_fresh1 ?_
      intro W5 hb hA0 hs
      have S5 := Lib.hid (S4.out.new1 hb hA0)
      clear hb hA0 hs
      have h_t := (S5.out.at 4 rfl)
      have h_n := (S5.out.at 5 rfl)
      refine wp_region_held_drew (S := fun W => W.heap[W2.heap.size]? = some (.cells #[.int .i64 sd, .string (bs sn), .int .i64 si, .bool ss] 67 (0, 0)) ∧ W.heap[W4.heap.size]? = some (.cells #[.int .i64 (nodeL l si).kind, .int .i64 (nodeL l si).mode, .int .i64 (nodeL l si).owner, .int .i64 (nodeL l si).links, .int .i64 (nodeL l si).opn, .int .i64 (nodeL l si).up, .string (bs (nodeL l si).data), .slice ao1 (nodeL l si).names.length cp1] 74 (0, 0)) ∧ True) (by kernel_rfl) ⟨(S5.out.at 4 rfl), (S5.out.at 5 rfl), trivial⟩ (fun hHeld => ?_)
      clear h_t h_n
      have S6 := Lib.hid (S5.out.call (Below.refl W5.heap.size W5).drew)
      generalize W5.drew = W6 at *
      refine wpAnyH_take (i := 0) rfl (by kernel_rfl) (by kernel_rfl) (by kernel_rfl) (fun _ _ _ h => h) (yieldsIf_load_row (by rfl) 67 _ rfl _ rfl 67 _ (0, 0) _ (fun _ h => h.1) Tryz.underlying67 rfl (by kernel_rfl)) hHeld ?_
      (try simp only [pt, Act.put])
      refine wpAnyH_take (i := 1) rfl (by kernel_rfl) (by kernel_rfl) (by kernel_rfl) (fun _ _ _ h => h) (yieldsIf_load_row (by rfl) 74 _ rfl _ rfl 74 _ (0, 0) _ (fun _ h => h.2.1) Tryz.underlying74 rfl (by kernel_rfl)) hHeld ?_
      (try simp only [pt, Act.put])
      refine wpAnyH_take (i := 2) (v := ?v1) rfl (by kernel_rfl) (by kernel_rfl) (by kernel_rfl) (fun _ _ _ h => h) (Or.inl ⟨by rfl, ?hy1⟩) hHeld ?rest1
      case hy1 => (intro w hSw; (try dsimp only at hSw); (try go_split_ands); go_simp; first | done | with_reducible rfl)
      (try simp only [pt, Act.put])
      refine wpAnyH_ready (rs := [3]) (by kernel_rfl) (by simp) ?_
      refine AllReadyH.cons rfl (fun K hK => ?_) AllReadyH.nil
      rw [if_pos (by rfl)]
      refine wp_store_row 67 _ _ rfl _ rfl rfl (S6.out.at 2 rfl) rfl (by kernel_rfl) rfl ?_
      intro W7 hb hg hs hn
      have S7 := Lib.hid (S6.out.set 2 rfl hb hg hs hn)
      clear hb hg hs hn hHeld
      refine hK.out _ _ ⟨(S7.out.at 4 rfl), (S7.out.at 5 rfl), trivial⟩ (fun hHeld => ?_)
      clear hK K
      (try simp only [pt, Act.put])
      refine wpAnyH_ready (rs := [4]) (by kernel_rfl) (by simp) ?_
      refine AllReadyH.cons rfl (fun K hK => ?_) AllReadyH.nil
      rw [if_pos (by rfl)]
      refine wp_store_row 74 _ _ rfl _ rfl rfl (S7.out.at 3 rfl) rfl (by kernel_rfl) rfl ?_
      intro W8 hb hg hs hn
      have S8 := Lib.hid (S7.out.set 3 rfl hb hg hs hn)
      clear hb hg hs hn hHeld
      refine hK.out _ _ ⟨(S8.out.at 4 rfl), (S8.out.at 5 rfl), trivial⟩ (fun hHeld => ?_)
      clear hK K
      (try simp only [pt, Act.put])
      refine wpAnyH_take (i := 5) (v := ?v2) rfl (by kernel_rfl) (by kernel_rfl) (by kernel_rfl) (fun _ _ _ h => h) (Or.inl ⟨by rfl, ?hy2⟩) hHeld ?rest2
      case hy2 => (intro w hSw; (try dsimp only at hSw); (try go_split_ands); go_simp; first | done | with_reducible rfl)
      (try simp only [pt, Act.put])
      refine wpAnyH_done (by kernel_rfl) ?_ _
      go_wp2_with fail
      refine bodyPost_ret (HRET.out _ _ _ _ _ (S8.out.at 2 rfl) rfl (S8.out.at 3 rfl) rfl _ rfl rfl) rfl ?_
      rw [← HR.out]
      exact ⟨ao1, cp1, by rw [HE2.out]; rfl, S8.out.nX 0 rfl, S8.out.bel⟩
    · have hI : decide (si < 0) = false := decide_eq_false hi
      have HE2 := Lib.hid ((HE.out.trans (if_neg (by simp))).trans (if_neg hi))
      clear HE hi
      obtain ⟨-, -, t2, -⟩ := cells4 (S3.out.at 4 rfl)
      have h_d := (S3.out.at 0 rfl)
      obtain ⟨-, -, t2, -⟩ := cells4 (S3.out.at 4 rfl)
      go_wp2_with (first | (refine wpList_load_row rfl 32 _ rfl _ rfl 32 _ (0, 0) _ h_d Tryz.underlying32 rfl (by kernel_rfl) ?_))
      refine (rget_g _ l most room si _ W3 (S3.out.g 0 rfl) HD.out.len).mono ?_
      rintro e W4 ⟨ao1, cp1, rfl, hn1, hb⟩
      clear t2 h_d
      have S4 := Lib.hid ((S3.out.call hb).addN hn1)
      clear hb hn1
      go_upto_region 5 with (fail)
      refine code_fresh1 ?_
      intro W5 hb hA0 hs
      have S5 := Lib.hid (S4.out.new1 hb hA0)
      clear hb hA0 hs
      have h_t := (S5.out.at 4 rfl)
      have h_n := (S5.out.at 5 rfl)
      refine wp_region_held_drew (S := fun W => W.heap[W2.heap.size]? = some (.cells #[.int .i64 sd, .string (bs sn), .int .i64 si, .bool ss] 67 (0, 0)) ∧ W.heap[W4.heap.size]? = some (.cells #[.int .i64 (nodeL l si).kind, .int .i64 (nodeL l si).mode, .int .i64 (nodeL l si).owner, .int .i64 (nodeL l si).links, .int .i64 (nodeL l si).opn, .int .i64 (nodeL l si).up, .string (bs (nodeL l si).data), .slice ao1 (nodeL l si).names.length cp1] 74 (0, 0)) ∧ True) (by kernel_rfl) ⟨(S5.out.at 4 rfl), (S5.out.at 5 rfl), trivial⟩ (fun hHeld => ?_)
      clear h_t h_n
      have S6 := Lib.hid (S5.out.call (Below.refl W5.heap.size W5).drew)
      generalize W5.drew = W6 at *
      refine wpAnyH_take (i := 0) rfl (by kernel_rfl) (by kernel_rfl) (by kernel_rfl) (fun _ _ _ h => h) (yieldsIf_load_row (by rfl) 67 _ rfl _ rfl 67 _ (0, 0) _ (fun _ h => h.1) Tryz.underlying67 rfl (by kernel_rfl)) hHeld ?_
      (try simp only [pt, Act.put])
      refine wpAnyH_take (i := 1) rfl (by kernel_rfl) (by kernel_rfl) (by kernel_rfl) (fun _ _ _ h => h) (yieldsIf_load_row (by rfl) 74 _ rfl _ rfl 74 _ (0, 0) _ (fun _ h => h.2.1) Tryz.underlying74 rfl (by kernel_rfl)) hHeld ?_
      (try simp only [pt, Act.put])
      refine wpAnyH_take (i := 2) (v := ?v3) rfl (by kernel_rfl) (by kernel_rfl) (by kernel_rfl) (fun _ _ _ h => h) (Or.inl ⟨by rfl, ?hy3⟩) hHeld ?rest3
      case hy3 => (intro w hSw; (try dsimp only at hSw); (try go_split_ands); go_simp; first | done | with_reducible rfl)
      (try simp only [pt, Act.put])
      refine wpAnyH_ready (rs := [3]) (by kernel_rfl) (by simp) ?_
      refine AllReadyH.cons rfl (fun K hK => ?_) AllReadyH.nil
      rw [if_pos (by rfl)]
      refine wp_store_row 67 _ _ rfl _ rfl rfl (S6.out.at 2 rfl) rfl (by kernel_rfl) rfl ?_
      intro W7 hb hg hs hn
      have S7 := Lib.hid (S6.out.set 2 rfl hb hg hs hn)
      clear hb hg hs hn hHeld
      refine hK.out _ _ ⟨(S7.out.at 4 rfl), (S7.out.at 5 rfl), trivial⟩ (fun hHeld => ?_)
      clear hK K
      (try simp only [pt, Act.put])
      refine wpAnyH_ready (rs := [4]) (by kernel_rfl) (by simp) ?_
      refine AllReadyH.cons rfl (fun K hK => ?_) AllReadyH.nil
      rw [if_pos (by rfl)]
      refine wp_store_row 74 _ _ rfl _ rfl rfl (S7.out.at 3 rfl) rfl (by kernel_rfl) rfl ?_
      intro W8 hb hg hs hn
      have S8 := Lib.hid (S7.out.set 3 rfl hb hg hs hn)
      clear hb hg hs hn hHeld
      refine hK.out _ _ ⟨(S8.out.at 4 rfl), (S8.out.at 5 rfl), trivial⟩ (fun hHeld => ?_)
      clear hK K
      (try simp only [pt, Act.put])
      refine wpAnyH_take (i := 5) (v := ?v4) rfl (by kernel_rfl) (by kernel_rfl) (by kernel_rfl) (fun _ _ _ h => h) (Or.inl ⟨by rfl, ?hy4⟩) hHeld ?rest4
      case hy4 => (intro w hSw; (try dsimp only at hSw); (try go_split_ands); go_simp; first | done | with_reducible rfl)
      (try simp only [pt, Act.put])
      refine wpAnyH_done (by kernel_rfl) ?_ _
      go_wp2_with fail
      refine bodyPost_ret (HRET.out _ _ _ _ _ (S8.out.at 2 rfl) rfl (S8.out.at 3 rfl) rfl _ rfl rfl) rfl ?_
      rw [← HR.out]
      exact ⟨ao1, cp1, by rw [HE2.out]; rfl, S8.out.nX 0 rfl, S8.out.bel⟩
  · have hI : (n == 0) = false := by simpa using h0
    have HE2 := Lib.hid (HE.out.trans (if_pos h0))
    clear HE h0
    have h_d := (S3.out.at 0 rfl)
    obtain ⟨-, -, t2, -⟩ := cells4 (S3.out.at 4 rfl)
    go_wp2_with (first | (refine wpList_load_row rfl 32 _ rfl _ rfl 32 _ (0, 0) _ h_d Tryz.underlying32 rfl (by kernel_rfl) ?_))
    refine (rget_g _ l most room si _ W3 (S3.out.g 0 rfl) HD.out.len).mono ?_
    rintro e W4 ⟨ao1, cp1, rfl, hn1, hb⟩
    clear h_d t2
    have S4 := Lib.hid ((S3.out.call hb).addN hn1)
    clear hb hn1
    go_upto_region 5 with (fail)
    refine code_fresh1 ?_
    intro W5 hb hA0 hs
    have S5 := Lib.hid (S4.out.new1 hb hA0)
    clear hb hA0 hs
    have h_t := (S5.out.at 4 rfl)
    have h_n := (S5.out.at 5 rfl)
    refine wp_region_held_drew (S := fun W => W.heap[W2.heap.size]? = some (.cells #[.int .i64 sd, .string (bs sn), .int .i64 si, .bool ss] 67 (0, 0)) ∧ W.heap[W4.heap.size]? = some (.cells #[.int .i64 (nodeL l si).kind, .int .i64 (nodeL l si).mode, .int .i64 (nodeL l si).owner, .int .i64 (nodeL l si).links, .int .i64 (nodeL l si).opn, .int .i64 (nodeL l si).up, .string (bs (nodeL l si).data), .slice ao1 (nodeL l si).names.length cp1] 74 (0, 0)) ∧ True) (by kernel_rfl) ⟨(S5.out.at 4 rfl), (S5.out.at 5 rfl), trivial⟩ (fun hHeld => ?_)
    clear h_t h_n
    have S6 := Lib.hid (S5.out.call (Below.refl W5.heap.size W5).drew)
    generalize W5.drew = W6 at *
    refine wpAnyH_take (i := 0) rfl (by kernel_rfl) (by kernel_rfl) (by kernel_rfl) (fun _ _ _ h => h) (yieldsIf_load_row (by rfl) 67 _ rfl _ rfl 67 _ (0, 0) _ (fun _ h => h.1) Tryz.underlying67 rfl (by kernel_rfl)) hHeld ?_
    (try simp only [pt, Act.put])
    refine wpAnyH_take (i := 1) rfl (by kernel_rfl) (by kernel_rfl) (by kernel_rfl) (fun _ _ _ h => h) (yieldsIf_load_row (by rfl) 74 _ rfl _ rfl 74 _ (0, 0) _ (fun _ h => h.2.1) Tryz.underlying74 rfl (by kernel_rfl)) hHeld ?_
    (try simp only [pt, Act.put])
    refine wpAnyH_take (i := 2) (v := ?v5) rfl (by kernel_rfl) (by kernel_rfl) (by kernel_rfl) (fun _ _ _ h => h) (Or.inl ⟨by rfl, ?hy5⟩) hHeld ?rest5
    case hy5 => (intro w hSw; (try dsimp only at hSw); (try go_split_ands); go_simp; first | done | with_reducible rfl)
    (try simp only [pt, Act.put])
    refine wpAnyH_ready (rs := [3]) (by kernel_rfl) (by simp) ?_
    refine AllReadyH.cons rfl (fun K hK => ?_) AllReadyH.nil
    rw [if_pos (by rfl)]
    refine wp_store_row 67 _ _ rfl _ rfl rfl (S6.out.at 2 rfl) rfl (by kernel_rfl) rfl ?_
    intro W7 hb hg hs hn
    have S7 := Lib.hid (S6.out.set 2 rfl hb hg hs hn)
    clear hb hg hs hn hHeld
    refine hK.out _ _ ⟨(S7.out.at 4 rfl), (S7.out.at 5 rfl), trivial⟩ (fun hHeld => ?_)
    clear hK K
    (try simp only [pt, Act.put])
    refine wpAnyH_ready (rs := [4]) (by kernel_rfl) (by simp) ?_
    refine AllReadyH.cons rfl (fun K hK => ?_) AllReadyH.nil
    rw [if_pos (by rfl)]
    refine wp_store_row 74 _ _ rfl _ rfl rfl (S7.out.at 3 rfl) rfl (by kernel_rfl) rfl ?_
    intro W8 hb hg hs hn
    have S8 := Lib.hid (S7.out.set 3 rfl hb hg hs hn)
    clear hb hg hs hn hHeld
    refine hK.out _ _ ⟨(S8.out.at 4 rfl), (S8.out.at 5 rfl), trivial⟩ (fun hHeld => ?_)
    clear hK K
    (try simp only [pt, Act.put])
    refine wpAnyH_take (i := 5) (v := ?v6) rfl (by kernel_rfl) (by kernel_rfl) (by kernel_rfl) (fun _ _ _ h => h) (Or.inl ⟨by rfl, ?hy6⟩) hHeld ?rest6
    case hy6 => (intro w hSw; (try dsimp only at hSw); (try go_split_ands); go_simp; first | done | with_reducible rfl)
    (try simp only [pt, Act.put])
    refine wpAnyH_done (by kernel_rfl) ?_ _
    go_wp2_with fail
    refine bodyPost_ret (HRET.out _ _ _ _ _ (S8.out.at 2 rfl) rfl (S8.out.at 3 rfl) rfl _ rfl rfl) rfl ?_
    rw [← HR.out]
    exact ⟨ao1, cp1, by rw [HE2.out]; rfl, S8.out.nX 0 rfl, S8.out.bel⟩
set_option maxRecDepth 100000 in
set_option maxHeartbeats 4000000 in
theorem runlink_g (X : Nat → Prop) (l : List NodeL) (most room who fr : Int) (path : Str) (ao : Option Addr) (cap : Nat) (w : World) (hX : Old X w) (hg : GivesX X l (.slice ao l.length cap) w) (hd : Dsk l) (hplpath : path.length ≤ 10000) :
    Calls Tryz.prog 25 #[diskV ao l.length cap most room, asV who fr, .string (bs path)] w fun e w' => ChgIs X (unlinkL l who fr path) most room e w w' := by
  have S0 := Lib.hid (St.start (G := [(l, .slice ao l.length cap)]) (N := []) hX (one_g hg) no_n)
  have HD := Lib.hid hd
  have HRET : Hid (∀ (W : World) (cs : Array Value) (fr), W.heap[w.heap.size + 2]? = some (.cells cs 32 fr) → cs.size = 3 → ∀ tmps : Array Value, tmps.getD 6 undef = .pointer (some ⟨w.heap.size + 2, 0, none⟩) → (results Tryz.f25 tmps).run Tryz.prog W = .ok (.tuple #[.agg cs, tmps.getD 7 undef]) W) := Lib.hid fun W cs fr h hs tmps ht =>
  results_ct (p := 6) (u := 7) (ty := 32) rfl tmps W (w.heap.size + 2) _ cs fr _ ht h Tryz.underlying32 rfl (by rw [hs]; kernel_rfl)
  clear hX hg hd
  go_enter Tryz.func25, Tryz.ntmps25
  go_upto_region 1 with (fail)
  refine code_fresh3 ?_
  intro W1 hb hA0 hA1 hA2 hs
  have S1 := Lib.hid (S0.out.new3 hb hA0 hA1 hA2)
  clear hb hA0 hA1 hA2 hs
  have h_d := (S1.out.at 0 rfl)
  have h_a := (S1.out.at 1 rfl)
  go_wp2_with (first | (refine wpList_load_row rfl 32 _ rfl _ rfl 32 _ (0, 0) _ h_d Tryz.underlying32 rfl (by kernel_rfl) ?_) | (refine wpList_load_row rfl 39 _ rfl _ rfl 39 _ (0, 0) _ h_a Tryz.underlying39 rfl (by kernel_rfl) ?_))
  refine (rthere_g _ l most room who fr path _ _ W1 S1.out.oldX (S1.out.g 0 rfl) HD.out hplpath).mono ?_
  rintro e W2 ⟨ao1, cp1, rfl, hn1, hb⟩
  clear h_d h_a
  have S2 := Lib.hid ((S1.out.call hb).addN hn1)
  clear hb hn1
  obtain ⟨R, hR⟩ : ∃ R, R = walkL l who fr path false := ⟨_, rfl⟩
  rw [← hR] at S2 ⊢
  have HE := Lib.hid (unlink_at hR)
  clear hR
  obtain ⟨⟨sd, sn, si, ss⟩, n⟩ := R
  dsimp only at HE
  generalize thereE (⟨sd, sn, si, ss⟩, n) = e1 at *
  obtain ⟨m, hm⟩ : ∃ m, m = nodeL l si := ⟨_, rfl⟩
  dsimp only at S2
  rw [← hm] at S2 HE ⊢
  clear hm
  go_upto_region 2 with (fail)
  refine code_fresh2 ?_
  intro W3 hb hA0 hA1 hs
  have S3 := Lib.hid (S2.out.new2 hb hA0 hA1)
  clear hb hA0 hA1 hs
  by_cases h0 : e1 = 0
  · subst h0
    have HE2 := Lib.hid (HE.out.trans (if_neg (by simp)))
    clear HE
    by_cases hk : m.kind = 2
    · have hI : (m.kind == 2) = true := by simpa using hk
      have HE3 := Lib.hid (HE2.out.trans (if_pos hk))
      clear HE2 hk
      obtain ⟨n0, -, -, -, -, -, -, -⟩ := cells8 (S3.out.at 4 rfl)
      have h_r := (S3.out.at 2 rfl)
      have h_d := (S3.out.at 0 rfl)
      go_wp2_with (first | (refine wpList_load_row rfl 32 _ rfl _ rfl 32 _ (0, 0) _ h_d Tryz.underlying32 rfl (by kernel_rfl) ?_) | (refine wpList_store_row rfl 32 _ _ rfl _ rfl rfl h_r rfl (by kernel_rfl) rfl ?_; intro W4 hb hg hs hn; have S4 := Lib.hid (S3.out.set 2 rfl hb hg hs hn); clear hb hg hs hn))
      refine bodyPost_ret (HRET.out _ _ _ (S4.out.at 2 rfl) rfl _ rfl) rfl ?_
      rw [HE3.out]
      exact ⟨_, _, rfl, S4.out.gX 0 rfl, S4.out.bel⟩
    · have hI : (m.kind == 2) = false := by simpa using hk
      have HE3 := Lib.hid (HE2.out.trans (if_neg hk))
      clear HE2 hk
      obtain ⟨n0, -, -, -, -, -, -, -⟩ := cells8 (S3.out.at 4 rfl)
      obtain ⟨a0, -⟩ := cells2 (S3.out.at 1 rfl)
      obtain ⟨t0, -, -, -⟩ := cells4 (S3.out.at 3 rfl)
      have h_d := (S3.out.at 0 rfl)
      go_wp2_with (first | (refine wpList_load_row rfl 32 _ rfl _ rfl 32 _ (0, 0) _ h_d Tryz.underlying32 rfl (by kernel_rfl) ?_))
      refine (rwrites_g l most room who sd ao cap W3 (S3.out.g 0 rfl).none HD.out.len).mono ?_
      rintro e W4 ⟨rfl, hb⟩
      clear n0 a0 t0 h_d
      have S4 := Lib.hid (S3.out.call hb)
      clear hb
      cases hw : writesL l who sd with
      | false =>
        have HE4 := Lib.hid (HE3.out.trans (if_pos hw))
        clear HE3 hw
        have h_r := (S4.out.at 2 rfl)
        have h_d := (S4.out.at 0 rfl)
        go_wp2_with (first | (refine wpList_load_row rfl 32 _ rfl _ rfl 32 _ (0, 0) _ h_d Tryz.underlying32 rfl (by kernel_rfl) ?_) | (refine wpList_store_row rfl 32 _ _ rfl _ rfl rfl h_r rfl (by kernel_rfl) rfl ?_; intro W5 hb hg hs hn; have S5 := Lib.hid (S4.out.set 2 rfl hb hg hs hn); clear hb hg hs hn))
        refine bodyPost_ret (HRET.out _ _ _ (S5.out.at 2 rfl) rfl _ rfl) rfl ?_
        rw [HE4.out]
        exact ⟨_, _, rfl, S5.out.gX 0 rfl, S5.out.bel⟩
      | true =>
        have HE4 := Lib.hid (HE3.out.trans (if_neg (by rw [hw]; simp)))
        clear HE3 hw
        have h_d := (S4.out.at 0 rfl)
        have h_t := (S4.out.at 3 rfl)
        go_wp2_with (first | (refine wpList_load_row rfl 32 _ rfl _ rfl 32 _ (0, 0) _ h_d Tryz.underlying32 rfl (by kernel_rfl) ?_) | (refine wpList_load_row rfl 67 _ rfl _ rfl 67 _ (0, 0) _ h_t Tryz.underlying67 rfl (by kernel_rfl) ?_))
        refine (rlost_g _ l most room ⟨sd, sn, si, ss⟩ _ _ W4 S4.out.oldX (S4.out.g 0 rfl) HD.out.len (Nat.le_trans (HD.out.nm _) (by decide)) (HD.out.wrap ⟨sd, sn, si, ss⟩)).mono ?_
        rintro e W5 ⟨ao3, cap3, rfl, hg3, hb⟩
        clear h_d h_t
        have S5 := Lib.hid ((S4.out.call hb).addG hg3)
        clear hb hg3
        have h_r := (S5.out.at 2 rfl)
        go_wp2_with (first | (refine wpList_store_row rfl 32 _ _ rfl _ rfl rfl h_r rfl (by kernel_rfl) rfl ?_; intro W6 hb hg hs hn; have S6 := Lib.hid (S5.out.set 2 rfl hb hg hs hn); clear hb hg hs hn))
        refine bodyPost_ret (HRET.out _ _ _ (S6.out.at 2 rfl) rfl _ rfl) rfl ?_
        rw [HE4.out]
        exact ⟨_, _, rfl, S6.out.gX 1 rfl, S6.out.bel⟩
  · have hI : (e1 != 0) = true := by simpa using h0
    have HE2 := Lib.hid (HE.out.trans (if_pos h0))
    clear HE h0
    have h_r := (S3.out.at 2 rfl)
    have h_d := (S3.out.at 0 rfl)
    go_wp2_with (first | (refine wpList_load_row rfl 32 _ rfl _ rfl 32 _ (0, 0) _ h_d Tryz.underlying32 rfl (by kernel_rfl) ?_) | (refine wpList_store_row rfl 32 _ _ rfl _ rfl rfl h_r rfl (by kernel_rfl) rfl ?_; intro W4 hb hg hs hn; have S4 := Lib.hid (S3.out.set 2 rfl hb hg hs hn); clear hb hg hs hn))
    refine bodyPost_ret (HRET.out _ _ _ (S4.out.at 2 rfl) rfl _ rfl) rfl ?_
    rw [HE2.out]
    exact ⟨_, _, rfl, S4.out.gX 0 rfl, S4.out.bel⟩
end Go.Proofs.YtpmhmippoefcfaaGreatDoor
namespace Go.Proofs.YtpmhmippoefcfaaGreatDoor
open Go.RowKit Go.Shelf
attribute [local go_sem ↓] Go.wp_at_zero Go.wp_at_succ
set_option maxRecDepth 100000 in
set_option maxHeartbeats 4000000 in
theorem as_any (who fr : Int) (w : World) : Calls Tryz.prog 16 #[asV who fr] w fun e w' => e = .returned (asV who fr) ∧ Below w.heap.size w w' := by
  have S0 := Lib.hid (St.start (X := fun _ => False) (G := []) (N := []) (w := w) (fun _ h => h.elim) (fun _ h => by cases h) (fun _ h => by cases h))
  have HRET : Hid (∀ (W : World) (cs : Array Value) (fr), W.heap[w.heap.size + 1]? = some (.cells cs 39 fr) → cs.size = 2 → ∀ tmps : Array Value, tmps.getD 2 undef = .pointer (some ⟨w.heap.size + 1, 0, none⟩) → (results Tryz.f16 tmps).run Tryz.prog W = .ok (.agg cs) W) := Lib.hid fun W cs fr h hs tmps ht =>
  results_cell_row (p := 2)  (ty := 39) rfl tmps W (w.heap.size + 1) _ cs fr _ ht h Tryz.underlying39 rfl (by rw [hs]; kernel_rfl)
  go_enter Tryz.func16, Tryz.ntmps16
  go_upto_region 1 with (fail)
  refine code_fresh2 ?_
  intro W1 hb hA0 hA1 hs
  have S1 := Lib.hid (S0.out.new2 hb hA0 hA1)
  clear hb hA0 hA1 hs
  have h_r := (S1.out.at 1 rfl)
  have h_a := (S1.out.at 0 rfl)
  go_wp2_with (first | (refine wpList_load_row rfl 26 _ rfl _ rfl 26 _ (0, 0) _ h_a Tryz.underlying26 rfl (by kernel_rfl) ?_) | (refine wpList_store_row rfl 39 _ _ rfl _ rfl rfl h_r rfl (by kernel_rfl) rfl ?_; intro W2 hb hg hs hn; have S2 := Lib.hid (S1.out.set 1 rfl hb hg hs hn); clear hb hg hs hn))
  refine bodyPost_ret (HRET.out _ _ _ (S2.out.at 1 rfl) rfl _ rfl) rfl ?_
  exact ⟨rfl, S2.out.bel⟩
end Go.Proofs.YtpmhmippoefcfaaGreatDoor
namespace Go.Proofs.YtpmhmippoefcfaaGreatDoor
open Go.RowKit Go.Shelf
section
variable {l : List NodeL} {most room : Int} (h : rightQ l most room = true) (who fr : Int) (path : Str)
include h
theorem q_aft : Aft l most room := ⟨q_right h, q_dsk h⟩
theorem aft_link (old : Str) : Aft (linkL l who fr old path).1 most room := aft_of (right_link (q_right h) who fr path old) (siz_link (q_siz h) who fr path old)
theorem aft_unlink : Aft (unlinkL l who fr path).1 most room := aft_of (right_unlink (q_right h) who fr path) (siz_unlink (q_siz h) who fr path)
theorem aft_rmdir : Aft (rmdirL l who fr path).1 most room := aft_of (right_rmdir (q_right h) who fr path) (siz_rmdir (q_siz h) who fr path)
theorem aft_chmod (mode : Int) : Aft (chmodL l who fr path mode).1 most room := aft_of (right_chmod (q_right h) who fr path mode) (siz_chmod (q_siz h) who fr path mode)
end
end Go.Proofs.YtpmhmippoefcfaaGreatDoor
