/-
  The walk of ChangeRight.
-/
import Derived.RangeFuncNested
import Derived.RangeFuncBound
import Derived.RangeFuncCalls
import Derived.RangeFuncLeaves
import Derived.RangeFuncBox
import Derived.Shelf.Abstract
import Derived.Shelf.RegionOpen
import Derived.WalkKit
import Derived.OwnWalkIn
import Derived.TacticsInMore
import Derived.LoopNIn
import Derived.LoopIn
import Derived.Lib.Hide
import Derived.Outline
import Derived.Deep.QuietTactic
import Derived.Deep.AppendLies
import Derived.BigQuiet
import Derived.Lib.Strings
import Derived.WalkSmall
import Derived.Shelf.Small.Strs
import Derived.Shelf.Strings.Search1
import Derived.Shelf.Strings.Prefix
import Derived.Laws.AppendOwn
import Derived.Laws.OwnMore
import Derived.Laws.AppendOwnNone
import Derived.WideShapes
import Derived.Lib.TrimByte
import Derived.Lib.Bytealg
import Derived.Lib.QuietBelow
import Derived.Deep.DrawnRows
import Derived.Laws.Cover1
import Derived.WalkMore
import Derived.Shelf.Spec.SlicesGrow
import Derived.StillTailTactics
import Derived.Laws.BitsLemmas
import Derived.Laws.RangeAny
import Derived.Laws.Runes
import Derived.Lib.Builder
import Derived.Deep.WholeRow
import Derived.Lib.OthersKept
import Derived.Shelf.SlSorted.Search
import Derived.LaidEql
import Derived.Stop.Asserts
import Derived.RowKitTokens
import Derived.Deep.RegionHeld3
import Derived.Deep.RegionLaw
import Derived.Handy
import Derived.Laws.IdiomCopy
import Derived.Lib.SliceRun
import Derived.Laws.ResultCell
import Derived.Deep.LoopGhost
import Derived.Deep.DeepCutAuto
import Derived.Deep.MidRow
import Derived.BigRegion
import Derived.OwnWalk
import Derived.Test.YtpmhmippoefcfaaGreatDoorProg
import Derived.Test.YtpmhmippoefcfaaGreatDoorShelf
import Derived.Test.YtpmhmippoefcfaaGreatDoorB01
import Derived.Test.YtpmhmippoefcfaaGreatDoorB02
import Derived.Test.YtpmhmippoefcfaaGreatDoorB04
import Derived.Test.YtpmhmippoefcfaaGreatDoorB05
import Derived.Test.YtpmhmippoefcfaaGreatDoorB07
import Derived.Test.YtpmhmippoefcfaaGreatDoorB08
import Derived.Test.YtpmhmippoefcfaaGreatDoorB09
import Derived.Test.YtpmhmippoefcfaaGreatDoorB10
import Derived.Test.YtpmhmippoefcfaaGreatDoorB11
import Derived.Test.YtpmhmippoefcfaaGreatDoorB12
import Derived.Test.YtpmhmippoefcfaaGreatDoorB13
import Derived.Test.YtpmhmippoefcfaaGreatDoorB14
import Derived.Test.YtpmhmippoefcfaaGreatDoorB16
import Derived.Test.YtpmhmippoefcfaaGreatDoorB17
import Derived.Test.YtpmhmippoefcfaaGreatDoorB21
import Derived.Test.YtpmhmippoefcfaaGreatDoorB23
import Derived.Test.YtpmhmippoefcfaaGreatDoorB24
import Derived.Test.YtpmhmippoefcfaaGreatDoorChangeRightE01
import Derived.Test.YtpmhmippoefcfaaGreatDoorChangeRightE03
namespace Go.Proofs.YtpmhmippoefcfaaGreatDoor
open Go.RowKit Go.Shelf
attribute [local go_sem ↓] Go.wp_at_zero Go.wp_at_succ
def setAll (cs : Array Value) : Nat → List Value → Array Value
  | _, [] => cs
  | o, v :: r => setAll (cs.setIfInBounds o v) (o + 1) r
theorem heap_setAll {b : Nat} {t : TypeId} : ∀ (vs : List Value) (o : Nat) (w : World) (cs : Array Value), w.heap[b]? = some (.cells cs t (0, 0)) → (w.setCells b o vs).heap[b]? = some (.cells (setAll cs o vs) t (0, 0))
  | [], _, _, _, h => h
  | v :: r, o, w, _, h => heap_setAll r (o + 1) (w.setCell ⟨b, o, none⟩ v) _ (heap_set h)
/-- A part of a block, written, in a plain region. -/
theorem wpList_store_at {P : Program} {ops : Array Oper} {rest : List Oper} {op : Oper} {a : Act} {w : World} {Q : Exit → Act → World → Prop} (hgd : op.guard = none) (ty : TypeId) (x y : Operand) (ho : op.op = .store ty x y)
    (b o : Nat) {cells : List Value} {old new : Array Value} {t : TypeId} (hx : a.eval x = .pointer (some ⟨b, o, none⟩)) (hy : a.eval y = .agg cells.toArray) (hb : w.heap[b]? = some (.cells old t (0, 0))) (hs : o + cells.length ≤ old.size)
    (hi : (P.info? ty).map (·.size) = some cells.length) (h1 : cells.all (·.oneCell') = true) (hn : setAll old o cells = new)
    (h : ∀ W', Below b w W' → (∀ g, g ≠ b → W'.heap[g]? = w.heap[g]?) → W'.heap.size = w.heap.size → W'.heap[b]? = some (.cells new t (0, 0)) → wpList P ops Q rest (a.put op.dst undef) W') : wpList P ops Q (op :: rest) a w := by
  refine wpList_store_mid hgd ty x y ho b o cells.toArray hx hy ?_ (by simpa using hi) ?_ ?_
  · intro j hj
    rw [List.size_toArray] at hj
    refine ⟨?_, Lib.frozen_of_heap hb _⟩
    rw [Lib.cell_of_heap hb, Array.getElem?_eq_getElem (by omega)]
    rfl
  · exact all_oneCell_toArray fun v hv => List.all_eq_true.1 h1 v hv
  · exact h _ (below_setCells _ _ (Nat.le_refl _) _ _ _) (fun g hg => heap_setCells _ _ hg _ _ _) (size_setCells _ _ _ _) (by rw [← hn]; exact heap_setAll _ _ _ _ hb)
theorem infoDisk : (Tryz.prog.info? 24).map (fun i => (i.zero, i.size, i.bytes)) = some (some (.agg #[.slice none 0 0, .int .i64 0, .int .i64 0]), 3, 40) := by kernel_rfl
theorem madeZ : madeCells (Value.agg #[.slice none 0 0, .int .i64 0, .int .i64 0]).cells (8 * 3) = #[.slice none 0 0, .int .i64 0, .int .i64 0, .slice none 0 0, .int .i64 0, .int .i64 0, .slice none 0 0, .int .i64 0, .int .i64 0, .slice none 0 0, .int .i64 0, .int .i64 0, .slice none 0 0, .int .i64 0, .int .i64 0, .slice none 0 0, .int .i64 0, .int .i64 0, .slice none 0 0, .int .i64 0, .int .i64 0, .slice none 0 0, .int .i64 0, .int .i64 0] := by kernel_rfl
theorem made8 {W W' : World} {T : TypeId} (h : W'.ownsRow W.heap.size T 3 (.slice (some ⟨W.heap.size, 0, none⟩) 8 8) 8 (madeCells (Value.agg #[.slice none 0 0, .int .i64 0, .int .i64 0]).cells (8 * 3)).toList) :
    W'.heap[W.heap.size]? = some (.cells #[.slice none 0 0, .int .i64 0, .int .i64 0, .slice none 0 0, .int .i64 0, .int .i64 0, .slice none 0 0, .int .i64 0, .int .i64 0, .slice none 0 0, .int .i64 0, .int .i64 0, .slice none 0 0, .int .i64 0, .int .i64 0, .slice none 0 0, .int .i64 0, .int .i64 0, .slice none 0 0, .int .i64 0, .int .i64 0, .slice none 0 0, .int .i64 0, .int .i64 0] T (0, 0)) := by
  obtain ⟨_, ⟨e, _⟩ | ⟨g, cap, cur, e, _, hg, _, _, hsz, htk⟩⟩ := h
  · cases e
  · injection e with e1 _ e2
    injection e1 with e1
    injection e1 with e1
    subst e1 e2
    rw [hg]
    have h2 : cur.toList = (madeCells (Value.agg #[.slice none 0 0, .int .i64 0, .int .i64 0]).cells (8 * 3)).toList := by
      rw [← htk, List.take_of_length_le (by simp [hsz])]
    have h3 : cur = madeCells (Value.agg #[.slice none 0 0, .int .i64 0, .int .i64 0]).cells (8 * 3) := Array.toList_inj.1 h2
    rw [h3, madeZ]
set_option maxRecDepth 100000 in
set_option maxHeartbeats 4000000 in
theorem right_l (l : List NodeL) (most room : Int) (who fr who2 fr2 : Int) (old path : Str) (mode : Int) (ao : Option Addr) (cap : Nat) (w : World) (hg : GivesN l (.slice ao l.length cap) w) (hfit : FitD l) {S : Nat → Addr} (hs : Sent S w) :
    Calls Tryz.prog 6 #[diskV ao l.length cap most room, asV who fr, asV who2 fr2, .string (bs old), .string (bs path), .int .i64 mode] w fun e w' => e = .returned (.bool true) ∧ Below w.heap.size w w' := by
  have S0 := Lib.hid (Sn.start hg)
  have HS := Lib.hid hs
  have HQ := Lib.hid fun v W (hgv : GivesN l v W) => right_g l most room v W hgv hfit
  have HSh := Lib.hid fun W (hs : Sent S W) => shown_any W hs
  clear hg hs hfit
  go_enter Tryz.func6, Tryz.ntmps6
  go_upto_region 1 with (fail)
  refine code_fresh3 ?_
  intro W1 hb hA0 hA1 hA2 hs
  have S1 := Lib.hid (S0.out.new3 hb hA0 hA1 hA2)
  clear hb hA0 hA1 hA2 hs
  obtain ⟨d0, d1, d2⟩ := cells3 (S1.out.at 0 rfl)
  go_wp2_with fail
  refine (HQ.out _ W1 (S1.out.g 0 rfl)).mono ?_
  rintro e W2 ⟨rfl, hb⟩
  clear d0 d1 d2
  have S2 := Lib.hid (S1.out.call hb)
  clear hb
  cases hq : rightQ l most room with
  | false =>
    clear hq
    go_wp2_with fail
    refine (HSh.out W2 (HS.out.keep S2.out.bel)).mono ?_
    rintro e WZ ⟨rfl, hb⟩
    go_wp2_with fail
    go_ret
    exact ⟨rfl, ret_tr S2.out.bel hb⟩
  | true =>
    have HR := Lib.hid hq
    clear hq
    go_wp2_with fail
    refine calls_fresh1 ?_
    intro WS hb hA hs
    have SS := Lib.hid (S2.out.call hb)
    clear hb hs
    refine (short_n [path, old] 2 rfl (by decide) WS hA).mono ?_
    rintro e _ ⟨rfl, rfl⟩
    clear hA
    cases hsh : shortB [path, old] with
    | false =>
      clear hsh
      go_wp2_with fail
      refine (HSh.out WS (HS.out.keep SS.out.bel)).mono ?_
      rintro e WZ ⟨rfl, hb⟩
      go_wp2_with fail
      go_ret
      exact ⟨rfl, ret_tr SS.out.bel hb⟩
    | true =>
      have hplpath : path.length ≤ 10000 := Nat.le_trans (short_yes hsh path (by simp)) (by decide)
      have hplold : old.length ≤ 10000 := Nat.le_trans (short_yes hsh old (by simp)) (by decide)
      clear hsh
      go_wp2_with fail
      refine (HSh.out WS (HS.out.keep SS.out.bel)).mono ?_
      rintro e W3 ⟨rfl, hb⟩
      have S3 := Lib.hid (SS.out.call hb)
      clear hb
      have hp := fun (X : Nat → Prop) (W : World) (ao : Option Addr) (cap : Nat) (hX : Old X W) (h : GivesX X l (.slice ao l.length cap) W) (hs : Sent S W) => (pmake_g X l most room who fr path mode ao cap W hX h (q_dsk HR.out) hplpath hs).mono fun _ _ h => (show MakX X _ _ _ most room _ _ _ from h)
      have ha := aft_mkfile HR.out who fr path mode
      generalize mkfileL l most room who fr path mode = R at hp ha
      obtain ⟨L0, i0, f0⟩ := R
      dsimp only at hp ha
      have HP0 := Lib.hid hp
      have HA0 := Lib.hid ha
      clear hp ha
      have hp := fun (X : Nat → Prop) (W : World) (ao : Option Addr) (cap : Nat) (hX : Old X W) (h : GivesX X l (.slice ao l.length cap) W) (hs : Sent S W) => (pmkdir_g X l most room who fr path mode ao cap W hX h (q_dsk HR.out) hplpath hs).mono fun _ _ h => (show ChgX X _ _ most room _ _ _ from h)
      have ha := aft_mkdir HR.out who fr path mode
      generalize mkdirL l most room who fr path mode = R at hp ha
      obtain ⟨L1, f1⟩ := R
      dsimp only at hp ha
      have HP1 := Lib.hid hp
      have HA1 := Lib.hid ha
      clear hp ha
      have hp := fun (X : Nat → Prop) (W : World) (ao : Option Addr) (cap : Nat) (hX : Old X W) (h : GivesX X l (.slice ao l.length cap) W) (hs : Sent S W) => (psymlink_g X l most room who fr old path ao cap W hX h (q_dsk HR.out) hplpath hs hplold).mono fun _ _ h => (show ChgX X _ _ most room _ _ _ from h)
      have ha := aft_symlink HR.out who fr path old
      generalize symlinkL l most room who fr old path = R at hp ha
      obtain ⟨L2, f2⟩ := R
      dsimp only at hp ha
      have HP2 := Lib.hid hp
      have HA2 := Lib.hid ha
      clear hp ha
      have hp := fun (X : Nat → Prop) (W : World) (ao : Option Addr) (cap : Nat) (hX : Old X W) (h : GivesX X l (.slice ao l.length cap) W) (hs : Sent S W) => (plink_g X l most room who fr old path ao cap W hX h (q_dsk HR.out) hplpath hs hplold).mono fun _ _ h => (show ChgX X _ _ most room _ _ _ from h)
      have ha := aft_link HR.out who fr path old
      generalize linkL l who fr old path = R at hp ha
      obtain ⟨L3, f3⟩ := R
      dsimp only at hp ha
      have HP3 := Lib.hid hp
      have HA3 := Lib.hid ha
      clear hp ha
      have hp := fun (X : Nat → Prop) (W : World) (ao : Option Addr) (cap : Nat) (hX : Old X W) (h : GivesX X l (.slice ao l.length cap) W) (hs : Sent S W) => (punlink_g X l most room who fr path ao cap W hX h (q_dsk HR.out) hplpath hs).mono fun _ _ h => (show ChgX X _ _ most room _ _ _ from h)
      have ha := aft_unlink HR.out who fr path
      generalize unlinkL l who fr path = R at hp ha
      obtain ⟨L4, f4⟩ := R
      dsimp only at hp ha
      have HP4 := Lib.hid hp
      have HA4 := Lib.hid ha
      clear hp ha
      have hp := fun (X : Nat → Prop) (W : World) (ao : Option Addr) (cap : Nat) (hX : Old X W) (h : GivesX X l (.slice ao l.length cap) W) (hs : Sent S W) => (prmdir_g X l most room who fr path ao cap W hX h (q_dsk HR.out) hplpath hs).mono fun _ _ h => (show ChgX X _ _ most room _ _ _ from h)
      have ha := aft_rmdir HR.out who fr path
      generalize rmdirL l who fr path = R at hp ha
      obtain ⟨L5, f5⟩ := R
      dsimp only at hp ha
      have HP5 := Lib.hid hp
      have HA5 := Lib.hid ha
      clear hp ha
      have hp := fun (X : Nat → Prop) (W : World) (ao : Option Addr) (cap : Nat) (hX : Old X W) (h : GivesX X l (.slice ao l.length cap) W) (hs : Sent S W) => (prename_g X l most room who fr who2 fr2 old path ao cap W hX h (q_dsk HR.out) hplold hplpath hs).mono fun _ _ h => (show ChgX X _ _ most room _ _ _ from h)
      have ha := aft_rename HR.out who fr path who2 fr2 old
      generalize renameL l who fr who2 fr2 old path = R at hp ha
      obtain ⟨L6, f6⟩ := R
      dsimp only at hp ha
      have HP6 := Lib.hid hp
      have HA6 := Lib.hid ha
      clear hp ha
      have hp := fun (X : Nat → Prop) (W : World) (ao : Option Addr) (cap : Nat) (hX : Old X W) (h : GivesX X l (.slice ao l.length cap) W) (hs : Sent S W) => (pchmod_g X l most room who fr path mode ao cap W hX h (q_dsk HR.out) hplpath hs).mono fun _ _ h => (show ChgX X _ _ most room _ _ _ from h)
      have ha := aft_chmod HR.out who fr path mode
      generalize chmodL l who fr path mode = R at hp ha
      obtain ⟨L7, f7⟩ := R
      dsimp only at hp ha
      have HP7 := Lib.hid hp
      have HA7 := Lib.hid ha
      clear hp ha
      obtain ⟨i0, hi0, hz0, hz1, hz2⟩ := info_parts infoDisk
      have HI := Lib.hid (And.intro hi0 (And.intro hz0 (And.intro hz1 hz2)))
      clear hi0 hz0 hz1 hz2
      go_upto_region 4 with (at_make; refine wpList_make_full _ rfl (.const (.int .i64 8)) (.const (.int .i64 8)) 54 rfl W3.heap.size 24 i0 _ 3 Tryz.underlying54 HI.out.1 HI.out.2.1 HI.out.2.2.1 .i64 .i64 _ _ 8 rfl rfl (by rfl) (by rfl) (by rw [HI.out.2.2.2]; decide) (by decide) (Nat.le_refl _) ?_; intro WM ho hg)
      have S4 := Lib.hid S3.out.st
      have S5 := Lib.hid (S4.out.new1 ((Below.refl _ W3).grown hg (Nat.le_refl _) (fun j ej => by cases ej)) (made8 ho))
      clear ho hg
      obtain ⟨g, hg⟩ : ∃ g, g = W3.heap.size := ⟨_, rfl⟩
      rw [← hg] at S5 ⊢
      clear hg
      obtain ⟨d0, d1, d2⟩ := cells3 (S3.out.at' S5.out.bel 0 rfl)
      obtain ⟨a0, a1⟩ := cells2 (S3.out.at' S5.out.bel 1 rfl)
      go_wp2_with fail
      refine (HP0.out _ WM _ _ S5.out.oldX (S5.out.g 0 rfl) (HS.out.keep (ret_tr S3.out.bel S5.out.bel))).mono ?_
      rintro e W6 ⟨ao0, cp0, rfl, hg1, hb⟩
      clear d0 d1 d2 a0 a1
      have S6 := Lib.hid ((S5.out.call hb).addG hg1)
      clear hb hg1
      have h_g := S6.out.at 0 rfl
      go_upto_region 5 with (first | (refine wpList_store_at rfl 24 _ _ rfl g 0 (new := #[.slice ao0 L0.length cp0, .int .i64 most, .int .i64 room, .slice none 0 0, .int .i64 0, .int .i64 0, .slice none 0 0, .int .i64 0, .int .i64 0, .slice none 0 0, .int .i64 0, .int .i64 0, .slice none 0 0, .int .i64 0, .int .i64 0, .slice none 0 0, .int .i64 0, .int .i64 0, .slice none 0 0, .int .i64 0, .int .i64 0, .slice none 0 0, .int .i64 0, .int .i64 0]) rfl rfl h_g (Nat.le_of_ble_eq_true rfl) (by kernel_rfl) rfl rfl ?_; intro W7 hb hg hs hn; have S7 := Lib.hid (S6.out.set 0 rfl hb hg hs hn); clear hb hg hs hn))
      clear h_g
      obtain ⟨d0, d1, d2⟩ := cells3 (S3.out.at' S7.out.bel 0 rfl)
      obtain ⟨a0, a1⟩ := cells2 (S3.out.at' S7.out.bel 1 rfl)
      go_wp2_with fail
      refine (HP1.out _ W7 _ _ S7.out.oldX (S7.out.g 0 rfl) (HS.out.keep (ret_tr S3.out.bel S7.out.bel))).mono ?_
      rintro e W8 ⟨ao1, cp1, rfl, hg1, hb⟩
      clear d0 d1 d2 a0 a1
      have S8 := Lib.hid ((S7.out.call hb).addG hg1)
      clear hb hg1
      have h_g := S8.out.at 0 rfl
      go_upto_region 6 with (first | (refine wpList_store_at rfl 24 _ _ rfl g 3 (new := #[.slice ao0 L0.length cp0, .int .i64 most, .int .i64 room, .slice ao1 L1.length cp1, .int .i64 most, .int .i64 room, .slice none 0 0, .int .i64 0, .int .i64 0, .slice none 0 0, .int .i64 0, .int .i64 0, .slice none 0 0, .int .i64 0, .int .i64 0, .slice none 0 0, .int .i64 0, .int .i64 0, .slice none 0 0, .int .i64 0, .int .i64 0, .slice none 0 0, .int .i64 0, .int .i64 0]) rfl rfl h_g (Nat.le_of_ble_eq_true rfl) (by kernel_rfl) rfl rfl ?_; intro W9 hb hg hs hn; have S9 := Lib.hid (S8.out.set 0 rfl hb hg hs hn); clear hb hg hs hn))
      clear h_g
      obtain ⟨d0, d1, d2⟩ := cells3 (S3.out.at' S9.out.bel 0 rfl)
      obtain ⟨a0, a1⟩ := cells2 (S3.out.at' S9.out.bel 1 rfl)
      go_wp2_with fail
      refine (HP2.out _ W9 _ _ S9.out.oldX (S9.out.g 0 rfl) (HS.out.keep (ret_tr S3.out.bel S9.out.bel))).mono ?_
      rintro e W10 ⟨ao2, cp2, rfl, hg1, hb⟩
      clear d0 d1 d2 a0 a1
      have S10 := Lib.hid ((S9.out.call hb).addG hg1)
      clear hb hg1
      have h_g := S10.out.at 0 rfl
      go_upto_region 7 with (first | (refine wpList_store_at rfl 24 _ _ rfl g 6 (new := #[.slice ao0 L0.length cp0, .int .i64 most, .int .i64 room, .slice ao1 L1.length cp1, .int .i64 most, .int .i64 room, .slice ao2 L2.length cp2, .int .i64 most, .int .i64 room, .slice none 0 0, .int .i64 0, .int .i64 0, .slice none 0 0, .int .i64 0, .int .i64 0, .slice none 0 0, .int .i64 0, .int .i64 0, .slice none 0 0, .int .i64 0, .int .i64 0, .slice none 0 0, .int .i64 0, .int .i64 0]) rfl rfl h_g (Nat.le_of_ble_eq_true rfl) (by kernel_rfl) rfl rfl ?_; intro W11 hb hg hs hn; have S11 := Lib.hid (S10.out.set 0 rfl hb hg hs hn); clear hb hg hs hn))
      clear h_g
      obtain ⟨d0, d1, d2⟩ := cells3 (S3.out.at' S11.out.bel 0 rfl)
      obtain ⟨a0, a1⟩ := cells2 (S3.out.at' S11.out.bel 1 rfl)
      go_wp2_with fail
      refine (HP3.out _ W11 _ _ S11.out.oldX (S11.out.g 0 rfl) (HS.out.keep (ret_tr S3.out.bel S11.out.bel))).mono ?_
      rintro e W12 ⟨ao3, cp3, rfl, hg1, hb⟩
      clear d0 d1 d2 a0 a1
      have S12 := Lib.hid ((S11.out.call hb).addG hg1)
      clear hb hg1
      have h_g := S12.out.at 0 rfl
      go_upto_region 8 with (first | (refine wpList_store_at rfl 24 _ _ rfl g 9 (new := #[.slice ao0 L0.length cp0, .int .i64 most, .int .i64 room, .slice ao1 L1.length cp1, .int .i64 most, .int .i64 room, .slice ao2 L2.length cp2, .int .i64 most, .int .i64 room, .slice ao3 L3.length cp3, .int .i64 most, .int .i64 room, .slice none 0 0, .int .i64 0, .int .i64 0, .slice none 0 0, .int .i64 0, .int .i64 0, .slice none 0 0, .int .i64 0, .int .i64 0, .slice none 0 0, .int .i64 0, .int .i64 0]) rfl rfl h_g (Nat.le_of_ble_eq_true rfl) (by kernel_rfl) rfl rfl ?_; intro W13 hb hg hs hn; have S13 := Lib.hid (S12.out.set 0 rfl hb hg hs hn); clear hb hg hs hn))
      clear h_g
      obtain ⟨d0, d1, d2⟩ := cells3 (S3.out.at' S13.out.bel 0 rfl)
      obtain ⟨a0, a1⟩ := cells2 (S3.out.at' S13.out.bel 1 rfl)
      go_wp2_with fail
      refine (HP4.out _ W13 _ _ S13.out.oldX (S13.out.g 0 rfl) (HS.out.keep (ret_tr S3.out.bel S13.out.bel))).mono ?_
      rintro e W14 ⟨ao4, cp4, rfl, hg1, hb⟩
      clear d0 d1 d2 a0 a1
      have S14 := Lib.hid ((S13.out.call hb).addG hg1)
      clear hb hg1
      have h_g := S14.out.at 0 rfl
      go_upto_region 9 with (first | (refine wpList_store_at rfl 24 _ _ rfl g 12 (new := #[.slice ao0 L0.length cp0, .int .i64 most, .int .i64 room, .slice ao1 L1.length cp1, .int .i64 most, .int .i64 room, .slice ao2 L2.length cp2, .int .i64 most, .int .i64 room, .slice ao3 L3.length cp3, .int .i64 most, .int .i64 room, .slice ao4 L4.length cp4, .int .i64 most, .int .i64 room, .slice none 0 0, .int .i64 0, .int .i64 0, .slice none 0 0, .int .i64 0, .int .i64 0, .slice none 0 0, .int .i64 0, .int .i64 0]) rfl rfl h_g (Nat.le_of_ble_eq_true rfl) (by kernel_rfl) rfl rfl ?_; intro W15 hb hg hs hn; have S15 := Lib.hid (S14.out.set 0 rfl hb hg hs hn); clear hb hg hs hn))
      clear h_g
      obtain ⟨d0, d1, d2⟩ := cells3 (S3.out.at' S15.out.bel 0 rfl)
      obtain ⟨a0, a1⟩ := cells2 (S3.out.at' S15.out.bel 1 rfl)
      go_wp2_with fail
      refine (HP5.out _ W15 _ _ S15.out.oldX (S15.out.g 0 rfl) (HS.out.keep (ret_tr S3.out.bel S15.out.bel))).mono ?_
      rintro e W16 ⟨ao5, cp5, rfl, hg1, hb⟩
      clear d0 d1 d2 a0 a1
      have S16 := Lib.hid ((S15.out.call hb).addG hg1)
      clear hb hg1
      have h_g := S16.out.at 0 rfl
      go_upto_region 10 with (first | (refine wpList_store_at rfl 24 _ _ rfl g 15 (new := #[.slice ao0 L0.length cp0, .int .i64 most, .int .i64 room, .slice ao1 L1.length cp1, .int .i64 most, .int .i64 room, .slice ao2 L2.length cp2, .int .i64 most, .int .i64 room, .slice ao3 L3.length cp3, .int .i64 most, .int .i64 room, .slice ao4 L4.length cp4, .int .i64 most, .int .i64 room, .slice ao5 L5.length cp5, .int .i64 most, .int .i64 room, .slice none 0 0, .int .i64 0, .int .i64 0, .slice none 0 0, .int .i64 0, .int .i64 0]) rfl rfl h_g (Nat.le_of_ble_eq_true rfl) (by kernel_rfl) rfl rfl ?_; intro W17 hb hg hs hn; have S17 := Lib.hid (S16.out.set 0 rfl hb hg hs hn); clear hb hg hs hn))
      clear h_g
      obtain ⟨d0, d1, d2⟩ := cells3 (S3.out.at' S17.out.bel 0 rfl)
      obtain ⟨a0, a1⟩ := cells2 (S3.out.at' S17.out.bel 1 rfl)
      obtain ⟨b0, b1⟩ := cells2 (S3.out.at' S17.out.bel 2 rfl)
      go_wp2_with fail
      refine (HP6.out _ W17 _ _ S17.out.oldX (S17.out.g 0 rfl) (HS.out.keep (ret_tr S3.out.bel S17.out.bel))).mono ?_
      rintro e W18 ⟨ao6, cp6, rfl, hg1, hb⟩
      clear d0 d1 d2 a0 a1 b0 b1
      have S18 := Lib.hid ((S17.out.call hb).addG hg1)
      clear hb hg1
      have h_g := S18.out.at 0 rfl
      go_upto_region 11 with (first | (refine wpList_store_at rfl 24 _ _ rfl g 18 (new := #[.slice ao0 L0.length cp0, .int .i64 most, .int .i64 room, .slice ao1 L1.length cp1, .int .i64 most, .int .i64 room, .slice ao2 L2.length cp2, .int .i64 most, .int .i64 room, .slice ao3 L3.length cp3, .int .i64 most, .int .i64 room, .slice ao4 L4.length cp4, .int .i64 most, .int .i64 room, .slice ao5 L5.length cp5, .int .i64 most, .int .i64 room, .slice ao6 L6.length cp6, .int .i64 most, .int .i64 room, .slice none 0 0, .int .i64 0, .int .i64 0]) rfl rfl h_g (Nat.le_of_ble_eq_true rfl) (by kernel_rfl) rfl rfl ?_; intro W19 hb hg hs hn; have S19 := Lib.hid (S18.out.set 0 rfl hb hg hs hn); clear hb hg hs hn))
      clear h_g
      obtain ⟨d0, d1, d2⟩ := cells3 (S3.out.at' S19.out.bel 0 rfl)
      obtain ⟨a0, a1⟩ := cells2 (S3.out.at' S19.out.bel 1 rfl)
      go_wp2_with fail
      refine (HP7.out _ W19 _ _ S19.out.oldX (S19.out.g 0 rfl) (HS.out.keep (ret_tr S3.out.bel S19.out.bel))).mono ?_
      rintro e W20 ⟨ao7, cp7, rfl, hg1, hb⟩
      clear d0 d1 d2 a0 a1
      have S20 := Lib.hid ((S19.out.call hb).addG hg1)
      clear hb hg1
      have h_g := S20.out.at 0 rfl
      go_upto_region 12 with (first | (refine wpList_store_at rfl 24 _ _ rfl g 21 (new := #[.slice ao0 L0.length cp0, .int .i64 most, .int .i64 room, .slice ao1 L1.length cp1, .int .i64 most, .int .i64 room, .slice ao2 L2.length cp2, .int .i64 most, .int .i64 room, .slice ao3 L3.length cp3, .int .i64 most, .int .i64 room, .slice ao4 L4.length cp4, .int .i64 most, .int .i64 room, .slice ao5 L5.length cp5, .int .i64 most, .int .i64 room, .slice ao6 L6.length cp6, .int .i64 most, .int .i64 room, .slice ao7 L7.length cp7, .int .i64 most, .int .i64 room]) rfl rfl h_g (Nat.le_of_ble_eq_true rfl) (by kernel_rfl) rfl rfl ?_; intro W21 hb hg hs hn; have S21 := Lib.hid (S20.out.set 0 rfl hb hg hs hn); clear hb hg hs hn))
      clear h_g
      have HE : Hid (∀ j : Nat, j < 8 → ∃ L ao cap, Aft L most room ∧ GivesN L (.slice ao L.length cap) W21 ∧ W21.cell? ⟨g, j * 3, none⟩ = some (.slice ao L.length cap) ∧ W21.cell? ⟨g, j * 3 + 1, none⟩ = some (.int .i64 most) ∧ W21.cell? ⟨g, j * 3 + 2, none⟩ = some (.int .i64 room)) := Lib.hid fun j hj => by
        have h8 : j = 0 ∨ j = 1 ∨ j = 2 ∨ j = 3 ∨ j = 4 ∨ j = 5 ∨ j = 6 ∨ j = 7 := by omega
        rcases h8 with rfl | rfl | rfl | rfl | rfl | rfl | rfl | rfl
        · exact ⟨L0, ao0, cp0, HA0.out, (S21.out.g 1 rfl).gives, by rw [Lib.cell_of_heap (S21.out.at 0 rfl)]; rfl, by rw [Lib.cell_of_heap (S21.out.at 0 rfl)]; rfl, by rw [Lib.cell_of_heap (S21.out.at 0 rfl)]; rfl⟩
        · exact ⟨L1, ao1, cp1, HA1.out, (S21.out.g 2 rfl).gives, by rw [Lib.cell_of_heap (S21.out.at 0 rfl)]; rfl, by rw [Lib.cell_of_heap (S21.out.at 0 rfl)]; rfl, by rw [Lib.cell_of_heap (S21.out.at 0 rfl)]; rfl⟩
        · exact ⟨L2, ao2, cp2, HA2.out, (S21.out.g 3 rfl).gives, by rw [Lib.cell_of_heap (S21.out.at 0 rfl)]; rfl, by rw [Lib.cell_of_heap (S21.out.at 0 rfl)]; rfl, by rw [Lib.cell_of_heap (S21.out.at 0 rfl)]; rfl⟩
        · exact ⟨L3, ao3, cp3, HA3.out, (S21.out.g 4 rfl).gives, by rw [Lib.cell_of_heap (S21.out.at 0 rfl)]; rfl, by rw [Lib.cell_of_heap (S21.out.at 0 rfl)]; rfl, by rw [Lib.cell_of_heap (S21.out.at 0 rfl)]; rfl⟩
        · exact ⟨L4, ao4, cp4, HA4.out, (S21.out.g 5 rfl).gives, by rw [Lib.cell_of_heap (S21.out.at 0 rfl)]; rfl, by rw [Lib.cell_of_heap (S21.out.at 0 rfl)]; rfl, by rw [Lib.cell_of_heap (S21.out.at 0 rfl)]; rfl⟩
        · exact ⟨L5, ao5, cp5, HA5.out, (S21.out.g 6 rfl).gives, by rw [Lib.cell_of_heap (S21.out.at 0 rfl)]; rfl, by rw [Lib.cell_of_heap (S21.out.at 0 rfl)]; rfl, by rw [Lib.cell_of_heap (S21.out.at 0 rfl)]; rfl⟩
        · exact ⟨L6, ao6, cp6, HA6.out, (S21.out.g 7 rfl).gives, by rw [Lib.cell_of_heap (S21.out.at 0 rfl)]; rfl, by rw [Lib.cell_of_heap (S21.out.at 0 rfl)]; rfl, by rw [Lib.cell_of_heap (S21.out.at 0 rfl)]; rfl⟩
        · exact ⟨L7, ao7, cp7, HA7.out, (S21.out.g 8 rfl).gives, by rw [Lib.cell_of_heap (S21.out.at 0 rfl)]; rfl, by rw [Lib.cell_of_heap (S21.out.at 0 rfl)]; rfl, by rw [Lib.cell_of_heap (S21.out.at 0 rfl)]; rfl⟩
      have hgl : g < W21.heap.size := (S21.out.own 0 rfl).2
      have HB := Lib.hid (ret_tr S3.out.bel S21.out.bel)
      skip
      go_wp2_with fail
      go_loopw [14] (fun i' wr => ∃ k : Nat, i' = .int .i64 k ∧ k ≤ 8 ∧ Below W21.heap.size W21 wr) (fun i' _ => 8 - (intOf i').toNat)
      case atStart => exact ⟨0, rfl, Nat.zero_le _, Below.refl _ _⟩
      case round =>
        obtain ⟨k, rfl, hk, hBr⟩ := hrel
        by_cases hlt : k < 8
        · have hI : decide ((k : Int) < 8) = true := decide_eq_true (by omega)
          have hI2 : decide (k < 8) = true := decide_eq_true hlt
          have k0 : (0 : Int) ≤ (k : Int) := by omega
          have k1 : (k : Int) < 8 := by omega
          obtain ⟨L, ao, cap, ha, hgl2, c0, c1, c2⟩ := HE.out k hlt
          have HAL := Lib.hid ha
          have HGL := Lib.hid (hgl2.keep hBr)
          replace c0 := (hBr.cell (p := ⟨g, k * 3, none⟩) hgl).trans c0
          replace c1 := (hBr.cell (p := ⟨g, k * 3 + 1, none⟩) hgl).trans c1
          replace c2 := (hBr.cell (p := ⟨g, k * 3 + 2, none⟩) hgl).trans c2
          have hJ : decide ((1000 : Int) < (L.length : Int)) = false := decide_eq_false (by have := ha.dsk.sm.1; omega)
          clear ha hgl2
          go_wp2_with fail
          refine (its_f L most room HAL.out.dsk.len HAL.out.names _ wr HGL.out).mono ?_
          rintro e WA ⟨aoz, cpz, rfl, hgz, hb⟩
          have HBA := Lib.hid (ret_tr hBr hb)
          have HGZ := Lib.hid hgz
          clear hb hgz c0 c1 c2
          go_wp2_with fail
          refine (rright_g L most room HAL.out.dsk.sm HAL.out.fit HAL.out.right _ WA HGZ.out).mono ?_
          rintro e WB ⟨rfl, hb⟩
          have HBB := Lib.hid (ret_tr HBA.out hb)
          clear hb
          go_wp2_with fail
          go_roundw
          case rel => exact ⟨k + 1, by go_num, hlt, HBB.out⟩
          case measure => simp [intOf]; omega
        · have hI : decide ((k : Int) < 8) = false := decide_eq_false (by omega)
          have hI2 : decide (k < 8) = false := decide_eq_false hlt
          clear hlt
          go_wp2_with fail
          go_ret
          exact ⟨rfl, ret_tr HB.out hBr⟩
end Go.Proofs.YtpmhmippoefcfaaGreatDoor
