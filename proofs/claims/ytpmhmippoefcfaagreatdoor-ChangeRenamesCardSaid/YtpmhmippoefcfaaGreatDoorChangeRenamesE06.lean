/-
  The document's Node. What the changes of a disk have in common: what is told; the ways, of whatever reads as these nodes. How large a disk becomes. The ways up: the document's beneath, the program's within. The document's there, Unlink, Rmdir, Link. The statements' small functions: who acts. Disks that a change gives may be changed again; the example of the statements on changes, plainly.
-/
import Derived.RangeFuncNested
import Derived.RangeFuncBound
import Derived.RangeFuncCalls
import Derived.RangeFuncLeaves
import Derived.RangeFuncBox
import Derived.Shelf.Abstract
import Derived.Shelf.RegionOpen
import Derived.WalkKit
import Derived.OwnWalkIn
import Derived.TacticsInMore
import Derived.LoopNIn
import Derived.LoopIn
import Derived.Lib.Hide
import Derived.Outline
import Derived.Deep.QuietTactic
import Derived.Deep.AppendLies
import Derived.BigQuiet
import Derived.Lib.Strings
import Derived.WalkSmall
import Derived.Shelf.Small.Strs
import Derived.Shelf.Strings.Search1
import Derived.Shelf.Strings.Prefix
import Derived.Laws.AppendOwn
import Derived.Laws.OwnMore
import Derived.Laws.AppendOwnNone
import Derived.WideShapes
import Derived.Lib.TrimByte
import Derived.Lib.Bytealg
import Derived.Lib.QuietBelow
import Derived.Deep.DrawnRows
import Derived.Laws.Cover1
import Derived.WalkMore
import Derived.Shelf.Spec.SlicesGrow
import Derived.StillTailTactics
import Derived.Laws.BitsLemmas
import Derived.Laws.RangeAny
import Derived.Laws.Runes
import Derived.Lib.Builder
import Derived.Deep.WholeRow
import Derived.Lib.OthersKept
import Derived.Shelf.SlSorted.Search
import Derived.LaidEql
import Derived.Stop.Asserts
import Derived.RowKitTokens
import Derived.Deep.RegionHeld3
import Derived.Deep.RegionLaw
import Derived.Handy
import Derived.Laws.IdiomCopy
import Derived.Lib.SliceRun
import Derived.Laws.ResultCell
import Derived.Deep.LoopGhost
import Derived.Deep.DeepCutAuto
import Derived.Deep.MidRow
import Derived.BigRegion
import Derived.Test.YtpmhmippoefcfaaGreatDoorProg
import Derived.Test.YtpmhmippoefcfaaGreatDoorShelf
import Derived.Test.YtpmhmippoefcfaaGreatDoorB01
import Derived.Test.YtpmhmippoefcfaaGreatDoorB02
import Derived.Test.YtpmhmippoefcfaaGreatDoorB04
import Derived.Test.YtpmhmippoefcfaaGreatDoorB05
import Derived.Test.YtpmhmippoefcfaaGreatDoorB07
import Derived.Test.YtpmhmippoefcfaaGreatDoorB08
import Derived.Test.YtpmhmippoefcfaaGreatDoorB09
import Derived.Test.YtpmhmippoefcfaaGreatDoorB10
import Derived.Test.YtpmhmippoefcfaaGreatDoorB12
import Derived.Test.YtpmhmippoefcfaaGreatDoorB13
import Derived.Test.YtpmhmippoefcfaaGreatDoorB14
import Derived.Test.YtpmhmippoefcfaaGreatDoorB17
import Derived.Test.YtpmhmippoefcfaaGreatDoorChangeRenamesE02
import Derived.Test.YtpmhmippoefcfaaGreatDoorChangeRenamesE04
import Derived.Test.YtpmhmippoefcfaaGreatDoorChangeRenamesE05
namespace Go.Proofs.YtpmhmippoefcfaaGreatDoor
open Go.RowKit Go.Shelf
attribute [local go_sem ↓] Go.wp_at_zero Go.wp_at_succ
theorem rwalk_any (v : Value) (ms : List NodeM) (most room who fr : Int) (path : Str) (follow : Bool) (w : World) (hv : RdM w.heap.size v ms w) (hd : DskW ms) (hpl : path.length ≤ 10000) :
    Calls Tryz.prog 36 #[.agg #[v, .int .i64 most, .int .i64 room], .int .i64 who, .int .i64 fr, .string (bs path), .bool follow] w fun e w' => WalkIs (walkL (pl ms) who fr path follow) e w w' :=
  rwalk_R _ v ms most room who fr path follow w hv hd hpl rfl
end Go.Proofs.YtpmhmippoefcfaaGreatDoor
namespace Go.Proofs.YtpmhmippoefcfaaGreatDoor
open Go.RowKit Go.Shelf
theorem xrwalk_g (X : Nat → Prop) (l : List NodeL) (hd : Dsk l) (a b who fr : Int) (path : Str) (follow : Bool) (hpl : path.length ≤ 10000) (v : Value) (W : World) (hg : GivesX X l v W) :
    Calls Tryz.prog 36 #[.agg #[v, .int .i64 a, .int .i64 b], .int .i64 who, .int .i64 fr, .string (bs path), .bool follow] W fun e w' => WalkIs (walkL l who fr path follow) e W w' := by
  obtain ⟨m, rfl, h⟩ := hg.gives
  exact rwalk_any v m a b who fr path follow W h (hd.w m rfl) hpl
end Go.Proofs.YtpmhmippoefcfaaGreatDoor
namespace Go.Proofs.YtpmhmippoefcfaaGreatDoor
section
variable {a c : Nat} {l : List NodeL} (h : Siz a c l) (most room who fr : Int) (path : Str)
include h
theorem siz_moved (s t : SpotL) : Siz a c (movedL l s t) := by
  unfold movedL
  split
  · exact (h.dropped s).lost t
  · exact h.dropped s
theorem siz_move (s t : SpotL) : Siz a (2 * c + 1) (moveL l s t) :=
  ((siz_moved h s t).named t s.ino).set (n := placeN (nodeL (namedL (movedL l s t) t s.ino) s.ino) t.dir) (((siz_moved h s t).named t s.ino).node s.ino) s.ino
theorem siz_rename (who2 fr2 : Int) (old : Str) : Siz (a + 1) (2 * c + 1) (renameL l who fr who2 fr2 old path).1 := by
  unfold renameL
  repeat' split
  all_goals first | exact siz_same h | exact (siz_move h _ _).mono (by omega) (Nat.le_refl _)
end
end Go.Proofs.YtpmhmippoefcfaaGreatDoor
namespace Go.Proofs.YtpmhmippoefcfaaGreatDoor
open Go.RowKit Go.Shelf
attribute [local go_sem ↓] Go.wp_at_zero Go.wp_at_succ
set_option maxRecDepth 100000 in
set_option maxHeartbeats 4000000 in
theorem rbeneath_g (l : List NodeL) (most room i top : Int) (ao : Option Addr) (cap : Nat) (w : World) (hg : GivesX (fun _ => False) l (.slice ao l.length cap) w) (hl : l.length ≤ 10000) :
    Calls Tryz.prog 101 #[diskV ao l.length cap most room, .int .i64 i, .int .i64 top] w fun e w' => e = .returned (.bool (beneathL l (l.length + 1) i top)) ∧ Below w.heap.size w w' := by
  have S0 := Lib.hid (St.start (G := [(l, .slice ao l.length cap)]) (N := []) (w := w) (fun _ h => h.elim) (one_g hg) no_n)
  clear hg
  go_enter Tryz.func101, Tryz.ntmps101
  go_upto_region 1 with (fail)
  refine code_fresh1 ?_
  intro W1 hb hA0 hs
  have S1 := Lib.hid (S0.out.new1 hb hA0)
  clear hb hA0 hs
  go_wp2_with fail
  go_loopw [1, 7] (fun j' k' wr => ∃ (k : Nat) (j : Int), j' = .int .i64 j ∧ k' = .int .i64 k ∧ k ≤ l.length + 1 ∧ Hid (beneathL l (l.length + 1) i top = beneathL l (l.length + 1 - k) j top) ∧ Below W1.heap.size W1 wr) (fun _ k' _ => l.length + 1 - (intOf k').toNat)
  case atStart => exact ⟨0, i, rfl, rfl, Nat.zero_le _, Lib.hid rfl, Below.refl _ _⟩
  case round =>
    obtain ⟨k, j, rfl, rfl, hk, hR, hBr⟩ := hrel
    have S9 := Lib.hid (S1.out.call hBr)
    by_cases hlt : k ≤ l.length
    · have hI : decide ((k : Int) ≤ (l.length : Int)) = true := by simpa using hlt
      obtain ⟨f, hf, hf2⟩ : ∃ f, l.length + 1 - k = f + 1 ∧ f = l.length + 1 - (k + 1) := ⟨l.length - k, by omega, by omega⟩
      have hR' := hR.out
      rw [hf] at hR'
      rw [show beneathL l (f + 1) j top = if j = top then true else if j = 0 then false else beneathL l f (nodeL l j).up top from rfl] at hR'
      by_cases h1 : j = top
      · have hJ : (j == top) = true := by simpa using h1
        have HF := Lib.hid (hR'.trans (if_pos h1))
        clear hR' h1 hf hf2
        obtain ⟨d0, -, -⟩ := cells3 (S9.out.at 0 rfl)
        go_wp2_with fail
        go_ret
        exact ⟨ret_bool HF.out.symm, S9.out.bel⟩
      have hJ : (j == top) = false := by simpa using h1
      by_cases h2 : j = 0
      · have hJ2 : (j == 0) = true := by simpa using h2
        have HF := Lib.hid ((hR'.trans (if_neg h1)).trans (if_pos h2))
        clear hR' h1 h2 hf hf2
        obtain ⟨d0, -, -⟩ := cells3 (S9.out.at 0 rfl)
        go_wp2_with fail
        go_ret
        exact ⟨ret_bool HF.out.symm, S9.out.bel⟩
      have hJ2 : (j == 0) = false := by simpa using h2
      have HX := Lib.hid ((hR'.trans (if_neg h1)).trans (if_neg h2))
      clear hR' h1 h2 hf
      have h_d := (S9.out.at 0 rfl)
      obtain ⟨d0, -, -⟩ := cells3 (S9.out.at 0 rfl)
      go_wp2_with (first | (refine wpList_load_row rfl 32 _ rfl _ rfl 32 _ (0, 0) _ h_d Tryz.underlying32 rfl (by kernel_rfl) ?_))
      refine (rget_g _ l most room j _ wr (S9.out.g 0 rfl) hl).mono ?_
      rintro e W10 ⟨ao1, cp1, rfl, -, hb⟩
      have hB1 := ret_tr hBr hb
      clear hb
      clear h_d d0
      generalize nodeL l j = n at *
      go_wp2_with fail
      go_roundw
      case rel => exact ⟨k + 1, n.up, rfl, by go_num, by omega, Lib.hid (by rw [← hf2]; exact HX.out), hB1.alloc hB1.size _⟩
      case measure => simp [intOf]; omega
    · have hke : k = l.length + 1 := by omega
      have HF : Hid (beneathL l (l.length + 1) i top = false) := Lib.hid (by rw [hR.out, hke, Nat.sub_self]; rfl)
      have hI2 : decide (k ≤ l.length) = false := by simp; omega
      clear hke hlt
      obtain ⟨d0, -, -⟩ := cells3 (S9.out.at 0 rfl)
      go_wp2_with fail
      go_ret
      exact ⟨ret_bool HF.out.symm, S9.out.bel⟩
end Go.Proofs.YtpmhmippoefcfaaGreatDoor
namespace Go.Proofs.YtpmhmippoefcfaaGreatDoor
open Go.RowKit Go.Shelf
attribute [local go_sem ↓] Go.wp_at_zero Go.wp_at_succ
theorem thereE_at {R : ResL} {s : SpotL} {n : Int} (h : R = (s, n)) : thereE R = if n ≠ 0 then n else if s.ino < 0 then 2 else 0 := by subst h; rfl
/-- What the document's there tells. -/
def ThereIs (X : Nat → Prop) (l : List NodeL) (R : ResL) (e : Ending) (w w' : World) : Prop :=
  ∃ ao cap, e = .returned (.tuple #[spotV R.1, nval (nodeL l R.1.ino) (.slice ao (nodeL l R.1.ino).names.length cap), .int .i64 (thereE R)]) ∧ NodeX X (nodeL l R.1.ino) (.slice ao (nodeL l R.1.ino).names.length cap) w' ∧ Below w.heap.size w w'
set_option maxRecDepth 100000 in
set_option maxHeartbeats 4000000 in
theorem rthere_g (X : Nat → Prop) (l : List NodeL) (most room who fr : Int) (path : Str) (ao : Option Addr) (cap : Nat) (w : World) (hX : Old X w) (hg : GivesX X l (.slice ao l.length cap) w) (hd : Dsk l) (hplpath : path.length ≤ 10000) :
    Calls Tryz.prog 58 #[diskV ao l.length cap most room, asV who fr, .string (bs path)] w fun e w' => ThereIs X l (walkL l who fr path false) e w w' := by
  have S0 := Lib.hid (St.start (G := [(l, .slice ao l.length cap)]) (N := []) hX (one_g hg) no_n)
  have HD := Lib.hid hd
  have HRET : Hid (∀ (W : World) (cs cs2 : Array Value) (fr fr2), W.heap[w.heap.size + 2]? = some (.cells cs 67 fr) → cs.size = 4 → W.heap[w.heap.size + 3]? = some (.cells cs2 74 fr2) → cs2.size = 8 → ∀ tmps : Array Value, tmps.getD 6 undef = .pointer (some ⟨w.heap.size + 2, 0, none⟩) → tmps.getD 7 undef = .pointer (some ⟨w.heap.size + 3, 0, none⟩) → (results Tryz.f58 tmps).run Tryz.prog W = .ok (.tuple #[.agg cs, .agg cs2, tmps.getD 8 undef]) W) := Lib.hid fun W cs cs2 fr fr2 h hs h2 hs2 tmps ht ht2 =>
  results_cct (p := 6) (q := 7) (u := 8) (ty := 67) (ty2 := 74) rfl tmps W (w.heap.size + 2) (w.heap.size + 3) _ _ cs cs2 fr fr2 _ _ ht h ht2 h2 Tryz.underlying67 rfl (by rw [hs]; kernel_rfl) Tryz.underlying74 rfl (by rw [hs2]; kernel_rfl)
  clear hX hg hd
  go_enter Tryz.func58, Tryz.ntmps58
  go_upto_region 1 with (fail)
  refine code_fresh4 ?_
  intro W1 hb hA0 hA1 hA2 hA3 hs
  have S1 := Lib.hid (S0.out.new4 hb hA0 hA1 hA2 hA3)
  clear hb hA0 hA1 hA2 hA3 hs
  have h_d := (S1.out.at 0 rfl)
  obtain ⟨a0, a1⟩ := cells2 (S1.out.at 1 rfl)
  go_wp2_with (first | (refine wpList_load_row rfl 32 _ rfl _ rfl 32 _ (0, 0) _ h_d Tryz.underlying32 rfl (by kernel_rfl) ?_))
  refine (xrwalk_g _ l HD.out most room who fr path false hplpath _ W1 (S1.out.g 0 rfl)).mono ?_
  rintro e W2 ⟨rfl, hb⟩
  clear h_d a0 a1
  have S2 := Lib.hid (S1.out.call hb)
  clear hb
  obtain ⟨R, hR⟩ : ∃ R, R = walkL l who fr path false := ⟨_, rfl⟩
  rw [← hR]
  have HR := Lib.hid hR
  clear hR
  obtain ⟨⟨sd, sn, si, ss⟩, n⟩ := R
  have HE := Lib.hid (thereE_at (R := (⟨sd, sn, si, ss⟩, n)) rfl)
  dsimp only at HE
  go_upto_region 2 with (fail)
  refine code_fresh1 ?_
  intro W3 hb hA0 hs
  have S3 := Lib.hid (S2.out.new1 hb hA0)
  clear hb hA0 hs
  by_cases h0 : n = 0
  · subst h0
    by_cases hi : si < 0
    · have hI : decide (si < 0) = true := decide_eq_true hi
      have HE2 := Lib.hid ((HE.out.trans (if_neg (by simp))).trans (if_pos hi))
      clear HE hi
      obtain ⟨-, -, t2, -⟩ := cells4 (S3.out.at 4 rfl)
      have h_d := (S3.out.at 0 rfl)
      obtain ⟨-, -, t2, -⟩ := cells4 (S3.out.at 4 rfl)
      go_wp2_with (first | (refine wpList_load_row rfl 32 _ rfl _ rfl 32 _ (0, 0) _ h_d Tryz.underlying32 rfl (by kernel_rfl) ?_))
      refine (rget_g _ l most room si _ W3 (S3.out.g 0 rfl) HD.out.len).mono ?_
      rintro e W4 ⟨ao1, cp1, rfl, hn1, hb⟩
      clear t2 h_d
      have S4 := Lib.hid ((S3.out.call hb).addN hn1)
      clear hb hn1
      go_upto_region 5 with (fail)
      refine code_fresh1 ?_
      intro W5 hb hA0 hs
      have S5 := Lib.hid (S4.out.new1 hb hA0)
      clear hb hA0 hs
      have h_t := (S5.out.at 4 rfl)
      have h_n := (S5.out.at 5 rfl)
      refine wp_region_held_drew (S := fun W => W.heap[W2.heap.size]? = some (.cells #[.int .i64 sd, .string (bs sn), .int .i64 si, .bool ss] 67 (0, 0)) ∧ W.heap[W4.heap.size]? = some (.cells #[.int .i64 (nodeL l si).kind, .int .i64 (nodeL l si).mode, .int .i64 (nodeL l si).owner, .int .i64 (nodeL l si).links, .int .i64 (nodeL l si).opn, .int .i64 (nodeL l si).up, .string (bs (nodeL l si).data), .slice ao1 (nodeL l si).names.length cp1] 74 (0, 0)) ∧ True) (by kernel_rfl) ⟨(S5.out.at 4 rfl), (S5.out.at 5 rfl), trivial⟩ (fun hHeld => ?_)
      clear h_t h_n
      have S6 := Lib.hid (S5.out.call (Below.refl W5.heap.size W5).drew)
      generalize W5.drew = W6 at *
      refine wpAnyH_take (i := 0) rfl (by kernel_rfl) (by kernel_rfl) (by kernel_rfl) (fun _ _ _ h => h) (yieldsIf_load_row (by rfl) 67 _ rfl _ rfl 67 _ (0, 0) _ (fun _ h => h.1) Tryz.underlying67 rfl (by kernel_rfl)) hHeld ?_
      (try simp only [pt, Act.put])
      refine wpAnyH_take (i := 1) rfl (by kernel_rfl) (by kernel_rfl) (by kernel_rfl) (fun _ _ _ h => h) (yieldsIf_load_row (by rfl) 74 _ rfl _ rfl 74 _ (0, 0) _ (fun _ h => h.2.1) Tryz.underlying74 rfl (by kernel_rfl)) hHeld ?_
      (try simp only [pt, Act.put])
      refine wpAnyH_take (i := 2) (v := ?v1) rfl (by kernel_rfl) (by kernel_rfl) (by kernel_rfl) (fun _ _ _ h => h) (Or.inl ⟨by rfl, ?hy1⟩) hHeld ?rest1
      case hy1 => (intro w hSw; (try dsimp only at hSw); (try go_split_ands); go_simp; first | done | with_reducible rfl)
      (try simp only [pt, Act.put])
      refine wpAnyH_ready (rs := [3]) (by kernel_rfl) (by simp) ?_
      refine AllReadyH.cons rfl (fun K hK => ?_) AllReadyH.nil
      rw [if_pos (by rfl)]
      refine wp_store_row 67 _ _ rfl _ rfl rfl (S6.out.at 2 rfl) rfl (by kernel_rfl) rfl ?_
      intro W7 hb hg hs hn
      have S7 := Lib.hid (S6.out.set 2 rfl hb hg hs hn)
      clear hb hg hs hn hHeld
      refine hK.out _ _ ⟨(S7.out.at 4 rfl), (S7.out.at 5 rfl), trivial⟩ (fun hHeld => ?_)
      clear hK K
      (try simp only [pt, Act.put])
      refine wpAnyH_ready (rs := [4]) (by kernel_rfl) (by simp) ?_
      refine AllReadyH.cons rfl (fun K hK => ?_) AllReadyH.nil
      rw [if_pos (by rfl)]
      refine wp_store_row 74 _ _ rfl _ rfl rfl (S7.out.at 3 rfl) rfl (by kernel_rfl) rfl ?_
      intro W8 hb hg hs hn
      have S8 := Lib.hid (S7.out.set 3 rfl hb hg hs hn)
      clear hb hg hs hn hHeld
      refine hK.out _ _ ⟨(S8.out.at 4 rfl), (S8.out.at 5 rfl), trivial⟩ (fun hHeld => ?_)
      clear hK K
      (try simp only [pt, Act.put])
      refine wpAnyH_take (i := 5) (v := ?v2) rfl (by kernel_rfl) (by kernel_rfl) (by kernel_rfl) (fun _ _ _ h => h) (Or.inl ⟨by rfl, ?hy2⟩) hHeld ?rest2
      case hy2 => (intro w hSw; (try dsimp only at hSw); (try go_split_ands); go_simp; first | done | with_reducible rfl)
      (try simp only [pt, Act.put])
      refine wpAnyH_done (by kernel_rfl) ?_ _
      go_wp2_with fail
      refine bodyPost_ret (HRET.out _ _ _ _ _ (S8.out.at 2 rfl) rfl (S8.out.at 3 rfl) rfl _ rfl rfl) rfl ?_
      rw [← HR.out]
      exact ⟨ao1, cp1, by rw [HE2.out]; rfl, S8.out.nX 0 rfl, S8.out.bel⟩
    · have hI : decide (si < 0) = false := decide_eq_false hi
      have HE2 := Lib.hid ((HE.out.trans (if_neg (by simp))).trans (if_neg hi))
      clear HE hi
      obtain ⟨-, -, t2, -⟩ := cells4 (S3.out.at 4 rfl)
      have h_d := (S3.out.at 0 rfl)
      obtain ⟨-, -, t2, -⟩ := cells4 (S3.out.at 4 rfl)
      go_wp2_with (first | (refine wpList_load_row rfl 32 _ rfl _ rfl 32 _ (0, 0) _ h_d Tryz.underlying32 rfl (by kernel_rfl) ?_))
      refine (rget_g _ l most room si _ W3 (S3.out.g 0 rfl) HD.out.len).mono ?_
      rintro e W4 ⟨ao1, cp1, rfl, hn1, hb⟩
      clear t2 h_d
      have S4 := Lib.hid ((S3.out.call hb).addN hn1)
      clear hb hn1
      go_upto_region 5 with (fail)
      refine code_fresh1 ?_
      intro W5 hb hA0 hs
      have S5 := Lib.hid (S4.out.new1 hb hA0)
      clear hb hA0 hs
      have h_t := (S5.out.at 4 rfl)
      have h_n := (S5.out.at 5 rfl)
      refine wp_region_held_drew (S := fun W => W.heap[W2.heap.size]? = some (.cells #[.int .i64 sd, .string (bs sn), .int .i64 si, .bool ss] 67 (0, 0)) ∧ W.heap[W4.heap.size]? = some (.cells #[.int .i64 (nodeL l si).kind, .int .i64 (nodeL l si).mode, .int .i64 (nodeL l si).owner, .int .i64 (nodeL l si).links, .int .i64 (nodeL l si).opn, .int .i64 (nodeL l si).up, .string (bs (nodeL l si).data), .slice ao1 (nodeL l si).names.length cp1] 74 (0, 0)) ∧ True) (by kernel_rfl) ⟨(S5.out.at 4 rfl), (S5.out.at 5 rfl), trivial⟩ (fun hHeld => ?_)
      clear h_t h_n
      have S6 := Lib.hid (S5.out.call (Below.refl W5.heap.size W5).drew)
      generalize W5.drew = W6 at *
      refine wpAnyH_take (i := 0) rfl (by kernel_rfl) (by kernel_rfl) (by kernel_rfl) (fun _ _ _ h => h) (yieldsIf_load_row (by rfl) 67 _ rfl _ rfl 67 _ (0, 0) _ (fun _ h => h.1) Tryz.underlying67 rfl (by kernel_rfl)) hHeld ?_
      (try simp only [pt, Act.put])
      refine wpAnyH_take (i := 1) rfl (by kernel_rfl) (by kernel_rfl) (by kernel_rfl) (fun _ _ _ h => h) (yieldsIf_load_row (by rfl) 74 _ rfl _ rfl 74 _ (0, 0) _ (fun _ h => h.2.1) Tryz.underlying74 rfl (by kernel_rfl)) hHeld ?_
      (try simp only [pt, Act.put])
      refine wpAnyH_take (i := 2) (v := ?v3) rfl (by kernel_rfl) (by kernel_rfl) (by kernel_rfl) (fun _ _ _ h => h) (Or.inl ⟨by rfl, ?hy3⟩) hHeld ?rest3
      case hy3 => (intro w hSw; (try dsimp only at hSw); (try go_split_ands); go_simp; first | done | with_reducible rfl)
      (try simp only [pt, Act.put])
      refine wpAnyH_ready (rs := [3]) (by kernel_rfl) (by simp) ?_
      refine AllReadyH.cons rfl (fun K hK => ?_) AllReadyH.nil
      rw [if_pos (by rfl)]
      refine wp_store_row 67 _ _ rfl _ rfl rfl (S6.out.at 2 rfl) rfl (by kernel_rfl) rfl ?_
      intro W7 hb hg hs hn
      have S7 := Lib.hid (S6.out.set 2 rfl hb hg hs hn)
      clear hb hg hs hn hHeld
      refine hK.out _ _ ⟨(S7.out.at 4 rfl), (S7.out.at 5 rfl), trivial⟩ (fun hHeld => ?_)
      clear hK K
      (try simp only [pt, Act.put])
      refine wpAnyH_ready (rs := [4]) (by kernel_rfl) (by simp) ?_
      refine AllReadyH.cons rfl (fun K hK => ?_) AllReadyH.nil
      rw [if_pos (by rfl)]
      refine wp_store_row 74 _ _ rfl _ rfl rfl (S7.out.at 3 rfl) rfl (by kernel_rfl) rfl ?_
      intro W8 hb hg hs hn
      have S8 := Lib.hid (S7.out.set 3 rfl hb hg hs hn)
      clear hb hg hs hn hHeld
      refine hK.out _ _ ⟨(S8.out.at 4 rfl), (S8.out.at 5 rfl), trivial⟩ (fun hHeld => ?_)
      clear hK K
      (try simp only [pt, Act.put])
      refine wpAnyH_take (i := 5) (v := ?v4) rfl (by kernel_rfl) (by kernel_rfl) (by kernel_rfl) (fun _ _ _ h => h) (Or.inl ⟨by rfl, ?hy4⟩) hHeld ?rest4
      case hy4 => (intro w hSw; (try dsimp only at hSw); (try go_split_ands); go_simp; first | done | with_reducible rfl)
      (try simp only [pt, Act.put])
      refine wpAnyH_done (by kernel_rfl) ?_ _
      go_wp2_with fail
      refine bodyPost_ret (HRET.out _ _ _ _ _ (S8.out.at 2 rfl) rfl (S8.out.at 3 rfl) rfl _ rfl rfl) rfl ?_
      rw [← HR.out]
      exact ⟨ao1, cp1, by rw [HE2.out]; rfl, S8.out.nX 0 rfl, S8.out.bel⟩
  · have hI : (n == 0) = false := by simpa using h0
    have HE2 := Lib.hid (HE.out.trans (if_pos h0))
    clear HE h0
    have h_d := (S3.out.at 0 rfl)
    obtain ⟨-, -, t2, -⟩ := cells4 (S3.out.at 4 rfl)
    go_wp2_with (first | (refine wpList_load_row rfl 32 _ rfl _ rfl 32 _ (0, 0) _ h_d Tryz.underlying32 rfl (by kernel_rfl) ?_))
    refine (rget_g _ l most room si _ W3 (S3.out.g 0 rfl) HD.out.len).mono ?_
    rintro e W4 ⟨ao1, cp1, rfl, hn1, hb⟩
    clear h_d t2
    have S4 := Lib.hid ((S3.out.call hb).addN hn1)
    clear hb hn1
    go_upto_region 5 with (fail)
    refine code_fresh1 ?_
    intro W5 hb hA0 hs
    have S5 := Lib.hid (S4.out.new1 hb hA0)
    clear hb hA0 hs
    have h_t := (S5.out.at 4 rfl)
    have h_n := (S5.out.at 5 rfl)
    refine wp_region_held_drew (S := fun W => W.heap[W2.heap.size]? = some (.cells #[.int .i64 sd, .string (bs sn), .int .i64 si, .bool ss] 67 (0, 0)) ∧ W.heap[W4.heap.size]? = some (.cells #[.int .i64 (nodeL l si).kind, .int .i64 (nodeL l si).mode, .int .i64 (nodeL l si).owner, .int .i64 (nodeL l si).links, .int .i64 (nodeL l si).opn, .int .i64 (nodeL l si).up, .string (bs (nodeL l si).data), .slice ao1 (nodeL l si).names.length cp1] 74 (0, 0)) ∧ True) (by kernel_rfl) ⟨(S5.out.at 4 rfl), (S5.out.at 5 rfl), trivial⟩ (fun hHeld => ?_)
    clear h_t h_n
    have S6 := Lib.hid (S5.out.call (Below.refl W5.heap.size W5).drew)
    generalize W5.drew = W6 at *
    refine wpAnyH_take (i := 0) rfl (by kernel_rfl) (by kernel_rfl) (by kernel_rfl) (fun _ _ _ h => h) (yieldsIf_load_row (by rfl) 67 _ rfl _ rfl 67 _ (0, 0) _ (fun _ h => h.1) Tryz.underlying67 rfl (by kernel_rfl)) hHeld ?_
    (try simp only [pt, Act.put])
    refine wpAnyH_take (i := 1) rfl (by kernel_rfl) (by kernel_rfl) (by kernel_rfl) (fun _ _ _ h => h) (yieldsIf_load_row (by rfl) 74 _ rfl _ rfl 74 _ (0, 0) _ (fun _ h => h.2.1) Tryz.underlying74 rfl (by kernel_rfl)) hHeld ?_
    (try simp only [pt, Act.put])
    refine wpAnyH_take (i := 2) (v := ?v5) rfl (by kernel_rfl) (by kernel_rfl) (by kernel_rfl) (fun _ _ _ h => h) (Or.inl ⟨by rfl, ?hy5⟩) hHeld ?rest5
    case hy5 => (intro w hSw; (try dsimp only at hSw); (try go_split_ands); go_simp; first | done | with_reducible rfl)
    (try simp only [pt, Act.put])
    refine wpAnyH_ready (rs := [3]) (by kernel_rfl) (by simp) ?_
    refine AllReadyH.cons rfl (fun K hK => ?_) AllReadyH.nil
    rw [if_pos (by rfl)]
    refine wp_store_row 67 _ _ rfl _ rfl rfl (S6.out.at 2 rfl) rfl (by kernel_rfl) rfl ?_
    intro W7 hb hg hs hn
    have S7 := Lib.hid (S6.out.set 2 rfl hb hg hs hn)
    clear hb hg hs hn hHeld
    refine hK.out _ _ ⟨(S7.out.at 4 rfl), (S7.out.at 5 rfl), trivial⟩ (fun hHeld => ?_)
    clear hK K
    (try simp only [pt, Act.put])
    refine wpAnyH_ready (rs := [4]) (by kernel_rfl) (by simp) ?_
    refine AllReadyH.cons rfl (fun K hK => ?_) AllReadyH.nil
    rw [if_pos (by rfl)]
    refine wp_store_row 74 _ _ rfl _ rfl rfl (S7.out.at 3 rfl) rfl (by kernel_rfl) rfl ?_
    intro W8 hb hg hs hn
    have S8 := Lib.hid (S7.out.set 3 rfl hb hg hs hn)
    clear hb hg hs hn hHeld
    refine hK.out _ _ ⟨(S8.out.at 4 rfl), (S8.out.at 5 rfl), trivial⟩ (fun hHeld => ?_)
    clear hK K
    (try simp only [pt, Act.put])
    refine wpAnyH_take (i := 5) (v := ?v6) rfl (by kernel_rfl) (by kernel_rfl) (by kernel_rfl) (fun _ _ _ h => h) (Or.inl ⟨by rfl, ?hy6⟩) hHeld ?rest6
    case hy6 => (intro w hSw; (try dsimp only at hSw); (try go_split_ands); go_simp; first | done | with_reducible rfl)
    (try simp only [pt, Act.put])
    refine wpAnyH_done (by kernel_rfl) ?_ _
    go_wp2_with fail
    refine bodyPost_ret (HRET.out _ _ _ _ _ (S8.out.at 2 rfl) rfl (S8.out.at 3 rfl) rfl _ rfl rfl) rfl ?_
    rw [← HR.out]
    exact ⟨ao1, cp1, by rw [HE2.out]; rfl, S8.out.nX 0 rfl, S8.out.bel⟩
end Go.Proofs.YtpmhmippoefcfaaGreatDoor
namespace Go.Proofs.YtpmhmippoefcfaaGreatDoor
open Go.RowKit Go.Shelf
attribute [local go_sem ↓] Go.wp_at_zero Go.wp_at_succ
set_option maxRecDepth 100000 in
set_option maxHeartbeats 4000000 in
theorem as_any (who fr : Int) (w : World) : Calls Tryz.prog 16 #[asV who fr] w fun e w' => e = .returned (asV who fr) ∧ Below w.heap.size w w' := by
  have S0 := Lib.hid (St.start (X := fun _ => False) (G := []) (N := []) (w := w) (fun _ h => h.elim) (fun _ h => by cases h) (fun _ h => by cases h))
  have HRET : Hid (∀ (W : World) (cs : Array Value) (fr), W.heap[w.heap.size + 1]? = some (.cells cs 39 fr) → cs.size = 2 → ∀ tmps : Array Value, tmps.getD 2 undef = .pointer (some ⟨w.heap.size + 1, 0, none⟩) → (results Tryz.f16 tmps).run Tryz.prog W = .ok (.agg cs) W) := Lib.hid fun W cs fr h hs tmps ht =>
  results_cell_row (p := 2)  (ty := 39) rfl tmps W (w.heap.size + 1) _ cs fr _ ht h Tryz.underlying39 rfl (by rw [hs]; kernel_rfl)
  go_enter Tryz.func16, Tryz.ntmps16
  go_upto_region 1 with (fail)
  refine code_fresh2 ?_
  intro W1 hb hA0 hA1 hs
  have S1 := Lib.hid (S0.out.new2 hb hA0 hA1)
  clear hb hA0 hA1 hs
  have h_r := (S1.out.at 1 rfl)
  have h_a := (S1.out.at 0 rfl)
  go_wp2_with (first | (refine wpList_load_row rfl 26 _ rfl _ rfl 26 _ (0, 0) _ h_a Tryz.underlying26 rfl (by kernel_rfl) ?_) | (refine wpList_store_row rfl 39 _ _ rfl _ rfl rfl h_r rfl (by kernel_rfl) rfl ?_; intro W2 hb hg hs hn; have S2 := Lib.hid (S1.out.set 1 rfl hb hg hs hn); clear hb hg hs hn))
  refine bodyPost_ret (HRET.out _ _ _ (S2.out.at 1 rfl) rfl _ rfl) rfl ?_
  exact ⟨rfl, S2.out.bel⟩
end Go.Proofs.YtpmhmippoefcfaaGreatDoor
namespace Go.Proofs.YtpmhmippoefcfaaGreatDoor
open Go.RowKit Go.Shelf
section
variable {l : List NodeL} {most room : Int} (h : rightQ l most room = true) (who fr : Int) (path : Str)
include h
theorem q_aft : Aft l most room := ⟨q_right h, q_dsk h⟩
theorem aft_rename (who2 fr2 : Int) (old : Str) : Aft (renameL l who fr who2 fr2 old path).1 most room := aft_of (right_rename (q_right h) who fr path who2 fr2 old) (siz_rename (q_siz h) who fr path who2 fr2 old)
end
end Go.Proofs.YtpmhmippoefcfaaGreatDoor
