/-
  The document's lost. A disk that is right stays so: what is entered, linked, lost, and whose mode is changed. A disk that is right stays so: what is lost, linked, and whose mode is changed. A disk that is right stays so: what is renamed.
-/
import Derived.RangeFuncNested
import Derived.RangeFuncBound
import Derived.RangeFuncCalls
import Derived.RangeFuncLeaves
import Derived.RangeFuncBox
import Derived.Shelf.Abstract
import Derived.Shelf.RegionOpen
import Derived.WalkKit
import Derived.OwnWalkIn
import Derived.TacticsInMore
import Derived.LoopNIn
import Derived.LoopIn
import Derived.Lib.Hide
import Derived.Outline
import Derived.Deep.QuietTactic
import Derived.Deep.AppendLies
import Derived.BigQuiet
import Derived.Lib.Strings
import Derived.WalkSmall
import Derived.Shelf.Small.Strs
import Derived.Shelf.Strings.Search1
import Derived.Shelf.Strings.Prefix
import Derived.Laws.AppendOwn
import Derived.Laws.OwnMore
import Derived.Laws.AppendOwnNone
import Derived.WideShapes
import Derived.Lib.TrimByte
import Derived.Lib.Bytealg
import Derived.Lib.QuietBelow
import Derived.Deep.DrawnRows
import Derived.Laws.Cover1
import Derived.WalkMore
import Derived.Shelf.Spec.SlicesGrow
import Derived.StillTailTactics
import Derived.Laws.BitsLemmas
import Derived.Laws.RangeAny
import Derived.Laws.Runes
import Derived.Lib.Builder
import Derived.Deep.WholeRow
import Derived.Lib.OthersKept
import Derived.Shelf.SlSorted.Search
import Derived.LaidEql
import Derived.Stop.Asserts
import Derived.RowKitTokens
import Derived.Deep.RegionHeld3
import Derived.Deep.RegionLaw
import Derived.Handy
import Derived.Laws.IdiomCopy
import Derived.Lib.SliceRun
import Derived.Laws.ResultCell
import Derived.Deep.LoopGhost
import Derived.Deep.DeepCutAuto
import Derived.Test.YtpmhmippoefcfaaGreatDoorProg
import Derived.Test.YtpmhmippoefcfaaGreatDoorShelf
import Derived.Test.YtpmhmippoefcfaaGreatDoorB01
import Derived.Test.YtpmhmippoefcfaaGreatDoorB02
import Derived.Test.YtpmhmippoefcfaaGreatDoorB04
import Derived.Test.YtpmhmippoefcfaaGreatDoorB06
import Derived.Test.YtpmhmippoefcfaaGreatDoorB07
import Derived.Test.YtpmhmippoefcfaaGreatDoorB08
import Derived.Test.YtpmhmippoefcfaaGreatDoorB09
import Derived.Test.YtpmhmippoefcfaaGreatDoorB10
import Derived.Test.YtpmhmippoefcfaaGreatDoorB12
import Derived.Test.YtpmhmippoefcfaaGreatDoorChangeRenamesE01
import Derived.Test.YtpmhmippoefcfaaGreatDoorChangeRenamesE02
namespace Go.Proofs.YtpmhmippoefcfaaGreatDoor
open Go.RowKit Go.Shelf
attribute [local go_sem ↓] Go.wp_at_zero Go.wp_at_succ
theorem code_sets3 {P : Program} {a : Act} {w : World} {c : Code} {K : Exit → Act → World → Prop} {b : Nat} {u0 u1 u2 r0 r1 r2 : Value} {t : TypeId} (hb : w.heap[b]? = some (.cells #[r0, r1, r2] t (0, 0)))
    (h : ∀ W', Below b w W' → (∀ g, g ≠ b → W'.heap[g]? = w.heap[g]?) → W'.heap.size = w.heap.size → W'.heap[b]? = some (.cells #[u0, u1, u2] t (0, 0)) → c.wp P K a W') :
    c.wp P K a (((w.setCell ⟨b, 0, none⟩ u0).setCell ⟨b, 1, none⟩ u1).setCell ⟨b, 2, none⟩ u2) := sets3 (P := fun W => c.wp P K a W) hb h
theorem set3_cell {W : World} {b : Nat} {u0 u1 u2 : Value} {p : Addr} (h : p.block ≠ b) : (((W.setCell ⟨b, 0, none⟩ u0).setCell ⟨b, 1, none⟩ u1).setCell ⟨b, 2, none⟩ u2).cell? p = W.cell? p :=
  World.cell?_of_block (a := p) ((Below.heap_setCell _ _ _ _ h).trans ((Below.heap_setCell _ _ _ _ h).trans (Below.heap_setCell _ _ _ _ h)))
theorem setL_len (l : List NodeL) (i : Int) (n : NodeL) : (setL l i n).length = l.length := by
  unfold setL; split
  · exact List.length_set
  · rfl
set_option maxRecDepth 100000 in
set_option maxHeartbeats 8000000 in
theorem rlost_g (X : Nat → Prop) (l : List NodeL) (most room : Int) (s : SpotL) (ao : Option Addr) (cap : Nat) (w : World) (hX : Old X w) (hg : GivesX X l (.slice ao l.length cap) w) (hl : l.length ≤ 10000) (hnl : (nodeL l s.dir).names.length ≤ 10000)
    (hlk : IntKind.i64.wrap ((nodeL (droppedL l s) s.ino).links - 1) = (nodeL (droppedL l s) s.ino).links - 1) :
    Calls Tryz.prog 60 #[diskV ao l.length cap most room, spotV s] w fun e w' => RDiskIs X (lostL l s) most room e w w' := by
  have HG := Lib.hid hg
  have HX := Lib.hid hX
  have hret : ∀ (W : World) (cs : Array Value) (fr), W.heap[w.heap.size + 2]? = some (.cells cs 32 fr) → cs.size = 3 → ∀ tmps : Array Value, tmps.getD 4 undef = .pointer (some ⟨w.heap.size + 2, 0, none⟩) → (results Tryz.f60 tmps).run Tryz.prog W = .ok (.agg cs) W := fun W cs fr h hs tmps ht =>
    results_cell_row (p := 4) (ty := 32) rfl tmps W (w.heap.size + 2) _ cs fr _ ht h Tryz.underlying32 rfl (by rw [hs]; kernel_rfl)
  have HRET := Lib.hid hret
  have HLS : Hid (∀ l1, l1 = droppedL l s → lostL l s = settleL (setL l1 s.ino (lessN (nodeL l1 s.ino))) s.ino) := Lib.hid fun l1 h => by subst h; rfl
  have HDR : Hid (droppedL l s = setL l s.dir (dropN (nodeL l s.dir) s.name)) := Lib.hid rfl
  have HLK : Hid (∀ l1, l1 = droppedL l s → IntKind.i64.wrap ((nodeL l1 s.ino).links - 1) = (nodeL l1 s.ino).links - 1) := Lib.hid fun l1 h => by subst h; exact hlk
  clear hg hX hret hlk
  go_enter Tryz.func60, Tryz.ntmps60
  go_upto_region 1 with (fail)
  refine code_fresh3 ?_
  intro W0 hb0 hP hS hR hs0
  obtain ⟨p0, p1, p2⟩ := cells3 hP
  obtain ⟨s0, s1, s2, s3⟩ := cells4 hS
  have HG0 : Hid (GivesX (And1 (And1 X w.heap.size) (w.heap.size + 2)) l (.slice ao l.length cap) W0) := Lib.hid (HG.out.add hb0 fun g hg => by
    rcases hg with (h | h) | h
    · exact .inl h
    · exact .inr (by omega)
    · exact .inr (by omega))
  have HO0 : Hid (Old (And1 (And1 X w.heap.size) (w.heap.size + 2)) W0) := Lib.hid (((HX.out.keep (by omega)).and (by omega)).and (by omega))
  go_wp2_with fail
  refine (rget_g _ l most room s.dir _ W0 HG0.out hl).mono ?_
  rintro e W1 ⟨ao1, cp1, rfl, hr1, hb1⟩
  have HB1 := Lib.hid (ret_tr hb0 hb1)
  have hs1 := hb1.size
  have HP1 := Lib.hid ((hb1.block _ (by omega)).trans hP)
  have HS1 := Lib.hid ((hb1.block _ (by omega)).trans hS)
  have HR1 := Lib.hid ((hb1.block _ (by omega)).trans hR)
  have HG1 := Lib.hid (HG0.out.keep hb1)
  have HO1 := Lib.hid (HO0.out.keep hs1)
  have HN1 := Lib.hid hr1
  generalize nodeL l s.dir = n at *
  clear p0 p1 p2 s0 s1 s2 s3 hb0 hb1 hP hS hR hr1
  go_upto_region 2 with (fail)
  refine code_fresh1 ?_
  intro W2 hb2 hn2 hs2
  have hsw : w.heap.size + 2 < W1.heap.size := by omega
  have HB2 := Lib.hid (ret_tr HB1.out hb2)
  have HP2 := Lib.hid ((hb2.block _ (show w.heap.size < W1.heap.size by omega)).trans HP1.out)
  have HS2 := Lib.hid ((hb2.block _ (show w.heap.size + 1 < W1.heap.size by omega)).trans HS1.out)
  have HR2 := Lib.hid ((hb2.block _ (show w.heap.size + 2 < W1.heap.size by omega)).trans HR1.out)
  have HN2 := Lib.hid hn2
  obtain ⟨n0, n1, n2, n3, n4, n5, n6, n7⟩ := cells8 hn2
  obtain ⟨s0, s1, s2, s3⟩ := cells4 HS2.out
  have HG2 := Lib.hid (HG1.out.and (b := W1.heap.size) hb2 (Nat.le_refl _))
  have HV2 := Lib.hid (HN1.out.and (b := W1.heap.size) hb2 (Nat.le_refl _))
  have HO2 := Lib.hid ((HO1.out.keep (show W1.heap.size ≤ W2.heap.size by omega)).and (b := W1.heap.size) (by omega))
  clear hn2 hb2 HP1 HS1 HR1 HG1 HO1 HN1
  go_wp2_with fail
  refine (rdrop_g _ n _ s.name W2 HO2.out HV2.out hnl).mono ?_
  rintro e W3 ⟨ao3, cp3, rfl, hv3, hb3⟩
  have hs3 := hb3.size
  have HB3 := Lib.hid (ret_tr HB2.out hb3)
  have HP3 := Lib.hid ((hb3.block _ (show w.heap.size < W2.heap.size by omega)).trans HP2.out)
  have HS3 := Lib.hid ((hb3.block _ (show w.heap.size + 1 < W2.heap.size by omega)).trans HS2.out)
  have HR3 := Lib.hid ((hb3.block _ (show w.heap.size + 2 < W2.heap.size by omega)).trans HR2.out)
  have hN3 := (hb3.block _ (show W1.heap.size < W2.heap.size by omega)).trans HN2.out
  have HN3 := Lib.hid hN3
  have HG3 := Lib.hid (HG2.out.keep hb3)
  have HV3 := Lib.hid hv3
  have rf := fun j => Lib.frozen_of_heap hN3 j
  clear n0 n1 n2 n3 n4 n5 n6 n7 s0 s1 s2 s3 hb3 HP2 HS2 HR2 HN2 hv3 HG2 HV2
  obtain ⟨n0, n1, n2, n3, n4, n5, n6, n7⟩ := cells8 hN3
  clear hN3
  go_upto_region 3 with (fail)
  refine code_set1 HN3.out ?_
  intro W4 hb4 hg4 hs4 hn4
  have HP4 := Lib.hid ((hg4 _ (by omega)).trans HP3.out)
  have HS4 := Lib.hid ((hg4 _ (by omega)).trans HS3.out)
  have HR4 := Lib.hid ((hg4 _ (by omega)).trans HR3.out)
  have HG4 := Lib.hid (HG3.out.other (b := W1.heap.size) (.inr rfl) hs4 hg4)
  have HV4 := Lib.hid (HV3.out.other (b := W1.heap.size) (.inr rfl) hs4 hg4)
  have HB4 := Lib.hid (HB3.out.trans (hb4.mono (by omega)))
  have HO4 := Lib.hid (HO2.out.keep (show W2.heap.size ≤ W4.heap.size by omega))
  clear n0 n1 n2 n3 n4 n5 n6 n7 rf HP3 HS3 HR3 HN3 HG3 HV3 HO2 hb4 hg4
  obtain ⟨n0, n1, n2, n3, n4, n5, n6, n7⟩ := cells8 hn4
  obtain ⟨p0, p1, p2⟩ := cells3 HP4.out
  obtain ⟨s0, s1, s2, s3⟩ := cells4 HS4.out
  clear hn4
  go_wp2_with fail
  refine (rset_g _ l most room s.dir (dropN n s.name) _ _ W4 HO4.out HG4.out hl HV4.out).mono ?_
  rintro e W5 ⟨ao5, cp5, rfl, hg5, hb5⟩
  have hs5 := hb5.size
  have hL5 : (setL l s.dir (dropN n s.name)).length ≤ 10000 := by rw [setL_len]; exact hl
  have HL1 : Hid (setL l s.dir (dropN n s.name) = droppedL l s) := Lib.hid HDR.out.symm
  generalize setL l s.dir (dropN n s.name) = l1 at *
  have hP5 := (hb5.block _ (show w.heap.size < W4.heap.size by omega)).trans HP4.out
  have HP5 := Lib.hid hP5
  have HS5 := Lib.hid ((hb5.block _ (show w.heap.size + 1 < W4.heap.size by omega)).trans HS4.out)
  have HR5 := Lib.hid ((hb5.block _ (show w.heap.size + 2 < W4.heap.size by omega)).trans HR4.out)
  have HB5 := Lib.hid (ret_tr HB4.out hb5)
  have HG5 := Lib.hid hg5
  have HO5 := Lib.hid (HO4.out.keep hs5)
  have pf := fun j => Lib.frozen_of_heap hP5 j
  clear n0 n1 n2 n3 n4 n5 n6 n7 p0 p1 p2 s0 s1 s2 s3 hb5 hg5 HP4 HS4 HR4 HG4 HV4 HO4
  obtain ⟨p0, p1, p2⟩ := cells3 hP5
  clear hP5
  go_upto_region 4 with (fail)
  refine code_sets3 HP5.out ?_
  intro W6 hb6 hg6 hs6 hP6
  have HP6 := Lib.hid hP6
  have HS6 := Lib.hid ((hg6 _ (by omega)).trans HS5.out)
  have HR6 := Lib.hid ((hg6 _ (by omega)).trans HR5.out)
  have HG6 := Lib.hid (HG5.out.other (b := w.heap.size) (.inl (.inl (.inr rfl))) hs6 hg6)
  have HB6 := Lib.hid (HB5.out.trans (hb6.mono (by omega)))
  have HO6 := Lib.hid (HO5.out.keep (show W5.heap.size ≤ W6.heap.size by omega))
  clear p0 p1 p2 pf hb6 hg6 HP5 HS5 HR5 HG5 HO5
  obtain ⟨p0, p1, p2⟩ := cells3 hP6
  obtain ⟨s0, s1, s2, s3⟩ := cells4 HS6.out
  clear hP6
  go_wp2_with fail
  refine (rget_g _ l1 most room s.ino _ W6 HG6.out hL5).mono ?_
  rintro e W7 ⟨ao7, cp7, rfl, hr7, hb7⟩
  have hs7 := hb7.size
  have HB7 := Lib.hid (ret_tr HB6.out hb7)
  have HP7 := Lib.hid ((hb7.block _ (show w.heap.size < W6.heap.size by omega)).trans HP6.out)
  have HS7 := Lib.hid ((hb7.block _ (show w.heap.size + 1 < W6.heap.size by omega)).trans HS6.out)
  have HR7 := Lib.hid ((hb7.block _ (show w.heap.size + 2 < W6.heap.size by omega)).trans HR6.out)
  have HG7 := Lib.hid (HG6.out.keep hb7)
  have HO7 := Lib.hid (HO6.out.keep hs7)
  have HN7 := Lib.hid hr7
  have hwr := HLK.out l1 HL1.out
  have HLS1 := Lib.hid (HLS.out l1 HL1.out)
  generalize nodeL l1 s.ino = m at *
  clear p0 p1 p2 s0 s1 s2 s3 hb7 hr7 HP6 HS6 HR6 HG6 HO6
  go_upto_region 5 with (fail)
  refine code_fresh1 ?_
  intro W8 hb8 hn8 hs8
  have HB8 := Lib.hid (ret_tr HB7.out hb8)
  have HP8 := Lib.hid ((hb8.block _ (show w.heap.size < W7.heap.size by omega)).trans HP7.out)
  have HS8 := Lib.hid ((hb8.block _ (show w.heap.size + 1 < W7.heap.size by omega)).trans HS7.out)
  have HR8 := Lib.hid ((hb8.block _ (show w.heap.size + 2 < W7.heap.size by omega)).trans HR7.out)
  have HN8 := Lib.hid hn8
  have HG8 := Lib.hid (HG7.out.and (b := W7.heap.size) hb8 (Nat.le_refl _))
  have HV8 := Lib.hid (HN7.out.and (b := W7.heap.size) hb8 (Nat.le_refl _))
  have HO8 := Lib.hid ((HO7.out.keep (show W7.heap.size ≤ W8.heap.size by omega)).and (b := W7.heap.size) (by omega))
  have rf := fun j => Lib.frozen_of_heap hn8 j
  obtain ⟨n0, n1, n2, n3, n4, n5, n6, n7⟩ := cells8 hn8
  clear hn8 hb8 HP7 HS7 HR7 HG7 HO7 HN7
  go_upto_region 6 with (fail)
  refine code_set1 HN8.out ?_
  intro W9 hb9 hg9 hs9 hn9
  have HP9 := Lib.hid ((hg9 _ (by omega)).trans HP8.out)
  have HS9 := Lib.hid ((hg9 _ (by omega)).trans HS8.out)
  have HR9 := Lib.hid ((hg9 _ (by omega)).trans HR8.out)
  have HG9 := Lib.hid (HG8.out.other (b := W7.heap.size) (.inr rfl) hs9 hg9)
  have HV9 := Lib.hid (HV8.out.other (b := W7.heap.size) (.inr rfl) hs9 hg9)
  have HB9 := Lib.hid (HB8.out.trans (hb9.mono (by omega)))
  have HO9 := Lib.hid (HO8.out.keep (show W8.heap.size ≤ W9.heap.size by omega))
  have HN9 := Lib.hid hn9
  clear n0 n1 n2 n3 n4 n5 n6 n7 rf HP8 HS8 HR8 HN8 HG8 HV8 HO8 hb9 hg9
  have rf := fun j => Lib.frozen_of_heap hn9 j
  by_cases h2 : m.kind = 2
  · have hI : (m.kind == 2) = true := by simpa using h2
    obtain ⟨n0, n1, n2, n3, n4, n5, n6, n7⟩ := cells8 hn9
    clear hn9
    go_upto_region 8 with (fail)
    refine code_set1 HN9.out ?_
    intro W10 hb10 hg10 hs10 hnx
    have HP10 := Lib.hid ((hg10 _ (by omega)).trans HP9.out)
    have HS10 := Lib.hid ((hg10 _ (by omega)).trans HS9.out)
    have HR10 := Lib.hid ((hg10 _ (by omega)).trans HR9.out)
    have HG10 := Lib.hid (HG9.out.other (b := W7.heap.size) (.inr rfl) hs10 hg10)
    have HV10 := Lib.hid (HV9.out.other (b := W7.heap.size) (.inr rfl) hs10 hg10)
    have HB10 := Lib.hid (HB9.out.trans (hb10.mono (by omega)))
    have HO10 := Lib.hid (HO9.out.keep (show W9.heap.size ≤ W10.heap.size by omega))
    clear n0 n1 n2 n3 n4 n5 n6 n7 rf HP9 HS9 HR9 HN9 HG9 HV9 HO9 hb10 hg10
    have HVx : Hid (NodeX (And1 (And1 (And1 (And1 X w.heap.size) (w.heap.size + 2)) W1.heap.size) W7.heap.size) (lessN m) (.slice ao7 m.names.length cp7) W10) := Lib.hid (HV10.out.same rfl)
    obtain ⟨p0, p1, p2⟩ := cells3 HP10.out
    obtain ⟨s0, s1, s2, s3⟩ := cells4 HS10.out
    obtain ⟨n0, n1, n2, n3, n4, n5, n6, n7⟩ := cells8 hnx
    have hsx : w.heap.size + 2 < W10.heap.size := by omega
    have hsx7 : W7.heap.size < W10.heap.size := by omega
    have hlm : (lessN m).up = 0 := by show (if m.kind = 2 then 0 else m.up) = 0; rw [if_pos h2]
    have eM : nval (lessN m) (.slice ao7 m.names.length cp7) = .agg #[.int .i64 m.kind, .int .i64 m.mode, .int .i64 m.owner, .int .i64 (m.links - 1), .int .i64 m.opn, .int .i64 0, .string (bs m.data), .slice ao7 m.names.length cp7] := by
      show Value.agg #[.int .i64 m.kind, .int .i64 m.mode, .int .i64 m.owner, .int .i64 (m.links - 1), .int .i64 m.opn, .int .i64 (lessN m).up, .string (bs m.data), .slice ao7 m.names.length cp7] = _
      rw [hlm]
    have hL6 : (setL l1 s.ino (lessN m)).length ≤ 10000 := by rw [setL_len]; exact hL5
    have HSet : Hid (∀ U, Below W10.heap.size W10 U → Calls Tryz.prog 54 #[.agg #[.slice ao5 l1.length cp5, .int .i64 most, .int .i64 room], .int .i64 s.ino, .agg #[.int .i64 m.kind, .int .i64 m.mode, .int .i64 m.owner, .int .i64 (m.links - 1), .int .i64 m.opn, .int .i64 0, .string (bs m.data), .slice ao7 m.names.length cp7]] U fun e w' => RDiskIs (And1 (And1 (And1 (And1 X w.heap.size) (w.heap.size + 2)) W1.heap.size) W7.heap.size) (setL l1 s.ino (lessN m)) most room e U w') := Lib.hid fun U bU => by
      have := rset_g _ l1 most room s.ino (lessN m) _ _ U (HO10.out.keep bU.size) (HG10.out.keep bU) hL5 (HVx.out.keep bU)
      rwa [eM] at this
    have HStl : Hid (∀ U ao8 cp8, Below W10.heap.size W10 U → GivesX (And1 (And1 (And1 (And1 X w.heap.size) (w.heap.size + 2)) W1.heap.size) W7.heap.size) (setL l1 s.ino (lessN m)) (.slice ao8 (setL l1 s.ino (lessN m)).length cp8) U → Calls Tryz.prog 95 #[.agg #[.slice ao8 (setL l1 s.ino (lessN m)).length cp8, .int .i64 most, .int .i64 room], .int .i64 s.ino] U fun e w' => RDiskIs (And1 (And1 (And1 (And1 X w.heap.size) (w.heap.size + 2)) W1.heap.size) W7.heap.size) (settleL (setL l1 s.ino (lessN m)) s.ino) most room e U w') := Lib.hid fun U ao8 cp8 bU hg => rsettle_g _ _ most room s.ino _ U (HO10.out.keep bU.size) hg hL6
    have HSS : Hid (∀ W, Below W10.heap.size W10 W → W.cell? ⟨w.heap.size, 0, none⟩ = some (.slice ao5 l1.length cp5) ∧ W.cell? ⟨w.heap.size, 1, none⟩ = some (.int .i64 most) ∧ W.cell? ⟨w.heap.size, 2, none⟩ = some (.int .i64 room) ∧ W.cell? ⟨w.heap.size + 1, 2, none⟩ = some (.int .i64 s.ino) ∧ W.cell? ⟨W7.heap.size, 0, none⟩ = some (.int .i64 m.kind) ∧ W.cell? ⟨W7.heap.size, 1, none⟩ = some (.int .i64 m.mode) ∧ W.cell? ⟨W7.heap.size, 2, none⟩ = some (.int .i64 m.owner) ∧ W.cell? ⟨W7.heap.size, 3, none⟩ = some (.int .i64 (m.links - 1)) ∧ W.cell? ⟨W7.heap.size, 4, none⟩ = some (.int .i64 m.opn) ∧ W.cell? ⟨W7.heap.size, 5, none⟩ = some (.int .i64 (0)) ∧ W.cell? ⟨W7.heap.size, 6, none⟩ = some (.string (bs m.data)) ∧ W.cell? ⟨W7.heap.size, 7, none⟩ = some (.slice ao7 m.names.length cp7)) := Lib.hid fun W bU => ⟨(bU.cell (p := ⟨w.heap.size, 0, none⟩) (by show w.heap.size < _; omega)).trans p0, (bU.cell (p := ⟨w.heap.size, 1, none⟩) (by show w.heap.size < _; omega)).trans p1, (bU.cell (p := ⟨w.heap.size, 2, none⟩) (by show w.heap.size < _; omega)).trans p2, (bU.cell (p := ⟨w.heap.size + 1, 2, none⟩) (by show w.heap.size + 1 < _; omega)).trans s2, (bU.cell (p := ⟨W7.heap.size, 0, none⟩) hsx7).trans n0, (bU.cell (p := ⟨W7.heap.size, 1, none⟩) hsx7).trans n1, (bU.cell (p := ⟨W7.heap.size, 2, none⟩) hsx7).trans n2, (bU.cell (p := ⟨W7.heap.size, 3, none⟩) hsx7).trans n3, (bU.cell (p := ⟨W7.heap.size, 4, none⟩) hsx7).trans n4, (bU.cell (p := ⟨W7.heap.size, 5, none⟩) hsx7).trans n5, (bU.cell (p := ⟨W7.heap.size, 6, none⟩) hsx7).trans n6, (bU.cell (p := ⟨W7.heap.size, 7, none⟩) hsx7).trans n7⟩
    have HS3x : Hid (∀ (W : World) (u0 u1 u2 : Value), (W.cell? ⟨w.heap.size, 0, none⟩ = some (.slice ao5 l1.length cp5) ∧ W.cell? ⟨w.heap.size, 1, none⟩ = some (.int .i64 most) ∧ W.cell? ⟨w.heap.size, 2, none⟩ = some (.int .i64 room) ∧ W.cell? ⟨w.heap.size + 1, 2, none⟩ = some (.int .i64 s.ino) ∧ W.cell? ⟨W7.heap.size, 0, none⟩ = some (.int .i64 m.kind) ∧ W.cell? ⟨W7.heap.size, 1, none⟩ = some (.int .i64 m.mode) ∧ W.cell? ⟨W7.heap.size, 2, none⟩ = some (.int .i64 m.owner) ∧ W.cell? ⟨W7.heap.size, 3, none⟩ = some (.int .i64 (m.links - 1)) ∧ W.cell? ⟨W7.heap.size, 4, none⟩ = some (.int .i64 m.opn) ∧ W.cell? ⟨W7.heap.size, 5, none⟩ = some (.int .i64 (0)) ∧ W.cell? ⟨W7.heap.size, 6, none⟩ = some (.string (bs m.data)) ∧ W.cell? ⟨W7.heap.size, 7, none⟩ = some (.slice ao7 m.names.length cp7)) → (((W.setCell ⟨w.heap.size + 2, 0, none⟩ u0).setCell ⟨w.heap.size + 2, 1, none⟩ u1).setCell ⟨w.heap.size + 2, 2, none⟩ u2).cell? ⟨w.heap.size, 0, none⟩ = some (.slice ao5 l1.length cp5) ∧ (((W.setCell ⟨w.heap.size + 2, 0, none⟩ u0).setCell ⟨w.heap.size + 2, 1, none⟩ u1).setCell ⟨w.heap.size + 2, 2, none⟩ u2).cell? ⟨w.heap.size, 1, none⟩ = some (.int .i64 most) ∧ (((W.setCell ⟨w.heap.size + 2, 0, none⟩ u0).setCell ⟨w.heap.size + 2, 1, none⟩ u1).setCell ⟨w.heap.size + 2, 2, none⟩ u2).cell? ⟨w.heap.size, 2, none⟩ = some (.int .i64 room) ∧ (((W.setCell ⟨w.heap.size + 2, 0, none⟩ u0).setCell ⟨w.heap.size + 2, 1, none⟩ u1).setCell ⟨w.heap.size + 2, 2, none⟩ u2).cell? ⟨w.heap.size + 1, 2, none⟩ = some (.int .i64 s.ino) ∧ (((W.setCell ⟨w.heap.size + 2, 0, none⟩ u0).setCell ⟨w.heap.size + 2, 1, none⟩ u1).setCell ⟨w.heap.size + 2, 2, none⟩ u2).cell? ⟨W7.heap.size, 0, none⟩ = some (.int .i64 m.kind) ∧ (((W.setCell ⟨w.heap.size + 2, 0, none⟩ u0).setCell ⟨w.heap.size + 2, 1, none⟩ u1).setCell ⟨w.heap.size + 2, 2, none⟩ u2).cell? ⟨W7.heap.size, 1, none⟩ = some (.int .i64 m.mode) ∧ (((W.setCell ⟨w.heap.size + 2, 0, none⟩ u0).setCell ⟨w.heap.size + 2, 1, none⟩ u1).setCell ⟨w.heap.size + 2, 2, none⟩ u2).cell? ⟨W7.heap.size, 2, none⟩ = some (.int .i64 m.owner) ∧ (((W.setCell ⟨w.heap.size + 2, 0, none⟩ u0).setCell ⟨w.heap.size + 2, 1, none⟩ u1).setCell ⟨w.heap.size + 2, 2, none⟩ u2).cell? ⟨W7.heap.size, 3, none⟩ = some (.int .i64 (m.links - 1)) ∧ (((W.setCell ⟨w.heap.size + 2, 0, none⟩ u0).setCell ⟨w.heap.size + 2, 1, none⟩ u1).setCell ⟨w.heap.size + 2, 2, none⟩ u2).cell? ⟨W7.heap.size, 4, none⟩ = some (.int .i64 m.opn) ∧ (((W.setCell ⟨w.heap.size + 2, 0, none⟩ u0).setCell ⟨w.heap.size + 2, 1, none⟩ u1).setCell ⟨w.heap.size + 2, 2, none⟩ u2).cell? ⟨W7.heap.size, 5, none⟩ = some (.int .i64 (0)) ∧ (((W.setCell ⟨w.heap.size + 2, 0, none⟩ u0).setCell ⟨w.heap.size + 2, 1, none⟩ u1).setCell ⟨w.heap.size + 2, 2, none⟩ u2).cell? ⟨W7.heap.size, 6, none⟩ = some (.string (bs m.data)) ∧ (((W.setCell ⟨w.heap.size + 2, 0, none⟩ u0).setCell ⟨w.heap.size + 2, 1, none⟩ u1).setCell ⟨w.heap.size + 2, 2, none⟩ u2).cell? ⟨W7.heap.size, 7, none⟩ = some (.slice ao7 m.names.length cp7)) := Lib.hid fun W u0 u1 u2 h => by
      obtain ⟨a0, a1, a2, a3, a4, a5, a6, a7, a8, a9, a10, a11⟩ := h
      have e7 : W7.heap.size ≠ w.heap.size + 2 := by omega
      exact ⟨(set3_cell (p := ⟨w.heap.size, 0, none⟩) (by show w.heap.size ≠ _; omega)).trans a0, (set3_cell (p := ⟨w.heap.size, 1, none⟩) (by show w.heap.size ≠ _; omega)).trans a1, (set3_cell (p := ⟨w.heap.size, 2, none⟩) (by show w.heap.size ≠ _; omega)).trans a2, (set3_cell (p := ⟨w.heap.size + 1, 2, none⟩) (by show w.heap.size + 1 ≠ _; omega)).trans a3, (set3_cell (p := ⟨W7.heap.size, 0, none⟩) e7).trans a4, (set3_cell (p := ⟨W7.heap.size, 1, none⟩) e7).trans a5, (set3_cell (p := ⟨W7.heap.size, 2, none⟩) e7).trans a6, (set3_cell (p := ⟨W7.heap.size, 3, none⟩) e7).trans a7, (set3_cell (p := ⟨W7.heap.size, 4, none⟩) e7).trans a8, (set3_cell (p := ⟨W7.heap.size, 5, none⟩) e7).trans a9, (set3_cell (p := ⟨W7.heap.size, 6, none⟩) e7).trans a10, (set3_cell (p := ⟨W7.heap.size, 7, none⟩) e7).trans a11⟩
    have HRx := Lib.hid HR10.out
    have HBx := Lib.hid HB10.out
    clear hnx s0 s1 s3 hlm eM h2 HP10 HS10 HR10 HG10 HV10 HB10 HO10 HVx hwr
    have bw : Below W10.heap.size W10 W10 := Below.refl _ _
    go_region_held3 (fun W => W.cell? ⟨w.heap.size, 0, none⟩ = some (.slice ao5 l1.length cp5) ∧ W.cell? ⟨w.heap.size, 1, none⟩ = some (.int .i64 most) ∧ W.cell? ⟨w.heap.size, 2, none⟩ = some (.int .i64 room) ∧ W.cell? ⟨w.heap.size + 1, 2, none⟩ = some (.int .i64 s.ino) ∧ W.cell? ⟨W7.heap.size, 0, none⟩ = some (.int .i64 m.kind) ∧ W.cell? ⟨W7.heap.size, 1, none⟩ = some (.int .i64 m.mode) ∧ W.cell? ⟨W7.heap.size, 2, none⟩ = some (.int .i64 m.owner) ∧ W.cell? ⟨W7.heap.size, 3, none⟩ = some (.int .i64 (m.links - 1)) ∧ W.cell? ⟨W7.heap.size, 4, none⟩ = some (.int .i64 m.opn) ∧ W.cell? ⟨W7.heap.size, 5, none⟩ = some (.int .i64 (0)) ∧ W.cell? ⟨W7.heap.size, 6, none⟩ = some (.string (bs m.data)) ∧ W.cell? ⟨W7.heap.size, 7, none⟩ = some (.slice ao7 m.names.length cp7))
      (first
        | (go_keep; done)
        | (refine HSS.out _ ?_; go_grown; done)
        | exact HS3x.out _ _ _ _ (HSS.out _ bU9))
      (first
        | (go_at_call 54; (with_reducible refine (HSet.out _ (by go_grown)).mono ?_); intro e U hU; obtain ⟨ao8, cp8, rfl, hg8, hb8'⟩ := hU; have bU : Below W10.heap.size W10 U := (ret_tr (w := W10) (by go_grown) hb8'))
        | (go_at_call 95; (with_reducible refine (HStl.out _ _ _ (by go_grown) (hg8.keep (by go_grown))).mono ?_); intro e U9 hU9; obtain ⟨ao9, cp9, rfl, hg9', hb9'⟩ := hU9; have bU9 : Below W10.heap.size W10 U9 := (ret_tr (w := W10) (by go_grown) hb9'); have hRU := (bU9.block _ hsx).trans HRx.out; obtain ⟨q0, q1, q2⟩ := cells3 hRU; have qf := fun j => Lib.frozen_of_heap hRU j)
        | fail)
    all_goals
      go_wp2_with fail
      refine post_sets3 hRU ?_
      intro W11 hb11 hg11 hs11 hR11
      refine bodyPost_ret (HRET.out _ _ _ hR11 rfl _ rfl) rfl ?_
      rw [HLS1.out]
      exact ⟨_, _, rfl, (hg9'.other (b := w.heap.size + 2) (.inl (.inl (.inr rfl))) hs11 hg11).sub fun g h => .inl (.inl (.inl (.inl h))), (ret_tr HBx.out bU9).trans (hb11.mono (by omega))⟩
  · have hI : (m.kind == 2) = false := by simpa using h2
    have hnx := hn9
    obtain ⟨n0, n1, n2, n3, n4, n5, n6, n7⟩ := cells8 hn9
    clear hn9
    go_upto_region 8 with (fail)
    clear n0 n1 n2 n3 n4 n5 n6 n7
    have HVx : Hid (NodeX (And1 (And1 (And1 (And1 X w.heap.size) (w.heap.size + 2)) W1.heap.size) W7.heap.size) (lessN m) (.slice ao7 m.names.length cp7) W9) := Lib.hid (HV9.out.same rfl)
    obtain ⟨p0, p1, p2⟩ := cells3 HP9.out
    obtain ⟨s0, s1, s2, s3⟩ := cells4 HS9.out
    obtain ⟨n0, n1, n2, n3, n4, n5, n6, n7⟩ := cells8 hnx
    have hsx : w.heap.size + 2 < W9.heap.size := by omega
    have hsx7 : W7.heap.size < W9.heap.size := by omega
    have hlm : (lessN m).up = m.up := by show (if m.kind = 2 then 0 else m.up) = m.up; rw [if_neg h2]
    have eM : nval (lessN m) (.slice ao7 m.names.length cp7) = .agg #[.int .i64 m.kind, .int .i64 m.mode, .int .i64 m.owner, .int .i64 (m.links - 1), .int .i64 m.opn, .int .i64 m.up, .string (bs m.data), .slice ao7 m.names.length cp7] := by
      show Value.agg #[.int .i64 m.kind, .int .i64 m.mode, .int .i64 m.owner, .int .i64 (m.links - 1), .int .i64 m.opn, .int .i64 (lessN m).up, .string (bs m.data), .slice ao7 m.names.length cp7] = _
      rw [hlm]
    have hL6 : (setL l1 s.ino (lessN m)).length ≤ 10000 := by rw [setL_len]; exact hL5
    have HSet : Hid (∀ U, Below W9.heap.size W9 U → Calls Tryz.prog 54 #[.agg #[.slice ao5 l1.length cp5, .int .i64 most, .int .i64 room], .int .i64 s.ino, .agg #[.int .i64 m.kind, .int .i64 m.mode, .int .i64 m.owner, .int .i64 (m.links - 1), .int .i64 m.opn, .int .i64 m.up, .string (bs m.data), .slice ao7 m.names.length cp7]] U fun e w' => RDiskIs (And1 (And1 (And1 (And1 X w.heap.size) (w.heap.size + 2)) W1.heap.size) W7.heap.size) (setL l1 s.ino (lessN m)) most room e U w') := Lib.hid fun U bU => by
      have := rset_g _ l1 most room s.ino (lessN m) _ _ U (HO9.out.keep bU.size) (HG9.out.keep bU) hL5 (HVx.out.keep bU)
      rwa [eM] at this
    have HStl : Hid (∀ U ao8 cp8, Below W9.heap.size W9 U → GivesX (And1 (And1 (And1 (And1 X w.heap.size) (w.heap.size + 2)) W1.heap.size) W7.heap.size) (setL l1 s.ino (lessN m)) (.slice ao8 (setL l1 s.ino (lessN m)).length cp8) U → Calls Tryz.prog 95 #[.agg #[.slice ao8 (setL l1 s.ino (lessN m)).length cp8, .int .i64 most, .int .i64 room], .int .i64 s.ino] U fun e w' => RDiskIs (And1 (And1 (And1 (And1 X w.heap.size) (w.heap.size + 2)) W1.heap.size) W7.heap.size) (settleL (setL l1 s.ino (lessN m)) s.ino) most room e U w') := Lib.hid fun U ao8 cp8 bU hg => rsettle_g _ _ most room s.ino _ U (HO9.out.keep bU.size) hg hL6
    have HSS : Hid (∀ W, Below W9.heap.size W9 W → W.cell? ⟨w.heap.size, 0, none⟩ = some (.slice ao5 l1.length cp5) ∧ W.cell? ⟨w.heap.size, 1, none⟩ = some (.int .i64 most) ∧ W.cell? ⟨w.heap.size, 2, none⟩ = some (.int .i64 room) ∧ W.cell? ⟨w.heap.size + 1, 2, none⟩ = some (.int .i64 s.ino) ∧ W.cell? ⟨W7.heap.size, 0, none⟩ = some (.int .i64 m.kind) ∧ W.cell? ⟨W7.heap.size, 1, none⟩ = some (.int .i64 m.mode) ∧ W.cell? ⟨W7.heap.size, 2, none⟩ = some (.int .i64 m.owner) ∧ W.cell? ⟨W7.heap.size, 3, none⟩ = some (.int .i64 (m.links - 1)) ∧ W.cell? ⟨W7.heap.size, 4, none⟩ = some (.int .i64 m.opn) ∧ W.cell? ⟨W7.heap.size, 5, none⟩ = some (.int .i64 (m.up)) ∧ W.cell? ⟨W7.heap.size, 6, none⟩ = some (.string (bs m.data)) ∧ W.cell? ⟨W7.heap.size, 7, none⟩ = some (.slice ao7 m.names.length cp7)) := Lib.hid fun W bU => ⟨(bU.cell (p := ⟨w.heap.size, 0, none⟩) (by show w.heap.size < _; omega)).trans p0, (bU.cell (p := ⟨w.heap.size, 1, none⟩) (by show w.heap.size < _; omega)).trans p1, (bU.cell (p := ⟨w.heap.size, 2, none⟩) (by show w.heap.size < _; omega)).trans p2, (bU.cell (p := ⟨w.heap.size + 1, 2, none⟩) (by show w.heap.size + 1 < _; omega)).trans s2, (bU.cell (p := ⟨W7.heap.size, 0, none⟩) hsx7).trans n0, (bU.cell (p := ⟨W7.heap.size, 1, none⟩) hsx7).trans n1, (bU.cell (p := ⟨W7.heap.size, 2, none⟩) hsx7).trans n2, (bU.cell (p := ⟨W7.heap.size, 3, none⟩) hsx7).trans n3, (bU.cell (p := ⟨W7.heap.size, 4, none⟩) hsx7).trans n4, (bU.cell (p := ⟨W7.heap.size, 5, none⟩) hsx7).trans n5, (bU.cell (p := ⟨W7.heap.size, 6, none⟩) hsx7).trans n6, (bU.cell (p := ⟨W7.heap.size, 7, none⟩) hsx7).trans n7⟩
    have HS3x : Hid (∀ (W : World) (u0 u1 u2 : Value), (W.cell? ⟨w.heap.size, 0, none⟩ = some (.slice ao5 l1.length cp5) ∧ W.cell? ⟨w.heap.size, 1, none⟩ = some (.int .i64 most) ∧ W.cell? ⟨w.heap.size, 2, none⟩ = some (.int .i64 room) ∧ W.cell? ⟨w.heap.size + 1, 2, none⟩ = some (.int .i64 s.ino) ∧ W.cell? ⟨W7.heap.size, 0, none⟩ = some (.int .i64 m.kind) ∧ W.cell? ⟨W7.heap.size, 1, none⟩ = some (.int .i64 m.mode) ∧ W.cell? ⟨W7.heap.size, 2, none⟩ = some (.int .i64 m.owner) ∧ W.cell? ⟨W7.heap.size, 3, none⟩ = some (.int .i64 (m.links - 1)) ∧ W.cell? ⟨W7.heap.size, 4, none⟩ = some (.int .i64 m.opn) ∧ W.cell? ⟨W7.heap.size, 5, none⟩ = some (.int .i64 (m.up)) ∧ W.cell? ⟨W7.heap.size, 6, none⟩ = some (.string (bs m.data)) ∧ W.cell? ⟨W7.heap.size, 7, none⟩ = some (.slice ao7 m.names.length cp7)) → (((W.setCell ⟨w.heap.size + 2, 0, none⟩ u0).setCell ⟨w.heap.size + 2, 1, none⟩ u1).setCell ⟨w.heap.size + 2, 2, none⟩ u2).cell? ⟨w.heap.size, 0, none⟩ = some (.slice ao5 l1.length cp5) ∧ (((W.setCell ⟨w.heap.size + 2, 0, none⟩ u0).setCell ⟨w.heap.size + 2, 1, none⟩ u1).setCell ⟨w.heap.size + 2, 2, none⟩ u2).cell? ⟨w.heap.size, 1, none⟩ = some (.int .i64 most) ∧ (((W.setCell ⟨w.heap.size + 2, 0, none⟩ u0).setCell ⟨w.heap.size + 2, 1, none⟩ u1).setCell ⟨w.heap.size + 2, 2, none⟩ u2).cell? ⟨w.heap.size, 2, none⟩ = some (.int .i64 room) ∧ (((W.setCell ⟨w.heap.size + 2, 0, none⟩ u0).setCell ⟨w.heap.size + 2, 1, none⟩ u1).setCell ⟨w.heap.size + 2, 2, none⟩ u2).cell? ⟨w.heap.size + 1, 2, none⟩ = some (.int .i64 s.ino) ∧ (((W.setCell ⟨w.heap.size + 2, 0, none⟩ u0).setCell ⟨w.heap.size + 2, 1, none⟩ u1).setCell ⟨w.heap.size + 2, 2, none⟩ u2).cell? ⟨W7.heap.size, 0, none⟩ = some (.int .i64 m.kind) ∧ (((W.setCell ⟨w.heap.size + 2, 0, none⟩ u0).setCell ⟨w.heap.size + 2, 1, none⟩ u1).setCell ⟨w.heap.size + 2, 2, none⟩ u2).cell? ⟨W7.heap.size, 1, none⟩ = some (.int .i64 m.mode) ∧ (((W.setCell ⟨w.heap.size + 2, 0, none⟩ u0).setCell ⟨w.heap.size + 2, 1, none⟩ u1).setCell ⟨w.heap.size + 2, 2, none⟩ u2).cell? ⟨W7.heap.size, 2, none⟩ = some (.int .i64 m.owner) ∧ (((W.setCell ⟨w.heap.size + 2, 0, none⟩ u0).setCell ⟨w.heap.size + 2, 1, none⟩ u1).setCell ⟨w.heap.size + 2, 2, none⟩ u2).cell? ⟨W7.heap.size, 3, none⟩ = some (.int .i64 (m.links - 1)) ∧ (((W.setCell ⟨w.heap.size + 2, 0, none⟩ u0).setCell ⟨w.heap.size + 2, 1, none⟩ u1).setCell ⟨w.heap.size + 2, 2, none⟩ u2).cell? ⟨W7.heap.size, 4, none⟩ = some (.int .i64 m.opn) ∧ (((W.setCell ⟨w.heap.size + 2, 0, none⟩ u0).setCell ⟨w.heap.size + 2, 1, none⟩ u1).setCell ⟨w.heap.size + 2, 2, none⟩ u2).cell? ⟨W7.heap.size, 5, none⟩ = some (.int .i64 (m.up)) ∧ (((W.setCell ⟨w.heap.size + 2, 0, none⟩ u0).setCell ⟨w.heap.size + 2, 1, none⟩ u1).setCell ⟨w.heap.size + 2, 2, none⟩ u2).cell? ⟨W7.heap.size, 6, none⟩ = some (.string (bs m.data)) ∧ (((W.setCell ⟨w.heap.size + 2, 0, none⟩ u0).setCell ⟨w.heap.size + 2, 1, none⟩ u1).setCell ⟨w.heap.size + 2, 2, none⟩ u2).cell? ⟨W7.heap.size, 7, none⟩ = some (.slice ao7 m.names.length cp7)) := Lib.hid fun W u0 u1 u2 h => by
      obtain ⟨a0, a1, a2, a3, a4, a5, a6, a7, a8, a9, a10, a11⟩ := h
      have e7 : W7.heap.size ≠ w.heap.size + 2 := by omega
      exact ⟨(set3_cell (p := ⟨w.heap.size, 0, none⟩) (by show w.heap.size ≠ _; omega)).trans a0, (set3_cell (p := ⟨w.heap.size, 1, none⟩) (by show w.heap.size ≠ _; omega)).trans a1, (set3_cell (p := ⟨w.heap.size, 2, none⟩) (by show w.heap.size ≠ _; omega)).trans a2, (set3_cell (p := ⟨w.heap.size + 1, 2, none⟩) (by show w.heap.size + 1 ≠ _; omega)).trans a3, (set3_cell (p := ⟨W7.heap.size, 0, none⟩) e7).trans a4, (set3_cell (p := ⟨W7.heap.size, 1, none⟩) e7).trans a5, (set3_cell (p := ⟨W7.heap.size, 2, none⟩) e7).trans a6, (set3_cell (p := ⟨W7.heap.size, 3, none⟩) e7).trans a7, (set3_cell (p := ⟨W7.heap.size, 4, none⟩) e7).trans a8, (set3_cell (p := ⟨W7.heap.size, 5, none⟩) e7).trans a9, (set3_cell (p := ⟨W7.heap.size, 6, none⟩) e7).trans a10, (set3_cell (p := ⟨W7.heap.size, 7, none⟩) e7).trans a11⟩
    have HRx := Lib.hid HR9.out
    have HBx := Lib.hid HB9.out
    clear hnx s0 s1 s3 hlm eM h2 HP9 HS9 HR9 HG9 HV9 HB9 HO9 HVx hwr
    have bw : Below W9.heap.size W9 W9 := Below.refl _ _
    go_region_held3 (fun W => W.cell? ⟨w.heap.size, 0, none⟩ = some (.slice ao5 l1.length cp5) ∧ W.cell? ⟨w.heap.size, 1, none⟩ = some (.int .i64 most) ∧ W.cell? ⟨w.heap.size, 2, none⟩ = some (.int .i64 room) ∧ W.cell? ⟨w.heap.size + 1, 2, none⟩ = some (.int .i64 s.ino) ∧ W.cell? ⟨W7.heap.size, 0, none⟩ = some (.int .i64 m.kind) ∧ W.cell? ⟨W7.heap.size, 1, none⟩ = some (.int .i64 m.mode) ∧ W.cell? ⟨W7.heap.size, 2, none⟩ = some (.int .i64 m.owner) ∧ W.cell? ⟨W7.heap.size, 3, none⟩ = some (.int .i64 (m.links - 1)) ∧ W.cell? ⟨W7.heap.size, 4, none⟩ = some (.int .i64 m.opn) ∧ W.cell? ⟨W7.heap.size, 5, none⟩ = some (.int .i64 (m.up)) ∧ W.cell? ⟨W7.heap.size, 6, none⟩ = some (.string (bs m.data)) ∧ W.cell? ⟨W7.heap.size, 7, none⟩ = some (.slice ao7 m.names.length cp7))
      (first
        | (go_keep; done)
        | (refine HSS.out _ ?_; go_grown; done)
        | exact HS3x.out _ _ _ _ (HSS.out _ bU9))
      (first
        | (go_at_call 54; (with_reducible refine (HSet.out _ (by go_grown)).mono ?_); intro e U hU; obtain ⟨ao8, cp8, rfl, hg8, hb8'⟩ := hU; have bU : Below W9.heap.size W9 U := (ret_tr (w := W9) (by go_grown) hb8'))
        | (go_at_call 95; (with_reducible refine (HStl.out _ _ _ (by go_grown) (hg8.keep (by go_grown))).mono ?_); intro e U9 hU9; obtain ⟨ao9, cp9, rfl, hg9', hb9'⟩ := hU9; have bU9 : Below W9.heap.size W9 U9 := (ret_tr (w := W9) (by go_grown) hb9'); have hRU := (bU9.block _ hsx).trans HRx.out; obtain ⟨q0, q1, q2⟩ := cells3 hRU; have qf := fun j => Lib.frozen_of_heap hRU j)
        | fail)
    all_goals
      go_wp2_with fail
      refine post_sets3 hRU ?_
      intro W11 hb11 hg11 hs11 hR11
      refine bodyPost_ret (HRET.out _ _ _ hR11 rfl _ rfl) rfl ?_
      rw [HLS1.out]
      exact ⟨_, _, rfl, (hg9'.other (b := w.heap.size + 2) (.inl (.inl (.inr rfl))) hs11 hg11).sub fun g h => .inl (.inl (.inl (.inl h))), (ret_tr HBx.out bU9).trans (hb11.mono (by omega))⟩
end Go.Proofs.YtpmhmippoefcfaaGreatDoor
namespace Go.Proofs.YtpmhmippoefcfaaGreatDoor
/-- A name is dropped; the node that it named is left out. -/
theorem drop_name {l : List NodeL} {E : Nat → Prop} (h : RigE l E) {d x : Nat} (hd : (nd l d).kind = 2) {nm : Nm} (hf : findL (nd l d).names nm = some (x : Int)) : RigE (l.set d (dropN (nd l d) nm)) (fun k => E k ∨ k = x) := by
  have hs := Rig.sorted h d
  refine h.names d hd (dropL (nd l d).names nm) _ (fun _ h => .inl h) (sorted_drop hs nm) (fun e he => h.nam d e (List.mem_filter.1 he).1) (fun j hj => ?_) fun h0 h1 h2 => ?_
  · have := cntN_drop hs.2 hf j
    rw [if_neg (by intro e; exact hj (.inr (by omega)))] at this
    exact this
  · have hn := (h.nmd d h0 (fun he => h1 (.inl he)) (by rw [hd]; decide)).2.2 hd
    have := (hn.1 h2).1
    rw [this] at hf
    cases hf
theorem drop_facts {l : List NodeL} {d x : Nat} (hs : SortedP (nd l d).names) (hd : (nd l d).kind = 2) {nm : Nm} (hf : findL (nd l d).names nm = some (x : Int)) :
    (∀ j, nd (l.set d (dropN (nd l d) nm)) j = if j = d then dropN (nd l d) nm else nd l j) ∧ (∀ j : Nat, cnt (l.set d (dropN (nd l d) nm)) j + (if x = j then 1 else 0) = cnt l j) ∧ (∀ j, (nd (l.set d (dropN (nd l d) nm)) j).kind = (nd l j).kind ∧ (nd (l.set d (dropN (nd l d) nm)) j).up = (nd l j).up) := by
  have hlt : d < l.length := nd_kind (by rw [hd]; decide)
  refine ⟨nd_set hlt _, fun j => ?_, nd_map_set hlt (dropN (nd l d) nm) rfl rfl⟩
  have h1 := cnt_set hlt (dropN (nd l d) nm) j
  have h2 : cntN (dropN (nd l d) nm).names j + (if (x : Int) = j then 1 else 0) = cntN (nd l d).names j := cntN_drop hs.2 hf j
  by_cases hx : x = j
  · subst hx; rw [if_pos rfl] at h2 ⊢; omega
  · rw [if_neg (by omega)] at h2; rw [if_neg hx]; omega
theorem set_loc {n : NodeL} (h : LocOk n) {m : NodeL} (hk : m.kind = n.kind) (hm : 0 ≤ m.mode ∧ m.mode ≤ 63) (ho : m.opn = n.opn) (hd : m.data = n.data) (hn : m.names = n.names) : LocOk m := by
  obtain ⟨a, b, c, d⟩ := h
  unfold plainB at a
  simp only [Bool.and_eq_true, decide_eq_true_iff] at a
  refine ⟨?_, by rw [hk, hn]; exact b, by rw [hk, hd]; exact c, by rw [hn]; exact d⟩
  unfold plainB
  simp only [Bool.and_eq_true, decide_eq_true_iff]
  rw [hk, ho]
  exact ⟨⟨⟨a.1.1.1, hm.1⟩, hm.2⟩, a.2⟩
theorem loc_mode {n : NodeL} (h : LocOk n) : 0 ≤ n.mode ∧ n.mode ≤ 63 := by
  have a := h.1
  unfold plainB at a
  simp only [Bool.and_eq_true, decide_eq_true_iff] at a
  exact ⟨a.1.1.2, a.1.2⟩
end Go.Proofs.YtpmhmippoefcfaaGreatDoor
namespace Go.Proofs.YtpmhmippoefcfaaGreatDoor
theorem bytes_set {l : List NodeL} {j : Nat} (h : j < l.length) (m : NodeL) : bytesL (l.set j m) + weightL (nd l j) = bytesL l + weightL m := by
  rw [nd_lt h]
  induction l generalizing j with
  | nil => simp at h
  | cons a l ih =>
    cases j with
    | zero => simp [bytesL]; omega
    | succ j =>
      have := ih (j := j) (by simpa using h)
      simp only [bytesL, List.set_cons_succ, List.map_cons, List.sum_cons, List.getElem_cons_succ] at this ⊢
      omega
/-- What is left of a node that has lost a name. -/
def leftN (n : NodeL) : NodeL := if n.links - 1 ≤ 0 ∧ n.opn ≤ 0 then zeroN else lessN n
theorem leftN_kind (n : NodeL) (h : n.kind ≠ 0) : (leftN n).kind = 0 ↔ (n.links - 1 ≤ 0 ∧ n.opn ≤ 0) := by
  unfold leftN
  split
  · rename_i hc; exact ⟨fun _ => hc, fun _ => rfl⟩
  · rename_i hc; exact ⟨fun h1 => absurd h1 h, fun h1 => absurd h1 hc⟩
/-- A name is lost, and what it named. -/
theorem lost_rig {l : List NodeL} {E : Nat → Prop} (h : RigE l E) {s : SpotL} {d y : Nat} (hd : s.dir = d) (hk : (nd l d).kind = 2) (hi : s.ino = y) (hf : findL (nd l d).names s.name = some (y : Int)) (hy0 : y ≠ 0) (hyk : (nd l y).kind ≠ 0) (hyE : ¬ E y)
    (hyn : (nd l y).kind = 2 → (nd l y).names = []) (hup : ∀ k, E k → (nd l k).kind = 2 → (nd l k).up ≠ y) :
    y ≠ d ∧ lostL l s = (l.set d (dropN (nd l d) s.name)).set y (leftN (nd l y)) ∧ (∀ j, nd (lostL l s) j = if j = d then dropN (nd l d) s.name else if j = y then leftN (nd l y) else nd l j) ∧ (∀ j : Nat, cnt (lostL l s) j + (if y = j then 1 else 0) = cnt l j)
      ∧ (lostL l s).length = l.length ∧ bytesL (lostL l s) ≤ bytesL l ∧ (∀ k, k ≠ y → (nd (lostL l s) k).kind = (nd l k).kind ∧ (nd (lostL l s) k).up = (nd l k).up) ∧ RigE (lostL l s) E := by
  have hs := Rig.sorted h d
  have hlt : d < l.length := nd_kind (by rw [hk]; decide)
  have hlty : y < l.length := nd_kind hyk
  have hyd : y ≠ d := by
    rintro rfl
    rw [hyn hk] at hf
    cases hf
  obtain ⟨f1, f2, f3⟩ := drop_facts hs hk hf
  have hR1 := drop_name h hk hf
  generalize hL : l.set d (dropN (nd l d) s.name) = l1 at *
  have hlen1 : l1.length = l.length := by rw [← hL, List.length_set]
  have hy1 : nd l1 y = nd l y := by rw [f1, if_neg hyd]
  have hlty1 : y < l1.length := by omega
  have hdrop : droppedL l s = l1 := by unfold droppedL; rw [hd, setL_nat hlt, nodeL_nd (by rw [hk]; decide), hL]
  have hN := h.nmd y hy0 hyE hyk
  have hcy : 0 < cnt l y := by
    have h1 := cntN_drop hs.2 hf y
    rw [if_pos rfl] at h1
    have := cnt_ge (l := l) d y
    omega
  have hc1 := f2 y
  rw [if_pos rfl] at hc1
  have hlk : (nd l y).links = cnt l y := hN.1
  have hlost : lostL l s = l1.set y (leftN (nd l y)) := by
    unfold lostL settleL
    rw [hdrop, hi, setL_nat hlty1, nodeL_nd (by rw [hy1]; exact hyk), hy1]
    have hnd2 : nd (l1.set y (lessN (nd l y))) y = lessN (nd l y) := by rw [nd_set hlty1, if_pos rfl]
    have hg : gotB (l1.set y (lessN (nd l y))) (y : Int) = true := (got_nd _ y).2 (by rw [hnd2]; exact hyk)
    rw [hg, nodeL_nd (by rw [hnd2]; exact hyk), hnd2]
    unfold leftN
    split
    · rename_i hc
      obtain ⟨-, -, a, b⟩ := hc
      rw [if_pos ⟨a, b⟩, setL_nat (by rw [List.length_set]; exact hlty1), List.set_set]
    · rename_i hc
      rw [if_neg fun ⟨a, b⟩ => hc ⟨rfl, by omega, a, b⟩]
  have hnd : ∀ j, nd (l1.set y (leftN (nd l y))) j = if j = y then leftN (nd l y) else nd l1 j := nd_set hlty1 _
  have hleft : (leftN (nd l y)).names = (nd l1 y).names := by
    rw [hy1]
    unfold leftN
    split
    · by_cases h2 : (nd l y).kind = 2
      · rw [hyn h2]; rfl
      · rw [(h.loc y hyk).2.1 h2]; rfl
    · rfl
  have hcs : ∀ j : Int, cnt (l1.set y (leftN (nd l y))) j = cnt l1 j := fun j => by
    have := cnt_set hlty1 (leftN (nd l y)) j
    rw [hleft] at this
    omega
  have hloc : (leftN (nd l y)).kind ≠ 0 → LocOk (leftN (nd l y)) := fun hne => by
    have h1 := h.loc y hyk
    unfold leftN at hne ⊢
    split
    · rename_i hc; rw [if_pos hc] at hne; exact absurd rfl hne
    · exact set_loc h1 (m := lessN (nd l y)) rfl (loc_mode h1) rfl rfl rfl
  have hnone : (leftN (nd l y)).kind = 0 → ∀ k, cntN (nd l1 k).names y = 0 := fun hz k => by
    obtain ⟨a, _⟩ := (leftN_kind _ hyk).1 hz
    have := cnt_ge (l := l1) k y
    omega
  have hway : ∀ k : Nat, k ≠ 0 → ¬ (E k ∨ k = y) → (nd l1 k).kind = 2 → Rooted l1 k → Rooted (l1.set y (leftN (nd l y))) k := fun k hk0 hkE hk2 hr => by
    refine hr.mono (fun k => (nd l1 k).kind = 2 → k ≠ y) (fun j hj hj2 => ?_) fun j e _ _ => ?_
    · have hjy := hj hj2
      rw [hnd, if_neg hjy]
      refine ⟨hj2, rfl, fun u hu hu0 hu2 => ?_⟩
      rintro rfl
      have hyd2 : (nd l u).kind = 2 := by rw [← hy1]; exact hu2
      by_cases hj0 : j = 0
      · subst hj0
        have := hR1.root.2.1
        omega
      · by_cases hjE : E j
        · exact hup j hjE (by rw [← (f3 j).1]; exact hj2) (by rw [← (f3 j).2]; exact hu)
        · have hNj := (hR1.nmd j hj0 (fun he => he.elim hjE hjy) (by rw [hj2]; decide)).2.2 hj2
          by_cases hcz : cnt l1 j = 0
          · have := (hNj.1 hcz).2
            omega
          · obtain ⟨_, ⟨v, hv, hv2⟩, _⟩ := hNj.2 hcz
            have : v = u := by omega
            subst this
            rw [hy1, hyn hyd2, cntN_nil] at hv2
            exact absurd hv2 (Nat.lt_irrefl 0)
    · obtain rfl : k = j := by omega
      exact fun he => hkE (.inr he)
  have hR2 := hR1.node (y := y) (.inr rfl) hy0 hlty1 (leftN (nd l y)) hleft hloc (fun hz => by
    unfold leftN at hz ⊢
    split
    · rfl
    · rename_i hc; rw [if_neg hc] at hz; exact absurd hz hyk) hnone hway
  have hR3 : RigE (l1.set y (leftN (nd l y))) E := by
    refine hR2.less fun k hkE => ?_
    rcases hkE with hkE | rfl
    · exact .inl hkE
    · refine .inr fun _ hkk => ?_
      have hck := hcs k
      rw [hnd, if_pos rfl] at hkk ⊢
      have hns : ¬ ((nd l k).links - 1 ≤ 0 ∧ (nd l k).opn ≤ 0) := fun hc => hkk ((leftN_kind _ hyk).2 hc)
      have hle : leftN (nd l k) = lessN (nd l k) := by unfold leftN; rw [if_neg hns]
      rw [hle] at hck ⊢
      have e1 : (lessN (nd l k)).links = (nd l k).links - 1 := rfl
      refine ⟨by rw [hck, e1]; omega, fun hz => ?_, fun h2 => ?_⟩
      · show 1 ≤ (nd l k).opn
        omega
      · have h2' : (nd l k).kind = 2 := h2
        have h1 := ((hN.2.2 h2').2 (by omega)).1
        refine ⟨fun _ => ⟨hyn h2', ?_⟩, fun hz => absurd (by omega) hz⟩
        show (if (nd l k).kind = 2 then 0 else (nd l k).up) = 0
        rw [if_pos h2']
  rw [hlost]
  refine ⟨hyd, rfl, fun j => ?_, fun j => ?_, by rw [List.length_set, hlen1], ?_, fun k hky => ?_, hR3⟩
  · rw [hnd]
    by_cases hjy : j = y
    · subst hjy
      rw [if_pos rfl, if_neg hyd, if_pos rfl]
    · rw [if_neg hjy, f1, if_neg hjy]
  · rw [hcs]; exact f2 j
  · have b1 := bytes_set hlt (dropN (nd l d) s.name)
    have b2 := bytes_set hlty1 (leftN (nd l y))
    rw [hL] at b1
    rw [hy1] at b2
    have w1 : weightL (dropN (nd l d) s.name) = weightL (nd l d) := rfl
    have w2 : weightL (leftN (nd l y)) ≤ weightL (nd l y) := by
      unfold leftN
      split
      · exact Nat.zero_le _
      · exact Nat.le_refl _
    omega
  · rw [hnd, if_neg hky]; exact f3 k
end Go.Proofs.YtpmhmippoefcfaaGreatDoor
namespace Go.Proofs.YtpmhmippoefcfaaGreatDoor
theorem find_drop_other (es : List EntL) (a b : Nm) (h : b ≠ a) : findL (dropL es a) b = findL es b := by
  unfold findL dropL
  rw [List.find?_filter]
  congr 1
  refine congrArg (fun p => List.find? p es) (funext fun e => ?_)
  by_cases he : e.1 = b
  · have h1 : (e.1 == a) = false := by rw [he]; simpa using h
    cases h2 : (e.1 == b) <;> simp [h1]
  · have h1 : (e.1 == b) = false := by simpa using he
    simp [h1]
/-- The way up that does not come to x. -/
theorem avoid {l : List NodeL} {x : Nat} (hx : x < l.length) : ∀ (f : Nat) (j : Int), rootR l f j = true → beneathL l f j x = false → Rooted (l.set x zeroN) j := by
  intro f
  induction f with
  | zero => intro j h; cases h
  | succ f ih =>
    intro j h hb
    unfold beneathL at hb
    split at hb
    · cases hb
    · rename_i hne
      split at hb
      · rename_i h0; subst h0; exact .root
      · rename_i h0
        rcases rootR_up h with h1 | ⟨hg, hk, h2⟩
        · exact absurd h1 h0
        · obtain ⟨k, rfl, _, hk0⟩ := got_nat hg
          rw [at_nd] at hk h2
          rw [nodeL_nd hk0] at hb
          have hn : nd (l.set x zeroN) k = nd l k := by rw [nd_set hx, if_neg (by rintro rfl; exact hne rfl)]
          exact .up k (by rw [hn]; exact hk) (by rw [hn]; exact ih _ h2 hb)
/-- What is renamed leaves a disk right. -/
theorem move_rig {l : List NodeL} (h : Rig l) {s t : SpotL} {d1 d2 x : Nat} (m : MoveN l s t d1 d2 x) :
    Rig (moveL l s t) ∧ (moveL l s t).length = l.length ∧ bytesL (moveL l s t) ≤ bytesL l ∧ nd (moveL l s t) x = placeN (nd l x) d2 ∧ findL (nd (moveL l s t) d2).names t.name = some (x : Int) ∧ findL (nd (moveL l s t) d1).names s.name = none ∧ (nd (moveL l s t) d1).kind = 2 ∧ (nd (moveL l s t) d2).kind = 2 := by
  have h0len : 0 < l.length := by have := nd_kind (l := l) (k := d1) (by rw [m.sk]; decide); omega
  have hlt1 : d1 < l.length := nd_kind (by rw [m.sk]; decide)
  have hltx : x < l.length := nd_kind m.xk
  have hxd1 : x ≠ d1 := by
    by_cases hx2 : (nd l x).kind = 2
    · exact (up_holder h m.sf m.x0 (fun h => h) hx2).2.1
    · rintro rfl; exact hx2 m.sk
  have hxd2 : x ≠ d2 := by
    by_cases hx2 : (nd l x).kind = 2
    · rintro rfl
      have := m.bn hx2
      unfold beneathL at this
      rw [if_pos rfl] at this
      cases this
    · rintro rfl; exact hx2 m.tk
  have hs := Rig.sorted h d1
  obtain ⟨f1, f2, f3⟩ := drop_facts hs m.sk m.sf
  have hR1 : RigE (l.set d1 (dropN (nd l d1) s.name)) (fun k => k = x) := (drop_name h m.sk m.sf).less fun k hk => .inl (hk.resolve_left id)
  have hbb1 := bytes_set hlt1 (dropN (nd l d1) s.name)
  have hdrop : droppedL l s = l.set d1 (dropN (nd l d1) s.name) := by unfold droppedL; rw [m.sd, setL_nat hlt1, nodeL_nd (by rw [m.sk]; decide)]
  have hlen1 : (l.set d1 (dropN (nd l d1) s.name)).length = l.length := List.length_set
  generalize hL1 : l.set d1 (dropN (nd l d1) s.name) = l1 at *
  have hw1 : bytesL l1 = bytesL l := by
    have : weightL (dropN (nd l d1) s.name) = weightL (nd l d1) := rfl
    omega
  have hx1 : nd l1 x = nd l x := by rw [f1, if_neg hxd1]
  have hsn : d1 = d2 → t.name ≠ s.name := by
    rintro rfl e
    have hsf := m.sf
    by_cases hn : t.ino < 0
    · have := m.tn hn
      rw [e, hsf] at this
      cases this
    · obtain ⟨y, hy⟩ := Int.eq_ofNat_of_zero_le (show 0 ≤ t.ino by omega)
      obtain ⟨a, _, _, b, _⟩ := m.ty y hy
      rw [e, hsf] at a
      injection a with a
      omega
  have hd2n : findL (nd l1 d2).names t.name = findL (nd l d2).names t.name := by
    rw [f1]
    split
    · rename_i e
      rw [e]
      exact find_drop_other _ _ _ (hsn e.symm)
    · rfl
  have hk21 : (nd l1 d2).kind = 2 := (f3 d2).1.trans m.tk
  -- behind the loss of what the new name named
  have hmid : ∃ l2 : List NodeL, movedL l s t = l2 ∧ RigE l2 (fun k => k = x) ∧ l2.length = l.length ∧ bytesL l2 ≤ bytesL l ∧ findL (nd l2 d2).names t.name = none ∧ findL (nd l2 d1).names s.name = none ∧ (∀ k : Nat, t.ino ≠ k → (nd l2 k).kind = (nd l k).kind ∧ (nd l2 k).up = (nd l k).up) ∧ nd l2 x = nd l x ∧ cnt l2 x + 1 = cnt l x ∧ (d2 ≠ 0 → cnt l2 d2 = cnt l d2) ∧ (nd l2 d2).kind = 2 ∧ (nd l2 d1).kind = 2 := by
    have hc1x := f2 x
    rw [if_pos rfl] at hc1x
    by_cases hn : t.ino < 0
    · refine ⟨l1, by unfold movedL; rw [if_neg (by omega), hdrop], hR1, hlen1, by omega, hd2n.trans (m.tn hn), ?_, fun k _ => f3 k, hx1, hc1x, fun _ => ?_, hk21, (f3 d1).1.trans m.sk⟩
      · rw [f1, if_pos rfl]; exact find_drop _ _
      · have := f2 d2
        rw [if_neg hxd2] at this
        exact this
    · obtain ⟨y, hy⟩ := Int.eq_ofNat_of_zero_le (show 0 ≤ t.ino by omega)
      obtain ⟨a1, a2, a3, a4, a5⟩ := m.ty y hy
      have hyd1 : y ≠ d1 := by
        rintro rfl
        split at a5
        · have hsf := m.sf
          rw [a5.2] at hsf
          cases hsf
        · exact a5 m.sk
      have hy1 : nd l1 y = nd l y := by rw [f1, if_neg hyd1]
      obtain ⟨b1, b2, b3, b4, b5, b6, b7, b8⟩ := lost_rig (s := t) hR1 m.td hk21 hy (hd2n.trans a1) a2 (by rw [hy1]; exact a3) a4 (fun h2 => by
        rw [hy1] at h2 ⊢
        split at a5
        · exact a5.2
        · exact absurd h2 a5) fun k hk hk2 => by
          subst hk
          rw [hx1] at hk2 ⊢
          have := (up_holder h m.sf m.x0 (fun h => h) hk2).1
          rw [this]
          omega
      refine ⟨lostL l1 t, by unfold movedL; rw [if_pos (by omega), hdrop], b8, b5.trans hlen1, by omega, ?_, ?_, fun k hk => ?_, ?_, ?_, fun _ => ?_, ?_, ?_⟩
      · rw [b3, if_pos rfl]; exact find_drop _ _
      · rw [b3]
        split
        · rename_i e
          show findL (dropL (nd l1 d2).names t.name) s.name = none
          rw [find_drop_other _ _ _ (Ne.symm (hsn e)), f1, if_pos e.symm]
          exact find_drop _ _
        · rw [if_neg (Ne.symm hyd1), f1, if_pos rfl]; exact find_drop _ _
      · have hky : k ≠ y := by omega
        obtain ⟨c1, c2⟩ := b7 k hky
        exact ⟨c1.trans (f3 k).1, c2.trans (f3 k).2⟩
      · rw [b3, if_neg hxd2, if_neg (Ne.symm a4), hx1]
      · have := b4 x
        rw [if_neg a4] at this
        omega
      · have c1 := b4 d2
        have c2 := f2 d2
        rw [if_neg b1] at c1
        rw [if_neg hxd2] at c2
        omega
      · exact (b7 d2 (Ne.symm b1)).1.trans hk21
      · exact (b7 d1 (Ne.symm hyd1)).1.trans ((f3 d1).1.trans m.sk)
  obtain ⟨l2, e2, g1, g2, g3, g4, g5, g6, g7, g8, g9, g10, g11⟩ := hmid
  have hlk : d2 ≠ 0 → cnt l d2 ≠ 0 := fun hd0 => by
    have := (h.nmd d2 hd0 (fun h => h) (by rw [m.tk]; decide)).1
    have := m.lk
    omega
  have hlt22 : d2 < l2.length := nd_kind (by rw [g10]; decide)
  have hR3 := put_name g1 g10 (x := x) m.tl g4 rfl m.x0 (by rw [g7]; exact m.xk) fun hd0 _ => by rw [g9 hd0]; exact hlk hd0
  obtain ⟨p1, p2, p3, p4⟩ := put_facts (x := x) (Rig.sorted g1 d2) g10 g4
  have hbb3 := bytes_set hlt22 (putN (nd l2 d2) t.name x)
  have hlen3 : (l2.set d2 (putN (nd l2 d2) t.name x)).length = l.length := List.length_set.trans g2
  have hname : namedL (movedL l s t) t s.ino = l2.set d2 (putN (nd l2 d2) t.name x) := by
    unfold namedL
    rw [e2, m.td, setL_nat hlt22, nodeL_nd (by rw [g10]; decide), m.si]
  generalize hL3 : l2.set d2 (putN (nd l2 d2) t.name x) = l3 at *
  have hx3 : nd l3 x = nd l x := by rw [p1, if_neg hxd2, g7]
  have hltx3 : x < l3.length := by omega
  have hmove : moveL l s t = l3.set x (placeN (nd l x) d2) := by
    unfold moveL
    rw [hname, m.si, setL_nat hltx3, nodeL_nd (by rw [hx3]; exact m.xk), hx3, m.td]
  rw [hmove]
  have hnd := nd_set hltx3 (placeN (nd l x) d2)
  have hkin : ∀ k : Nat, t.ino ≠ k → k ≠ x → (nd (l3.set x (placeN (nd l x) d2)) k).kind = (nd l k).kind ∧ (nd (l3.set x (placeN (nd l x) d2)) k).up = (nd l k).up := fun k hk hkx => by
    rw [hnd, if_neg hkx]
    exact ⟨(p3 k).1.trans (g6 k hk).1, (p3 k).2.trans (g6 k hk).2⟩
  have hrd : Rooted l d2 := by
    by_cases hd0 : d2 = 0
    · subst hd0; exact .root
    · exact (((h.nmd d2 hd0 (fun h => h) (by rw [m.tk]; decide)).2.2 m.tk).2 (hlk hd0)).2.2
  -- the way up from the new directory
  have hrd4 : (nd l x).kind = 2 → Rooted (l3.set x (placeN (nd l x) d2)) d2 := fun hx2 => by
    have hav := avoid hltx _ _ (Rooted_rootR h0len hrd) (m.bn hx2)
    have hndz := nd_set hltx zeroN
    have hP : ∀ y : Nat, t.ino = y → (nd l y).kind = 2 ∧ (nd l y).names = [] := fun y hy => by
      have := (m.ty y hy).2.2.2.2
      rwa [if_pos hx2] at this
    refine hav.mono (fun k => t.ino ≠ k) (fun k hk hk2 => ?_) fun k e _ hk => ?_
    · have hkx : k ≠ x := by rintro rfl; rw [hndz, if_pos rfl] at hk2; cases hk2
      rw [hndz, if_neg hkx] at hk2 ⊢
      obtain ⟨c1, c2⟩ := hkin k hk hkx
      refine ⟨c1.trans hk2, c2, fun u hu hu0 hty => ?_⟩
      have hun := (hP u hty).2
      by_cases hk0 : k = 0
      · subst hk0
        have := h.root.2.1
        omega
      · have hN := (h.nmd k hk0 (fun h => h) (by rw [hk2]; decide)).2.2 hk2
        by_cases hcz : cnt l k = 0
        · have := (hN.1 hcz).2
          omega
        · obtain ⟨_, ⟨v, hv, hv2⟩, _⟩ := hN.2 hcz
          have : v = u := by omega
          subst this
          rw [hun, cntN_nil] at hv2
          exact absurd hv2 (Nat.lt_irrefl 0)
    · have hkd : k = d2 := by omega
      subst hkd
      obtain ⟨a1, _, _, _, _⟩ := m.ty k hk
      rw [(hP k hk).2] at a1
      cases a1
  have hway : ∀ j : Int, Rooted l3 j → Rooted (l3.set x (placeN (nd l x) d2)) j := fun j hj => by
    induction hj with
    | root => exact .root
    | up k hk _ ih =>
      by_cases hkx : k = x
      · subst hkx
        have hx2 : (nd l k).kind = 2 := by rw [← hx3]; exact hk
        have hn : nd (l3.set k (placeN (nd l k) d2)) k = placeN (nd l k) d2 := by rw [hnd, if_pos rfl]
        refine .up k (by rw [hn]; exact hx2) ?_
        rw [hn]
        show Rooted _ (if (nd l k).kind = 2 then (d2 : Int) else (nd l k).up)
        rw [if_pos hx2]
        exact hrd4 hx2
      · have hn : nd (l3.set x (placeN (nd l x) d2)) k = nd l3 k := by rw [hnd, if_neg hkx]
        exact .up k (by rw [hn]; exact hk) (by rw [hn]; exact ih)
  have hlx := h.loc x m.xk
  have hR4 := hR3.node (y := x) rfl m.x0 hltx3 (placeN (nd l x) d2) (by rw [hx3]; rfl) (fun _ => set_loc hlx rfl (loc_mode hlx) rfl rfl rfl) (fun hz => absurd hz m.xk) (fun hz => absurd hz m.xk) fun k _ _ _ hr => hway k hr
  have hcs : ∀ j : Int, cnt (l3.set x (placeN (nd l x) d2)) j = cnt l3 j := fun j => by
    have := cnt_set hltx3 (placeN (nd l x) d2) j
    rw [hx3, show (placeN (nd l x) d2).names = (nd l x).names from rfl] at this
    omega
  have hN := h.nmd x m.x0 (fun h => h) m.xk
  have hc3 := p2 x
  rw [if_pos rfl] at hc3
  have hcx : cnt (l3.set x (placeN (nd l x) d2)) x = cnt l x := by rw [hcs]; omega
  have hnx : nd (l3.set x (placeN (nd l x) d2)) x = placeN (nd l x) d2 := by rw [hnd, if_pos rfl]
  have hn2 : nd (l3.set x (placeN (nd l x) d2)) d2 = putN (nd l2 d2) t.name x := by rw [hnd, if_neg (Ne.symm hxd2), p1, if_pos rfl]
  refine ⟨hR4.less fun k hk => .inr fun _ _ => ?_, by rw [List.length_set, hlen3], ?_, hnx, ?_, ?_, ?_, ?_⟩
  · subst hk
    rw [hnx]
    refine ⟨by rw [hcx]; exact hN.1, fun hz => by rw [hcx] at hz; exact hN.2.1 hz, fun hx2 => ?_⟩
    have hx2' : (nd l k).kind = 2 := hx2
    have hu := up_holder h m.sf m.x0 (fun h => h) hx2'
    refine ⟨fun hz => (by rw [hcx, hu.2.2] at hz; cases hz), fun _ => ⟨hcx.trans hu.2.2, ⟨d2, ?_, by rw [hn2]; rw [p1, if_pos rfl] at p4; exact p4⟩, ?_⟩⟩
    · show (if (nd l k).kind = 2 then (d2 : Int) else (nd l k).up) = d2
      rw [if_pos hx2']
    · refine .up k (by rw [hnx]; exact hx2) ?_
      rw [hnx]
      show Rooted _ (if (nd l k).kind = 2 then (d2 : Int) else (nd l k).up)
      rw [if_pos hx2']
      exact hrd4 hx2'
  · have b4 := bytes_set hltx3 (placeN (nd l x) d2)
    rw [hx3] at b4
    have w1 : weightL (placeN (nd l x) d2) = weightL (nd l x) := rfl
    have w2 : weightL (putN (nd l2 d2) t.name x) = weightL (nd l2 d2) := rfl
    omega
  · rw [hn2]; exact find_put _ _ _
  · rw [hnd, if_neg (Ne.symm hxd1), p1]
    split
    · rename_i e
      show findL (putL (nd l2 d2).names (t.name, (x : Int))) s.name = none
      rw [find_put_other (Rig.sorted g1 d2).2 _ _ _ (Ne.symm (hsn e)), ← e]
      exact g5
    · exact g5
  · rw [hnd, if_neg (Ne.symm hxd1), (p3 d1).1]; exact g11
  · rw [hn2]; exact g10
end Go.Proofs.YtpmhmippoefcfaaGreatDoor
