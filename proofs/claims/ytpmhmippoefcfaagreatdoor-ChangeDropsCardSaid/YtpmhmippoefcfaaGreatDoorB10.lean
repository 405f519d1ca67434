/-
  The program's Walk and Node. What is known of where a path leads, on disks that are right. The document's Get, names, rooted. The program's Node; the document's dir, look. The document's rooted.
-/
import Derived.RangeFuncNested
import Derived.RangeFuncBound
import Derived.RangeFuncCalls
import Derived.RangeFuncLeaves
import Derived.RangeFuncBox
import Derived.Shelf.Abstract
import Derived.Shelf.RegionOpen
import Derived.WalkKit
import Derived.OwnWalkIn
import Derived.TacticsInMore
import Derived.LoopNIn
import Derived.LoopIn
import Derived.Lib.Hide
import Derived.Outline
import Derived.Deep.QuietTactic
import Derived.Deep.AppendLies
import Derived.BigQuiet
import Derived.Lib.Strings
import Derived.WalkSmall
import Derived.Shelf.Small.Strs
import Derived.Shelf.Strings.Search1
import Derived.Shelf.Strings.Prefix
import Derived.Laws.AppendOwn
import Derived.Laws.OwnMore
import Derived.Laws.AppendOwnNone
import Derived.WideShapes
import Derived.Lib.TrimByte
import Derived.Lib.Bytealg
import Derived.Lib.QuietBelow
import Derived.Deep.DrawnRows
import Derived.Laws.Cover1
import Derived.WalkMore
import Derived.Shelf.Spec.SlicesGrow
import Derived.StillTailTactics
import Derived.Laws.BitsLemmas
import Derived.Laws.RangeAny
import Derived.Laws.Runes
import Derived.Lib.Builder
import Derived.Deep.WholeRow
import Derived.Lib.OthersKept
import Derived.Shelf.SlSorted.Search
import Derived.LaidEql
import Derived.Stop.Asserts
import Derived.RowKitTokens
import Derived.Deep.RegionHeld3
import Derived.Deep.RegionLaw
import Derived.Handy
import Derived.Laws.IdiomCopy
import Derived.Lib.SliceRun
import Derived.Laws.ResultCell
import Derived.Deep.LoopGhost
import Derived.Test.YtpmhmippoefcfaaGreatDoorProg
import Derived.Test.YtpmhmippoefcfaaGreatDoorShelf
import Derived.Test.YtpmhmippoefcfaaGreatDoorB01
import Derived.Test.YtpmhmippoefcfaaGreatDoorB02
import Derived.Test.YtpmhmippoefcfaaGreatDoorB03
import Derived.Test.YtpmhmippoefcfaaGreatDoorB04
import Derived.Test.YtpmhmippoefcfaaGreatDoorB05
import Derived.Test.YtpmhmippoefcfaaGreatDoorB07
import Derived.Test.YtpmhmippoefcfaaGreatDoorB08
import Derived.Test.YtpmhmippoefcfaaGreatDoorB09
namespace Go.Proofs.YtpmhmippoefcfaaGreatDoor
open Go.RowKit Go.Shelf
attribute [local go_sem ↓] Go.wp_at_zero Go.wp_at_succ
abbrev spotV (s : SpotL) : Value := .agg #[.int .i64 s.dir, .string (bs s.name), .int .i64 s.ino, .bool s.slash]
/-- What Walk tells. -/
def WalkIs (R : ResL) (e : Ending) (w w' : World) : Prop := e = .returned (.tuple #[spotV R.1, .int .i64 R.2]) ∧ Below w.heap.size w w'
def WNodeIs (R : ResL) (e : Ending) (w w' : World) : Prop := e = .returned (.tuple #[.int .i64 (wnodeL R).1, .int .i64 (wnodeL R).2]) ∧ Below w.heap.size w w'
/-- What a disk has to be to be walked. -/
structure DskW (ms : List NodeM) : Prop where
  ok : DskOk ms
  dat : ∀ n ∈ pl ms, n.data.length ≤ 10000
theorem DskW.len {ms : List NodeM} (hd : DskW ms) (i : Int) : (nodeL (pl ms) i).data.length ≤ 10000 := by
  cases hg : gotB (pl ms) i with
  | false => unfold nodeL; rw [hg]; exact Nat.zero_le _
  | true =>
    obtain ⟨k, rfl, hlt, hn, _, _⟩ := right_ok hd.ok.right hg
    rw [hn]; exact hd.dat _ (List.getElem_mem hlt)
theorem cells4 {W : World} {b : Nat} {u0 u1 u2 u3 : Value} {t : TypeId} {f : Nat × Nat} (h : W.heap[b]? = some (.cells #[u0, u1, u2, u3] t f)) :
    W.cell? ⟨b, 0, none⟩ = some u0 ∧ W.cell? ⟨b, 1, none⟩ = some u1 ∧ W.cell? ⟨b, 2, none⟩ = some u2 ∧ W.cell? ⟨b, 3, none⟩ = some u3 := by
  refine ⟨?_, ?_, ?_, ?_⟩ <;> (rw [Lib.cell_of_heap h]; rfl)
theorem grown_below_b' {b B : Nat} {w w' : World} (h : w.grownBy w' (some b)) (hb : B ≤ b) (hw : B ≤ w.heap.size) : Below B w w' := ⟨h.os, h.tape, h.output, h.size, fun k hk => h.block k (by omega) (by intro e; cases e; omega)⟩
theorem fresh1d {P : World → Prop} {w : World} {A : Obj} (h : ∀ W, Below w.heap.size w W → W.heap[w.heap.size]? = some A → W.heap.size = w.heap.size + 1 → P W) : P (w.alloc A).drew :=
  h _ ((Below.refl _ w).alloc (Nat.le_refl _) _).drew (heap_alloc_new w A) (by simp)
set_option maxRecDepth 100000 in
set_option maxHeartbeats 4000000 in
theorem walk_R (R : ResL) (v : Value) (ms : List NodeM) (most room who fr : Int) (path : Str) (follow : Bool) (w : World) (hv : RdM w.heap.size v ms w) (hd : DskW ms) (hpl : path.length ≤ 10000)
    (hg : w.cell? ⟨10, 0, none⟩ = some errTypeV) (hR : R = walkL (pl ms) who fr path follow) :
    Calls Tryz.prog 81 #[.agg #[v, .int .i64 most, .int .i64 room], .int .i64 who, .int .i64 fr, .string (bs path), .bool follow] w fun e w' => WalkIs R e w w' := by
  obtain ⟨aod, capd, rfl, _, _⟩ := rdm_form hv
  have HV := Lib.hid hv
  have hglt := World.block_lt_of_cell? w _ hg
  have HGl := Lib.hid hg
  have HR := Lib.hid hR
  have hret : ∀ (W : World) (cs : Array Value) (fr), W.heap[w.heap.size + 1]? = some (.cells cs 91 fr) → cs.size = 4 → ∀ tmps : Array Value, tmps.getD 10 undef = .pointer (some ⟨w.heap.size + 1, 0, none⟩) → (results Tryz.f81 tmps).run Tryz.prog W = .ok (.tuple #[.agg cs, tmps.getD 11 undef]) W := fun W cs fr h hs tmps ht =>
    results_ct (p := 10) (u := 11) (ty := 91) rfl tmps W (w.heap.size + 1) _ cs fr _ ht h Tryz.underlying91 rfl (by rw [hs]; kernel_rfl)
  have HRET := Lib.hid hret
  clear hv hg hR hret
  go_enter Tryz.func81, Tryz.ntmps81
  go_wp2_with fail
  refine fresh2 (P := fun W => Code.wp _ _ _ _ W) ?_
  intro W0 hb0 hP hQ hs0
  obtain ⟨p0, p1, p2⟩ := cells3 hP
  have hsz : (bs path).size ≤ 9223372036854775807 := by rw [bs_size]; omega
  have hS : ∀ W, Below W0.heap.size W0 W → W.cell? ⟨w.heap.size, 0, none⟩ = some (.slice aod ms.length capd) ∧ W.cell? ⟨w.heap.size, 1, none⟩ = some (.int .i64 most) ∧ W.cell? ⟨w.heap.size, 2, none⟩ = some (.int .i64 room) := fun W hb => cells3 ((hb.block _ (by omega)).trans hP)
  have HSS := Lib.hid hS
  clear hS p0 p1 p2
  go_region_held3 (fun W => W.cell? ⟨w.heap.size, 0, none⟩ = some (.slice aod ms.length capd) ∧ W.cell? ⟨w.heap.size, 1, none⟩ = some (.int .i64 most) ∧ W.cell? ⟨w.heap.size, 2, none⟩ = some (.int .i64 room))
    (first
      | exact HSS.out _ (by go_grown)
      | go_keep)
    (first
      | (go_at_call 107; (with_reducible refine (Tryz.strings_HasSuffix _ _ _ hsz).mono ?_); rintro e w' ⟨rfl, rfl⟩)
      | fail)
  all_goals
    refine fresh1d (P := fun W => Exit.then _ _ _ _ W) ?_
    intro W1 hb1 hW1 hs1
    rw [hs0] at hW1
    have hB1 := ret_tr hb0 hb1
    have hway : WayM (w.heap.size + 2) ⟨.slice aod ms.length capd, most, room, who, follow, Lib.hasSuffix path [47]⟩ fr (.slice none 0 0) [] 0 ⟨0, [], 0, false⟩ W1 := ⟨hW1, Rd.none0 _ _ _, fun e => by cases e⟩
    have hvb : RdM (w.heap.size + 2) (.slice aod ms.length capd) ms W1 := (HV.out.below hB1).mono (by omega)
    have HGo := Lib.hid (goAll_any (w.heap.size + 2) ⟨.slice aod ms.length capd, most, room, who, follow, Lib.hasSuffix path [47]⟩ fr (.slice none 0 0) ⟨0, [], 0, false⟩ path ms W1 hway hvb hd.ok hd.dat hpl rfl)
    have hQ1 := Lib.hid ((hb1.block _ (by omega)).trans hQ)
    clear hway hvb hW1 HSS hb1
    go_wp2_with fail
    refine HGo.out.mono ?_
    intro e w2 h
    rcases h with ⟨n, v, hRn, hn, herr, rfl, hgr⟩ | ⟨i2, left2, hops2, sp2, hRn, vl2, rfl, hw2, hgr⟩
    · have HRn : Hid (R = (zeroS, n)) := Lib.hid (HR.out.trans hRn)
      have hB2 : Below w.heap.size w w2 := hB1.trans (grown_below_b' hgr (by omega) (by omega))
      have hQ2 := (hgr.block (w.heap.size + 1) (by omega) (by simp)).trans hQ1.out
      have hg2 := (hB2.cell (p := ⟨10, 0, none⟩) hglt).trans HGl.out
      have hs2 := hgr.size
      have hNum := number_any v n w2 herr hg2
      have HNum := Lib.hid hNum
      have HB2 := Lib.hid hB2
      have HQ2 := Lib.hid hQ2
      have hvi : ∃ ty d, v = .iface ty d := by
        rcases herr with rfl | ⟨p, rfl⟩
        · exact ⟨_, _, rfl⟩
        · exact ⟨_, _, rfl⟩
      obtain ⟨ty, d, rfl⟩ := hvi
      clear hRn hn herr hgr hB2 hQ2 hg2 hNum hB1 hQ1 HGo hb0 hP hQ
      go_wp2_with fail
      refine HNum.out.mono ?_
      rintro e w3 ⟨rfl, hb3⟩
      have hQ3 := (hb3.block _ (by omega)).trans HQ2.out
      obtain ⟨q0, q1, q2, q3⟩ := cells4 hQ3
      have rf := fun j => Lib.frozen_of_heap hQ3 j
      go_wp2_with fail
      refine post_sets4 hQ3 ?_
      intro W4 hb4 hg4 hs4 hR4
      refine bodyPost_ret (HRET.out _ _ _ hR4 rfl _ rfl) rfl ?_
      exact ⟨by rw [HRn.out]; rfl, (ret_tr HB2.out hb3).trans (hb4.mono (by omega))⟩
    · have HRn : Hid (R = (sp2, 0)) := Lib.hid (HR.out.trans hRn)
      have hB2 : Below w.heap.size w w2 := hB1.trans (grown_below_b' hgr (by omega) (by omega))
      have hQ2 := (hgr.block (w.heap.size + 1) (by omega) (by simp)).trans hQ1.out
      have HB2 := Lib.hid hB2
      have hs2 := hgr.size
      obtain ⟨c0, c1, c2, c3, c4, c5, c6, c7, c8, c9, c10, c11, c12⟩ := cells13 hw2.blk
      obtain ⟨q0, q1, q2, q3⟩ := cells4 hQ2
      have rf := fun j => Lib.frozen_of_heap hQ2 j
      clear hRn hw2 hgr hB2 hB1 hQ1 HGo hb0 hP hQ c0 c1 c2 c3 c4 c5 c6 c7 c8
      go_wp2_with fail
      refine post_sets4 hQ2 ?_
      intro W4 hb4 hg4 hs4 hR4
      refine bodyPost_ret (HRET.out _ _ _ hR4 rfl _ rfl) rfl ?_
      exact ⟨by rw [HRn.out]; rfl, HB2.out.trans (hb4.mono (by omega))⟩
theorem walk_any (v : Value) (ms : List NodeM) (most room who fr : Int) (path : Str) (follow : Bool) (w : World) (hv : RdM w.heap.size v ms w) (hd : DskW ms) (hpl : path.length ≤ 10000) (hg : w.cell? ⟨10, 0, none⟩ = some errTypeV) :
    Calls Tryz.prog 81 #[.agg #[v, .int .i64 most, .int .i64 room], .int .i64 who, .int .i64 fr, .string (bs path), .bool follow] w fun e w' => WalkIs (walkL (pl ms) who fr path follow) e w w' :=
  walk_R _ v ms most room who fr path follow w hv hd hpl hg rfl
end Go.Proofs.YtpmhmippoefcfaaGreatDoor
namespace Go.Proofs.YtpmhmippoefcfaaGreatDoor
/-- By what a way does at each part: what holds of each end holds of all ways. -/
theorem go_ind (l : List NodeL) (who : Int) (follow slash : Bool) (M : Int → List Str → Nat → ResL → Prop)
    (nil : ∀ i hops, M i [] hops (⟨0, [], 0, slash⟩, 0))
    (dir : ∀ i hops p rest, dirE l i ≠ 0 → M i (p :: rest) hops (zeroS, dirE l i))
    (may : ∀ i hops p rest, dirE l i = 0 → mayAt l who i = false → M i (p :: rest) hops (zeroS, 7))
    (none1 : ∀ i hops p, dirE l i = 0 → mayAt l who i = true → lookL l i p < 0 → M i [p] hops (⟨i, p, -1, slash⟩, 0))
    (none2 : ∀ i hops p rest, dirE l i = 0 → mayAt l who i = true → lookL l i p < 0 → rest ≠ [] → M i (p :: rest) hops (zeroS, 2))
    (loop : ∀ i hops p rest, dirE l i = 0 → mayAt l who i = true → ¬ lookL l i p < 0 → (nodeL l (lookL l i p)).kind = 3 → (rest ≠ [] ∨ follow = true ∨ slash = true) → 8 ≤ hops → M i (p :: rest) hops (zeroS, 8))
    (bad : ∀ i hops p rest, dirE l i = 0 → mayAt l who i = true → ¬ lookL l i p < 0 → (nodeL l (lookL l i p)).kind = 3 → (rest ≠ [] ∨ follow = true ∨ slash = true) → ¬ 8 ≤ hops → checkE (nodeL l (lookL l i p)).data ≠ 0 → M i (p :: rest) hops (zeroS, checkE (nodeL l (lookL l i p)).data))
    (link : ∀ i hops p rest R, dirE l i = 0 → mayAt l who i = true → ¬ lookL l i p < 0 → (nodeL l (lookL l i p)).kind = 3 → (rest ≠ [] ∨ follow = true ∨ slash = true) → ¬ 8 ≤ hops → checkE (nodeL l (lookL l i p)).data = 0 →
      M (firstAt i (nodeL l (lookL l i p)).data) (parts (nodeL l (lookL l i p)).data ++ rest) (hops + 1) R → M i (p :: rest) hops R)
    (file : ∀ i hops p, dirE l i = 0 → mayAt l who i = true → ¬ lookL l i p < 0 → ¬ ((nodeL l (lookL l i p)).kind = 3 ∧ (follow = true ∨ slash = true)) → slash = true → (nodeL l (lookL l i p)).kind ≠ 2 → M i [p] hops (zeroS, 4))
    (spot : ∀ i hops p, dirE l i = 0 → mayAt l who i = true → ¬ lookL l i p < 0 → ¬ ((nodeL l (lookL l i p)).kind = 3 ∧ (follow = true ∨ slash = true)) → ¬ (slash = true ∧ (nodeL l (lookL l i p)).kind ≠ 2) → M i [p] hops (⟨i, p, lookL l i p, slash⟩, 0))
    (on : ∀ i hops p rest R, dirE l i = 0 → mayAt l who i = true → ¬ lookL l i p < 0 → (nodeL l (lookL l i p)).kind ≠ 3 → rest ≠ [] → M (lookL l i p) rest hops R → M i (p :: rest) hops R) :
    ∀ i ps hops, M i ps hops (goW l who follow slash i ps hops) := by
  intro i ps hops
  induction i, ps, hops using goW.induct l who follow slash with
  | case1 i hops => rw [go_nil]; exact nil i hops
  | case2 i hops p rest h => rw [go_dir h]; exact dir _ _ _ _ h
  | case3 i hops p rest h h2 =>
    have h := Decidable.not_not.1 h
    rw [go_may h h2]; exact may _ _ _ _ h h2
  | case4 i hops p h h2 h3 =>
    have h := Decidable.not_not.1 h
    have h2 := Bool.not_eq_false _ ▸ h2
    rw [go_none1 h h2 h3 rfl]; exact none1 _ _ _ h h2 h3
  | case5 i hops p rest h h2 h3 h4 =>
    have h := Decidable.not_not.1 h
    have h2 := Bool.not_eq_false _ ▸ h2
    rw [go_none2 h h2 h3 h4]; exact none2 _ _ _ _ h h2 h3 h4
  | case6 i hops p rest h h2 h3 h4 h5 =>
    have h := Decidable.not_not.1 h
    have h2 := Bool.not_eq_false _ ▸ h2
    rw [go_loop h h2 h3 h4.1 h4.2 h5]; exact loop _ _ _ _ h h2 h3 h4.1 h4.2 h5
  | case7 i hops p rest h h2 h3 h4 h5 h6 =>
    have h := Decidable.not_not.1 h
    have h2 := Bool.not_eq_false _ ▸ h2
    rw [go_bad h h2 h3 h4.1 h4.2 h5 h6]; exact bad _ _ _ _ h h2 h3 h4.1 h4.2 h5 h6
  | case8 i hops p rest h h2 h3 h4 h5 h6 ih =>
    have h := Decidable.not_not.1 h
    have h2 := Bool.not_eq_false _ ▸ h2
    have h6 := Decidable.not_not.1 h6
    rw [go_link h h2 h3 h4.1 h4.2 h5 h6]; exact link _ _ _ _ _ h h2 h3 h4.1 h4.2 h5 h6 ih
  | case9 i hops p h h2 h3 h4 h5 =>
    have h := Decidable.not_not.1 h
    have h2 := Bool.not_eq_false _ ▸ h2
    rw [go_file h h2 h3 h5 rfl h4]; exact file _ _ _ h h2 h3 (fun h => h5 ⟨h.1, .inr h.2⟩) h4.1 h4.2
  | case10 i hops p h h2 h3 h4 h5 =>
    have h := Decidable.not_not.1 h
    have h2 := Bool.not_eq_false _ ▸ h2
    rw [go_spot h h2 h3 h5 rfl h4]; exact spot _ _ _ h h2 h3 (fun h => h5 ⟨h.1, .inr h.2⟩) h4
  | case11 i hops p rest h h2 h3 h4 h5 ih =>
    have h := Decidable.not_not.1 h
    have h2 := Bool.not_eq_false _ ▸ h2
    have hk : (nodeL l (lookL l i p)).kind ≠ 3 := fun hk => h4 ⟨hk, .inl h5⟩
    rw [go_on h h2 h3 hk h5]; exact on _ _ _ _ _ h h2 h3 hk h5 ih
/-- What is told of a way, at its end. -/
theorem go_ino {l : List NodeL} (h : RightP l) (who : Int) (follow slash : Bool) : ∀ i ps hops, (goW l who follow slash i ps hops).2 = 0 → (goW l who follow slash i ps hops).1.ino = -1 ∨ gotB l (goW l who follow slash i ps hops).1.ino = true := by
  refine go_ind l who follow slash (fun _ _ _ R => R.2 = 0 → R.1.ino = -1 ∨ gotB l R.1.ino = true) ?_ ?_ ?_ ?_ ?_ ?_ ?_ ?_ ?_ ?_ ?_
  · intro i hops _; exact .inr (right_root h).2
  · intro i hops p rest hd he; exact absurd he hd
  · intro i hops p rest _ _ he; cases he
  · intro i hops p _ _ _ _; exact .inl rfl
  · intro i hops p rest _ _ _ _ he; cases he
  · intro i hops p rest _ _ _ _ _ _ he; cases he
  · intro i hops p rest _ _ _ _ _ _ hc he; exact absurd he hc
  · intro i hops p rest R _ _ _ _ _ _ _ ih; exact ih
  · intro i hops p _ _ _ _ _ _ he; cases he
  · intro i hops p hd _ hn _ _ _; exact .inr ((look_got h hd p).2 hn)
  · intro i hops p rest R _ _ _ _ _ ih; exact ih
theorem walk_ino {l : List NodeL} (h : RightP l) (who fr : Int) (path : Str) (follow : Bool) (he : (walkL l who fr path follow).2 = 0) : (walkL l who fr path follow).1.ino = -1 ∨ gotB l (walkL l who fr path follow).1.ino = true := by
  unfold walkL at he ⊢
  split at he
  · rename_i hc; exact absurd he hc
  · rename_i hc
    rw [if_neg hc]
    split at he
    · rename_i hp
      rw [if_pos hp]
      split at he
      · rename_i hd; exact absurd he hd
      · rename_i hd
        rw [if_neg hd]
        exact .inr (dir_got (Decidable.not_not.1 hd)).1
    · rename_i hp
      rw [if_neg hp]
      exact go_ino h _ _ _ _ _ _ he
end Go.Proofs.YtpmhmippoefcfaaGreatDoor
namespace Go.Proofs.YtpmhmippoefcfaaGreatDoor
open Go.RowKit Go.Shelf
attribute [local go_sem ↓] Go.wp_at_zero Go.wp_at_succ
set_option maxRecDepth 100000 in
set_option maxHeartbeats 2000000 in
theorem rget_any (v : Value) (ms : List NodeM) (most room i : Int) (w : World) (hv : RdM w.heap.size v ms w) (hl : ms.length ≤ 10000) :
    Calls Tryz.prog 51 #[.agg #[v, .int .i64 most, .int .i64 room], .int .i64 i] w fun e w' => GetIs (pl ms) i e w w' := by
  obtain ⟨ao, cap, rfl, _, _⟩ := rdm_form hv
  have HV := Lib.hid hv
  have HL := Lib.hid hl
  clear hv
  have hret : ∀ (W : World) (cs : Array Value) (fr), W.heap[w.heap.size + 1]? = some (.cells cs 74 fr) → cs.size = 8 → ∀ tmps : Array Value, tmps.getD 4 undef = .pointer (some ⟨w.heap.size + 1, 0, none⟩) → (results Tryz.f51 tmps).run Tryz.prog W = .ok (.tuple #[.agg cs, tmps.getD 5 undef]) W := fun W cs fr h hs tmps ht =>
    results_ct (p := 4) (u := 5) (ty := 74) rfl tmps W (w.heap.size + 1) _ cs fr _ ht h Tryz.underlying74 rfl (by rw [hs]; kernel_rfl)
  have no : ∀ W : World, gotB (pl ms) i = false → Below w.heap.size w W → GetIs (pl ms) i (.returned (.tuple #[.agg #[.int .i64 0, .int .i64 0, .int .i64 0, .int .i64 0, .int .i64 0, .int .i64 0, .string ⟨#[]⟩, .slice none 0 0], .bool false])) w W := fun _ h hb => get_no h hb
  have HNO := Lib.hid no
  clear no
  by_cases h1 : i < 0
  · have hI : decide (i < 0) = true := by simpa using h1
    have HG : Hid (gotB (pl ms) i = false) := Lib.hid (by unfold gotB inL; rw [show decide (0 ≤ i) = false by simp; omega]; rfl)
    clear h1
    go_enter Tryz.func51, Tryz.ntmps51
    go_wp2_with fail
    refine fresh2 (P := fun W => bodyPost _ _ _ _ _ W) ?_
    intro W0 hb0 hP hQ hs0
    refine bodyPost_ret (hret _ _ _ hQ rfl _ rfl) rfl ?_
    exact HNO.out _ HG.out hb0
  have g1 : decide (i < 0) = false := by simpa using h1
  by_cases h2 : (ms.length : Int) ≤ i
  · have hI : decide ((ms.length : Int) ≤ i) = true := by simpa using h2
    have HG : Hid (gotB (pl ms) i = false) := Lib.hid (by unfold gotB inL; rw [show decide (i < (pl ms).length) = false by rw [pl_len]; simpa using h2]; simp)
    clear h1 h2
    go_enter Tryz.func51, Tryz.ntmps51
    go_wp2_with fail
    refine fresh2 (P := fun W => bodyPost _ _ _ _ _ W) ?_
    intro W0 hb0 hP hQ hs0
    refine bodyPost_ret (hret _ _ _ hQ rfl _ rfl) rfl ?_
    exact HNO.out _ HG.out hb0
  have g2 : decide ((ms.length : Int) ≤ i) = false := by simpa using h2
  obtain ⟨k, rfl, hk⟩ : ∃ k : Nat, i = k ∧ k < ms.length := ⟨i.toNat, by omega, by omega⟩
  have hin := nat_in (l := pl ms) (k := k) (by rw [pl_len]; exact hk)
  have hat := at_nat (pl ms) k (by rw [pl_len]; exact hk)
  have k0 : (0 : Int) ≤ (k : Int) := by omega
  have k1 : (k : Int) < (ms.length : Int) := by omega
  obtain ⟨b, off, n, aon, capn, rfl, hb, hn, -, hrn, c0, c1, c2, c3, c4, c5, c6, c7⟩ := node_at HV.out k hk
  rw [hn] at hat
  by_cases h0 : n.kind = 0
  · have hd : (n.kind == 0) = true := by simpa using h0
    have HG : Hid (gotB (pl ms) k = false) := Lib.hid (by unfold gotB; rw [hat]; simp [h0])
    clear h0 h1 h2 hin hat hn hrn
    go_enter Tryz.func51, Tryz.ntmps51
    go_wp2_with fail
    refine fresh2 (P := fun W => bodyPost _ _ _ _ _ W) ?_
    intro W0 hb0 hP hQ hs0
    refine bodyPost_ret (hret _ _ _ hQ rfl _ rfl) rfl ?_
    exact HNO.out _ HG.out hb0
  · have hd : (n.kind == 0) = false := by simpa using h0
    have HG : Hid (gotB (pl ms) k = true) := Lib.hid (by unfold gotB; rw [hat, hin]; simp [h0])
    have HGe : Hid (getL (pl ms) k = n) := Lib.hid (by unfold getL; rw [HG.out, hat]; rfl)
    have HR := Lib.hid hrn
    clear h0 h1 h2 hin hat hn hrn
    go_enter Tryz.func51, Tryz.ntmps51
    go_wp2_with fail
    refine fresh2 (P := fun W => bodyPost _ _ _ _ _ W) ?_
    intro W0 hb0 hP hQ hs0
    refine bodyPost_ret (hret _ _ _ hQ rfl _ rfl) rfl ?_
    exact ⟨.slice aon n.names.length capn, by rw [HGe.out, HG.out]; rfl, by rw [HGe.out]; exact rd_keep HR.out hb0, hb0⟩
def NamesIs (l : List NodeL) (i : Int) (e : Ending) (W W' : World) : Prop := e = .returned (.tuple #[.int .i64 ((nmL l i (0, -1)).1 : Int), .int .i64 (nmL l i (0, -1)).2]) ∧ Below W.heap.size W W'
set_option maxRecDepth 100000 in
set_option maxHeartbeats 2000000 in
theorem names_any (v : Value) (ms : List NodeM) (most room i : Int) (w : World) (hv : RdM w.heap.size v ms w) (hsm : Small (pl ms)) :
    Calls Tryz.prog 104 #[.agg #[v, .int .i64 most, .int .i64 room], .int .i64 i] w fun e w' => NamesIs (pl ms) i e w w' := by
  have hl : ms.length ≤ 110 := by have := hsm.1; rwa [pl_len] at this
  obtain ⟨ao, cap, rfl, _, _⟩ := rdm_form hv
  have hb0 : Below w.heap.size w (w.alloc (.cells #[.slice ao ms.length cap, .int .i64 most, .int .i64 room] 32)) := (Below.refl _ w).alloc (Nat.le_refl _) _
  have HV := Lib.hid (hv.below hb0)
  have HS := Lib.hid hsm
  clear hv hsm
  go_enter Tryz.func104, Tryz.ntmps104
  go_wp2_with fail
  go_loop [6, 7, 8] (fun c d i' => ∃ k : Nat, i' = .int .i64 k ∧ k ≤ ms.length ∧ c = .int .i64 ((nmTo (pl ms) i (0, -1) k).1 : Int) ∧ d = .int .i64 (nmTo (pl ms) i (0, -1) k).2) (fun _ _ i' => ms.length - (intOf i').toNat)
  case atStart => exact ⟨0, rfl, Nat.zero_le _, rfl, rfl⟩
  case round =>
    obtain ⟨k, rfl, hk, rfl, rfl⟩ := hrel
    by_cases hlt : k < ms.length
    · obtain ⟨b, off, n, aon, capn, rfl, hb, hn, -, hrn, c0, c1, c2, c3, c4, c5, c6, c7⟩ := node_at HV.out k hlt
      have hsucc : Hid (nmTo (pl ms) i (0, -1) (k + 1) = foldN i k (nmTo (pl ms) i (0, -1) k) n.names) := Lib.hid (by
        show foldN i k _ ((pl ms).getD k zeroN).names = _
        rw [List.getD_eq_getElem?_getD, List.getElem?_eq_getElem (by rw [pl_len]; exact hlt), hn]
        rfl)
      have hle := nm_le HS.out i (0, -1) k
      have hnl : n.names.length ≤ 130 := (HS.out.2 n (by rw [← hn]; exact List.getElem_mem _)).2
      have HR := Lib.hid hrn
      clear hn hrn
      generalize nmTo (pl ms) i (0, -1) k = s at *
      have hle2 : s.1 ≤ 15000 := by simp at hle; omega
      clear hle
      go_wp2_with fail
      go_loop [6, 7, 9] (fun c d j' => ∃ j : Nat, j' = .int .i64 j ∧ j ≤ n.names.length ∧ c = .int .i64 ((foldN i k s (n.names.take j)).1 : Int) ∧ d = .int .i64 (foldN i k s (n.names.take j)).2) (fun _ _ j' => n.names.length - (intOf j').toNat)
      case atStart => exact ⟨0, rfl, Nat.zero_le _, rfl, rfl⟩
      case round =>
        obtain ⟨j, rfl, hj, rfl, rfl⟩ := hrel
        by_cases hlj : j < n.names.length
        · obtain ⟨b2, off2, cap2, e, _, _, _, _, hc⟩ := HR.out.at (by omega)
          injection e with e1 _ e2
          subst e1
          subst e2
          have d1 : World.cell? _ ⟨b2, off2 + j * 2 + 1, none⟩ = _ := hc (j * 2 + 1) _ (ents_at1 n.names j hlj)
          have hst := foldN_succ i k s n.names j hlj
          have hfl := fold_le i k (n.names.take j) s
          rw [List.length_take] at hfl
          generalize n.names[j] = f at *
          generalize foldN i k s (n.names.take j) = t at *
          obtain ⟨fx, fz⟩ := f
          by_cases hz : fz = i
          · have hI : (fz == i) = true := by simpa using hz
            have hst2 : foldN i k s (n.names.take (j + 1)) = (t.1 + 1, (k : Int)) := by rw [hst]; unfold stepN; rw [if_pos hz]
            have HST := Lib.hid hst2
            have ht1 : t.1 ≤ 16000 := by omega
            clear hz hst hst2 hc hfl
            go_wp2_with fail
            go_round
            case rel => exact ⟨j + 1, by go_num, hlj, by rw [HST.out]; go_num, by rw [HST.out]⟩
            case measure => simp [intOf]; omega
          · have hI : (fz == i) = false := by simpa using hz
            have hst2 : foldN i k s (n.names.take (j + 1)) = t := by rw [hst]; unfold stepN; rw [if_neg hz]
            have HST := Lib.hid hst2
            clear hz hst hst2 hc hfl
            go_wp2_with fail
            go_round
            case rel => exact ⟨j + 1, by go_num, hlj, by rw [HST.out], by rw [HST.out]⟩
            case measure => simp [intOf]; omega
        · have hje : j = n.names.length := by omega
          have HT : Hid (foldN i k s (n.names.take j) = nmTo (pl ms) i (0, -1) (k + 1)) := Lib.hid (by rw [hje, List.take_length, hsucc.out])
          have hI2 : decide (j < n.names.length) = false := by simp; omega
          clear hje hlj
          go_wp2_with fail
          go_round
          case rel => exact ⟨k + 1, by go_num, hlt, by rw [HT.out], by rw [HT.out]⟩
          case measure => simp [intOf]; omega
    · have hke : k = ms.length := by omega
      have HT : Hid (nmTo (pl ms) i (0, -1) k = nmL (pl ms) i (0, -1)) := Lib.hid (by rw [hke]; unfold nmL; rw [pl_len])
      have hI2 : decide (k < ms.length) = false := by simp; omega
      clear hke hlt
      rw [HT.out]
      go_wp2_with fail
      go_ret2
      exact ⟨rfl, hb0⟩
end Go.Proofs.YtpmhmippoefcfaaGreatDoor
namespace Go.Proofs.YtpmhmippoefcfaaGreatDoor
open Go.RowKit Go.Shelf
attribute [local go_sem ↓] Go.wp_at_zero Go.wp_at_succ
set_option maxRecDepth 100000 in
set_option maxHeartbeats 4000000 in
theorem wnode_any (v : Value) (ms : List NodeM) (most room who fr : Int) (path : Str) (follow : Bool) (w : World) (hv : RdM w.heap.size v ms w) (hd : DskW ms) (hpl : path.length ≤ 10000)
    (hg : w.cell? ⟨10, 0, none⟩ = some errTypeV) :
    Calls Tryz.prog 41 #[.agg #[v, .int .i64 most, .int .i64 room], .int .i64 who, .int .i64 fr, .string (bs path), .bool follow] w fun e w' => WNodeIs (walkL (pl ms) who fr path follow) e w w' := by
  obtain ⟨aod, capd, rfl, _, _⟩ := rdm_form hv
  have hb0 : Below w.heap.size w (w.alloc (.cells #[.slice aod ms.length capd, .int .i64 most, .int .i64 room] 24)) := (Below.refl _ w).alloc (Nat.le_refl _) _
  have hglt := World.block_lt_of_cell? w _ hg
  have HW := Lib.hid (walk_any (.slice aod ms.length capd) ms most room who fr path follow _ (rdm_keep hv hb0) hd hpl ((hb0.cell (p := ⟨10, 0, none⟩) hglt).trans hg))
  have hi := walk_ino hd.ok.right who fr path follow
  obtain ⟨R, hR⟩ : ∃ R, R = walkL (pl ms) who fr path follow := ⟨_, rfl⟩
  rw [← hR] at HW hi ⊢
  clear hv hg hR
  obtain ⟨⟨sd, sn, si, ss⟩, n⟩ := R
  dsimp only at hi
  have HI := Lib.hid hi
  clear hi
  go_enter Tryz.func41, Tryz.ntmps41
  go_wp2_with fail
  refine HW.out.mono ?_
  rintro e w1 ⟨rfl, hb1⟩
  have HB1 := Lib.hid (ret_tr hb0 hb1)
  clear hb0 hb1
  by_cases h0 : n = 0
  · subst h0
    by_cases hm : si = -1
    · subst hm
      go_wp2_with fail
      refine post_fresh1 ?_
      intro W5 hb5 hn5 hs5
      go_ret2
      exact ⟨rfl, ret_tr HB1.out hb5⟩
    · have hI : (si == -1) = false := by simpa using hm
      have hnn : ¬ si < 0 := by
        rcases HI.out rfl with h | h
        · exact absurd h hm
        · have := got_le h; omega
      have HN : Hid (wnodeL (⟨sd, sn, si, ss⟩, 0) = (si, 0)) := Lib.hid (by unfold wnodeL; rw [if_neg (by simp), if_neg hnn])
      clear hm hnn
      go_wp2_with fail
      refine post_fresh1 ?_
      intro W5 hb5 hn5 hs5
      go_ret2
      exact ⟨by rw [HN.out]; rfl, ret_tr HB1.out hb5⟩
  · have hI : (n != 0) = true := by simpa using h0
    have HN : Hid (wnodeL (⟨sd, sn, si, ss⟩, n) = (0, n)) := Lib.hid (by unfold wnodeL; rw [if_pos h0])
    clear h0
    go_wp2_with fail
    refine post_fresh1 ?_
    intro W5 hb5 hn5 hs5
    go_ret2
    exact ⟨by rw [HN.out]; rfl, ret_tr HB1.out hb5⟩
end Go.Proofs.YtpmhmippoefcfaaGreatDoor
namespace Go.Proofs.YtpmhmippoefcfaaGreatDoor
open Go.RowKit Go.Shelf
attribute [local go_sem ↓] Go.wp_at_zero Go.wp_at_succ
theorem bel_al2 {w W0 W1 : World} {o : Obj} (h : Below w.heap.size w W0) (hs : W0.heap.size = w.heap.size + 1) (g : Below W0.heap.size W0 W1) : Below w.heap.size w (W1.alloc o) :=
  (h.trans (g.mono (by omega))).alloc (by have := g.size; omega) o
theorem rootR_step (l : List NodeL) (f : Nat) (j : Int) (h : j ≠ 0) : rootR l (f + 1) j = if gotB l j && decide ((atI l j).kind = 2) then rootR l f (atI l j).up else false := by
  conv => lhs; unfold rootR
  rw [if_neg h]
set_option maxRecDepth 100000 in
set_option maxHeartbeats 2000000 in
theorem rooted_any (v : Value) (ms : List NodeM) (most room i : Int) (w : World) (hv : RdM w.heap.size v ms w) (hl : ms.length ≤ 10000) :
    Calls Tryz.prog 105 #[.agg #[v, .int .i64 most, .int .i64 room], .int .i64 i] w fun e w' => e = .returned (.bool (rootR (pl ms) (ms.length + 1) i)) ∧ Below w.heap.size w w' := by
  obtain ⟨ao, cap, rfl, _, _⟩ := rdm_form hv
  have HV := Lib.hid hv
  clear hv
  go_enter Tryz.func105, Tryz.ntmps105
  go_wp2_with fail
  refine fresh1 (P := fun W => Code.wp _ _ _ _ W) ?_
  intro W0 hb0 hP hs0
  go_loopw [1, 5] (fun j' k' wr => ∃ (k : Nat) (j : Int), j' = .int .i64 j ∧ k' = .int .i64 k ∧ k ≤ ms.length + 1 ∧ Hid (rootR (pl ms) (ms.length + 1) i = rootR (pl ms) (ms.length + 1 - k) j) ∧ Below W0.heap.size W0 wr) (fun _ k' _ => ms.length + 1 - (intOf k').toNat)
  case atStart => exact ⟨0, i, rfl, rfl, Nat.zero_le _, Lib.hid rfl, Below.refl _ _⟩
  case round =>
    obtain ⟨k, j, rfl, rfl, hk, hR, hBr⟩ := hrel
    have hPr := (hBr.block _ (by omega)).trans hP
    obtain ⟨p0, p1, p2⟩ := cells3 hPr
    have hBw : Below w.heap.size w wr := hb0.trans (hBr.mono (by omega))
    have sB := hBr.size
    by_cases hlt : k ≤ ms.length
    · have hI : decide ((k : Int) ≤ (ms.length : Int)) = true := by simpa using hlt
      obtain ⟨f, hf, hf2⟩ : ∃ f, ms.length + 1 - k = f + 1 ∧ f = ms.length + 1 - (k + 1) := ⟨ms.length - k, by omega, by omega⟩
      have hR' := hR.out
      rw [hf] at hR'
      by_cases hj : j = 0
      · have hJ : (j == 0) = true := by simpa using hj
        have HF : Hid (rootR (pl ms) (ms.length + 1) i = true) := Lib.hid (by rw [hR', hj]; rfl)
        clear hR' hj hf hf2
        go_wp2_with fail
        go_ret
        exact ⟨ret_bool HF.out.symm, hBw⟩
      · have hJ : (j == 0) = false := by simpa using hj
        rw [rootR_step _ _ _ hj] at hR'
        have HR' := Lib.hid hR'
        clear hR' hj hf
        go_wp2_with fail
        refine (rget_any (.slice ao ms.length cap) ms most room j wr (rdm_keep HV.out hBw) hl).mono ?_
        intro e W1 hget
        obtain ⟨v1, rfl, hrn, hb1⟩ := hget
        obtain ⟨aon, capn, ev, _, _⟩ := Rd.form hrn
        have ev' : v1 = .slice aon (getL (pl ms) j).names.length capn := ev
        subst ev'
        have hB1 := ret_tr hBr hb1
        clear hrn ev p0 p1 p2
        cases hg : gotB (pl ms) j with
        | false =>
          have HF : Hid (rootR (pl ms) (ms.length + 1) i = false) := Lib.hid (by rw [HR'.out, hg]; rfl)
          generalize getL (pl ms) j = n at *
          clear hg
          go_wp2_with fail
          go_ret
          exact ⟨ret_bool HF.out.symm, bel_al2 hb0 hs0 hB1⟩
        | true =>
          have hgl : getL (pl ms) j = atI (pl ms) j := by unfold getL; rw [hg]; rfl
          rw [hgl]
          rw [hg] at HR'
          generalize atI (pl ms) j = n at *
          by_cases h2 : n.kind = 2
          · have hK : (n.kind != 2) = false := by simpa using h2
            have hd : decide (n.kind = 2) = true := by simpa using h2
            rw [hd] at HR'
            have HX : Hid (rootR (pl ms) (ms.length + 1) i = rootR (pl ms) (ms.length + 1 - (k + 1)) n.up) := Lib.hid (by rw [HR'.out, ← hf2]; rfl)
            clear h2 hd hg hgl HR'
            go_wp2_with fail
            go_roundw
            case rel => exact ⟨k + 1, n.up, rfl, by go_num, by omega, HX, hB1.alloc hB1.size _⟩
            case measure => simp [intOf]; omega
          · have hK : (n.kind != 2) = true := by simpa using h2
            have hd : decide (n.kind = 2) = false := by simpa using h2
            rw [hd] at HR'
            have HF : Hid (rootR (pl ms) (ms.length + 1) i = false) := Lib.hid (by rw [HR'.out]; rfl)
            clear h2 hd hg hgl HR'
            go_wp2_with fail
            go_ret
            exact ⟨ret_bool HF.out.symm, bel_al2 hb0 hs0 hB1⟩
    · have hke : k = ms.length + 1 := by omega
      have HF : Hid (rootR (pl ms) (ms.length + 1) i = false) := Lib.hid (by rw [hR.out, hke, Nat.sub_self]; rfl)
      have hI2 : decide (k ≤ ms.length) = false := by simp; omega
      clear hke hlt
      go_wp2_with fail
      go_ret
      exact ⟨ret_bool HF.out.symm, hBw⟩
end Go.Proofs.YtpmhmippoefcfaaGreatDoor
