/-
  The program's Walk and Node.
-/
import Derived.Test.YtckbhkchnhhecaaDoorWalkE
import Derived.Test.YtckbhkchnhhecaaDoorFirm
namespace Go.Proofs.YtckbhkchnhhecaaDoor
open Go.RowKit Go.Shelf
attribute [local go_sem ↓] Go.wp_at_zero Go.wp_at_succ

abbrev spotV (s : SpotL) : Value := .agg #[.int .i64 s.dir, .string (bs s.name), .int .i64 s.ino, .bool s.slash]
/-- What Walk tells. -/
def WalkIs (R : ResL) (e : Ending) (w w' : World) : Prop := e = .returned (.tuple #[spotV R.1, .int .i64 R.2]) ∧ Below w.heap.size w w'
def WNodeIs (R : ResL) (e : Ending) (w w' : World) : Prop := e = .returned (.tuple #[.int .i64 (wnodeL R).1, .int .i64 (wnodeL R).2]) ∧ Below w.heap.size w w'
/-- What a disk has to be to be walked. -/
structure DskW (ms : List NodeM) : Prop where
  ok : DskOk ms
  dat : ∀ n ∈ pl ms, n.data.length ≤ 10000
theorem DskW.len {ms : List NodeM} (hd : DskW ms) (i : Int) : (nodeL (pl ms) i).data.length ≤ 10000 := by
  cases hg : gotB (pl ms) i with
  | false => unfold nodeL; rw [hg]; exact Nat.zero_le _
  | true =>
    obtain ⟨k, rfl, hlt, hn, _, _⟩ := right_ok hd.ok.right hg
    rw [hn]; exact hd.dat _ (List.getElem_mem hlt)
theorem cells4 {W : World} {b : Nat} {u0 u1 u2 u3 : Value} {t : TypeId} {f : Nat × Nat} (h : W.heap[b]? = some (.cells #[u0, u1, u2, u3] t f)) :
    W.cell? ⟨b, 0, none⟩ = some u0 ∧ W.cell? ⟨b, 1, none⟩ = some u1 ∧ W.cell? ⟨b, 2, none⟩ = some u2 ∧ W.cell? ⟨b, 3, none⟩ = some u3 := by
  refine ⟨?_, ?_, ?_, ?_⟩ <;> (rw [Lib.cell_of_heap h]; rfl)
theorem grown_below_b' {b B : Nat} {w w' : World} (h : w.grownBy w' (some b)) (hb : B ≤ b) (hw : B ≤ w.heap.size) : Below B w w' := ⟨h.os, h.tape, h.output, h.size, fun k hk => h.block k (by omega) (by intro e; cases e; omega)⟩
theorem fresh1d {P : World → Prop} {w : World} {A : Obj} (h : ∀ W, Below w.heap.size w W → W.heap[w.heap.size]? = some A → W.heap.size = w.heap.size + 1 → P W) : P (w.alloc A).drew :=
  h _ ((Below.refl _ w).alloc (Nat.le_refl _) _).drew (heap_alloc_new w A) (by simp)
set_option maxRecDepth 100000 in
set_option maxHeartbeats 4000000 in
theorem walk_R (R : ResL) (v : Value) (ms : List NodeM) (most room who fr : Int) (path : Str) (follow : Bool) (w : World) (hv : RdM w.heap.size v ms w) (hd : DskW ms) (hpl : path.length ≤ 10000)
    (hg : w.cell? ⟨0, 0, none⟩ = some errTypeV) (hR : R = walkL (pl ms) who fr path follow) :
    Calls Tryd.prog 12 #[.agg #[v, .int .i64 most, .int .i64 room], .int .i64 who, .int .i64 fr, .string (bs path), .bool follow] w fun e w' => WalkIs R e w w' := by
  obtain ⟨aod, capd, rfl, _, _⟩ := rdm_form hv
  have HV := Lib.hid hv
  have hglt := World.block_lt_of_cell? w _ hg
  have HGl := Lib.hid hg
  have HR := Lib.hid hR
  have hret : ∀ (W : World) (cs : Array Value) (fr), W.heap[w.heap.size + 1]? = some (.cells cs 28 fr) → cs.size = 4 → ∀ tmps : Array Value, tmps.getD 10 undef = .pointer (some ⟨w.heap.size + 1, 0, none⟩) → (results Tryd.f12 tmps).run Tryd.prog W = .ok (.tuple #[.agg cs, tmps.getD 11 undef]) W := fun W cs fr h hs tmps ht =>
    results_ct (p := 10) (u := 11) (ty := 28) rfl tmps W (w.heap.size + 1) _ cs fr _ ht h Tryd.underlying28 rfl (by rw [hs]; kernel_rfl)
  have HRET := Lib.hid hret
  clear hv hg hR hret
  go_enter Tryd.func12, Tryd.ntmps12
  go_wp2_with fail
  refine fresh2 (P := fun W => Code.wp _ _ _ _ W) ?_
  intro W0 hb0 hP hQ hs0
  obtain ⟨p0, p1, p2⟩ := cells3 hP
  have hsz : (bs path).size ≤ 9223372036854775807 := by rw [bs_size]; omega
  have hS : ∀ W, Below W0.heap.size W0 W → W.cell? ⟨w.heap.size, 0, none⟩ = some (.slice aod ms.length capd) ∧ W.cell? ⟨w.heap.size, 1, none⟩ = some (.int .i64 most) ∧ W.cell? ⟨w.heap.size, 2, none⟩ = some (.int .i64 room) := fun W hb => cells3 ((hb.block _ (by omega)).trans hP)
  have HSS := Lib.hid hS
  clear hS p0 p1 p2
  go_region_held3 (fun W => W.cell? ⟨w.heap.size, 0, none⟩ = some (.slice aod ms.length capd) ∧ W.cell? ⟨w.heap.size, 1, none⟩ = some (.int .i64 most) ∧ W.cell? ⟨w.heap.size, 2, none⟩ = some (.int .i64 room))
    (first
      | exact HSS.out _ (by go_grown)
      | go_keep)
    (first
      | (go_at_call 20; (with_reducible refine (Tryd.strings_HasSuffix _ _ _ hsz).mono ?_); rintro e w' ⟨rfl, rfl⟩)
      | fail)
  all_goals
    refine fresh1d (P := fun W => Exit.then _ _ _ _ W) ?_
    intro W1 hb1 hW1 hs1
    rw [hs0] at hW1
    have hB1 := ret_tr hb0 hb1
    have hway : WayM (w.heap.size + 2) ⟨.slice aod ms.length capd, most, room, who, follow, Lib.hasSuffix path [47]⟩ fr (.slice none 0 0) [] 0 ⟨0, [], 0, false⟩ W1 := ⟨hW1, Rd.none0 _ _ _, fun e => by cases e⟩
    have hvb : RdM (w.heap.size + 2) (.slice aod ms.length capd) ms W1 := (HV.out.below hB1).mono (by omega)
    have HGo := Lib.hid (goAll_any (w.heap.size + 2) ⟨.slice aod ms.length capd, most, room, who, follow, Lib.hasSuffix path [47]⟩ fr (.slice none 0 0) ⟨0, [], 0, false⟩ path ms W1 hway hvb hd.ok hd.dat hpl rfl)
    have hQ1 := Lib.hid ((hb1.block _ (by omega)).trans hQ)
    clear hway hvb hW1 HSS hb1
    go_wp2_with fail
    refine HGo.out.mono ?_
    intro e w2 h
    rcases h with ⟨n, v, hRn, hn, herr, rfl, hgr⟩ | ⟨i2, left2, hops2, sp2, hRn, vl2, rfl, hw2, hgr⟩
    · have HRn : Hid (R = (zeroS, n)) := Lib.hid (HR.out.trans hRn)
      have hB2 : Below w.heap.size w w2 := hB1.trans (grown_below_b' hgr (by omega) (by omega))
      have hQ2 := (hgr.block (w.heap.size + 1) (by omega) (by simp)).trans hQ1.out
      have hg2 := (hB2.cell (p := ⟨0, 0, none⟩) hglt).trans HGl.out
      have hs2 := hgr.size
      have hNum := number_any v n w2 herr hg2
      have HNum := Lib.hid hNum
      have HB2 := Lib.hid hB2
      have HQ2 := Lib.hid hQ2
      have hvi : ∃ ty d, v = .iface ty d := by
        rcases herr with rfl | ⟨p, rfl⟩
        · exact ⟨_, _, rfl⟩
        · exact ⟨_, _, rfl⟩
      obtain ⟨ty, d, rfl⟩ := hvi
      clear hRn hn herr hgr hB2 hQ2 hg2 hNum hB1 hQ1 HGo hb0 hP hQ
      go_wp2_with fail
      refine HNum.out.mono ?_
      rintro e w3 ⟨rfl, hb3⟩
      have hQ3 := (hb3.block _ (by omega)).trans HQ2.out
      obtain ⟨q0, q1, q2, q3⟩ := cells4 hQ3
      have rf := fun j => Lib.frozen_of_heap hQ3 j
      go_wp2_with fail
      refine post_sets4 hQ3 ?_
      intro W4 hb4 hg4 hs4 hR4
      refine bodyPost_ret (HRET.out _ _ _ hR4 rfl _ rfl) rfl ?_
      exact ⟨by rw [HRn.out]; rfl, (ret_tr HB2.out hb3).trans (hb4.mono (by omega))⟩
    · have HRn : Hid (R = (sp2, 0)) := Lib.hid (HR.out.trans hRn)
      have hB2 : Below w.heap.size w w2 := hB1.trans (grown_below_b' hgr (by omega) (by omega))
      have hQ2 := (hgr.block (w.heap.size + 1) (by omega) (by simp)).trans hQ1.out
      have HB2 := Lib.hid hB2
      have hs2 := hgr.size
      obtain ⟨c0, c1, c2, c3, c4, c5, c6, c7, c8, c9, c10, c11, c12⟩ := cells13 hw2.blk
      obtain ⟨q0, q1, q2, q3⟩ := cells4 hQ2
      have rf := fun j => Lib.frozen_of_heap hQ2 j
      clear hRn hw2 hgr hB2 hB1 hQ1 HGo hb0 hP hQ c0 c1 c2 c3 c4 c5 c6 c7 c8
      go_wp2_with fail
      refine post_sets4 hQ2 ?_
      intro W4 hb4 hg4 hs4 hR4
      refine bodyPost_ret (HRET.out _ _ _ hR4 rfl _ rfl) rfl ?_
      exact ⟨by rw [HRn.out]; rfl, HB2.out.trans (hb4.mono (by omega))⟩
theorem walk_any (v : Value) (ms : List NodeM) (most room who fr : Int) (path : Str) (follow : Bool) (w : World) (hv : RdM w.heap.size v ms w) (hd : DskW ms) (hpl : path.length ≤ 10000) (hg : w.cell? ⟨0, 0, none⟩ = some errTypeV) :
    Calls Tryd.prog 12 #[.agg #[v, .int .i64 most, .int .i64 room], .int .i64 who, .int .i64 fr, .string (bs path), .bool follow] w fun e w' => WalkIs (walkL (pl ms) who fr path follow) e w w' :=
  walk_R _ v ms most room who fr path follow w hv hd hpl hg rfl
end Go.Proofs.YtckbhkchnhhecaaDoor
