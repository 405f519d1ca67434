/-
  The program's Get; the document's Get.
-/
import Derived.Test.YthpcldmhamjnbaaDskF
import Derived.Laws.ResultCell
namespace Go.Proofs.Ythpcldmhamjnbaa
open Go.RowKit Go.Shelf
attribute [local go_sem ↓] Go.wp_at_zero Go.wp_at_succ

theorem results_ct {P : Program} {fn : Func} {p u : Tmp} {ty : TypeId} (h : fn.results = #[.cell p ty, .tmp u]) (tmps : Array Value) (w : World) (g : Nat) (t : TypeId) (cs : Array Value) (fr : Nat × Nat) (d : TypeDesc)
    (hp : tmps.getD p undef = .pointer (some ⟨g, 0, none⟩)) (hg : w.heap[g]? = some (.cells cs t fr))
    (hu : P.underlying ty = some d) (hd : (match d with | .struct _ | .array _ _ => true | _ => false) = true) (hi : (P.info? ty).map (·.size) = some cs.size) :
    (results fn tmps).run P w = .ok (.tuple #[.agg cs, tmps.getD u undef]) w := by
  rw [results_cell_tmp h, hp]
  simp [asAddr, run_loadVar_row w g t ty cs fr d hg hu hd hi, Result.andThen]
theorem results_ctt {P : Program} {fn : Func} {p u v : Tmp} {ty : TypeId} (h : fn.results = #[.cell p ty, .tmp u, .tmp v]) (tmps : Array Value) (w : World) (g : Nat) (t : TypeId) (cs : Array Value) (fr : Nat × Nat) (d : TypeDesc)
    (hp : tmps.getD p undef = .pointer (some ⟨g, 0, none⟩)) (hg : w.heap[g]? = some (.cells cs t fr))
    (hu : P.underlying ty = some d) (hd : (match d with | .struct _ | .array _ _ => true | _ => false) = true) (hi : (P.info? ty).map (·.size) = some cs.size) :
    (results fn tmps).run P w = .ok (.tuple #[.agg cs, tmps.getD u undef, tmps.getD v undef]) w := by
  have hp' : tmps[p]?.getD undef = .pointer (some ⟨g, 0, none⟩) := by simpa using hp
  simp [results, h, hp', asAddr, run_loadVar_row w g t ty cs fr d hg hu hd hi, Result.andThen]
def getL (l : List NodeL) (i : Int) : NodeL := if gotB l i then atI l i else zeroN
/-- What Get tells. -/
def GetIs (l : List NodeL) (i : Int) (e : Ending) (W W' : World) : Prop :=
  ∃ v, e = .returned (.tuple #[nval (getL l i) v, .bool (gotB l i)]) ∧ RdNm W'.heap.size (getL l i, v) W' ∧ Below W.heap.size W W'
theorem get_no {l : List NodeL} {i : Int} {w W : World} (h : gotB l i = false) (hb : Below w.heap.size w W) : GetIs l i (.returned (.tuple #[.agg #[.int .i64 0, .int .i64 0, .int .i64 0, .int .i64 0, .int .i64 0, .int .i64 0, .string ⟨#[]⟩, .slice none 0 0], .bool false])) w W :=
  ⟨.slice none 0 0, by unfold getL; rw [h]; rfl, by unfold getL; rw [h]; exact Rd.none0 _ _ _, hb⟩
/-- .. names of its own. -/
def GetNew (l : List NodeL) (i : Int) (e : Ending) (W W' : World) : Prop :=
  ∃ v, e = .returned (.tuple #[nval (getL l i) v, .bool (gotB l i)]) ∧ RdNm W'.heap.size (getL l i, v) W' ∧ Below W.heap.size W W' ∧ NewV W.heap.size v
theorem getn_no {l : List NodeL} {i : Int} {w W : World} (h : gotB l i = false) (hb : Below w.heap.size w W) : GetNew l i (.returned (.tuple #[.agg #[.int .i64 0, .int .i64 0, .int .i64 0, .int .i64 0, .int .i64 0, .int .i64 0, .string ⟨#[]⟩, .slice none 0 0], .bool false])) w W :=
  ⟨.slice none 0 0, by unfold getL; rw [h]; rfl, by unfold getL; rw [h]; exact Rd.none0 _ _ _, hb, NewV.none0 _⟩
set_option maxRecDepth 100000 in
set_option maxHeartbeats 2000000 in
theorem get_new (v : Value) (ms : List NodeM) (most room i : Int) (w : World) (hv : RdM w.heap.size v ms w) (hl : ms.length ≤ 10000) (hnl : ∀ n ∈ pl ms, n.names.length ≤ 10000) :
    Calls Try.prog 35 #[.agg #[v, .int .i64 most, .int .i64 room], .int .i64 i] w fun e w' => GetNew (pl ms) i e w w' := by
  obtain ⟨ao, cap, rfl, _, _⟩ := rdm_form hv
  have HV := Lib.hid hv
  clear hv
  have hret : ∀ (W : World) (cs : Array Value) (fr), W.heap[w.heap.size + 1]? = some (.cells cs 59 fr) → cs.size = 8 → ∀ tmps : Array Value, tmps.getD 4 undef = .pointer (some ⟨w.heap.size + 1, 0, none⟩) → (results Try.f35 tmps).run Try.prog W = .ok (.tuple #[.agg cs, tmps.getD 5 undef]) W := fun W cs fr h hs tmps ht =>
    results_ct (p := 4) (u := 5) (ty := 59) rfl tmps W (w.heap.size + 1) _ cs fr _ ht h Try.underlying59 rfl (by rw [hs]; kernel_rfl)
  cases hi : inL (pl ms) i with
  | false =>
    have HI := Lib.hid hi
    have HG : Hid (gotB (pl ms) i = false) := Lib.hid (by unfold gotB; rw [hi]; rfl)
    clear hi
    go_enter Try.func35, Try.ntmps35
    go_wp2_with fail
    refine fresh2 (P := fun W => Calls _ _ _ W _) ?_
    intro W0 hb0 hP hQ hs0
    refine (has_any (pl ms) ao ms.length cap most room i _ (pl_len ms).symm (by omega)).mono ?_
    rintro e W1 ⟨rfl, hb1⟩
    rw [HI.out]
    have hQ1 := (hb1.block _ (by omega)).trans hQ
    have hB1 := ret_tr hb0 hb1
    obtain ⟨q0, q1, q2, q3, q4, q5, q6, q7⟩ := cells8 hQ1
    have rf := fun j => Lib.frozen_of_heap hQ1 j
    clear hP hQ hb0 hb1
    go_wp2_with fail
    refine sets8 (P := fun W => bodyPost _ _ _ _ _ W) hQ1 ?_
    intro W3 hb3 hg3 hs3 hR3
    refine bodyPost_ret (hret _ _ _ hR3 rfl _ rfl) rfl ?_
    exact getn_no HG.out (hB1.trans (hb3.mono (by omega)))
  | true =>
    obtain ⟨k, rfl, hk⟩ := in_nat hi
    have hat := at_nat (pl ms) k hk
    rw [pl_len] at hk
    have HI := Lib.hid hi
    have HA := Lib.hid hat
    have k0 : (0 : Int) ≤ (k : Int) := by omega
    have k1 : (k : Int) < (ms.length : Int) := by omega
    clear hat
    go_enter Try.func35, Try.ntmps35
    go_wp2_with fail
    refine fresh2 (P := fun W => Calls _ _ _ W _) ?_
    intro W0 hb0 hP hQ hs0
    refine (has_any (pl ms) ao ms.length cap most room k _ (pl_len ms).symm (by omega)).mono ?_
    rintro e W1 ⟨rfl, hb1⟩
    rw [HI.out]
    have hP1 := (hb1.block _ (by omega)).trans hP
    have hQ1 := (hb1.block _ (by omega)).trans hQ
    have hB1 := ret_tr hb0 hb1
    have hs1 := hb1.size
    have p0 := (cells3 hP1).1
    clear hP hQ hb0 hb1
    obtain ⟨b, off, n, aon, capn, rfl, hb, hn, -, hrn, c0, c1, c2, c3, c4, c5, c6, c7⟩ := node_at (HV.out.below hB1) k hk
    rw [hn] at HA
    have hnn : n.names.length ≤ 10000 := hnl n (by rw [← hn]; exact List.getElem_mem _)
    have HR1 : Hid (RdNm W1.heap.size (n, .slice aon n.names.length capn) W1) := Lib.hid (Rd.mono hrn hB1.size)
    clear hn hrn
    by_cases h0 : n.kind = 0
    · have hd : decide (n.kind = 0) = true := by simpa using h0
      have HG : Hid (gotB (pl ms) k = false) := Lib.hid (by unfold gotB; rw [HA.out, hd, Bool.not_true, Bool.and_false])
      clear h0 hi
      go_wp2_with fail
      refine (free_any n _ _).mono ?_
      rintro e W2 ⟨rfl, hb2⟩
      rw [hd]
      have hQ2 := (hb2.block _ (by omega)).trans hQ1
      have hB2 := ret_tr hB1 hb2
      have hs2 := hb2.size
      clear hP1 hQ1 hB1 hb2 c0 c1 c2 c3 c4 c5 c6 c7 p0
      obtain ⟨q0, q1, q2, q3, q4, q5, q6, q7⟩ := cells8 hQ2
      have rf := fun j => Lib.frozen_of_heap hQ2 j
      go_wp2_with fail
      refine sets8 (P := fun W => bodyPost _ _ _ _ _ W) hQ2 ?_
      intro W3 hb3 hg3 hs3 hR3
      refine bodyPost_ret (hret _ _ _ hR3 rfl _ rfl) rfl ?_
      exact getn_no HG.out (hB2.trans (hb3.mono (by omega)))
    · have hd : decide (n.kind = 0) = false := by simpa using h0
      have HG : Hid (gotB (pl ms) k = true) := Lib.hid (by unfold gotB; rw [HA.out, hd, hi]; rfl)
      clear h0 hi
      go_wp2_with fail
      refine (free_any n _ _).mono ?_
      rintro e W2 ⟨rfl, hb2⟩
      rw [hd]
      have hP2 := (hb2.block _ (by omega)).trans hP1
      have hQ2 := (hb2.block _ (by omega)).trans hQ1
      have hB2 := ret_tr hB1 hb2
      have hs2 := hb2.size
      have HR2 := Lib.hid (rdnm_keep HR1.out hb2)
      have p2 := (cells3 hP2).1
      have bb : b < W1.heap.size := by omega
      have d0 := (hb2.cell (p := ⟨b, off + k * 8, none⟩) bb).trans c0
      have d1 := (hb2.cell (p := ⟨b, off + k * 8 + 1, none⟩) bb).trans c1
      have d2 := (hb2.cell (p := ⟨b, off + k * 8 + 2, none⟩) bb).trans c2
      have d3 := (hb2.cell (p := ⟨b, off + k * 8 + 3, none⟩) bb).trans c3
      have d4 := (hb2.cell (p := ⟨b, off + k * 8 + 4, none⟩) bb).trans c4
      have d5 := (hb2.cell (p := ⟨b, off + k * 8 + 5, none⟩) bb).trans c5
      have d6 := (hb2.cell (p := ⟨b, off + k * 8 + 6, none⟩) bb).trans c6
      have d7 := (hb2.cell (p := ⟨b, off + k * 8 + 7, none⟩) bb).trans c7
      clear hP1 hQ1 hB1 hb2 c0 c1 c2 c3 c4 c5 c6 c7 p0
      go_wp2_with fail
      refine (own_any n _ _ HR2.out hnn).mono ?_
      rintro e W3 ⟨v', rfl, hoN, hbN⟩
      have hQ3 := (hbN.block _ (by omega)).trans hQ2
      have hB3 := ret_tr hB2 hbN
      have hs3 := hbN.size
      clear hP2 hQ2 hbN p2 d0 d1 d2 d3 d4 d5 d6 d7
      obtain ⟨q0, q1, q2, q3, q4, q5, q6, q7⟩ := cells8 hQ3
      have rf := fun j => Lib.frozen_of_heap hQ3 j
      obtain ⟨aov, capv, rfl⟩ := own_form hoN
      go_wp2_with fail
      refine sets8 (P := fun W => bodyPost _ _ _ _ _ W) hQ3 ?_
      intro W4 hb4 hg4 hs4 hR4
      refine bodyPost_ret (hret _ _ _ hR4 rfl _ rfl) rfl ?_
      have hget : getL (pl ms) k = n := by unfold getL; rw [HG.out, HA.out]; rfl
      refine ⟨.slice aov n.names.length capv, by rw [hget, HG.out]; rfl, ?_, hB3.trans (hb4.mono (by omega)), (NewV.own hoN).mono hB2.size⟩
      rw [hget]
      exact Rd.own (ownsRow_other hoN fun g hg => hg4 g (by omega)) (Nat.le_refl _)
theorem get_any (v : Value) (ms : List NodeM) (most room i : Int) (w : World) (hv : RdM w.heap.size v ms w) (hl : ms.length ≤ 10000) (hnl : ∀ n ∈ pl ms, n.names.length ≤ 10000) :
    Calls Try.prog 35 #[.agg #[v, .int .i64 most, .int .i64 room], .int .i64 i] w fun e w' => GetIs (pl ms) i e w w' :=
  (get_new v ms most room i w hv hl hnl).mono fun _ _ ⟨v', h1, h2, h3, _⟩ => ⟨v', h1, h2, h3⟩
end Go.Proofs.Ythpcldmhamjnbaa
