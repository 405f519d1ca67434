/-
  Arguments that are jobs, and frames.
-/
import Derived.Test.YtedcffkmfopalaaDoorArgs
import Derived.Test.YtedcffkmfopalaaDoorJobMem
import Derived.Test.YtedcffkmfopalaaDoorProg
namespace Go.Proofs.YtedcffkmfopalaaDoor
open Go.ChangeShapes Go.WideShapes Go.RowKit
open Go.Deep (open_slice choose_lt oneCellFields hone_of)

section
variable {H : Type} {enc : TypeId × Value → H} {P : Program} {W : World}
/-- A slice, off its one cell. -/
theorem open_rdc {size fuel : Nat} {t e : TypeId} {v : Value} {x : DataW H × List MemPlace} (ht : P.underlying t = some (.slice e)) (hz : P.cellsOf e = size) (hpos : 0 < size)
    (hf : DataW.trod enc P W 0 (fun _ => true) true fuel t [v] = some x) :
    ∃ L : List (List Value), Rd W.heap.size size v L.length L.flatten W ∧ ∀ cs ∈ L, cs.length = size ∧ ∃ n x, DataW.trod enc P W 0 (fun _ => true) true n e cs = some x := by
  rcases open_slice ht hf with ⟨hcs, _⟩ | ⟨a, len, cap, m, n, D, Pl, hcs, _, hl, hm, hmm, _, hi⟩
  · simp at hcs
    subst hcs
    exact ⟨[], Rd.none0 _ _ _, by simp⟩
  · simp at hcs
    subst hcs
    simp only [if_true] at hmm
    rw [hz] at hi
    obtain ⟨f, hfi⟩ := choose_lt hi
    have hcell : ∀ i, i < len → (f i).length = size ∧ ∀ j u, (f i)[j]? = some u → W.cell? ((a.add (i * size)).add j) = some u := by
      intro i hil
      obtain ⟨hc, _⟩ := hfi i (by omega)
      obtain ⟨_, hcl, hat⟩ := World.cells?_some hc
      refine ⟨hcl, fun j u hu => ?_⟩
      have hj : j < size := by have := (List.getElem?_eq_some_iff.1 hu).1; omega
      rw [hat j hj, hu]
    have hall : ∀ cs ∈ (List.range len).map f, cs.length = size := by
      intro cs hc
      obtain ⟨i, hi, rfl⟩ := List.mem_map.1 hc
      exact (hcell i (List.mem_range.1 hi)).1
    refine ⟨(List.range len).map f, ?_, fun cs hc => ?_⟩
    · rw [List.length_map, List.length_range]
      refine ⟨some a, cap, rfl, hl, hm, fun e => (by cases e), by rw [flatten_len hall]; simp, fun hn => ?_⟩
      have h0 := hcell 0 hn
      have h00 := h0.2 0 _ (List.getElem?_eq_getElem (by omega))
      obtain ⟨b, off, spot⟩ := a
      have hspot : spot = none := by simpa [Addr.add] using World.cell?_spot h00
      subst hspot
      refine ⟨b, off, rfl, ?_, fun j u hu => ?_⟩
      · have := cell_lt h00
        rwa [block_add, block_add] at this
      · obtain ⟨i, r, cs, e, h2, h3⟩ := flatten_at hall hu
        have hil : i < len := by
          have := (List.getElem?_eq_some_iff.1 h2).1
          simpa using this
        have : cs = f i := by
          rw [List.getElem?_map, List.getElem?_range hil] at h2
          exact (Option.some.inj h2).symm
        subst this
        have := (hcell i hil).2 r u h3
        rw [add_plain, add_plain, Nat.add_assoc, ← e] at this
        exact this
    · obtain ⟨i, hi, rfl⟩ := List.mem_map.1 hc
      exact ⟨hall _ hc, n, _, (hfi i (by have := List.mem_range.1 hi; omega)).2⟩
end
section
variable {H : Type} {enc : TypeId × Value → H} {W : World}
theorem czIntJ : Tryd.prog.cellsOf 3 = 1 := by kernel_rfl
theorem czStrJ : Tryd.prog.cellsOf 9 = 1 := by kernel_rfl
theorem czBoolJ : Tryd.prog.cellsOf 4 = 1 := by kernel_rfl
theorem czStrsJ : Tryd.prog.cellsOf 22 = 1 := by kernel_rfl
theorem czIntsJ : Tryd.prog.cellsOf 24 = 1 := by kernel_rfl
theorem czFrsJ : Tryd.prog.cellsOf 23 = 1 := by kernel_rfl
theorem czFrJ : Tryd.prog.cellsOf 46 = 3 := by kernel_rfl
theorem czJobJ : Tryd.prog.cellsOf 27 = 19 := by kernel_rfl
theorem czErrJ : Tryd.prog.cellsOf 25 = 1 := by kernel_rfl
/-- Texts, off a slice's one cell. -/
theorem open_strc {fuel : Nat} {v : Value} {x : DataW H × List MemPlace} (hf : DataW.trod enc Tryd.prog W 0 (fun _ => true) true fuel 22 [v] = some x) : ∃ l : List Str, Rd W.heap.size 1 v l.length (strs l) W := by
  obtain ⟨L, h1, h2⟩ := open_rdc Tryd.underlying22 czStrJ (by decide) hf
  obtain ⟨l, rfl⟩ := of_map (g := fun s : Str => [Value.string (bs s)]) (L := L) fun cs hc => by
    obtain ⟨_, n, x, hx⟩ := h2 cs hc
    obtain ⟨s, rfl, _⟩ := DataW.trod_string Tryd.underlying9 hx
    exact ⟨s.data.toList, by rw [← bs_of]⟩
  refine ⟨l, ?_⟩
  rw [List.length_map] at h1
  rwa [single_flat] at h1
theorem open_intc {fuel : Nat} {v : Value} {x : DataW H × List MemPlace} (hf : DataW.trod enc Tryd.prog W 0 (fun _ => true) true fuel 24 [v] = some x) : ∃ l : List Int, Rd W.heap.size 1 v l.length (intsJ l) W := by
  obtain ⟨L, h1, h2⟩ := open_rdc Tryd.underlying24 czIntJ (by decide) hf
  obtain ⟨l, rfl⟩ := of_map (g := fun s : Int => [Value.int .i64 s]) (L := L) fun cs hc => by
    obtain ⟨_, n, x, hx⟩ := h2 cs hc
    obtain ⟨s, rfl, _⟩ := DataW.trod_int Tryd.underlying3 hx
    exact ⟨s, rfl⟩
  refine ⟨l, ?_⟩
  rw [List.length_map] at h1
  rwa [single_flat] at h1
set_option maxRecDepth 100000 in
/-- A frame, off its three cells. -/
theorem open_frame3 {fuel : Nat} {cs : List Value} {x : DataW H × List MemPlace} (hl : cs.length = 3) (hx : DataW.trod enc Tryd.prog W 0 (fun _ => true) true fuel 46 cs = some x) : ∃ m : FrameM, cs = fcells m ∧ RdFm W.heap.size m W := by
  obtain ⟨xs, n', _, _, _, hxl, hg⟩ := DataW.trod_struct Tryd.underlying46 hx
  match cs, hl with
  | [c0, c1, c2], _ =>
    have k0 : DataW.trod enc Tryd.prog W 0 (fun _ => true) true n' 3 (([c0, c1, c2].drop 0).take (Tryd.prog.cellsOf 3)) = xs[0]? := by have := hg 0 _ rfl; exact this
    have k1 : DataW.trod enc Tryd.prog W 0 (fun _ => true) true n' 9 (([c0, c1, c2].drop 1).take (Tryd.prog.cellsOf 9)) = xs[1]? := by have := hg 1 _ rfl; exact this
    have k2 : DataW.trod enc Tryd.prog W 0 (fun _ => true) true n' 22 (([c0, c1, c2].drop 2).take (Tryd.prog.cellsOf 22)) = xs[2]? := by have := hg 2 _ rfl; exact this
    rw [czIntJ] at k0
    rw [czStrJ] at k1
    rw [czStrsJ] at k2
    match xs, hxl with
    | [y0, y1, y2], _ =>
      obtain ⟨z0, e0, _, i0⟩ := DataW.trod_int Tryd.underlying3 (show DataW.trod enc Tryd.prog W 0 (fun _ => true) true n' 3 [c0] = some y0 by simpa using k0)
      obtain ⟨z1, e1, _, m1⟩ := DataW.trod_string Tryd.underlying9 (show DataW.trod enc Tryd.prog W 0 (fun _ => true) true n' 9 [c1] = some y1 by simpa using k1)
      obtain ⟨l2, h2⟩ := open_strc (show DataW.trod enc Tryd.prog W 0 (fun _ => true) true n' 22 [c2] = some y2 by simpa using k2)
      simp at e0 e1
      subst e0 e1
      exact ⟨(⟨z0, z1.data.toList, l2⟩, c2), by unfold fcells; simp only, h2⟩
/-- Frames, off a slice's one cell. -/
theorem open_frsc {fuel : Nat} {v : Value} {x : DataW H × List MemPlace} (hf : DataW.trod enc Tryd.prog W 0 (fun _ => true) true fuel 23 [v] = some x) : ∃ ms : List FrameM, RdFs W.heap.size v ms W := by
  obtain ⟨L, g1, g2⟩ := open_rdc Tryd.underlying23 czFrJ (by decide) hf
  obtain ⟨l, rfl⟩ := of_map (g := fun m : {m : FrameM // RdFm W.heap.size m W} => fcells m.1) (L := L) fun cs hc => by
    obtain ⟨hl, n, x, hx⟩ := g2 cs hc
    obtain ⟨m, h1, h2⟩ := open_frame3 hl hx
    exact ⟨⟨m, h2⟩, h1⟩
  refine ⟨l.map (·.1), ?_, fun m hm => ?_⟩
  · rw [List.length_map] at g1
    rw [List.length_map]
    have e : (l.map fun m : {m : FrameM // RdFm W.heap.size m W} => fcells m.1).flatten = cellsF (l.map (·.1)) := by
      unfold cellsF
      rw [List.flatMap_def, List.map_map]
      rfl
    rwa [e] at g1
  · obtain ⟨x, _, rfl⟩ := List.mem_map.1 hm
    exact x.2
set_option maxRecDepth 100000 in
/-- An argument that is a frame. -/
theorem open_frame {r : Reach} {b0 : Nat} {v : Value} {d : DataW H} {ps : List MemPlace} (hval : Value.okWide Tryd.prog W r b0 46 v) (hd : DataW.Trod enc Tryd.prog W 0 (fun _ => true) true 46 v d ps) :
    ∃ (m : FrameM), v = fval m.1 m.2 ∧ RdFm W.heap.size m W := by
  obtain ⟨cs, rfl, hs⟩ := okWide_struct Tryd.underlying46 hval
  obtain ⟨fuel, hf⟩ := hd
  rw [show (Value.agg cs).cells.toList = cs.toList from rfl] at hf
  obtain ⟨m, h1, h2⟩ := open_frame3 (by rw [Array.length_toList, hs, czFrJ]) hf
  refine ⟨m, ?_, h2⟩
  have : cs = (fcells m).toArray := by rw [← h1]
  rw [this]
  rfl
set_option maxRecDepth 100000 in
/-- An argument that is a job. -/
theorem open_job {r : Reach} {b0 : Nat} {v : Value} {d : DataW H} {ps : List MemPlace} (hval : Value.okWide Tryd.prog W r b0 27 v) (hd : DataW.Trod enc Tryd.prog W 0 (fun _ => true) true 27 v d ps) :
    ∃ (j : JobL) (vn vs vd : Value), v = jval j vn vs vd ∧ GivesJ j vn vs vd W := by
  obtain ⟨cs, rfl, hs⟩ := okWide_struct Tryd.underlying27 hval
  obtain ⟨fuel, hf⟩ := hd
  rw [show (Value.agg cs).cells.toList = cs.toList from rfl] at hf
  obtain ⟨xs, n', _, _, _, hxl, hg⟩ := DataW.trod_struct Tryd.underlying27 hf
  have hl : cs.toList.length = 19 := by rw [Array.length_toList, hs, czJobJ]
  obtain ⟨cl⟩ := cs
  have hl : cl.length = 19 := hl
  match cl, hl with
  | [c0, c1, c2, c3, c4, c5, c6, c7, c8, c9, c10, c11, c12, c13, c14, c15, c16, c17, c18], _ =>
    have k0 : DataW.trod enc Tryd.prog W 0 (fun _ => true) true n' 3 (([c0, c1, c2, c3, c4, c5, c6, c7, c8, c9, c10, c11, c12, c13, c14, c15, c16, c17, c18].drop 0).take (Tryd.prog.cellsOf 3)) = xs[0]? := by have := hg 0 _ rfl; exact this
    have k1 : DataW.trod enc Tryd.prog W 0 (fun _ => true) true n' 3 (([c0, c1, c2, c3, c4, c5, c6, c7, c8, c9, c10, c11, c12, c13, c14, c15, c16, c17, c18].drop 1).take (Tryd.prog.cellsOf 3)) = xs[1]? := by have := hg 1 _ rfl; exact this
    have k2 : DataW.trod enc Tryd.prog W 0 (fun _ => true) true n' 3 (([c0, c1, c2, c3, c4, c5, c6, c7, c8, c9, c10, c11, c12, c13, c14, c15, c16, c17, c18].drop 2).take (Tryd.prog.cellsOf 3)) = xs[2]? := by have := hg 2 _ rfl; exact this
    have k3 : DataW.trod enc Tryd.prog W 0 (fun _ => true) true n' 3 (([c0, c1, c2, c3, c4, c5, c6, c7, c8, c9, c10, c11, c12, c13, c14, c15, c16, c17, c18].drop 3).take (Tryd.prog.cellsOf 3)) = xs[3]? := by have := hg 3 _ rfl; exact this
    have k4 : DataW.trod enc Tryd.prog W 0 (fun _ => true) true n' 3 (([c0, c1, c2, c3, c4, c5, c6, c7, c8, c9, c10, c11, c12, c13, c14, c15, c16, c17, c18].drop 4).take (Tryd.prog.cellsOf 3)) = xs[4]? := by have := hg 4 _ rfl; exact this
    have k5 : DataW.trod enc Tryd.prog W 0 (fun _ => true) true n' 3 (([c0, c1, c2, c3, c4, c5, c6, c7, c8, c9, c10, c11, c12, c13, c14, c15, c16, c17, c18].drop 5).take (Tryd.prog.cellsOf 3)) = xs[5]? := by have := hg 5 _ rfl; exact this
    have k6 : DataW.trod enc Tryd.prog W 0 (fun _ => true) true n' 3 (([c0, c1, c2, c3, c4, c5, c6, c7, c8, c9, c10, c11, c12, c13, c14, c15, c16, c17, c18].drop 6).take (Tryd.prog.cellsOf 3)) = xs[6]? := by have := hg 6 _ rfl; exact this
    have k7 : DataW.trod enc Tryd.prog W 0 (fun _ => true) true n' 3 (([c0, c1, c2, c3, c4, c5, c6, c7, c8, c9, c10, c11, c12, c13, c14, c15, c16, c17, c18].drop 7).take (Tryd.prog.cellsOf 3)) = xs[7]? := by have := hg 7 _ rfl; exact this
    have k8 : DataW.trod enc Tryd.prog W 0 (fun _ => true) true n' 3 (([c0, c1, c2, c3, c4, c5, c6, c7, c8, c9, c10, c11, c12, c13, c14, c15, c16, c17, c18].drop 8).take (Tryd.prog.cellsOf 3)) = xs[8]? := by have := hg 8 _ rfl; exact this
    have k9 : DataW.trod enc Tryd.prog W 0 (fun _ => true) true n' 9 (([c0, c1, c2, c3, c4, c5, c6, c7, c8, c9, c10, c11, c12, c13, c14, c15, c16, c17, c18].drop 9).take (Tryd.prog.cellsOf 9)) = xs[9]? := by have := hg 9 _ rfl; exact this
    have k10 : DataW.trod enc Tryd.prog W 0 (fun _ => true) true n' 9 (([c0, c1, c2, c3, c4, c5, c6, c7, c8, c9, c10, c11, c12, c13, c14, c15, c16, c17, c18].drop 10).take (Tryd.prog.cellsOf 9)) = xs[10]? := by have := hg 10 _ rfl; exact this
    have k11 : DataW.trod enc Tryd.prog W 0 (fun _ => true) true n' 9 (([c0, c1, c2, c3, c4, c5, c6, c7, c8, c9, c10, c11, c12, c13, c14, c15, c16, c17, c18].drop 11).take (Tryd.prog.cellsOf 9)) = xs[11]? := by have := hg 11 _ rfl; exact this
    have k12 : DataW.trod enc Tryd.prog W 0 (fun _ => true) true n' 22 (([c0, c1, c2, c3, c4, c5, c6, c7, c8, c9, c10, c11, c12, c13, c14, c15, c16, c17, c18].drop 12).take (Tryd.prog.cellsOf 22)) = xs[12]? := by have := hg 12 _ rfl; exact this
    have k13 : DataW.trod enc Tryd.prog W 0 (fun _ => true) true n' 23 (([c0, c1, c2, c3, c4, c5, c6, c7, c8, c9, c10, c11, c12, c13, c14, c15, c16, c17, c18].drop 13).take (Tryd.prog.cellsOf 23)) = xs[13]? := by have := hg 13 _ rfl; exact this
    have k14 : DataW.trod enc Tryd.prog W 0 (fun _ => true) true n' 24 (([c0, c1, c2, c3, c4, c5, c6, c7, c8, c9, c10, c11, c12, c13, c14, c15, c16, c17, c18].drop 14).take (Tryd.prog.cellsOf 24)) = xs[14]? := by have := hg 14 _ rfl; exact this
    have k15 : DataW.trod enc Tryd.prog W 0 (fun _ => true) true n' 4 (([c0, c1, c2, c3, c4, c5, c6, c7, c8, c9, c10, c11, c12, c13, c14, c15, c16, c17, c18].drop 15).take (Tryd.prog.cellsOf 4)) = xs[15]? := by have := hg 15 _ rfl; exact this
    have k16 : DataW.trod enc Tryd.prog W 0 (fun _ => true) true n' 3 (([c0, c1, c2, c3, c4, c5, c6, c7, c8, c9, c10, c11, c12, c13, c14, c15, c16, c17, c18].drop 16).take (Tryd.prog.cellsOf 3)) = xs[16]? := by have := hg 16 _ rfl; exact this
    have k17 : DataW.trod enc Tryd.prog W 0 (fun _ => true) true n' 9 (([c0, c1, c2, c3, c4, c5, c6, c7, c8, c9, c10, c11, c12, c13, c14, c15, c16, c17, c18].drop 17).take (Tryd.prog.cellsOf 9)) = xs[17]? := by have := hg 17 _ rfl; exact this
    have k18 : DataW.trod enc Tryd.prog W 0 (fun _ => true) true n' 25 (([c0, c1, c2, c3, c4, c5, c6, c7, c8, c9, c10, c11, c12, c13, c14, c15, c16, c17, c18].drop 18).take (Tryd.prog.cellsOf 25)) = xs[18]? := by have := hg 18 _ rfl; exact this
    rw [czIntJ] at k0 k1 k2 k3 k4 k5 k6 k7 k8 k16
    rw [czStrJ] at k9 k10 k11 k17
    rw [czStrsJ] at k12
    rw [czFrsJ] at k13
    rw [czIntsJ] at k14
    rw [czBoolJ] at k15
    rw [czErrJ] at k18
    match xs, hxl with
    | [y0, y1, y2, y3, y4, y5, y6, y7, y8, y9, y10, y11, y12, y13, y14, y15, y16, y17, y18], _ =>
      obtain ⟨z0, e0, _, i0⟩ := DataW.trod_int Tryd.underlying3 (show DataW.trod enc Tryd.prog W 0 (fun _ => true) true n' 3 [c0] = some y0 by simpa using k0)
      obtain ⟨z1, e1, _, i1⟩ := DataW.trod_int Tryd.underlying3 (show DataW.trod enc Tryd.prog W 0 (fun _ => true) true n' 3 [c1] = some y1 by simpa using k1)
      obtain ⟨z2, e2, _, i2⟩ := DataW.trod_int Tryd.underlying3 (show DataW.trod enc Tryd.prog W 0 (fun _ => true) true n' 3 [c2] = some y2 by simpa using k2)
      obtain ⟨z3, e3, _, i3⟩ := DataW.trod_int Tryd.underlying3 (show DataW.trod enc Tryd.prog W 0 (fun _ => true) true n' 3 [c3] = some y3 by simpa using k3)
      obtain ⟨z4, e4, _, i4⟩ := DataW.trod_int Tryd.underlying3 (show DataW.trod enc Tryd.prog W 0 (fun _ => true) true n' 3 [c4] = some y4 by simpa using k4)
      obtain ⟨z5, e5, _, i5⟩ := DataW.trod_int Tryd.underlying3 (show DataW.trod enc Tryd.prog W 0 (fun _ => true) true n' 3 [c5] = some y5 by simpa using k5)
      obtain ⟨z6, e6, _, i6⟩ := DataW.trod_int Tryd.underlying3 (show DataW.trod enc Tryd.prog W 0 (fun _ => true) true n' 3 [c6] = some y6 by simpa using k6)
      obtain ⟨z7, e7, _, i7⟩ := DataW.trod_int Tryd.underlying3 (show DataW.trod enc Tryd.prog W 0 (fun _ => true) true n' 3 [c7] = some y7 by simpa using k7)
      obtain ⟨z8, e8, _, i8⟩ := DataW.trod_int Tryd.underlying3 (show DataW.trod enc Tryd.prog W 0 (fun _ => true) true n' 3 [c8] = some y8 by simpa using k8)
      obtain ⟨z9, e9, _, m9⟩ := DataW.trod_string Tryd.underlying9 (show DataW.trod enc Tryd.prog W 0 (fun _ => true) true n' 9 [c9] = some y9 by simpa using k9)
      obtain ⟨z10, e10, _, m10⟩ := DataW.trod_string Tryd.underlying9 (show DataW.trod enc Tryd.prog W 0 (fun _ => true) true n' 9 [c10] = some y10 by simpa using k10)
      obtain ⟨z11, e11, _, m11⟩ := DataW.trod_string Tryd.underlying9 (show DataW.trod enc Tryd.prog W 0 (fun _ => true) true n' 9 [c11] = some y11 by simpa using k11)
      obtain ⟨l12, h12⟩ := open_strc (show DataW.trod enc Tryd.prog W 0 (fun _ => true) true n' 22 [c12] = some y12 by simpa using k12)
      obtain ⟨l13, h13⟩ := open_frsc (show DataW.trod enc Tryd.prog W 0 (fun _ => true) true n' 23 [c13] = some y13 by simpa using k13)
      obtain ⟨l14, h14⟩ := open_intc (show DataW.trod enc Tryd.prog W 0 (fun _ => true) true n' 24 [c14] = some y14 by simpa using k14)
      obtain ⟨z15, e15, _⟩ := DataW.trod_bool Tryd.underlying4 (show DataW.trod enc Tryd.prog W 0 (fun _ => true) true n' 4 [c15] = some y15 by simpa using k15)
      obtain ⟨z16, e16, _, i16⟩ := DataW.trod_int Tryd.underlying3 (show DataW.trod enc Tryd.prog W 0 (fun _ => true) true n' 3 [c16] = some y16 by simpa using k16)
      obtain ⟨z17, e17, _, m17⟩ := DataW.trod_string Tryd.underlying9 (show DataW.trod enc Tryd.prog W 0 (fun _ => true) true n' 9 [c17] = some y17 by simpa using k17)
      obtain ⟨z18, e18, _, i18⟩ := DataW.trod_int Tryd.underlying25 (show DataW.trod enc Tryd.prog W 0 (fun _ => true) true n' 25 [c18] = some y18 by simpa using k18)
      simp at e0 e1 e2 e3 e4 e5 e6 e7 e8 e9 e10 e11 e15 e16 e17 e18
      subst e0 e1 e2 e3 e4 e5 e6 e7 e8 e9 e10 e11 e15 e16 e17 e18
      refine ⟨⟨z0, z1, z2, z3, z4, z5, z6, z7, z8, z9.data.toList, z10.data.toList, z11.data.toList, l12, pf l13, l14, z15, z16, z17.data.toList, z18⟩, c12, c13, c14, ?_, ⟨h12, ⟨l13, rfl, h13⟩, h14⟩⟩
      unfold jval
      simp only
end
end Go.Proofs.YtedcffkmfopalaaDoor
