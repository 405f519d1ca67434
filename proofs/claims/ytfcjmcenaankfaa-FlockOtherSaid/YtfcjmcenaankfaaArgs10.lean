/-
  Arguments that are tables of descriptions, and descriptions.
-/
import Derived.Test.YtfcjmcenaankfaaArgs
import Derived.Test.YtfcjmcenaankfaaHdlRefA
import Derived.ChangeArms
namespace Go.Proofs.Ytfcjmcenaankfaa
open Go.ChangeShapes Go.WideShapes Go.RowKit
open Go.Deep (open_slice choose_lt oneCellFields hone_of)

section
variable {H : Type} {enc : TypeId × Value → H} {P : Program} {W : World}
/-- A slice, off its one cell. -/
theorem open_rdc {size fuel : Nat} {t e : TypeId} {v : Value} {x : DataW H × List MemPlace} (ht : P.underlying t = some (.slice e)) (hz : P.cellsOf e = size) (hpos : 0 < size)
    (hf : DataW.trod enc P W 0 (fun _ => true) true fuel t [v] = some x) :
    ∃ L : List (List Value), Rd W.heap.size size v L.length L.flatten W ∧ ∀ cs ∈ L, cs.length = size ∧ ∃ n x, DataW.trod enc P W 0 (fun _ => true) true n e cs = some x := by
  rcases open_slice ht hf with ⟨hcs, _⟩ | ⟨a, len, cap, m, n, D, Pl, hcs, _, hl, hm, hmm, _, hi⟩
  · simp at hcs
    subst hcs
    exact ⟨[], Rd.none0 _ _ _, by simp⟩
  · simp at hcs
    subst hcs
    simp only [if_true] at hmm
    rw [hz] at hi
    obtain ⟨f, hfi⟩ := choose_lt hi
    have hcell : ∀ i, i < len → (f i).length = size ∧ ∀ j u, (f i)[j]? = some u → W.cell? ((a.add (i * size)).add j) = some u := by
      intro i hil
      obtain ⟨hc, _⟩ := hfi i (by omega)
      obtain ⟨_, hcl, hat⟩ := World.cells?_some hc
      refine ⟨hcl, fun j u hu => ?_⟩
      have hj : j < size := by have := (List.getElem?_eq_some_iff.1 hu).1; omega
      rw [hat j hj, hu]
    have hall : ∀ cs ∈ (List.range len).map f, cs.length = size := by
      intro cs hc
      obtain ⟨i, hi, rfl⟩ := List.mem_map.1 hc
      exact (hcell i (List.mem_range.1 hi)).1
    refine ⟨(List.range len).map f, ?_, fun cs hc => ?_⟩
    · rw [List.length_map, List.length_range]
      refine ⟨some a, cap, rfl, hl, hm, fun e => (by cases e), by rw [flatten_len hall]; simp, fun hn => ?_⟩
      have h0 := hcell 0 hn
      have h00 := h0.2 0 _ (List.getElem?_eq_getElem (by omega))
      obtain ⟨b, off, spot⟩ := a
      have hspot : spot = none := by simpa [Addr.add] using World.cell?_spot h00
      subst hspot
      refine ⟨b, off, rfl, ?_, fun j u hu => ?_⟩
      · have := cell_lt h00
        rwa [block_add, block_add] at this
      · obtain ⟨i, r, cs, e, h2, h3⟩ := flatten_at hall hu
        have hil : i < len := by
          have := (List.getElem?_eq_some_iff.1 h2).1
          simpa using this
        have : cs = f i := by
          rw [List.getElem?_map, List.getElem?_range hil] at h2
          exact (Option.some.inj h2).symm
        subst this
        have := (hcell i hil).2 r u h3
        rw [add_plain, add_plain, Nat.add_assoc, ← e] at this
        exact this
    · obtain ⟨i, hi, rfl⟩ := List.mem_map.1 hc
      exact ⟨hall _ hc, n, _, (hfi i (by have := List.mem_range.1 hi; omega)).2⟩
end
section
variable {H : Type} {enc : TypeId × Value → H} {W : World}
theorem czI : Try.prog.cellsOf 3 = 1 := by kernel_rfl
theorem czB : Try.prog.cellsOf 4 = 1 := by kernel_rfl
theorem czIs : Try.prog.cellsOf 48 = 1 := by kernel_rfl
theorem czIss : Try.prog.cellsOf 23 = 1 := by kernel_rfl
theorem czDs : Try.prog.cellsOf 22 = 1 := by kernel_rfl
theorem czDesc : Try.prog.cellsOf 44 = 6 := by kernel_rfl
theorem czTab : Try.prog.cellsOf 25 = 2 := by kernel_rfl
set_option maxRecDepth 100000 in
/-- A description, off its six cells. -/
theorem open_desc6 {fuel : Nat} {cs : List Value} {x : DataW H × List MemPlace} (hl : cs.length = 6) (hx : DataW.trod enc Try.prog W 0 (fun _ => true) true fuel 44 cs = some x) : ∃ d : DescL, cs = dcells d := by
  obtain ⟨xs, n', _, _, _, hxl, hg⟩ := DataW.trod_struct Try.underlying44 hx
  match cs, hl with
  | [c0, c1, c2, c3, c4, c5], _ =>
    have k0 : DataW.trod enc Try.prog W 0 (fun _ => true) true n' 3 (([c0, c1, c2, c3, c4, c5].drop 0).take (Try.prog.cellsOf 3)) = xs[0]? := by have := hg 0 _ rfl; exact this
    have k1 : DataW.trod enc Try.prog W 0 (fun _ => true) true n' 3 (([c0, c1, c2, c3, c4, c5].drop 1).take (Try.prog.cellsOf 3)) = xs[1]? := by have := hg 1 _ rfl; exact this
    have k2 : DataW.trod enc Try.prog W 0 (fun _ => true) true n' 4 (([c0, c1, c2, c3, c4, c5].drop 2).take (Try.prog.cellsOf 4)) = xs[2]? := by have := hg 2 _ rfl; exact this
    have k3 : DataW.trod enc Try.prog W 0 (fun _ => true) true n' 4 (([c0, c1, c2, c3, c4, c5].drop 3).take (Try.prog.cellsOf 4)) = xs[3]? := by have := hg 3 _ rfl; exact this
    have k4 : DataW.trod enc Try.prog W 0 (fun _ => true) true n' 3 (([c0, c1, c2, c3, c4, c5].drop 4).take (Try.prog.cellsOf 3)) = xs[4]? := by have := hg 4 _ rfl; exact this
    have k5 : DataW.trod enc Try.prog W 0 (fun _ => true) true n' 3 (([c0, c1, c2, c3, c4, c5].drop 5).take (Try.prog.cellsOf 3)) = xs[5]? := by have := hg 5 _ rfl; exact this
    rw [czI] at k0 k1 k4 k5
    rw [czB] at k2 k3
    match xs, hxl with
    | [y0, y1, y2, y3, y4, y5], _ =>
      obtain ⟨z0, e0, _, _⟩ := DataW.trod_int Try.underlying3 (show DataW.trod enc Try.prog W 0 (fun _ => true) true n' 3 [c0] = some y0 by simpa using k0)
      obtain ⟨z1, e1, _, _⟩ := DataW.trod_int Try.underlying3 (show DataW.trod enc Try.prog W 0 (fun _ => true) true n' 3 [c1] = some y1 by simpa using k1)
      obtain ⟨z2, e2, _⟩ := DataW.trod_bool Try.underlying4 (show DataW.trod enc Try.prog W 0 (fun _ => true) true n' 4 [c2] = some y2 by simpa using k2)
      obtain ⟨z3, e3, _⟩ := DataW.trod_bool Try.underlying4 (show DataW.trod enc Try.prog W 0 (fun _ => true) true n' 4 [c3] = some y3 by simpa using k3)
      obtain ⟨z4, e4, _, _⟩ := DataW.trod_int Try.underlying3 (show DataW.trod enc Try.prog W 0 (fun _ => true) true n' 3 [c4] = some y4 by simpa using k4)
      obtain ⟨z5, e5, _, _⟩ := DataW.trod_int Try.underlying3 (show DataW.trod enc Try.prog W 0 (fun _ => true) true n' 3 [c5] = some y5 by simpa using k5)
      simp at e0 e1 e2 e3 e4 e5
      subst e0 e1 e2 e3 e4 e5
      exact ⟨⟨z0, z1, z2, z3, z4, z5⟩, rfl⟩
/-- Descriptions, off a slice's one cell. -/
theorem open_descs {fuel : Nat} {v : Value} {x : DataW H × List MemPlace} (hf : DataW.trod enc Try.prog W 0 (fun _ => true) true fuel 22 [v] = some x) : ∃ l : List DescL, Rd W.heap.size 6 v l.length (cellsD l) W := by
  obtain ⟨L, g1, g2⟩ := open_rdc Try.underlying22 czDesc (by decide) hf
  obtain ⟨l, rfl⟩ := of_map (g := dcells) (L := L) fun cs hc => by
    obtain ⟨hl, n, x, hx⟩ := g2 cs hc
    exact open_desc6 hl hx
  refine ⟨l, ?_⟩
  rw [List.length_map] at g1
  have e : (l.map dcells).flatten = cellsD l := by unfold cellsD; rw [List.flatMap_def]
  rwa [e] at g1
/-- Ints, off a slice's one cell. -/
theorem open_intc {fuel : Nat} {v : Value} {x : DataW H × List MemPlace} (hf : DataW.trod enc Try.prog W 0 (fun _ => true) true fuel 48 [v] = some x) : ∃ r : List Int, Rd W.heap.size 1 v r.length (intC r) W := by
  obtain ⟨L, g1, g2⟩ := open_rdc Try.underlying48 czI (by decide) hf
  obtain ⟨l, rfl⟩ := of_map (g := fun z : Int => [Value.int .i64 z]) (L := L) fun cs hc => by
    obtain ⟨hl, n, x, hx⟩ := g2 cs hc
    obtain ⟨z, e, _, _⟩ := DataW.trod_int Try.underlying3 hx
    exact ⟨z, e⟩
  refine ⟨l, ?_⟩
  rw [List.length_map] at g1
  rwa [single_flat] at g1
/-- Rows of ints, off a slice's one cell. -/
theorem open_rowc {fuel : Nat} {v : Value} {x : DataW H × List MemPlace} (hf : DataW.trod enc Try.prog W 0 (fun _ => true) true fuel 23 [v] = some x) : ∃ rows : List RowV, Rd W.heap.size 1 v rows.length (rows.map (·.2)) W ∧ ∀ m, m ∈ rows → Rd W.heap.size 1 m.2 m.1.length (intC m.1) W := by
  obtain ⟨L, g1, g2⟩ := open_rdc Try.underlying23 czIs (by decide) hf
  obtain ⟨l, rfl⟩ := of_map (g := fun m : {m : RowV // Rd W.heap.size 1 m.2 m.1.length (intC m.1) W} => [m.1.2]) (L := L) fun cs hc => by
    obtain ⟨hl, n, x, hx⟩ := g2 cs hc
    match cs, hl with
    | [c0], _ =>
      obtain ⟨r, hr⟩ := open_intc hx
      exact ⟨⟨(r, c0), hr⟩, rfl⟩
  refine ⟨l.map (·.1), ?_, fun m hm => ?_⟩
  · rw [List.length_map] at g1
    rw [List.length_map, List.map_map]
    rwa [single_flat] at g1
  · obtain ⟨x, _, rfl⟩ := List.mem_map.1 hm
    exact x.2
theorem agg_cells {cs : Array Value} : (Value.agg cs).cells.toList = cs.toList := rfl
set_option maxRecDepth 100000 in
/-- An argument that is a description. -/
theorem open_desc {r : Reach} {b0 : Nat} {v : Value} {d : DataW H} {ps : List MemPlace} (hval : Value.okWide Try.prog W r b0 44 v) (hd : DataW.Trod enc Try.prog W 0 (fun _ => true) true 44 v d ps) :
    ∃ x : DescL, v = dvalD x := by
  obtain ⟨cs, rfl, hs⟩ := okWide_struct Try.underlying44 hval
  obtain ⟨fuel, hf⟩ := hd
  rw [agg_cells] at hf
  obtain ⟨x, h1⟩ := open_desc6 (by rw [Array.length_toList, hs, czDesc]) hf
  refine ⟨x, ?_⟩
  have : cs = (dcells x).toArray := by rw [← h1]
  rw [this]
  rfl
set_option maxRecDepth 100000 in
/-- An argument that is a table. -/
theorem open_tab {r : Reach} {b0 : Nat} {v : Value} {d : DataW H} {ps : List MemPlace} (hval : Value.okWide Try.prog W r b0 25 v) (hd : DataW.Trod enc Try.prog W 0 (fun _ => true) true 25 v d ps) :
    ∃ (t : TabL) (ad af : Option Addr) (cap capf : Nat), v = tabV ad t.ds.length cap af t.fs.length capf ∧ TabX t (.slice ad t.ds.length cap) (.slice af t.fs.length capf) (fun _ => False) W := by
  obtain ⟨cs, rfl, hs⟩ := okWide_struct Try.underlying25 hval
  obtain ⟨fuel, hf⟩ := hd
  rw [agg_cells] at hf
  obtain ⟨xs, n', _, _, _, hxl, hg⟩ := DataW.trod_struct Try.underlying25 hf
  have hl : cs.toList.length = 2 := by rw [Array.length_toList, hs, czTab]
  obtain ⟨cl⟩ := cs
  have hl : cl.length = 2 := hl
  match cl, hl with
  | [c0, c1], _ =>
    have k0 : DataW.trod enc Try.prog W 0 (fun _ => true) true n' 22 (([c0, c1].drop 0).take (Try.prog.cellsOf 22)) = xs[0]? := by have := hg 0 _ rfl; exact this
    have k1 : DataW.trod enc Try.prog W 0 (fun _ => true) true n' 23 (([c0, c1].drop 1).take (Try.prog.cellsOf 23)) = xs[1]? := by have := hg 1 _ rfl; exact this
    rw [czDs] at k0
    rw [czIss] at k1
    match xs, hxl with
    | [y0, y1], _ =>
      obtain ⟨ds, h0⟩ := open_descs (show DataW.trod enc Try.prog W 0 (fun _ => true) true n' 22 [c0] = some y0 by simpa using k0)
      obtain ⟨rows, h1, h2⟩ := open_rowc (show DataW.trod enc Try.prog W 0 (fun _ => true) true n' 23 [c1] = some y1 by simpa using k1)
      obtain ⟨ad, cap, rfl⟩ := RdX.form (RdX.ofNo h0)
      have hlen : (rows.map (·.1)).length = rows.length := List.length_map ..
      have h1' : Rd W.heap.size 1 c1 (rows.map (·.1)).length (rows.map (·.2)) W := by rw [hlen]; exact h1
      obtain ⟨af, capf, rfl⟩ := RdX.form (RdX.ofNo h1')
      exact ⟨⟨ds, rows.map (·.1)⟩, ad, af, cap, capf, rfl, rows, rfl, RdX.ofNo h0, RdX.ofNo h1, fun m hm => RdX.ofNo (h2 m hm)⟩
end
end Go.Proofs.Ytfcjmcenaankfaa
