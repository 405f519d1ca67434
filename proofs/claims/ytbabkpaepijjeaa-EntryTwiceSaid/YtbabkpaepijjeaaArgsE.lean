/-
  Arguments that are slices of entries.
-/
import Derived.Test.YtbabkpaepijjeaaArgs
import Derived.Test.YtbabkpaepijjeaaEntD
namespace Go.Proofs.Ytbabkpaepijjeaa
open Go.ChangeShapes Go.WideShapes Go.RowKit
open Go.Deep (oneCellFields hone_of)

theorem open_rdE {H : Type} {enc : TypeId × Value → H} {P : Program} {W : World} {r : Reach} {b0 : Nat} {t e ts ti : TypeId} {v : Value} {d : DataW H} {ps : List MemPlace} {f0 f1 : Field} (ht : P.underlying t = some (.slice e)) (he : P.underlying e = some (.struct #[f0, f1])) (hz : P.cellsOf e = 2)
    (h0 : f0.type = ts) (h1 : f1.type = ti) (o0 : f0.offset = 0) (o1 : f1.offset = 1) (hs : P.underlying ts = some .string) (hi : P.underlying ti = some (.int .i64)) (zs : P.cellsOf ts = 1) (zi : P.cellsOf ti = 1)
    (hval : Value.okWide P W r b0 t v) (hd : DataW.Trod enc P W 0 (fun _ => true) true t v d ps) : ∃ l : List EntL, Rd W.heap.size 2 v l.length (ents l) W ∧ Fit l := by
  obtain ⟨L, g1, g2⟩ := open_rd ht hz (by decide) hval hd
  have main : ∀ cs ∈ L, ∃ e : {e : EntL // e.1.length ≤ maxLen}, cs = [Value.string (bs e.1.1), Value.int .i64 e.1.2] := by
    intro cs hc
    obtain ⟨hl, n, x, hx⟩ := g2 cs hc
    obtain ⟨xs, n', _, _, _, hxl, hg⟩ := DataW.trod_struct he hx
    match cs, hl with
    | [c0, c1], _ =>
      have k0 := hg 0 f0 rfl
      have k1 := hg 1 f1 rfl
      rw [h0, o0, zs] at k0
      rw [h1, o1, zi] at k1
      match xs, hxl with
      | [y0, y1], _ =>
        obtain ⟨s, e0, _, hm⟩ := DataW.trod_string hs (show DataW.trod enc P W 0 (fun _ => true) true n' ts [c0] = some y0 by simpa using k0)
        obtain ⟨z, e1, _, _⟩ := DataW.trod_int hi (show DataW.trod enc P W 0 (fun _ => true) true n' ti [c1] = some y1 by simpa using k1)
        simp at e0 e1
        subst e0 e1
        exact ⟨⟨(s.data.toList, z), by show s.data.toList.length ≤ maxLen; rw [data_len]; exact hm⟩, by rw [← bs_of]⟩
  obtain ⟨l, rfl⟩ := of_map (g := fun e : {e : EntL // e.1.length ≤ maxLen} => [Value.string (bs e.1.1), Value.int .i64 e.1.2]) (L := L) main
  refine ⟨l.map (·.1), ?_, fun e he => ?_⟩
  · rw [List.length_map] at g1
    rw [List.length_map]
    have e : (l.map fun e : {e : EntL // e.1.length ≤ maxLen} => [Value.string (bs e.1.1), Value.int .i64 e.1.2]).flatten = ents (l.map (·.1)) := by
      unfold ents
      rw [List.flatMap_def, List.map_map]
      rfl
    rwa [e] at g1
  · obtain ⟨x, _, rfl⟩ := List.mem_map.1 he
    exact x.2
end Go.Proofs.Ytbabkpaepijjeaa
