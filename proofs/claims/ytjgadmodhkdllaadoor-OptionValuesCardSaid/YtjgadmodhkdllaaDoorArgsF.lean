/-
  Arguments that are slices of flags.
-/
import Derived.Test.YtjgadmodhkdllaaDoorArgs
import Derived.Test.YtjgadmodhkdllaaDoorOptA
namespace Go.Proofs.YtjgadmodhkdllaaDoor
open Go.ChangeShapes Go.WideShapes Go.RowKit
open Go.Deep (oneCellFields hone_of)

theorem open_rdF {H : Type} {enc : TypeId × Value → H} {P : Program} {W : World} {r : Reach} {b0 : Nat} {t e tb ts : TypeId} {v : Value} {d : DataW H} {ps : List MemPlace} {f0 f1 : Field} (ht : P.underlying t = some (.slice e)) (he : P.underlying e = some (.struct #[f0, f1])) (hz : P.cellsOf e = 2)
    (h0 : f0.type = tb) (h1 : f1.type = ts) (o0 : f0.offset = 0) (o1 : f1.offset = 1) (hb : P.underlying tb = some (.int .u8)) (hs : P.underlying ts = some .string) (zb : P.cellsOf tb = 1) (zs : P.cellsOf ts = 1)
    (hval : Value.okWide P W r b0 t v) (hd : DataW.Trod enc P W 0 (fun _ => true) true t v d ps) : ∃ l : List FlagL, Rd W.heap.size 2 v l.length (flags l) W := by
  obtain ⟨L, g1, g2⟩ := open_rd ht hz (by decide) hval hd
  obtain ⟨l, rfl⟩ := of_map (g := fun f : FlagL => [Value.int .u8 f.1.toNat, Value.string (bs f.2)]) (L := L) fun cs hc => by
    obtain ⟨hl, n, x, hx⟩ := g2 cs hc
    obtain ⟨xs, n', _, _, _, hxl, hg⟩ := DataW.trod_struct he hx
    match cs, hl with
    | [c0, c1], _ =>
      have k0 := hg 0 f0 rfl
      have k1 := hg 1 f1 rfl
      rw [h0, o0, zb] at k0
      rw [h1, o1, zs] at k1
      match xs, hxl with
      | [y0, y1], _ =>
        obtain ⟨z, e0, _, hw⟩ := DataW.trod_int hb (show DataW.trod enc P W 0 (fun _ => true) true n' tb [c0] = some y0 by simpa using k0)
        obtain ⟨s, e1, _⟩ := DataW.trod_string hs (show DataW.trod enc P W 0 (fun _ => true) true n' ts [c1] = some y1 by simpa using k1)
        obtain ⟨c, rfl⟩ := u8_of hw
        simp at e0 e1
        subst e0 e1
        exact ⟨(c, s.data.toList), by rw [← bs_of]⟩
  refine ⟨l, ?_⟩
  rw [List.length_map] at g1
  rwa [← List.flatMap_def] at g1
end Go.Proofs.YtjgadmodhkdllaaDoor
