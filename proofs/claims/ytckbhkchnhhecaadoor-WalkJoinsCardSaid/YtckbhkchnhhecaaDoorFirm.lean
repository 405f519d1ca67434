/-
  New blocks, and blocks that are written all over, by name: each law for one kind of goal, so that nothing but the world is sought.
-/
import Derived.Test.YtckbhkchnhhecaaDoorDskMem
namespace Go.Proofs.YtckbhkchnhhecaaDoor
open Go.RowKit Go.Shelf

/-- A call's end, kept from the walk: where the results lie in memory the walk's own 'go_ret' is tried, and falls, at great cost. -/
def Posted (p : Prop) : Prop := p
theorem Posted.stop {P : Program} {fn : Func} {R : Ending → World → Prop} {e : Exit} {a : Act} {w : World} (h : Posted (bodyPost P fn R e a w)) : bodyPost P fn R e a w := h
theorem Posted.go {p : Prop} (h : p) : Posted p := h
/-- A block of four, written all over. -/
theorem sets4 {P : World → Prop} {W : World} {b : Nat} {u0 u1 u2 u3 r0 r1 r2 r3 : Value} {t : TypeId} (hb : W.heap[b]? = some (.cells #[r0, r1, r2, r3] t (0, 0)))
    (h : ∀ W', Below b W W' → (∀ g, g ≠ b → W'.heap[g]? = W.heap[g]?) → W'.heap.size = W.heap.size → W'.heap[b]? = some (.cells #[u0, u1, u2, u3] t (0, 0)) → P W') : P ((((W.setCell ⟨b, 0, none⟩ u0).setCell ⟨b, 1, none⟩ u1).setCell ⟨b, 2, none⟩ u2).setCell ⟨b, 3, none⟩ u3) := by
  refine h _ ?_ (fun g hg => ?_) (by simp [World.setCell]) ?_
  · exact (((((Below.refl b W).setCell (p := ⟨b, 0, none⟩) (Nat.le_refl _) u0).setCell (p := ⟨b, 1, none⟩) (Nat.le_refl _) u1).setCell (p := ⟨b, 2, none⟩) (Nat.le_refl _) u2).setCell (p := ⟨b, 3, none⟩) (Nat.le_refl _) u3)
  · exact (Below.heap_setCell _ _ _ g hg).trans ((Below.heap_setCell _ _ _ g hg).trans ((Below.heap_setCell _ _ _ g hg).trans (Below.heap_setCell _ _ _ g hg)))
  · refine (heap_set (heap_set (heap_set (heap_set hb)))).trans ?_
    simp
section
variable {P : Program} {fn : Func} {Q : Ending → World → Prop} {x : Exit} {a : Act} {w : World} {A B : Obj}
theorem post_fresh1 (h : ∀ W, Below w.heap.size w W → W.heap[w.heap.size]? = some A → W.heap.size = w.heap.size + 1 → bodyPost P fn Q x a W) : bodyPost P fn Q x a (w.alloc A) := fresh1 (P := fun W => bodyPost P fn Q x a W) h
theorem post_fresh2 (h : ∀ W, Below w.heap.size w W → W.heap[w.heap.size]? = some A → W.heap[w.heap.size + 1]? = some B → W.heap.size = w.heap.size + 2 → bodyPost P fn Q x a W) : bodyPost P fn Q x a ((w.alloc A).alloc B) := fresh2 (P := fun W => bodyPost P fn Q x a W) h
theorem calls_fresh1 {f : FuncId} {args : Array Value} (h : ∀ W, Below w.heap.size w W → W.heap[w.heap.size]? = some A → W.heap.size = w.heap.size + 1 → Calls P f args W Q) : Calls P f args (w.alloc A) Q := fresh1 (P := fun W => Calls P f args W Q) h
theorem calls_fresh2 {f : FuncId} {args : Array Value} (h : ∀ W, Below w.heap.size w W → W.heap[w.heap.size]? = some A → W.heap[w.heap.size + 1]? = some B → W.heap.size = w.heap.size + 2 → Calls P f args W Q) : Calls P f args ((w.alloc A).alloc B) Q := fresh2 (P := fun W => Calls P f args W Q) h
theorem calls_fresh3 {C : Obj} {f : FuncId} {args : Array Value} (h : ∀ W, Below w.heap.size w W → W.heap[w.heap.size]? = some A → W.heap[w.heap.size + 1]? = some B → W.heap[w.heap.size + 2]? = some C → W.heap.size = w.heap.size + 3 → Calls P f args W Q) : Calls P f args (((w.alloc A).alloc B).alloc C) Q := fresh3 (P := fun W => Calls P f args W Q) h
theorem code_fresh1 {c : Code} {K : Exit → Act → World → Prop} (h : ∀ W, Below w.heap.size w W → W.heap[w.heap.size]? = some A → W.heap.size = w.heap.size + 1 → c.wp P K a W) : c.wp P K a (w.alloc A) := fresh1 (P := fun W => c.wp P K a W) h
variable {b : Nat} {u0 u1 u2 u3 u4 u5 u6 u7 r0 r1 r2 r3 r4 r5 r6 r7 : Value} {t : TypeId}
theorem post_sets4 (hb : w.heap[b]? = some (.cells #[r0, r1, r2, r3] t (0, 0)))
    (h : ∀ W', Below b w W' → (∀ g, g ≠ b → W'.heap[g]? = w.heap[g]?) → W'.heap.size = w.heap.size → W'.heap[b]? = some (.cells #[u0, u1, u2, u3] t (0, 0)) → bodyPost P fn Q x a W') :
    bodyPost P fn Q x a ((((w.setCell ⟨b, 0, none⟩ u0).setCell ⟨b, 1, none⟩ u1).setCell ⟨b, 2, none⟩ u2).setCell ⟨b, 3, none⟩ u3) := sets4 (P := fun W => bodyPost P fn Q x a W) hb h
theorem post_sets8 (hb : w.heap[b]? = some (.cells #[r0, r1, r2, r3, r4, r5, r6, r7] t (0, 0)))
    (h : ∀ W', Below b w W' → (∀ g, g ≠ b → W'.heap[g]? = w.heap[g]?) → W'.heap.size = w.heap.size → W'.heap[b]? = some (.cells #[u0, u1, u2, u3, u4, u5, u6, u7] t (0, 0)) → bodyPost P fn Q x a W') :
    bodyPost P fn Q x a ((((((((w.setCell ⟨b, 0, none⟩ u0).setCell ⟨b, 1, none⟩ u1).setCell ⟨b, 2, none⟩ u2).setCell ⟨b, 3, none⟩ u3).setCell ⟨b, 4, none⟩ u4).setCell ⟨b, 5, none⟩ u5).setCell ⟨b, 6, none⟩ u6).setCell ⟨b, 7, none⟩ u7) := sets8 (P := fun W => bodyPost P fn Q x a W) hb h
end
end Go.Proofs.YtckbhkchnhhecaaDoor
