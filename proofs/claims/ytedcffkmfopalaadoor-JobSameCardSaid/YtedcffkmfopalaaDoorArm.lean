/-
  Arms of walks: blocks, slices that are read, results; of no seat.
-/
import Derived.Test.YtedcffkmfopalaaDoorMem
import Derived.Deep.RegionHeld3
import Derived.Deep.RegionLaw
import Derived.Handy
import Derived.Laws.IdiomCopy
import Derived.Lib.SliceRun
import Derived.Laws.ResultCell
import Derived.Deep.DeepCutAuto
import Derived.Deep.MidRow
import Derived.StillTailTactics
import Derived.Deep.OwnRows
import Derived.Laws.CopyRow
import Derived.Laws.BytesString
import Derived.Lib.ConvBytes
import Derived.Lib.SlBuf
namespace Go.Proofs.YtedcffkmfopalaaDoor
open Go.RowKit Go.Shelf
theorem own_one {W : World} {base : Nat} {e : TypeId} {size n : Nat} {v : Value} {xs : List Value} (h : W.ownsRow base e size v n xs) : v.oneCell' = true := by
  obtain ⟨ao, cap, rfl⟩ := own_form h
  rfl
theorem ret_tr {w w1 w2 : World} (h1 : Below w.heap.size w w1) (h2 : Below w1.heap.size w1 w2) : Below w.heap.size w w2 := h1.trans (h2.mono h1.size)
theorem bel_al {w wr w1 : World} {o : Obj} (h : Below w.heap.size w wr) (g : Below (wr.alloc o).heap.size (wr.alloc o) w1) : Below w.heap.size w w1 :=
  (h.alloc h.size o).trans (g.mono (h.alloc h.size o).size)
/-- What is read of blocks that lay is read in any later world. -/
theorem rd_keep {size n : Nat} {v : Value} {xs : List Value} {W W' : World} (h : Rd W.heap.size size v n xs W) (hb : Below W.heap.size W W') : Rd W'.heap.size size v n xs W' := (h.below hb).mono hb.size
theorem rd_slice {B size n : Nat} {v : Value} {xs : List Value} {W : World} (h : Rd B size v n xs W) : v.oneCell' = true := by
  obtain ⟨ao, cap, rfl, _⟩ := h
  rfl
theorem heap_set {W : World} {b : Nat} {t : TypeId} {cs : Array Value} {i : Nat} {u : Value} (h : W.heap[b]? = some (.cells cs t (0, 0))) : (W.setCell ⟨b, i, none⟩ u).heap[b]? = some (.cells (cs.setIfInBounds i u) t (0, 0)) := by
  simp [World.setCell, Array.getElem?_modify, h]
/-- A block, written all over. -/
theorem sets8 {P : World → Prop} {W : World} {b : Nat} {u0 u1 u2 u3 u4 u5 u6 u7 r0 r1 r2 r3 r4 r5 r6 r7 : Value} {t : TypeId} (hb : W.heap[b]? = some (.cells #[r0, r1, r2, r3, r4, r5, r6, r7] t (0, 0)))
    (h : ∀ W', Below b W W' → (∀ g, g ≠ b → W'.heap[g]? = W.heap[g]?) → W'.heap.size = W.heap.size → W'.heap[b]? = some (.cells #[u0, u1, u2, u3, u4, u5, u6, u7] t (0, 0)) → P W') : P ((((((((W.setCell ⟨b, 0, none⟩ u0).setCell ⟨b, 1, none⟩ u1).setCell ⟨b, 2, none⟩ u2).setCell ⟨b, 3, none⟩ u3).setCell ⟨b, 4, none⟩ u4).setCell ⟨b, 5, none⟩ u5).setCell ⟨b, 6, none⟩ u6).setCell ⟨b, 7, none⟩ u7) := by
  refine h _ ?_ (fun g hg => ?_) (by simp [World.setCell]) ?_
  · exact (((((((((Below.refl b W).setCell (p := ⟨b, 0, none⟩) (Nat.le_refl _) u0).setCell (p := ⟨b, 1, none⟩) (Nat.le_refl _) u1).setCell (p := ⟨b, 2, none⟩) (Nat.le_refl _) u2).setCell (p := ⟨b, 3, none⟩) (Nat.le_refl _) u3).setCell (p := ⟨b, 4, none⟩) (Nat.le_refl _) u4).setCell (p := ⟨b, 5, none⟩) (Nat.le_refl _) u5).setCell (p := ⟨b, 6, none⟩) (Nat.le_refl _) u6).setCell (p := ⟨b, 7, none⟩) (Nat.le_refl _) u7)
  · exact (Below.heap_setCell _ _ _ g hg).trans ((Below.heap_setCell _ _ _ g hg).trans ((Below.heap_setCell _ _ _ g hg).trans ((Below.heap_setCell _ _ _ g hg).trans ((Below.heap_setCell _ _ _ g hg).trans ((Below.heap_setCell _ _ _ g hg).trans ((Below.heap_setCell _ _ _ g hg).trans (Below.heap_setCell _ _ _ g hg)))))))
  · refine (heap_set (heap_set (heap_set (heap_set (heap_set (heap_set (heap_set (heap_set (hb))))))))).trans ?_
    simp
theorem sets3 {P : World → Prop} {W : World} {b : Nat} {u0 u1 u2 r0 r1 r2 : Value} {t : TypeId} (hb : W.heap[b]? = some (.cells #[r0, r1, r2] t (0, 0)))
    (h : ∀ W', Below b W W' → (∀ g, g ≠ b → W'.heap[g]? = W.heap[g]?) → W'.heap.size = W.heap.size → W'.heap[b]? = some (.cells #[u0, u1, u2] t (0, 0)) → P W') : P (((W.setCell ⟨b, 0, none⟩ u0).setCell ⟨b, 1, none⟩ u1).setCell ⟨b, 2, none⟩ u2) := by
  refine h _ ?_ (fun g hg => ?_) (by simp [World.setCell]) ?_
  · exact ((((Below.refl b W).setCell (p := ⟨b, 0, none⟩) (Nat.le_refl _) u0).setCell (p := ⟨b, 1, none⟩) (Nat.le_refl _) u1).setCell (p := ⟨b, 2, none⟩) (Nat.le_refl _) u2)
  · exact (Below.heap_setCell _ _ _ g hg).trans ((Below.heap_setCell _ _ _ g hg).trans (Below.heap_setCell _ _ _ g hg))
  · refine (heap_set (heap_set (heap_set (hb)))).trans ?_
    simp
theorem cells3 {W : World} {b : Nat} {u0 u1 u2 : Value} {t : TypeId} {f : Nat × Nat} (h : W.heap[b]? = some (.cells #[u0, u1, u2] t f)) :
    W.cell? ⟨b, 0, none⟩ = some u0 ∧ W.cell? ⟨b, 1, none⟩ = some u1 ∧ W.cell? ⟨b, 2, none⟩ = some u2 := by
  refine ⟨?_, ?_, ?_⟩ <;> (rw [Lib.cell_of_heap h]; rfl)
/-- New blocks, by name: what holds at any world that has them holds at this one. -/
theorem fresh1 {P : World → Prop} {w : World} {A : Obj} (h : ∀ W, Below w.heap.size w W → W.heap[w.heap.size]? = some A → W.heap.size = w.heap.size + 1 → P W) : P (w.alloc A) :=
  h _ ((Below.refl _ w).alloc (Nat.le_refl _) _) (heap_alloc_new w A) (by simp)
theorem fresh2 {P : World → Prop} {w : World} {A B : Obj} (h : ∀ W, Below w.heap.size w W → W.heap[w.heap.size]? = some A → W.heap[w.heap.size + 1]? = some B → W.heap.size = w.heap.size + 2 → P W) : P ((w.alloc A).alloc B) :=
  fresh1 fun _ b1 h1 s1 => h _ (((Below.refl _ w).alloc (Nat.le_refl _) A).trans (b1.mono (by simp))) ((b1.block _ (by simp)).trans (heap_alloc_new w A)) (by simpa using h1) (by simpa using s1)
theorem fresh3 {P : World → Prop} {w : World} {A B C : Obj} (h : ∀ W, Below w.heap.size w W → W.heap[w.heap.size]? = some A → W.heap[w.heap.size + 1]? = some B → W.heap[w.heap.size + 2]? = some C → W.heap.size = w.heap.size + 3 → P W) : P (((w.alloc A).alloc B).alloc C) :=
  fresh1 fun _ b1 h1 s1 => h _ ((((Below.refl _ w).alloc (Nat.le_refl _) A).alloc (by simp) B).trans (b1.mono (by simp; omega))) ((b1.block _ (by simp; omega)).trans (((Below.refl _ _).alloc (Nat.le_refl _) B).block _ (by simp) |>.trans (heap_alloc_new w A)))
    ((b1.block _ (by simp)).trans (by have := heap_alloc_new (w.alloc A) B; simpa using this)) (by simpa using h1) (by simpa using s1)
theorem ownsRow_grown {W W' : World} {base : Nat} {e : TypeId} {size n : Nat} {v : Value} {xs : List Value} {row : Option Nat} (h : W.ownsRow base e size v n xs) (hg : W.grownBy W' row) (hne : ∀ g, v.ownBlock = some g → row ≠ some g) : W'.ownsRow base e size v n xs := by
  refine ⟨h.1, h.2.imp id ?_⟩
  rintro ⟨g, cap, cur, rfl, h2, h3, h4⟩
  exact ⟨g, cap, cur, rfl, h2, (hg.block g (Array.getElem?_eq_some_iff.1 h3).1 (fun e => hne g rfl e.symm)).trans h3, h4⟩
theorem own_ne {W : World} {b1 b2 : Nat} {e1 e2 : TypeId} {s1 s2 n1 n2 : Nat} {v1 v2 : Value} {x1 x2 : List Value} (h : W.ownsRow b1 e1 s1 v1 n1 x1) (h' : W.ownsRow b2 e2 s2 v2 n2 x2) (hne : e1 ≠ e2) : ∀ g, v1.ownBlock = some g → v2.ownBlock ≠ some g := by
  intro g hg hg'
  rcases h.2 with ⟨rfl, _⟩ | ⟨g1, cap1, cur1, rfl, _, hh1, _⟩
  · simp [Value.ownBlock] at hg
  rcases h'.2 with ⟨rfl, _⟩ | ⟨g2, cap2, cur2, rfl, _, hh2, _⟩
  · simp [Value.ownBlock] at hg'
  obtain rfl : g1 = g := by simpa [Value.ownBlock] using hg
  obtain rfl : g2 = g1 := by simpa [Value.ownBlock] using hg'
  rw [hh1] at hh2
  injection hh2 with hh2
  injection hh2 with _ ht
  exact hne ht
theorem heap_keep {W W' : World} {row : Option Nat} {b : Nat} {o : Obj} (h : W.heap[b]? = some o) (hg : W.grownBy W' row) (hne : row ≠ some b) : W'.heap[b]? = some o :=
  (hg.block b (Array.getElem?_eq_some_iff.1 h).1 (fun e => hne e.symm)).trans h
theorem own_mono {W : World} {b1 b2 : Nat} {e : TypeId} {size n : Nat} {v : Value} {xs : List Value} (h : W.ownsRow b1 e size v n xs) (hb : b2 ≤ b1) : W.ownsRow b2 e size v n xs := by
  refine ⟨h.1, h.2.imp id ?_⟩
  rintro ⟨g, cap, cur, rfl, h2, h3⟩
  exact ⟨g, cap, cur, rfl, Nat.le_trans hb h2, h3⟩
theorem ownsRow_other {W W' : World} {base : Nat} {e : TypeId} {size n : Nat} {v : Value} {xs : List Value} (h : W.ownsRow base e size v n xs) (hb : ∀ g, base ≤ g → W'.heap[g]? = W.heap[g]?) : W'.ownsRow base e size v n xs := by
  refine ⟨h.1, h.2.imp id ?_⟩
  rintro ⟨g, cap, cur, h1, h2, h3, h4⟩
  exact ⟨g, cap, cur, h1, h2, (hb g h2).trans h3, h4⟩
theorem ownsRow_set {W : World} {base b i : Nat} {e : TypeId} {size n : Nat} {v u : Value} {xs : List Value} (h : W.ownsRow base e size v n xs) (hb : b < base) : (W.setCell ⟨b, i, none⟩ u).ownsRow base e size v n xs := by
  refine ⟨h.1, h.2.imp id ?_⟩
  rintro ⟨g, cap, cur, h1, h2, h3, h4⟩
  exact ⟨g, cap, cur, h1, h2, (Below.heap_setCell W ⟨b, i, none⟩ u g (by show g ≠ b; omega)).trans h3, h4⟩
theorem grown_below {b : Nat} {W w1 : World} {v : Value} {base n size : Nat} {e : TypeId} {xs : List Value} (o : Obj) (hown : W.ownsRow base e size v n xs) (hb : b ≤ base) (hbW : b ≤ W.heap.size) (hgrow : (W.alloc o).drew.grownBy w1 v.ownBlock) : Below b W w1 :=
  (((Below.refl b W).alloc hbW o).drew).grown hgrow (by simp; omega) fun k hk => Nat.le_trans hb (hown.lt k hk).1
theorem drew_below {B : Nat} {W W' : World} (h : Below W.drew.heap.size W.drew W') (hB : B ≤ W.heap.size) : Below B W W' := ((Below.refl B W).drew).trans (h.mono hB)
theorem rd_block {B size n g : Nat} {W : World} {xs : List Value} {t : TypeId} {fr : Nat × Nat} (h : W.heap[g]? = some (.cells xs.toArray t fr)) (hl : xs.length = n * size) (hn : n ≤ maxLen) (hg : g < B) : Rd B size (.slice (some ⟨g, 0, none⟩) n n) n xs W := by
  refine ⟨_, _, rfl, Nat.le_refl _, hn, fun e => (by cases e), hl, fun _ => ⟨g, 0, rfl, hg, fun j u hu => ?_⟩⟩
  rw [Lib.cell_of_heap h, Nat.zero_add]
  simpa using hu
/-- A slice that has no element in block g. -/
def Avoid (g : Nat) (v : Value) : Prop := ∀ a n' c, v = .slice (some a) n' c → 0 < n' → a.block ≠ g
theorem rd_far {B size n g : Nat} {v : Value} {xs : List Value} {W : World} (h : Rd B size v n xs W) (hg : B ≤ g) : ∀ a n' c, v = .slice (some a) n' c → 0 < n' → a.block ≠ g := by
  rintro a n' c rfl hn
  obtain ⟨ao, cp, e, _, _, _, _, h⟩ := h
  injection e with e1 e2 _
  obtain ⟨b, off, e3, hlt, _⟩ := h (by omega)
  rw [← e1] at e3
  injection e3 with e3
  subst e3
  show b ≠ g
  omega
theorem own_far {W : World} {base g : Nat} {e : TypeId} {size n : Nat} {v : Value} {xs : List Value} (h : W.ownsRow base e size v n xs) (hg : g < base) : ∀ a n' c, v = .slice (some a) n' c → 0 < n' → a.block ≠ g := by
  rintro a n' c rfl _
  have := (h.lt a.block rfl).1
  omega
theorem heap_setCells (b k : Nat) (hk : k ≠ b) : ∀ (vs : List Value) (o : Nat) (W : World), (W.setCells b o vs).heap[k]? = W.heap[k]?
  | [], _, _ => rfl
  | v :: r, o, W => by rw [World.setCells, heap_setCells b k hk r (o + 1), Below.heap_setCell _ _ _ k hk]
theorem size_setCells (b : Nat) : ∀ (vs : List Value) (o : Nat) (W : World), (W.setCells b o vs).heap.size = W.heap.size
  | [], _, _ => rfl
  | v :: r, o, W => by rw [World.setCells, size_setCells b r (o + 1)]; simp
theorem below_setCells (B b : Nat) (hB : B ≤ b) : ∀ (vs : List Value) (o : Nat) (W : World), Below B W (W.setCells b o vs)
  | [], _, W => Below.refl _ _
  | v :: r, o, W => by
    rw [World.setCells]
    exact ((Below.refl B W).setCell (p := ⟨b, o, none⟩) hB v).trans (below_setCells B b hB r (o + 1) _)
theorem sets8o {P : World → Prop} {W : World} {g o : Nat} {u0 u1 u2 u3 u4 u5 u6 u7 : Value} (h : ∀ W', W' = W.setCells g o [u0, u1, u2, u3, u4, u5, u6, u7] → P W') :
    P ((((((((W.setCell ⟨g, o, none⟩ u0).setCell ⟨g, o + 1, none⟩ u1).setCell ⟨g, o + 2, none⟩ u2).setCell ⟨g, o + 3, none⟩ u3).setCell ⟨g, o + 4, none⟩ u4).setCell ⟨g, o + 5, none⟩ u5).setCell ⟨g, o + 6, none⟩ u6).setCell ⟨g, o + 7, none⟩ u7) := h _ rfl
theorem rd_other {B size n g : Nat} {v : Value} {xs : List Value} {W W' : World} (h : Rd B size v n xs W) (hf : ∀ a n' c, v = .slice (some a) n' c → 0 < n' → a.block ≠ g) (hg : ∀ k, k ≠ g → W'.heap[k]? = W.heap[k]?) : Rd B size v n xs W' := by
  obtain ⟨ao, cp, e, hc, hm, hz, hl, h⟩ := id h
  refine ⟨ao, cp, e, hc, hm, hz, hl, fun hn => ?_⟩
  obtain ⟨b, off, e2, hlt, hcc⟩ := h hn
  refine ⟨b, off, e2, hlt, fun j u hu => ?_⟩
  rw [World.cell?_of_block (a := ⟨b, off + j, none⟩) (hg b (hf ⟨b, off, none⟩ _ _ (by rw [e, e2]) hn))]
  exact hcc j u hu
/-- The cells that Set reads. -/
def SetK (b : Nat) (u0 c0 c1 c2 c3 c4 c5 c6 c7 : Value) (W : World) : Prop :=
  b + 1 < W.heap.size ∧ W.cell? ⟨b, 0, none⟩ = some u0 ∧ W.cell? ⟨b + 1, 0, none⟩ = some c0 ∧ W.cell? ⟨b + 1, 1, none⟩ = some c1 ∧ W.cell? ⟨b + 1, 2, none⟩ = some c2 ∧ W.cell? ⟨b + 1, 3, none⟩ = some c3 ∧ W.cell? ⟨b + 1, 4, none⟩ = some c4 ∧ W.cell? ⟨b + 1, 5, none⟩ = some c5 ∧ W.cell? ⟨b + 1, 6, none⟩ = some c6 ∧ W.cell? ⟨b + 1, 7, none⟩ = some c7
theorem SetK.keep {b : Nat} {u0 c0 c1 c2 c3 c4 c5 c6 c7 : Value} {W W' : World} (h : SetK b u0 c0 c1 c2 c3 c4 c5 c6 c7 W) (hb : Below W.heap.size W W') : SetK b u0 c0 c1 c2 c3 c4 c5 c6 c7 W' := by
  obtain ⟨h, g0, g1, g2, g3, g4, g5, g6, g7, g8⟩ := h
  have := hb.size
  refine ⟨by omega, (hb.cell (by show b < _; omega)).trans g0, (hb.cell h).trans g1, (hb.cell h).trans g2, (hb.cell h).trans g3, (hb.cell h).trans g4, (hb.cell h).trans g5, (hb.cell h).trans g6, (hb.cell h).trans g7, (hb.cell h).trans g8⟩
theorem SetK.cells {b : Nat} {u0 c0 c1 c2 c3 c4 c5 c6 c7 : Value} {W : World} (h : SetK b u0 c0 c1 c2 c3 c4 c5 c6 c7 W) : W.cell? ⟨b, 0, none⟩ = some u0 ∧ W.cell? ⟨b + 1, 0, none⟩ = some c0 ∧ W.cell? ⟨b + 1, 1, none⟩ = some c1 ∧ W.cell? ⟨b + 1, 2, none⟩ = some c2 ∧ W.cell? ⟨b + 1, 3, none⟩ = some c3 ∧ W.cell? ⟨b + 1, 4, none⟩ = some c4 ∧ W.cell? ⟨b + 1, 5, none⟩ = some c5 ∧ W.cell? ⟨b + 1, 6, none⟩ = some c6 ∧ W.cell? ⟨b + 1, 7, none⟩ = some c7 := h.2
theorem results_ct {P : Program} {fn : Func} {p u : Tmp} {ty : TypeId} (h : fn.results = #[.cell p ty, .tmp u]) (tmps : Array Value) (w : World) (g : Nat) (t : TypeId) (cs : Array Value) (fr : Nat × Nat) (d : TypeDesc)
    (hp : tmps.getD p undef = .pointer (some ⟨g, 0, none⟩)) (hg : w.heap[g]? = some (.cells cs t fr))
    (hu : P.underlying ty = some d) (hd : (match d with | .struct _ | .array _ _ => true | _ => false) = true) (hi : (P.info? ty).map (·.size) = some cs.size) :
    (results fn tmps).run P w = .ok (.tuple #[.agg cs, tmps.getD u undef]) w := by
  rw [results_cell_tmp h, hp]
  simp [asAddr, run_loadVar_row w g t ty cs fr d hg hu hd hi, Result.andThen]
theorem results_ctt {P : Program} {fn : Func} {p u v : Tmp} {ty : TypeId} (h : fn.results = #[.cell p ty, .tmp u, .tmp v]) (tmps : Array Value) (w : World) (g : Nat) (t : TypeId) (cs : Array Value) (fr : Nat × Nat) (d : TypeDesc)
    (hp : tmps.getD p undef = .pointer (some ⟨g, 0, none⟩)) (hg : w.heap[g]? = some (.cells cs t fr))
    (hu : P.underlying ty = some d) (hd : (match d with | .struct _ | .array _ _ => true | _ => false) = true) (hi : (P.info? ty).map (·.size) = some cs.size) :
    (results fn tmps).run P w = .ok (.tuple #[.agg cs, tmps.getD u undef, tmps.getD v undef]) w := by
  have hp' : tmps[p]?.getD undef = .pointer (some ⟨g, 0, none⟩) := by simpa using hp
  simp [results, h, hp', asAddr, run_loadVar_row w g t ty cs fr d hg hu hd hi, Result.andThen]
theorem code_fresh1 {P : Program} {a : Act} {w : World} {A : Obj} {c : Code} {K : Exit → Act → World → Prop} (h : ∀ W, Below w.heap.size w W → W.heap[w.heap.size]? = some A → W.heap.size = w.heap.size + 1 → c.wp P K a W) : c.wp P K a (w.alloc A) := fresh1 (P := fun W => c.wp P K a W) h
theorem code_fresh2 {P : Program} {a : Act} {w : World} {A B : Obj} {c : Code} {K : Exit → Act → World → Prop} (h : ∀ W, Below w.heap.size w W → W.heap[w.heap.size]? = some A → W.heap[w.heap.size + 1]? = some B → W.heap.size = w.heap.size + 2 → c.wp P K a W) : c.wp P K a ((w.alloc A).alloc B) := fresh2 (P := fun W => c.wp P K a W) h
theorem code_fresh3 {P : Program} {a : Act} {w : World} {A B C : Obj} {c : Code} {K : Exit → Act → World → Prop} (h : ∀ W, Below w.heap.size w W → W.heap[w.heap.size]? = some A → W.heap[w.heap.size + 1]? = some B → W.heap[w.heap.size + 2]? = some C → W.heap.size = w.heap.size + 3 → c.wp P K a W) : c.wp P K a (((w.alloc A).alloc B).alloc C) := fresh3 (P := fun W => c.wp P K a W) h
theorem post_sets3 {P : Program} {fn : Func} {Q : Ending → World → Prop} {x : Exit} {a : Act} {w : World} {b : Nat} {u0 u1 u2 r0 r1 r2 : Value} {t : TypeId} (hb : w.heap[b]? = some (.cells #[r0, r1, r2] t (0, 0)))
    (h : ∀ W', Below b w W' → (∀ g, g ≠ b → W'.heap[g]? = w.heap[g]?) → W'.heap.size = w.heap.size → W'.heap[b]? = some (.cells #[u0, u1, u2] t (0, 0)) → bodyPost P fn Q x a W') :
    bodyPost P fn Q x a (((w.setCell ⟨b, 0, none⟩ u0).setCell ⟨b, 1, none⟩ u1).setCell ⟨b, 2, none⟩ u2) := sets3 (P := fun W => bodyPost P fn Q x a W) hb h
/-- Old blocks. -/
def Old (X : Nat → Prop) (W : World) : Prop := ∀ g, X g → g < W.heap.size
theorem Old.keep {X : Nat → Prop} {W W' : World} (h : Old X W) (hb : W.heap.size ≤ W'.heap.size) : Old X W' := fun g hg => Nat.lt_of_lt_of_le (h g hg) hb
theorem code_set1 {P : Program} {a : Act} {w : World} {c : Code} {K : Exit → Act → World → Prop} {b i : Nat} {u : Value} {cs : Array Value} {t : TypeId} (hb : w.heap[b]? = some (.cells cs t (0, 0)))
    (h : ∀ W', Below b w W' → (∀ g, g ≠ b → W'.heap[g]? = w.heap[g]?) → W'.heap.size = w.heap.size → W'.heap[b]? = some (.cells (cs.setIfInBounds i u) t (0, 0)) → c.wp P K a W') : c.wp P K a (w.setCell ⟨b, i, none⟩ u) :=
  h _ ((Below.refl b w).setCell (p := ⟨b, i, none⟩) (Nat.le_refl _) u) (fun g hg => Below.heap_setCell _ _ _ g hg) (by simp [World.setCell]) (heap_set hb)
abbrev diskV (ao : Option Addr) (n cap : Nat) (most room : Int) : Value := .agg #[.slice ao n cap, .int .i64 most, .int .i64 room]
/-- A block and its cells. -/
abbrev Bl := Nat × Array Value × TypeId
def Xo (X : Nat → Prop) (L : List Nat) : Nat → Prop := fun g => X g ∨ g ∈ L
theorem fresh4 {P : World → Prop} {w : World} {A0 A1 A2 A3 : Obj} (h : ∀ W, Below w.heap.size w W → W.heap[w.heap.size]? = some A0 → W.heap[w.heap.size + 1]? = some A1 → W.heap[w.heap.size + 2]? = some A2 → W.heap[w.heap.size + 3]? = some A3 → W.heap.size = w.heap.size + 4 → P W) : P ((((w.alloc A0).alloc A1).alloc A2).alloc A3) :=
  fresh3 (P := fun W => P (W.alloc A3)) fun W1 b1 h0 h1 h2 s1 => fresh1 fun W2 b2 hn s2 => h W2 (ret_tr b1 b2) ((b2.block _ (by omega)).trans h0) ((b2.block _ (by omega)).trans h1) ((b2.block _ (by omega)).trans h2) (by rw [s1] at hn; exact hn) (by omega)
theorem code_fresh4 {P : Program} {a : Act} {w : World} {A0 A1 A2 A3 : Obj} {c : Code} {K : Exit → Act → World → Prop} (h : ∀ W, Below w.heap.size w W → W.heap[w.heap.size]? = some A0 → W.heap[w.heap.size + 1]? = some A1 → W.heap[w.heap.size + 2]? = some A2 → W.heap[w.heap.size + 3]? = some A3 → W.heap.size = w.heap.size + 4 → c.wp P K a W) : c.wp P K a ((((w.alloc A0).alloc A1).alloc A2).alloc A3) := fresh4 (P := fun W => c.wp P K a W) h
theorem fresh5 {P : World → Prop} {w : World} {A0 A1 A2 A3 A4 : Obj} (h : ∀ W, Below w.heap.size w W → W.heap[w.heap.size]? = some A0 → W.heap[w.heap.size + 1]? = some A1 → W.heap[w.heap.size + 2]? = some A2 → W.heap[w.heap.size + 3]? = some A3 → W.heap[w.heap.size + 4]? = some A4 → W.heap.size = w.heap.size + 5 → P W) : P (((((w.alloc A0).alloc A1).alloc A2).alloc A3).alloc A4) :=
  fresh4 (P := fun W => P (W.alloc A4)) fun W1 b1 h0 h1 h2 h3 s1 => fresh1 fun W2 b2 hn s2 => h W2 (ret_tr b1 b2) ((b2.block _ (by omega)).trans h0) ((b2.block _ (by omega)).trans h1) ((b2.block _ (by omega)).trans h2) ((b2.block _ (by omega)).trans h3) (by rw [s1] at hn; exact hn) (by omega)
theorem code_fresh5 {P : Program} {a : Act} {w : World} {A0 A1 A2 A3 A4 : Obj} {c : Code} {K : Exit → Act → World → Prop} (h : ∀ W, Below w.heap.size w W → W.heap[w.heap.size]? = some A0 → W.heap[w.heap.size + 1]? = some A1 → W.heap[w.heap.size + 2]? = some A2 → W.heap[w.heap.size + 3]? = some A3 → W.heap[w.heap.size + 4]? = some A4 → W.heap.size = w.heap.size + 5 → c.wp P K a W) : c.wp P K a (((((w.alloc A0).alloc A1).alloc A2).alloc A3).alloc A4) := fresh5 (P := fun W => c.wp P K a W) h
theorem fresh6 {P : World → Prop} {w : World} {A0 A1 A2 A3 A4 A5 : Obj} (h : ∀ W, Below w.heap.size w W → W.heap[w.heap.size]? = some A0 → W.heap[w.heap.size + 1]? = some A1 → W.heap[w.heap.size + 2]? = some A2 → W.heap[w.heap.size + 3]? = some A3 → W.heap[w.heap.size + 4]? = some A4 → W.heap[w.heap.size + 5]? = some A5 → W.heap.size = w.heap.size + 6 → P W) : P ((((((w.alloc A0).alloc A1).alloc A2).alloc A3).alloc A4).alloc A5) :=
  fresh5 (P := fun W => P (W.alloc A5)) fun W1 b1 h0 h1 h2 h3 h4 s1 => fresh1 fun W2 b2 hn s2 => h W2 (ret_tr b1 b2) ((b2.block _ (by omega)).trans h0) ((b2.block _ (by omega)).trans h1) ((b2.block _ (by omega)).trans h2) ((b2.block _ (by omega)).trans h3) ((b2.block _ (by omega)).trans h4) (by rw [s1] at hn; exact hn) (by omega)
theorem code_fresh6 {P : Program} {a : Act} {w : World} {A0 A1 A2 A3 A4 A5 : Obj} {c : Code} {K : Exit → Act → World → Prop} (h : ∀ W, Below w.heap.size w W → W.heap[w.heap.size]? = some A0 → W.heap[w.heap.size + 1]? = some A1 → W.heap[w.heap.size + 2]? = some A2 → W.heap[w.heap.size + 3]? = some A3 → W.heap[w.heap.size + 4]? = some A4 → W.heap[w.heap.size + 5]? = some A5 → W.heap.size = w.heap.size + 6 → c.wp P K a W) : c.wp P K a ((((((w.alloc A0).alloc A1).alloc A2).alloc A3).alloc A4).alloc A5) := fresh6 (P := fun W => c.wp P K a W) h
theorem map_set_same {L : List Bl} {k b : Nat} {cs cs' : Array Value} {t : TypeId} (hk : L[k]? = some (b, cs, t)) : (L.set k (b, cs', t)).map (·.1) = L.map (·.1) := by
  apply List.ext_getElem?
  intro j
  rw [List.getElem?_map, List.getElem?_map, List.getElem?_set]
  by_cases e : k = j
  · subst e
    rw [if_pos rfl, hk]
    have := (List.getElem?_eq_some_iff.1 hk).1
    rw [if_pos this]
    rfl
  · rw [if_neg e]
theorem fresh1d {P : World → Prop} {w : World} {A : Obj} (h : ∀ W, Below w.heap.size w W → W.heap[w.heap.size]? = some A → W.heap.size = w.heap.size + 1 → P W) : P (w.alloc A).drew :=
  h _ ((Below.refl _ w).alloc (Nat.le_refl _) _).drew (heap_alloc_new w A) (by simp)
theorem cells2 {W : World} {b : Nat} {u0 u1 : Value} {t : TypeId} {f : Nat × Nat} (h : W.heap[b]? = some (.cells #[u0, u1] t f)) : W.cell? ⟨b, 0, none⟩ = some u0 ∧ W.cell? ⟨b, 1, none⟩ = some u1 := by
  refine ⟨?_, ?_⟩ <;> (rw [Lib.cell_of_heap h]; rfl)
theorem wpList_fresh1 {P : Program} {ops : Array Oper} {Q : Exit → Act → World → Prop} {l : List Oper} {a : Act} {w : World} {A : Obj}
    (h : ∀ W, Below w.heap.size w W → W.heap[w.heap.size]? = some A → W.heap.size = w.heap.size + 1 → wpList P ops Q l a W) : wpList P ops Q l a (w.alloc A) := fresh1 (P := fun W => wpList P ops Q l a W) h
theorem wpList_fresh1d {P : Program} {ops : Array Oper} {Q : Exit → Act → World → Prop} {l : List Oper} {a : Act} {w : World} {A : Obj}
    (h : ∀ W, Below w.heap.size w W → W.heap[w.heap.size]? = some A → W.heap.size = w.heap.size + 1 → wpList P ops Q l a W) : wpList P ops Q l a (w.alloc A).drew := fresh1d (P := fun W => wpList P ops Q l a W) h
theorem there_block {w : World} {b : Nat} {old : Array Value} {t : TypeId} (hb : w.heap[b]? = some (.cells old t (0, 0))) : w.there b 0 old.size := fun j hj => by
  refine ⟨?_, Lib.frozen_of_heap hb _⟩
  rw [Lib.cell_of_heap hb, Nat.zero_add, Array.getElem?_eq_getElem hj]
  rfl
theorem heap_setCells_same {b : Nat} {t : TypeId} : ∀ (vs : List Value) (o : Nat) (w : World) (cs : Array Value), w.heap[b]? = some (.cells cs t (0, 0)) → ∃ cs', (w.setCells b o vs).heap[b]? = some (.cells cs' t (0, 0)) ∧ cs'.size = cs.size
  | [], _, _, cs, h => ⟨cs, h, rfl⟩
  | v :: r, o, w, cs, h => by
    obtain ⟨cs', h1, h2⟩ := heap_setCells_same r (o + 1) (w.setCell ⟨b, o, none⟩ v) _ (heap_set h)
    exact ⟨cs', h1, by rw [h2, Array.size_setIfInBounds]⟩
theorem heap_setCells_all {w : World} {b : Nat} {old : Array Value} {t : TypeId} (vs : List Value) (hb : w.heap[b]? = some (.cells old t (0, 0))) (hs : old.size = vs.length) : (w.setCells b 0 vs).heap[b]? = some (.cells vs.toArray t (0, 0)) := by
  obtain ⟨cs', h1, h2⟩ := heap_setCells_same (t := t) vs 0 w old hb
  rw [h1]
  have hr := World.rangeAt_setCells_same w b 0 vs (by rw [← hs]; exact there_block hb)
  have : cs' = vs.toArray := by
    apply Array.ext_getElem?
    intro j
    rcases Nat.lt_or_ge j vs.length with hj | hj
    · have h3 := hr j vs[j] (List.getElem?_eq_getElem hj)
      rw [Lib.cell_of_heap h1, Nat.zero_add] at h3
      rw [h3]
      simp [hj]
    · rw [Array.getElem?_eq_none (by omega), Array.getElem?_eq_none (by simpa using hj)]
  rw [this]
/-- A block, written all over, in a plain region. -/
theorem wpList_store_row {P : Program} {ops : Array Oper} {rest : List Oper} {op : Oper} {a : Act} {w : World} {Q : Exit → Act → World → Prop} (hgd : op.guard = none) (ty : TypeId) (x y : Operand) (ho : op.op = .store ty x y)
    (b : Nat) {cells old : List Value} {t : TypeId} (hx : a.eval x = .pointer (some ⟨b, 0, none⟩)) (hy : a.eval y = .agg cells.toArray) (hb : w.heap[b]? = some (.cells old.toArray t (0, 0))) (hs : old.length = cells.length)
    (hi : (P.info? ty).map (·.size) = some cells.length) (h1 : cells.all (·.oneCell') = true)
    (h : ∀ W', Below b w W' → (∀ g, g ≠ b → W'.heap[g]? = w.heap[g]?) → W'.heap.size = w.heap.size → W'.heap[b]? = some (.cells cells.toArray t (0, 0)) → wpList P ops Q rest (a.put op.dst undef) W') : wpList P ops Q (op :: rest) a w := by
  refine wpList_store_mid hgd ty x y ho b 0 cells.toArray hx hy ?_ (by simpa using hi) ?_ ?_
  · have := there_block hb
    rw [List.size_toArray] at this ⊢
    rwa [← hs]
  · exact all_oneCell_toArray fun v hv => List.all_eq_true.1 h1 v hv
  · exact h _ (below_setCells _ _ (Nat.le_refl _) _ _ _) (fun g hg => heap_setCells _ _ hg _ _ _) (size_setCells _ _ _ _) (heap_setCells_all _ hb (by rw [List.size_toArray]; exact hs))
/-- The same of one operation, in a region that draws. -/
theorem wp_store_row {P : Program} {op : Oper} {a : Act} {w : World} {K : Act → World → Prop} {Q : Exit → Act → World → Prop} (ty : TypeId) (x y : Operand) (ho : op.op = .store ty x y)
    (b : Nat) {cells old : List Value} {t : TypeId} (hx : a.eval x = .pointer (some ⟨b, 0, none⟩)) (hy : a.eval y = .agg cells.toArray) (hb : w.heap[b]? = some (.cells old.toArray t (0, 0))) (hs : old.length = cells.length)
    (hi : (P.info? ty).map (·.size) = some cells.length) (h1 : cells.all (·.oneCell') = true)
    (h : ∀ W', Below b w W' → (∀ g, g ≠ b → W'.heap[g]? = w.heap[g]?) → W'.heap.size = w.heap.size → W'.heap[b]? = some (.cells cells.toArray t (0, 0)) → K (a.put op.dst undef) W') : op.wp P a w K Q := by
  refine wp_store_mid ty x y ho b 0 cells.toArray hx hy ?_ (by simpa using hi) ?_ ?_
  · have := there_block hb
    rw [List.size_toArray] at this ⊢
    rwa [← hs]
  · exact all_oneCell_toArray fun v hv => List.all_eq_true.1 h1 v hv
  · exact h _ (below_setCells _ _ (Nat.le_refl _) _ _ _) (fun g hg => heap_setCells _ _ hg _ _ _) (size_setCells _ _ _ _) (heap_setCells_all _ hb (by rw [List.size_toArray]; exact hs))
/-- A whole block, read, in the head of a region whose head only reads. -/
theorem wpStill_load_row {P : Program} {ops : Array Oper} {rest : List Oper} {o : Oper} {a : Act} {w : World} {Q : Act → Prop} (hgd : o.guard = none) (ty : TypeId) (x : Operand) (ho : o.op = .load ty x)
    (g : Nat) (hx : a.eval x = .pointer (some ⟨g, 0, none⟩)) (t : TypeId) (cs : Array Value) (fr : Nat × Nat) (d : TypeDesc) (hg : w.heap[g]? = some (.cells cs t fr))
    (hu : P.underlying ty = some d) (hd : (match d with | .struct _ | .array _ _ => true | _ => false) = true) (hi : (P.info? ty).map (·.size) = some cs.size)
    (h : wpStill P ops w Q rest (a.put o.dst (.agg cs))) : wpStill P ops w Q (o :: rest) a := by
  refine wpStill_step fun K hK => ?_
  rw [if_pos (by simp [Region.wanted, hgd])]
  unfold Oper.still execOp
  simp only [ho, hx, Instr.loadAt, Instr.sureAddr, Sem.run_bind, Sem.run_pure, Result.andThen_ok, run_loadVar_row w g t ty cs fr d hg hu hd hi]
  exact ⟨rfl, hK _ h⟩
/-- A whole block, read, under an S that gives it: it may be taken first. -/
theorem yieldsIf_load_row {P : Program} {ops : Array Oper} {S : World → Prop} {op : Oper} {a : Act} (hw : Region.wanted op (yielded ops a.tmps) = true) (ty : TypeId) (x : Operand) (ho : op.op = .load ty x)
    (b : Nat) (hx : a.eval x = .pointer (some ⟨b, 0, none⟩)) (t : TypeId) (cs : Array Value) (fr : Nat × Nat) (d : TypeDesc) (hS : ∀ w, S w → w.heap[b]? = some (.cells cs t fr))
    (hu : P.underlying ty = some d) (hd : (match d with | .struct _ | .array _ _ => true | _ => false) = true) (hi : (P.info? ty).map (·.size) = some cs.size) : YieldsIf P ops S op (.agg cs) a :=
  .inl ⟨hw, fun w hw' => by
    unfold execOp
    simp only [ho, hx, Instr.loadAt, Instr.sureAddr, Sem.run_bind, Sem.run_pure, Result.andThen_ok, run_loadVar_row w b t ty cs fr d (hS w hw') hu hd hi]⟩
/-- Two structs and a slot as results. -/
theorem results_cct {P : Program} {fn : Func} {p q u : Tmp} {ty ty2 : TypeId} (h : fn.results = #[.cell p ty, .cell q ty2, .tmp u]) (tmps : Array Value) (w : World) (g g2 : Nat) (t t2 : TypeId) (cs cs2 : Array Value) (fr fr2 : Nat × Nat) (d d2 : TypeDesc)
    (hp : tmps.getD p undef = .pointer (some ⟨g, 0, none⟩)) (hg : w.heap[g]? = some (.cells cs t fr)) (hq : tmps.getD q undef = .pointer (some ⟨g2, 0, none⟩)) (hg2 : w.heap[g2]? = some (.cells cs2 t2 fr2))
    (hu : P.underlying ty = some d) (hd : (match d with | .struct _ | .array _ _ => true | _ => false) = true) (hi : (P.info? ty).map (·.size) = some cs.size)
    (hu2 : P.underlying ty2 = some d2) (hd2 : (match d2 with | .struct _ | .array _ _ => true | _ => false) = true) (hi2 : (P.info? ty2).map (·.size) = some cs2.size) :
    (results fn tmps).run P w = .ok (.tuple #[.agg cs, .agg cs2, tmps.getD u undef]) w := by
  have hp' : tmps[p]?.getD undef = .pointer (some ⟨g, 0, none⟩) := by simpa using hp
  have hq' : tmps[q]?.getD undef = .pointer (some ⟨g2, 0, none⟩) := by simpa using hq
  simp [results, h, hp', hq', asAddr, run_loadVar_row w g t ty cs fr d hg hu hd hi, run_loadVar_row w g2 t2 ty2 cs2 fr2 d2 hg2 hu2 hd2 hi2, Result.andThen]
theorem old_no {W : World} : Old (fun _ => False) W := fun _ h => h.elim
/-- Bytes as cells. -/
def byteC (b : List UInt8) : List Value := b.map fun c => .int .u8 (c.toNat : Int)
theorem byteC_len (b : List UInt8) : (byteC b).length = b.length := List.length_map ..
theorem byteC_app (a b : List UInt8) : byteC (a ++ b) = byteC a ++ byteC b := List.map_append
theorem byteC_take (a : List UInt8) (k : Nat) : byteC (a.take k) = (byteC a).take k := List.map_take ..
theorem byteC_drop (a : List UInt8) (k : Nat) : byteC (a.drop k) = (byteC a).drop k := List.map_drop ..
theorem byteC_one (b : List UInt8) : ∀ v ∈ byteC b, v.oneCell' = true := by
  intro v hv
  simp only [byteC, List.mem_map] at hv
  obtain ⟨c, _, rfl⟩ := hv
  rfl
theorem byteC_zeros (k : Nat) : byteC (List.replicate k 0) = List.replicate k (.int .u8 0) := List.map_replicate ..
/-- A slice that reads as these bytes. -/
def BytesV (b : List UInt8) (v : Value) (W : World) : Prop := Rd W.heap.size 1 v b.length (byteC b) W
theorem bytesV_none (W : World) : BytesV [] (.slice none 0 0) W := Rd.none0 _ _ _
theorem bytesV_keep {b : List UInt8} {v : Value} {W W' : World} (h : BytesV b v W) (hb : Below W.heap.size W W') : BytesV b v W' := (Rd.below h hb).mono hb.size
theorem bytesV_row {b : List UInt8} {g : Nat} {cs : List Value} {cap : Nat} {t : TypeId} {fr : Nat × Nat} {W : World} (h : W.heap[g]? = some (.cells (byteC b ++ cs).toArray t fr)) (hc : b.length ≤ cap) (hm : cap ≤ maxLen) : BytesV b (.slice (some ⟨g, 0, none⟩) b.length cap) W := by
  refine ⟨_, cap, rfl, hc, hm, (fun e => by cases e), by rw [byteC_len, Nat.mul_one], fun _ => ⟨g, 0, rfl, (Array.getElem?_eq_some_iff.1 h).1, fun j u hu => ?_⟩⟩
  have hj : j < (byteC b).length := by
    rcases Nat.lt_or_ge j (byteC b).length with h1 | h1
    · exact h1
    · rw [List.getElem?_eq_none h1] at hu; cases hu
  rw [Nat.zero_add]
  simp only [World.cell?, h, List.getElem?_toArray]
  rw [List.getElem?_append_left hj]
  exact hu
theorem push_bs (l : List UInt8) (c : UInt8) : (bs l).push c = bs (l ++ [c]) := by apply ByteArray.ext; simp [ByteArray.push]
theorem fold_bs (b : List UInt8) : ∀ p : List UInt8, (b.map fun c => (c.toNat : Int)).foldl (fun r n => r.push (UInt8.ofNat n.toNat)) (bs p) = bs (p ++ b) := by
  induction b with
  | nil => intro p; simp
  | cons c b ih =>
    intro p
    simp only [List.map_cons, List.foldl_cons]
    rw [show UInt8.ofNat ((c.toNat : Int)).toNat = c by simp, push_bs, ih]
    simp
/-- Bytes turned to a text. -/
theorem run_str {P : Program} {b : List UInt8} {v : Value} {W : World} (src dst e : TypeId) (hs : P.underlying src = some (.slice e)) (he : P.underlying e = some (.int .u8)) (hd : P.underlying dst = some .string) (h : BytesV b v W) :
    (convert src dst v).run P W = .ok (.string (bs b)) W := by
  obtain ⟨ao, cap, rfl, hc, hm, hz, hl, h⟩ := h
  rw [run_convert_bytes_string W src dst e ao b.length cap hs he hd]
  have hE : bs ([] ++ b) = bs b := by rw [List.nil_append]
  cases ao with
  | none =>
    have : b = [] := List.eq_nil_of_length_eq_zero (by have := hz rfl; omega)
    subst this
    rfl
  | some a =>
    have hload : (loadCells a b.length).run P W = .ok ((b.map fun c => (c.toNat : Int)).map (Value.int .u8)).toArray W := by
      have e1 : (b.map fun c => (c.toNat : Int)).map (Value.int .u8) = byteC b := by rw [List.map_map]; rfl
      rw [e1]
      have := run_loadCells_list (P := P) W a (byteC b) (fun j u hu => by
        have hpos : 0 < b.length := by
          rcases Nat.eq_zero_or_pos b.length with h0 | h0
          · rw [List.eq_nil_of_length_eq_zero h0] at hu; cases hu
          · exact h0
        obtain ⟨g, off, ha, _, hr⟩ := h hpos
        injection ha with ha
        subst ha
        have e2 : (⟨g, off, none⟩ : Addr).add j = ⟨g, off + j, none⟩ := by unfold Addr.add; split <;> simp_all
        rw [e2]
        exact hr j u hu)
      rw [byteC_len] at this
      exact this
    rw [run_bytesToString W a b.length cap _ hload]
    rw [show ByteArray.empty = bs [] from rfl, fold_bs, hE]
/-- copy of a text into a row: as many bytes as there is room for. -/
theorem run_copy_text {P : Program} (w : World) (dT sT ty elem : TypeId) (g o dLen dCap n : Nat) (s : List UInt8) (cur : Array Value) (t : TypeId)
    (hu : P.underlying dT = some (.slice elem)) (hz : (P.info? elem).map (·.size) = some 1) (hg : w.heap[g]? = some (.cells cur t (0, 0))) (hn : Nat.min s.length dLen = n) (hfit : o + n ≤ cur.size) :
    (Builtin.copy_ #[dT, sT] ty #[.slice (some ⟨g, o, none⟩) dLen dCap, .string (bs s)]).run P w =
      .ok (goInt n) (w.setRow g (cur.toList.take o ++ byteC (s.take n) ++ cur.toList.drop (o + n)).toArray) := by
  have hnl : n ≤ s.length := by rw [← hn]; exact Nat.min_le_left _ _
  have hlen : (byteC (s.take n)).length = n := by rw [byteC_len, List.length_take]; omega
  have hst := run_storeCells_at P g o t (byteC (s.take n)) 0 cur w hg (by rw [hlen]; simpa using hfit) (byteC_one _)
  rw [hlen] at hst
  simp only [Nat.add_zero] at hst
  have htk : List.take n (List.map (fun b : UInt8 => Value.int IntKind.u8 (b.toNat : Int)) s) = byteC (s.take n) := by rw [byteC_take]; rfl
  have hsz : (bs s).size.min dLen = n := by rw [bs_size]; exact hn
  cases hq : P.info? elem with
  | none => simp [hq] at hz
  | some i =>
    simp [Builtin.copy_, run_underlying hu, Builtin.lenOf, Builtin.firstCells, sizeOf, typeInfo, hq, hsz]
    first
      | (rw [htk, hst]; simp [Result.andThen])
      | (rw [← byteC_take, hst]; simp [Result.andThen])
/-- The first bytes, or all, and bytes 0. -/
def sizedD (d : List UInt8) (k : Nat) : List UInt8 := d.take k ++ List.replicate (k - d.length) 0
theorem sized_len (d : List UInt8) (k : Nat) : (sizedD d k).length = k := by
  unfold sizedD
  rw [List.length_append, List.length_take, List.length_replicate]
  omega
theorem made_bytes (k : Nat) : (madeCells #[Value.int .u8 0] k).toList = List.replicate k (.int .u8 0) := by
  apply List.ext_getElem
  · simp [madeCells]
  · intro i h1 h2
    simp [madeCells, Nat.mod_one]
end Go.Proofs.YtedcffkmfopalaaDoor
