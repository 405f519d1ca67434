/-
  Nodes in memory: eight cells each, the last a slice of entries.
-/
import Derived.Test.YthpcldmhamjnbaaLay5
import Derived.Test.YthpcldmhamjnbaaDskPlain
namespace Go.Proofs.Ythpcldmhamjnbaa
open Go.RowKit Go.Shelf

/-- A node and where its names lie. -/
abbrev NodeM := NodeL × Value
abbrev nval (n : NodeL) (v : Value) : Value := .agg #[.int .i64 n.kind, .int .i64 n.mode, .int .i64 n.owner, .int .i64 n.links, .int .i64 n.opn, .int .i64 n.up, .string (bs n.data), v]
def ncells (m : NodeM) : List Value := [.int .i64 m.1.kind, .int .i64 m.1.mode, .int .i64 m.1.owner, .int .i64 m.1.links, .int .i64 m.1.opn, .int .i64 m.1.up, .string (bs m.1.data), m.2]
def cellsN (ms : List NodeM) : List Value := ms.flatMap ncells
theorem cellsN_len (ms : List NodeM) : (cellsN ms).length = ms.length * 8 := by
  induction ms with
  | nil => rfl
  | cons m ms ih =>
    have : cellsN (m :: ms) = ncells m ++ cellsN ms := by simp [cellsN]
    rw [this, List.length_append, ih, List.length_cons]
    show 8 + _ = _
    omega
theorem cellsN_app (a b : List NodeM) : cellsN (a ++ b) = cellsN a ++ cellsN b := by simp [cellsN]
theorem cellsN_at (ms : List NodeM) (k : Nat) (h : k < ms.length) (j : Nat) (hj : j < 8) : (cellsN ms)[k * 8 + j]? = (ncells ms[k])[j]? := by
  induction ms generalizing k with
  | nil => simp at h
  | cons m ms ih =>
    have e : cellsN (m :: ms) = ncells m ++ cellsN ms := by simp [cellsN]
    have l8 : (ncells m).length = 8 := rfl
    rw [e]
    cases k with
    | zero =>
      rw [List.getElem?_append_left (by omega)]
      simp
    | succ k =>
      rw [List.getElem?_append_right (by omega), l8, show (k + 1) * 8 + j - 8 = k * 8 + j by omega]
      exact ih k (by simpa using h)
theorem cellsN_set (ms : List NodeM) (k : Nat) (h : k < ms.length) (m : NodeM) (j : Nat) : (cellsN (ms.set k m))[j]? = if k * 8 ≤ j ∧ j < k * 8 + 8 then (ncells m)[j - k * 8]? else (cellsN ms)[j]? := by
  rcases Nat.lt_or_ge j (ms.length * 8) with hj | hj
  · obtain ⟨q, r, rfl, hr⟩ : ∃ q r, j = q * 8 + r ∧ r < 8 := ⟨j / 8, j % 8, by omega, by omega⟩
    have hq : q < ms.length := by omega
    rw [cellsN_at _ q (by simpa using hq) r hr]
    by_cases e : q = k
    · subst e
      rw [if_pos (by omega), show q * 8 + r - q * 8 = r by omega, List.getElem_set_self]
    · rw [if_neg (by omega), cellsN_at ms q hq r hr, List.getElem_set_ne (Ne.symm e)]
  · rw [List.getElem?_eq_none (by rw [cellsN_len, List.length_set]; exact hj), if_neg (by omega), List.getElem?_eq_none (by rw [cellsN_len]; exact hj)]
/-- Values that are one cell each: no slice is an aggregate. -/
def OneM (ms : List NodeM) : Prop := ∀ m ∈ ms, m.2.oneCell' = true
theorem cellsN_one {ms : List NodeM} (h : OneM ms) : ∀ u ∈ cellsN ms, u.oneCell' = true := by
  intro u hu
  obtain ⟨m, hm, hu⟩ := List.mem_flatMap.1 hu
  simp only [ncells, List.mem_cons, List.not_mem_nil, or_false] at hu
  rcases hu with rfl | rfl | rfl | rfl | rfl | rfl | rfl | rfl
  all_goals first | rfl | exact h m hm

theorem own_one {W : World} {base : Nat} {e : TypeId} {size n : Nat} {v : Value} {xs : List Value} (h : W.ownsRow base e size v n xs) : v.oneCell' = true := by
  obtain ⟨ao, cap, rfl⟩ := own_form h
  rfl
theorem ncells_one {W : World} {base : Nat} {e : TypeId} {size k : Nat} {n : NodeL} {v : Value} {xs : List Value} (h : W.ownsRow base e size v k xs) : ∀ u ∈ ncells (n, v), u.oneCell' = true := by
  intro u hu
  simp only [ncells, List.mem_cons, List.not_mem_nil, or_false] at hu
  rcases hu with rfl | rfl | rfl | rfl | rfl | rfl | rfl | rfl
  all_goals first | rfl | exact own_one h
/-- The names of a node, read. -/
def RdNm (B : Nat) (m : NodeM) (W : World) : Prop := Rd B 2 m.2 m.1.names.length (ents m.1.names) W
/-- A slice of nodes, read: the nodes, and the names of each. -/
def RdM (B : Nat) (v : Value) (ms : List NodeM) (W : World) : Prop := Rd B 8 v ms.length (cellsN ms) W ∧ ∀ m ∈ ms, RdNm B m W
theorem RdM.below {B : Nat} {v : Value} {ms : List NodeM} {W W' : World} (h : RdM B v ms W) (hb : Below B W W') : RdM B v ms W' := ⟨h.1.below hb, fun m hm => Rd.below (h.2 m hm) hb⟩
theorem RdM.mono {B B' : Nat} {v : Value} {ms : List NodeM} {W : World} (h : RdM B v ms W) (hb : B ≤ B') : RdM B' v ms W := ⟨h.1.mono hb, fun m hm => Rd.mono (h.2 m hm) hb⟩
theorem ret_tr {w w1 w2 : World} (h1 : Below w.heap.size w w1) (h2 : Below w1.heap.size w1 w2) : Below w.heap.size w w2 := h1.trans (h2.mono h1.size)
theorem bel_al {w wr w1 : World} {o : Obj} (h : Below w.heap.size w wr) (g : Below (wr.alloc o).heap.size (wr.alloc o) w1) : Below w.heap.size w w1 :=
  (h.alloc h.size o).trans (g.mono (h.alloc h.size o).size)
/-- What is read of blocks that lay is read in any later world. -/
theorem rd_keep {size n : Nat} {v : Value} {xs : List Value} {W W' : World} (h : Rd W.heap.size size v n xs W) (hb : Below W.heap.size W W') : Rd W'.heap.size size v n xs W' := (h.below hb).mono hb.size
theorem rdm_keep {v : Value} {ms : List NodeM} {W W' : World} (h : RdM W.heap.size v ms W) (hb : Below W.heap.size W W') : RdM W'.heap.size v ms W' := (h.below hb).mono hb.size
theorem rdnm_keep {m : NodeM} {W W' : World} (h : RdNm W.heap.size m W) (hb : Below W.heap.size W W') : RdNm W'.heap.size m W' := (Rd.below h hb).mono hb.size
theorem rd_slice {B size n : Nat} {v : Value} {xs : List Value} {W : World} (h : Rd B size v n xs W) : v.oneCell' = true := by
  obtain ⟨ao, cap, rfl, _⟩ := h
  rfl
theorem RdM.one {B : Nat} {v : Value} {ms : List NodeM} {W : World} (h : RdM B v ms W) : OneM ms := fun m hm => rd_slice (h.2 m hm)
/-- The eight cells of node k. -/
theorem eight {b off : Nat} {ms : List NodeM} {W : World} (hc : ∀ j u, (cellsN ms)[j]? = some u → W.cell? ⟨b, off + j, none⟩ = some u) (k : Nat) (h : k < ms.length) :
    W.cell? ⟨b, off + k * 8, none⟩ = some (.int .i64 ms[k].1.kind) ∧ W.cell? ⟨b, off + k * 8 + 1, none⟩ = some (.int .i64 ms[k].1.mode) ∧ W.cell? ⟨b, off + k * 8 + 2, none⟩ = some (.int .i64 ms[k].1.owner) ∧ W.cell? ⟨b, off + k * 8 + 3, none⟩ = some (.int .i64 ms[k].1.links)
    ∧ W.cell? ⟨b, off + k * 8 + 4, none⟩ = some (.int .i64 ms[k].1.opn) ∧ W.cell? ⟨b, off + k * 8 + 5, none⟩ = some (.int .i64 ms[k].1.up) ∧ W.cell? ⟨b, off + k * 8 + 6, none⟩ = some (.string (bs ms[k].1.data)) ∧ W.cell? ⟨b, off + k * 8 + 7, none⟩ = some ms[k].2 := by
  refine ⟨hc _ _ (cellsN_at ms k h 0 (by decide)), ?_, ?_, ?_, ?_, ?_, ?_, ?_⟩
  all_goals (rw [Nat.add_assoc]; exact hc _ _ (cellsN_at ms k h _ (by decide)))
theorem rdm_form {B : Nat} {v : Value} {ms : List NodeM} {W : World} (h : RdM B v ms W) : ∃ ao cap, v = .slice ao ms.length cap ∧ ms.length ≤ cap ∧ cap ≤ maxLen := h.1.form
/-- Nodes, without where their names lie. -/
def pl (ms : List NodeM) : List NodeL := ms.map (·.1)
theorem pl_len (ms : List NodeM) : (pl ms).length = ms.length := by simp [pl]
theorem pl_at (ms : List NodeM) (k : Nat) (h : k < ms.length) : (pl ms)[k]'(by rw [pl_len]; exact h) = ms[k].1 := by simp [pl]
theorem pl_take (ms : List NodeM) (k : Nat) : pl (ms.take k) = (pl ms).take k := by simp [pl, List.map_take]
/-- Node k, read. -/
theorem node_at {B : Nat} {ao : Option Addr} {cap : Nat} {ms : List NodeM} {W : World} (h : RdM B (.slice ao ms.length cap) ms W) (k : Nat) (hk : k < ms.length) :
    ∃ (b off : Nat) (n : NodeL) (aon : Option Addr) (capn : Nat), ao = some ⟨b, off, none⟩ ∧ b < B ∧ (pl ms)[k]'(by rw [pl_len]; exact hk) = n ∧ ms[k] = (n, .slice aon n.names.length capn) ∧ Rd B 2 (.slice aon n.names.length capn) n.names.length (ents n.names) W
      ∧ W.cell? ⟨b, off + k * 8, none⟩ = some (.int .i64 n.kind) ∧ W.cell? ⟨b, off + k * 8 + 1, none⟩ = some (.int .i64 n.mode) ∧ W.cell? ⟨b, off + k * 8 + 2, none⟩ = some (.int .i64 n.owner) ∧ W.cell? ⟨b, off + k * 8 + 3, none⟩ = some (.int .i64 n.links)
      ∧ W.cell? ⟨b, off + k * 8 + 4, none⟩ = some (.int .i64 n.opn) ∧ W.cell? ⟨b, off + k * 8 + 5, none⟩ = some (.int .i64 n.up) ∧ W.cell? ⟨b, off + k * 8 + 6, none⟩ = some (.string (bs n.data)) ∧ W.cell? ⟨b, off + k * 8 + 7, none⟩ = some (.slice aon n.names.length capn) := by
  obtain ⟨b, off, cap', e, _, _, hb, _, hc⟩ := h.1.at (by omega)
  injection e with e1 _ e2
  subst e1
  subst e2
  have h8 := eight hc k hk
  have hr : Rd B 2 ms[k].2 ms[k].1.names.length (ents ms[k].1.names) W := h.2 _ (List.getElem_mem hk)
  obtain ⟨aon, capn, e, _, _⟩ := hr.form
  refine ⟨b, off, ms[k].1, aon, capn, rfl, hb, pl_at ms k hk, Prod.ext rfl e, by rw [← e]; exact hr, ?_⟩
  rw [← e]
  exact h8
/-- A slice of nodes that reads as these, wherever their names lie. -/
def GivesN (l : List NodeL) (v : Value) (W : World) : Prop := ∃ ms, pl ms = l ∧ RdM W.heap.size v ms W
theorem GivesN.keep {l : List NodeL} {v : Value} {W W' : World} (h : GivesN l v W) (hb : Below W.heap.size W W') : GivesN l v W' := by
  obtain ⟨ms, h1, h2⟩ := h
  exact ⟨ms, h1, rdm_keep h2 hb⟩
theorem heap_set {W : World} {b : Nat} {t : TypeId} {cs : Array Value} {i : Nat} {u : Value} (h : W.heap[b]? = some (.cells cs t (0, 0))) : (W.setCell ⟨b, i, none⟩ u).heap[b]? = some (.cells (cs.setIfInBounds i u) t (0, 0)) := by
  simp [World.setCell, Array.getElem?_modify, h]
/-- A block, written all over. -/
theorem sets8 {P : World → Prop} {W : World} {b : Nat} {u0 u1 u2 u3 u4 u5 u6 u7 r0 r1 r2 r3 r4 r5 r6 r7 : Value} {t : TypeId} (hb : W.heap[b]? = some (.cells #[r0, r1, r2, r3, r4, r5, r6, r7] t (0, 0)))
    (h : ∀ W', Below b W W' → (∀ g, g ≠ b → W'.heap[g]? = W.heap[g]?) → W'.heap.size = W.heap.size → W'.heap[b]? = some (.cells #[u0, u1, u2, u3, u4, u5, u6, u7] t (0, 0)) → P W') : P ((((((((W.setCell ⟨b, 0, none⟩ u0).setCell ⟨b, 1, none⟩ u1).setCell ⟨b, 2, none⟩ u2).setCell ⟨b, 3, none⟩ u3).setCell ⟨b, 4, none⟩ u4).setCell ⟨b, 5, none⟩ u5).setCell ⟨b, 6, none⟩ u6).setCell ⟨b, 7, none⟩ u7) := by
  refine h _ ?_ (fun g hg => ?_) (by simp [World.setCell]) ?_
  · exact (((((((((Below.refl b W).setCell (p := ⟨b, 0, none⟩) (Nat.le_refl _) u0).setCell (p := ⟨b, 1, none⟩) (Nat.le_refl _) u1).setCell (p := ⟨b, 2, none⟩) (Nat.le_refl _) u2).setCell (p := ⟨b, 3, none⟩) (Nat.le_refl _) u3).setCell (p := ⟨b, 4, none⟩) (Nat.le_refl _) u4).setCell (p := ⟨b, 5, none⟩) (Nat.le_refl _) u5).setCell (p := ⟨b, 6, none⟩) (Nat.le_refl _) u6).setCell (p := ⟨b, 7, none⟩) (Nat.le_refl _) u7)
  · exact (Below.heap_setCell _ _ _ g hg).trans ((Below.heap_setCell _ _ _ g hg).trans ((Below.heap_setCell _ _ _ g hg).trans ((Below.heap_setCell _ _ _ g hg).trans ((Below.heap_setCell _ _ _ g hg).trans ((Below.heap_setCell _ _ _ g hg).trans ((Below.heap_setCell _ _ _ g hg).trans (Below.heap_setCell _ _ _ g hg)))))))
  · refine (heap_set (heap_set (heap_set (heap_set (heap_set (heap_set (heap_set (heap_set (hb))))))))).trans ?_
    simp
theorem sets3 {P : World → Prop} {W : World} {b : Nat} {u0 u1 u2 r0 r1 r2 : Value} {t : TypeId} (hb : W.heap[b]? = some (.cells #[r0, r1, r2] t (0, 0)))
    (h : ∀ W', Below b W W' → (∀ g, g ≠ b → W'.heap[g]? = W.heap[g]?) → W'.heap.size = W.heap.size → W'.heap[b]? = some (.cells #[u0, u1, u2] t (0, 0)) → P W') : P (((W.setCell ⟨b, 0, none⟩ u0).setCell ⟨b, 1, none⟩ u1).setCell ⟨b, 2, none⟩ u2) := by
  refine h _ ?_ (fun g hg => ?_) (by simp [World.setCell]) ?_
  · exact ((((Below.refl b W).setCell (p := ⟨b, 0, none⟩) (Nat.le_refl _) u0).setCell (p := ⟨b, 1, none⟩) (Nat.le_refl _) u1).setCell (p := ⟨b, 2, none⟩) (Nat.le_refl _) u2)
  · exact (Below.heap_setCell _ _ _ g hg).trans ((Below.heap_setCell _ _ _ g hg).trans (Below.heap_setCell _ _ _ g hg))
  · refine (heap_set (heap_set (heap_set (hb)))).trans ?_
    simp
/-- The cells of a block of eight. -/
theorem cells8 {W : World} {b : Nat} {u0 u1 u2 u3 u4 u5 u6 u7 : Value} {t : TypeId} {f : Nat × Nat} (h : W.heap[b]? = some (.cells #[u0, u1, u2, u3, u4, u5, u6, u7] t f)) :
    W.cell? ⟨b, 0, none⟩ = some u0 ∧ W.cell? ⟨b, 1, none⟩ = some u1 ∧ W.cell? ⟨b, 2, none⟩ = some u2 ∧ W.cell? ⟨b, 3, none⟩ = some u3 ∧ W.cell? ⟨b, 4, none⟩ = some u4 ∧ W.cell? ⟨b, 5, none⟩ = some u5 ∧ W.cell? ⟨b, 6, none⟩ = some u6 ∧ W.cell? ⟨b, 7, none⟩ = some u7 := by
  refine ⟨?_, ?_, ?_, ?_, ?_, ?_, ?_, ?_⟩ <;> (rw [Lib.cell_of_heap h]; rfl)
theorem cells3 {W : World} {b : Nat} {u0 u1 u2 : Value} {t : TypeId} {f : Nat × Nat} (h : W.heap[b]? = some (.cells #[u0, u1, u2] t f)) :
    W.cell? ⟨b, 0, none⟩ = some u0 ∧ W.cell? ⟨b, 1, none⟩ = some u1 ∧ W.cell? ⟨b, 2, none⟩ = some u2 := by
  refine ⟨?_, ?_, ?_⟩ <;> (rw [Lib.cell_of_heap h]; rfl)
/-- New blocks, by name: what holds at any world that has them holds at this one. -/
theorem fresh1 {P : World → Prop} {w : World} {A : Obj} (h : ∀ W, Below w.heap.size w W → W.heap[w.heap.size]? = some A → W.heap.size = w.heap.size + 1 → P W) : P (w.alloc A) :=
  h _ ((Below.refl _ w).alloc (Nat.le_refl _) _) (heap_alloc_new w A) (by simp)
theorem fresh2 {P : World → Prop} {w : World} {A B : Obj} (h : ∀ W, Below w.heap.size w W → W.heap[w.heap.size]? = some A → W.heap[w.heap.size + 1]? = some B → W.heap.size = w.heap.size + 2 → P W) : P ((w.alloc A).alloc B) :=
  fresh1 fun _ b1 h1 s1 => h _ (((Below.refl _ w).alloc (Nat.le_refl _) A).trans (b1.mono (by simp))) ((b1.block _ (by simp)).trans (heap_alloc_new w A)) (by simpa using h1) (by simpa using s1)
theorem fresh3 {P : World → Prop} {w : World} {A B C : Obj} (h : ∀ W, Below w.heap.size w W → W.heap[w.heap.size]? = some A → W.heap[w.heap.size + 1]? = some B → W.heap[w.heap.size + 2]? = some C → W.heap.size = w.heap.size + 3 → P W) : P (((w.alloc A).alloc B).alloc C) :=
  fresh1 fun _ b1 h1 s1 => h _ ((((Below.refl _ w).alloc (Nat.le_refl _) A).alloc (by simp) B).trans (b1.mono (by simp; omega))) ((b1.block _ (by simp; omega)).trans (((Below.refl _ _).alloc (Nat.le_refl _) B).block _ (by simp) |>.trans (heap_alloc_new w A)))
    ((b1.block _ (by simp)).trans (by have := heap_alloc_new (w.alloc A) B; simpa using this)) (by simpa using h1) (by simpa using s1)
end Go.Proofs.Ythpcldmhamjnbaa
