/-
  Things in memory: whatever is read out of blocks and stays while others are written; a call's state: blocks of its own, and things.
-/
import Derived.Test.YtfcjmcenaankfaaArm
namespace Go.Proofs.Ytfcjmcenaankfaa
open Go.RowKit Go.Shelf

/-- What is read in a world, out of old blocks, none of them of X. -/
abbrev Thing := (Nat → Prop) → World → Prop
/-- It stays in greater worlds, and where a block of X is written. -/
structure Firm (P : Thing) : Prop where
  add : ∀ {X Y : Nat → Prop} {W W' : World}, P X W → Below W.heap.size W W' → (∀ g, Y g → X g ∨ W.heap.size ≤ g) → P Y W'
  other : ∀ {X : Nat → Prop} {b : Nat} {W W' : World}, P X W → X b → W'.heap.size = W.heap.size → (∀ g, g ≠ b → W'.heap[g]? = W.heap[g]?) → P X W'
section
variable {P Q : Thing} {X Y : Nat → Prop} {W W' : World}
theorem Firm.keep (f : Firm P) (h : P X W) (hb : Below W.heap.size W W') : P X W' := f.add h hb fun _ hg => .inl hg
theorem Firm.sub (f : Firm P) (h : P X W) (hs : ∀ g, Y g → X g) : P Y W := f.add h (Below.refl _ _) fun g hg => .inl (hs g hg)
theorem Firm.and (f : Firm P) (g : Firm Q) : Firm (fun X W => P X W ∧ Q X W) := ⟨fun h hb hY => ⟨f.add h.1 hb hY, g.add h.2 hb hY⟩, fun h hX hs hg => ⟨f.other h.1 hX hs hg, g.other h.2 hX hs hg⟩⟩
theorem Firm.ex {α : Type} {P : α → Thing} (f : ∀ a, Firm (P a)) : Firm (fun X W => ∃ a, P a X W) := ⟨fun h hb hY => h.imp fun a h => (f a).add h hb hY, fun h hX hs hg => h.imp fun a h => (f a).other h hX hs hg⟩
theorem Firm.all {α : Type} {P : α → Thing} {S : α → Prop} (f : ∀ a, Firm (P a)) : Firm (fun X W => ∀ a, S a → P a X W) := ⟨fun h hb hY a ha => (f a).add (h a ha) hb hY, fun h hX hs hg a ha => (f a).other (h a ha) hX hs hg⟩
theorem Firm.pure (p : Prop) : Firm (fun _ _ => p) := ⟨fun h _ _ => h, fun h _ _ _ => h⟩
end
/-- A slice, read. -/
def RdX (size : Nat) (v : Value) (n : Nat) (xs : List Value) : Thing := fun X W => Rd W.heap.size size v n xs W ∧ ∀ g, X g → Avoid g v
theorem RdX.firm (size : Nat) (v : Value) (n : Nat) (xs : List Value) : Firm (RdX size v n xs) :=
  ⟨fun h hb hY => ⟨rd_keep h.1 hb, fun g hg => (hY g hg).elim (h.2 g) fun h1 => rd_far h.1 h1⟩,
   fun {X b W W'} h hX hs hg => ⟨by rw [hs]; exact rd_other h.1 (h.2 b hX) hg, h.2⟩⟩
theorem RdX.none0 (size : Nat) (X : Nat → Prop) (W : World) : RdX size (.slice none 0 0) 0 [] X W := ⟨Rd.none0 _ _ _, fun g _ a n c e _ => by cases e⟩
theorem RdX.form {size n : Nat} {v : Value} {xs : List Value} {X : Nat → Prop} {W : World} (h : RdX size v n xs X W) : ∃ ao cap, v = .slice ao n cap := by
  obtain ⟨ao, cap, e, _, _⟩ := Rd.form h.1
  exact ⟨ao, cap, e⟩
/-- .. out of a row of the call's own, newer than B. -/
theorem RdX.own {base size n : Nat} {e : TypeId} {v : Value} {xs : List Value} {X : Nat → Prop} {W : World} (h : W.ownsRow base e size v n xs) (hX : ∀ g, X g → g < base) : RdX size v n xs X W :=
  ⟨Rd.own h (Nat.le_refl _), fun g hg => own_far h (hX g hg)⟩
theorem RdX.ofNo {size n : Nat} {v : Value} {xs : List Value} {W : World} (h : Rd W.heap.size size v n xs W) : RdX size v n xs (fun _ => False) W := ⟨h, fun _ hg => hg.elim⟩

/-- A call's state: worlds since w are greater, blocks of its own hold this, things read so. -/
structure Sf (X : Nat → Prop) (w : World) (B : List Bl) (G : List Thing) (W : World) : Prop where
  bel : Below w.heap.size w W
  old : Old X w
  blk : ∀ x ∈ B, W.heap[x.1]? = some (.cells x.2.1 x.2.2 (0, 0)) ∧ w.heap.size ≤ x.1
  nd : (B.map (·.1)).Nodup
  gv : ∀ P ∈ G, Firm P ∧ P (Xo X (B.map (·.1))) W
section
variable {X : Nat → Prop} {w W W' : World} {B : List Bl} {G : List Thing}
theorem Sf.lt (h : Sf X w B G W) {x : Bl} (hx : x ∈ B) : x.1 < W.heap.size := (Array.getElem?_eq_some_iff.1 (h.blk x hx).1).1
theorem Sf.start (hX : Old X w) (hG : ∀ P ∈ G, Firm P ∧ P X w) : Sf X w [] G w :=
  ⟨Below.refl _ _, hX, (fun _ h => by cases h), List.nodup_nil, fun P hP => ⟨(hG P hP).1, (hG P hP).1.sub (hG P hP).2 fun g hg => hg.elim id (fun h => by cases h)⟩⟩
theorem Sf.call (h : Sf X w B G W) (hb : Below W.heap.size W W') : Sf X w B G W' :=
  ⟨ret_tr h.bel hb, h.old, fun x hx => ⟨(hb.block _ (h.lt hx)).trans (h.blk x hx).1, (h.blk x hx).2⟩, h.nd, fun P hP => ⟨(h.gv P hP).1, (h.gv P hP).1.keep (h.gv P hP).2 hb⟩⟩
theorem Sf.oldX (h : Sf X w B G W) : Old (Xo X (B.map (·.1))) W := fun g hg => by
  rcases hg with hg | hg
  · exact Nat.lt_of_lt_of_le (h.old g hg) h.bel.size
  · obtain ⟨x, hx, rfl⟩ := List.mem_map.1 hg
    exact h.lt hx
theorem Sf.news (h : Sf X w B G W) (hb : Below W.heap.size W W') (C : List Bl) (hC : ∀ x ∈ C, W'.heap[x.1]? = some (.cells x.2.1 x.2.2 (0, 0)) ∧ W.heap.size ≤ x.1) (hn : (C.map (·.1)).Nodup) : Sf X w (B ++ C) G W' := by
  have hY : ∀ g, Xo X ((B ++ C).map (·.1)) g → Xo X (B.map (·.1)) g ∨ W.heap.size ≤ g := fun g hg => by
    rcases hg with hg | hg
    · exact .inl (.inl hg)
    · rw [List.map_append, List.mem_append] at hg
      rcases hg with hg | hg
      · exact .inl (.inr hg)
      · obtain ⟨x, hx, rfl⟩ := List.mem_map.1 hg
        exact .inr (hC x hx).2
  refine ⟨ret_tr h.bel hb, h.old, fun x hx => ?_, ?_, fun P hP => ⟨(h.gv P hP).1, (h.gv P hP).1.add (h.gv P hP).2 hb hY⟩⟩
  · rcases List.mem_append.1 hx with hx | hx
    · exact ⟨(hb.block _ (h.lt hx)).trans (h.blk x hx).1, (h.blk x hx).2⟩
    · exact ⟨(hC x hx).1, Nat.le_trans h.bel.size (hC x hx).2⟩
  · rw [List.map_append, List.nodup_append]
    refine ⟨h.nd, hn, fun a ha b hb2 e => ?_⟩
    obtain ⟨x, hx, rfl⟩ := List.mem_map.1 ha
    obtain ⟨y, hy, rfl⟩ := List.mem_map.1 hb2
    have := h.lt hx
    have := (hC y hy).2
    omega
theorem Sf.new1 (h : Sf X w B G W) (hb : Below W.heap.size W W') {cs0 : Array Value} {t0 : TypeId} (h0 : W'.heap[W.heap.size]? = some (.cells cs0 t0 (0, 0))) : Sf X w (B ++ [(W.heap.size, cs0, t0)]) G W' :=
  h.news hb _ (fun x hx => by
    simp only [List.mem_cons, List.not_mem_nil, or_false] at hx
    rcases hx with rfl
    · exact ⟨h0, Nat.le_refl _⟩) (by simp)
theorem Sf.new2 (h : Sf X w B G W) (hb : Below W.heap.size W W') {cs0 cs1 : Array Value} {t0 t1 : TypeId} (h0 : W'.heap[W.heap.size]? = some (.cells cs0 t0 (0, 0))) (h1 : W'.heap[W.heap.size + 1]? = some (.cells cs1 t1 (0, 0))) : Sf X w (B ++ [(W.heap.size, cs0, t0), (W.heap.size + 1, cs1, t1)]) G W' :=
  h.news hb _ (fun x hx => by
    simp only [List.mem_cons, List.not_mem_nil, or_false] at hx
    rcases hx with rfl | rfl
    · exact ⟨h0, Nat.le_refl _⟩
    · exact ⟨h1, Nat.le_add_right _ _⟩) (by simp)
theorem Sf.new3 (h : Sf X w B G W) (hb : Below W.heap.size W W') {cs0 cs1 cs2 : Array Value} {t0 t1 t2 : TypeId} (h0 : W'.heap[W.heap.size]? = some (.cells cs0 t0 (0, 0))) (h1 : W'.heap[W.heap.size + 1]? = some (.cells cs1 t1 (0, 0))) (h2 : W'.heap[W.heap.size + 2]? = some (.cells cs2 t2 (0, 0))) : Sf X w (B ++ [(W.heap.size, cs0, t0), (W.heap.size + 1, cs1, t1), (W.heap.size + 2, cs2, t2)]) G W' :=
  h.news hb _ (fun x hx => by
    simp only [List.mem_cons, List.not_mem_nil, or_false] at hx
    rcases hx with rfl | rfl | rfl
    · exact ⟨h0, Nat.le_refl _⟩
    · exact ⟨h1, Nat.le_add_right _ _⟩
    · exact ⟨h2, Nat.le_add_right _ _⟩) (by simp)
theorem Sf.new4 (h : Sf X w B G W) (hb : Below W.heap.size W W') {cs0 cs1 cs2 cs3 : Array Value} {t0 t1 t2 t3 : TypeId} (h0 : W'.heap[W.heap.size]? = some (.cells cs0 t0 (0, 0))) (h1 : W'.heap[W.heap.size + 1]? = some (.cells cs1 t1 (0, 0))) (h2 : W'.heap[W.heap.size + 2]? = some (.cells cs2 t2 (0, 0))) (h3 : W'.heap[W.heap.size + 3]? = some (.cells cs3 t3 (0, 0))) : Sf X w (B ++ [(W.heap.size, cs0, t0), (W.heap.size + 1, cs1, t1), (W.heap.size + 2, cs2, t2), (W.heap.size + 3, cs3, t3)]) G W' :=
  h.news hb _ (fun x hx => by
    simp only [List.mem_cons, List.not_mem_nil, or_false] at hx
    rcases hx with rfl | rfl | rfl | rfl
    · exact ⟨h0, Nat.le_refl _⟩
    · exact ⟨h1, Nat.le_add_right _ _⟩
    · exact ⟨h2, Nat.le_add_right _ _⟩
    · exact ⟨h3, Nat.le_add_right _ _⟩) (by simp)
theorem Sf.new5 (h : Sf X w B G W) (hb : Below W.heap.size W W') {cs0 cs1 cs2 cs3 cs4 : Array Value} {t0 t1 t2 t3 t4 : TypeId} (h0 : W'.heap[W.heap.size]? = some (.cells cs0 t0 (0, 0))) (h1 : W'.heap[W.heap.size + 1]? = some (.cells cs1 t1 (0, 0))) (h2 : W'.heap[W.heap.size + 2]? = some (.cells cs2 t2 (0, 0))) (h3 : W'.heap[W.heap.size + 3]? = some (.cells cs3 t3 (0, 0))) (h4 : W'.heap[W.heap.size + 4]? = some (.cells cs4 t4 (0, 0))) : Sf X w (B ++ [(W.heap.size, cs0, t0), (W.heap.size + 1, cs1, t1), (W.heap.size + 2, cs2, t2), (W.heap.size + 3, cs3, t3), (W.heap.size + 4, cs4, t4)]) G W' :=
  h.news hb _ (fun x hx => by
    simp only [List.mem_cons, List.not_mem_nil, or_false] at hx
    rcases hx with rfl | rfl | rfl | rfl | rfl
    · exact ⟨h0, Nat.le_refl _⟩
    · exact ⟨h1, Nat.le_add_right _ _⟩
    · exact ⟨h2, Nat.le_add_right _ _⟩
    · exact ⟨h3, Nat.le_add_right _ _⟩
    · exact ⟨h4, Nat.le_add_right _ _⟩) (by simp)
theorem Sf.new6 (h : Sf X w B G W) (hb : Below W.heap.size W W') {cs0 cs1 cs2 cs3 cs4 cs5 : Array Value} {t0 t1 t2 t3 t4 t5 : TypeId} (h0 : W'.heap[W.heap.size]? = some (.cells cs0 t0 (0, 0))) (h1 : W'.heap[W.heap.size + 1]? = some (.cells cs1 t1 (0, 0))) (h2 : W'.heap[W.heap.size + 2]? = some (.cells cs2 t2 (0, 0))) (h3 : W'.heap[W.heap.size + 3]? = some (.cells cs3 t3 (0, 0))) (h4 : W'.heap[W.heap.size + 4]? = some (.cells cs4 t4 (0, 0))) (h5 : W'.heap[W.heap.size + 5]? = some (.cells cs5 t5 (0, 0))) : Sf X w (B ++ [(W.heap.size, cs0, t0), (W.heap.size + 1, cs1, t1), (W.heap.size + 2, cs2, t2), (W.heap.size + 3, cs3, t3), (W.heap.size + 4, cs4, t4), (W.heap.size + 5, cs5, t5)]) G W' :=
  h.news hb _ (fun x hx => by
    simp only [List.mem_cons, List.not_mem_nil, or_false] at hx
    rcases hx with rfl | rfl | rfl | rfl | rfl | rfl
    · exact ⟨h0, Nat.le_refl _⟩
    · exact ⟨h1, Nat.le_add_right _ _⟩
    · exact ⟨h2, Nat.le_add_right _ _⟩
    · exact ⟨h3, Nat.le_add_right _ _⟩
    · exact ⟨h4, Nat.le_add_right _ _⟩
    · exact ⟨h5, Nat.le_add_right _ _⟩) (by simp)
theorem Sf.new7 (h : Sf X w B G W) (hb : Below W.heap.size W W') {cs0 cs1 cs2 cs3 cs4 cs5 cs6 : Array Value} {t0 t1 t2 t3 t4 t5 t6 : TypeId} (h0 : W'.heap[W.heap.size]? = some (.cells cs0 t0 (0, 0))) (h1 : W'.heap[W.heap.size + 1]? = some (.cells cs1 t1 (0, 0))) (h2 : W'.heap[W.heap.size + 2]? = some (.cells cs2 t2 (0, 0))) (h3 : W'.heap[W.heap.size + 3]? = some (.cells cs3 t3 (0, 0))) (h4 : W'.heap[W.heap.size + 4]? = some (.cells cs4 t4 (0, 0))) (h5 : W'.heap[W.heap.size + 5]? = some (.cells cs5 t5 (0, 0))) (h6 : W'.heap[W.heap.size + 6]? = some (.cells cs6 t6 (0, 0))) : Sf X w (B ++ [(W.heap.size, cs0, t0), (W.heap.size + 1, cs1, t1), (W.heap.size + 2, cs2, t2), (W.heap.size + 3, cs3, t3), (W.heap.size + 4, cs4, t4), (W.heap.size + 5, cs5, t5), (W.heap.size + 6, cs6, t6)]) G W' :=
  h.news hb _ (fun x hx => by
    simp only [List.mem_cons, List.not_mem_nil, or_false] at hx
    rcases hx with rfl | rfl | rfl | rfl | rfl | rfl | rfl
    · exact ⟨h0, Nat.le_refl _⟩
    · exact ⟨h1, Nat.le_add_right _ _⟩
    · exact ⟨h2, Nat.le_add_right _ _⟩
    · exact ⟨h3, Nat.le_add_right _ _⟩
    · exact ⟨h4, Nat.le_add_right _ _⟩
    · exact ⟨h5, Nat.le_add_right _ _⟩
    · exact ⟨h6, Nat.le_add_right _ _⟩) (by simp)
theorem Sf.new8 (h : Sf X w B G W) (hb : Below W.heap.size W W') {cs0 cs1 cs2 cs3 cs4 cs5 cs6 cs7 : Array Value} {t0 t1 t2 t3 t4 t5 t6 t7 : TypeId} (h0 : W'.heap[W.heap.size]? = some (.cells cs0 t0 (0, 0))) (h1 : W'.heap[W.heap.size + 1]? = some (.cells cs1 t1 (0, 0))) (h2 : W'.heap[W.heap.size + 2]? = some (.cells cs2 t2 (0, 0))) (h3 : W'.heap[W.heap.size + 3]? = some (.cells cs3 t3 (0, 0))) (h4 : W'.heap[W.heap.size + 4]? = some (.cells cs4 t4 (0, 0))) (h5 : W'.heap[W.heap.size + 5]? = some (.cells cs5 t5 (0, 0))) (h6 : W'.heap[W.heap.size + 6]? = some (.cells cs6 t6 (0, 0))) (h7 : W'.heap[W.heap.size + 7]? = some (.cells cs7 t7 (0, 0))) : Sf X w (B ++ [(W.heap.size, cs0, t0), (W.heap.size + 1, cs1, t1), (W.heap.size + 2, cs2, t2), (W.heap.size + 3, cs3, t3), (W.heap.size + 4, cs4, t4), (W.heap.size + 5, cs5, t5), (W.heap.size + 6, cs6, t6), (W.heap.size + 7, cs7, t7)]) G W' :=
  h.news hb _ (fun x hx => by
    simp only [List.mem_cons, List.not_mem_nil, or_false] at hx
    rcases hx with rfl | rfl | rfl | rfl | rfl | rfl | rfl | rfl
    · exact ⟨h0, Nat.le_refl _⟩
    · exact ⟨h1, Nat.le_add_right _ _⟩
    · exact ⟨h2, Nat.le_add_right _ _⟩
    · exact ⟨h3, Nat.le_add_right _ _⟩
    · exact ⟨h4, Nat.le_add_right _ _⟩
    · exact ⟨h5, Nat.le_add_right _ _⟩
    · exact ⟨h6, Nat.le_add_right _ _⟩
    · exact ⟨h7, Nat.le_add_right _ _⟩) (by simp)
theorem Sf.at (h : Sf X w B G W) (k : Nat) {b : Nat} {cs : Array Value} {t : TypeId} (hk : B[k]? = some (b, cs, t)) : W.heap[b]? = some (.cells cs t (0, 0)) := (h.blk _ (List.mem_of_getElem? hk)).1
theorem Sf.own (h : Sf X w B G W) (k : Nat) {b : Nat} {cs : Array Value} {t : TypeId} (hk : B[k]? = some (b, cs, t)) : w.heap.size ≤ b ∧ b < W.heap.size := ⟨(h.blk _ (List.mem_of_getElem? hk)).2, h.lt (List.mem_of_getElem? hk)⟩
theorem Sf.set (h : Sf X w B G W) (k : Nat) {b : Nat} {cs cs' : Array Value} {t : TypeId} (hk : B[k]? = some (b, cs, t)) (hb : Below b W W') (hg : ∀ g, g ≠ b → W'.heap[g]? = W.heap[g]?) (hs : W'.heap.size = W.heap.size) (hn : W'.heap[b]? = some (.cells cs' t (0, 0))) :
    Sf X w (B.set k (b, cs', t)) G W' := by
  have hm := map_set_same (cs' := cs') hk
  have hkl := (List.getElem?_eq_some_iff.1 hk).1
  have hXb : Xo X (B.map (·.1)) b := .inr (List.mem_map.2 ⟨_, List.mem_of_getElem? hk, rfl⟩)
  have hwb := (h.own k hk).1
  refine ⟨h.bel.trans (hb.mono hwb), h.old, fun x hx => ?_, by rw [hm]; exact h.nd, fun P hP => by rw [hm]; exact ⟨(h.gv P hP).1, (h.gv P hP).1.other (h.gv P hP).2 hXb hs hg⟩⟩
  obtain ⟨j, hj⟩ := List.mem_iff_getElem?.1 hx
  rw [List.getElem?_set] at hj
  by_cases e : k = j
  · subst e
    rw [if_pos rfl, if_pos hkl] at hj
    obtain rfl := Option.some.inj hj
    exact ⟨hn, hwb⟩
  · rw [if_neg e] at hj
    have hne : x.1 ≠ b := fun e2 => by
      have h1 : (B.map (·.1))[k]? = some b := by rw [List.getElem?_map, hk]; rfl
      have h2 : (B.map (·.1))[j]? = some b := by rw [List.getElem?_map, hj, ← e2]; rfl
      have hkl' : k < (B.map (·.1)).length := by simpa using hkl
      exact e ((List.getElem?_inj hkl' h.nd).1 (h1.trans h2.symm))
    exact ⟨(hg _ hne).trans (h.blk x (List.mem_of_getElem? hj)).1, (h.blk x (List.mem_of_getElem? hj)).2⟩
/-- One thing more. -/
theorem Sf.more (h : Sf X w B G W) {P : Thing} (f : Firm P) (hg : P (Xo X (B.map (·.1))) W) : Sf X w B (G ++ [P]) W :=
  ⟨h.bel, h.old, h.blk, h.nd, fun Q hQ => by
    rcases List.mem_append.1 hQ with hQ | hQ
    · exact h.gv Q hQ
    · rw [List.mem_singleton] at hQ; subst hQ; exact ⟨f, hg⟩⟩
theorem Sf.less (h : Sf X w B G W) {G' : List Thing} (hG : ∀ x ∈ G', x ∈ G) : Sf X w B G' W := ⟨h.bel, h.old, h.blk, h.nd, fun x hx => h.gv x (hG x hx)⟩
/-- A block of the call's own becomes a thing's, or nobody's. -/
theorem Sf.leave (h : Sf X w B G W) {B' : List Bl} (hB : B'.Sublist B) : Sf X w B' G W :=
  ⟨h.bel, h.old, fun x hx => h.blk x (hB.subset hx), List.Sublist.nodup (hB.map _) h.nd, fun P hP => ⟨(h.gv P hP).1, (h.gv P hP).1.sub (h.gv P hP).2 fun _ hg => hg.imp id fun hg => (hB.map (·.1)).subset hg⟩⟩
theorem Sf.g (h : Sf X w B G W) (k : Nat) {P : Thing} (hk : G[k]? = some P) : P (Xo X (B.map (·.1))) W := (h.gv _ (List.mem_of_getElem? hk)).2
theorem Sf.gX (h : Sf X w B G W) (k : Nat) {P : Thing} (hk : G[k]? = some P) : P X W := (h.gv _ (List.mem_of_getElem? hk)).1.sub (h.gv _ (List.mem_of_getElem? hk)).2 fun _ hg => .inl hg
theorem th0 : ∀ P ∈ ([] : List Thing), Firm P ∧ P X w := fun _ h => by cases h
theorem th1 {P : Thing} (f : Firm P) (h : P X w) : ∀ Q ∈ [P], Firm Q ∧ Q X w := fun Q hQ => by rw [List.mem_singleton] at hQ; subst hQ; exact ⟨f, h⟩
theorem th2 {P Q : Thing} (f : Firm P) (h : P X w) (g : Firm Q) (k : Q X w) : ∀ R ∈ [P, Q], Firm R ∧ R X w := fun R hR => by
  simp only [List.mem_cons, List.not_mem_nil, or_false] at hR
  rcases hR with rfl | rfl
  · exact ⟨f, h⟩
  · exact ⟨g, k⟩
end
end Go.Proofs.Ytfcjmcenaankfaa
