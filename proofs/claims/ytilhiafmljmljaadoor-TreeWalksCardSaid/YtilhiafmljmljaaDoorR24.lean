import Derived.Test.YtilhiafmljmljaaDoorR23
import Derived.Test.YtilhiafmljmljaaDoorR11
import Derived.Deep.RegionHeld3
import Derived.Deep.RegionLaw
import Derived.Handy
import Derived.Laws.IdiomCopy
import Derived.Lib.SliceRun
import Derived.Laws.ResultCell
import Derived.Deep.DeepCutAuto
import Derived.Deep.MidRow
import Derived.StillTailTactics
import Derived.Deep.OwnRows
import Derived.Laws.CopyRow
import Derived.Laws.BytesString
import Derived.Lib.ConvBytes
import Derived.Lib.SlBuf
import Derived.Test.YtilhiafmljmljaaDoorR17
import Derived.Test.YtilhiafmljmljaaDoorR18
import Derived.Test.YtilhiafmljmljaaDoorR19
import Derived.Test.YtilhiafmljmljaaDoorR21
namespace Go.Proofs.YtilhiafmljmljaaDoor
open Go.RowKit Go.Shelf
attribute [local go_sem ↓] Go.wp_at_zero Go.wp_at_succ
theorem rwalk_any (v : Value) (ms : List NodeM) (most room who fr : Int) (path : Str) (follow : Bool) (w : World) (hv : RdM w.heap.size v ms w) (hd : DskW ms) (hpl : path.length ≤ 10000) :
    Calls Tryd.prog 16 #[.agg #[v, .int .i64 most, .int .i64 room], .int .i64 who, .int .i64 fr, .string (bs path), .bool follow] w fun e w' => WalkIs (walkL (pl ms) who fr path follow) e w w' :=
  rwalk_R _ v ms most room who fr path follow w hv hd hpl rfl
set_option maxRecDepth 100000 in
set_option maxHeartbeats 4000000 in
theorem rnode_any (v : Value) (ms : List NodeM) (most room who fr : Int) (path : Str) (follow : Bool) (w : World) (hv : RdM w.heap.size v ms w) (hd : DskW ms) (hpl : path.length ≤ 10000) :
    Calls Tryd.prog 9 #[.agg #[v, .int .i64 most, .int .i64 room], .int .i64 who, .int .i64 fr, .string (bs path), .bool follow] w fun e w' => WNodeIs (walkL (pl ms) who fr path follow) e w w' := by
  obtain ⟨aod, capd, rfl, _, _⟩ := rdm_form hv
  have hb0 : Below w.heap.size w (w.alloc (.cells #[.slice aod ms.length capd, .int .i64 most, .int .i64 room] 39)) := (Below.refl _ w).alloc (Nat.le_refl _) _
  have HW := Lib.hid (rwalk_any (.slice aod ms.length capd) ms most room who fr path follow _ (rdm_keep hv hb0) hd hpl)
  obtain ⟨R, hR⟩ : ∃ R, R = walkL (pl ms) who fr path follow := ⟨_, rfl⟩
  rw [← hR] at HW ⊢
  clear hv hR
  obtain ⟨⟨sd, sn, si, ss⟩, n⟩ := R
  go_enter Tryd.func9, Tryd.ntmps9
  go_wp2_with fail
  refine HW.out.mono ?_
  rintro e w1 ⟨rfl, hb1⟩
  have HB1 := Lib.hid (ret_tr hb0 hb1)
  clear hb0 hb1
  by_cases h0 : n = 0
  · subst h0
    by_cases hm : si < 0
    · have hI : decide (si < 0) = true := by simpa using hm
      have HN : Hid (wnodeL (⟨sd, sn, si, ss⟩, 0) = (0, 2)) := Lib.hid (by unfold wnodeL; rw [if_neg (by simp), if_pos hm])
      clear hm
      go_wp2_with fail
      refine post_fresh1 ?_
      intro W5 hb5 hn5 hs5
      go_ret2
      exact ⟨by rw [HN.out]; rfl, ret_tr HB1.out hb5⟩
    · have hI : decide (si < 0) = false := by simpa using hm
      have HN : Hid (wnodeL (⟨sd, sn, si, ss⟩, 0) = (si, 0)) := Lib.hid (by unfold wnodeL; rw [if_neg (by simp), if_neg hm])
      clear hm
      go_wp2_with fail
      refine post_fresh1 ?_
      intro W5 hb5 hn5 hs5
      go_ret2
      exact ⟨by rw [HN.out]; rfl, ret_tr HB1.out hb5⟩
  · have hI : (n != 0) = true := by simpa using h0
    have HN : Hid (wnodeL (⟨sd, sn, si, ss⟩, n) = (0, n)) := Lib.hid (by unfold wnodeL; rw [if_pos h0])
    clear h0
    go_wp2_with fail
    refine post_fresh1 ?_
    intro W5 hb5 hn5 hs5
    go_ret2
    exact ⟨by rw [HN.out]; rfl, ret_tr HB1.out hb5⟩
end Go.Proofs.YtilhiafmljmljaaDoor
namespace Go.Proofs.YtilhiafmljmljaaDoor
open Go.RowKit Go.Shelf
theorem code_fresh2 {P : Program} {a : Act} {w : World} {A B : Obj} {c : Code} {K : Exit → Act → World → Prop} (h : ∀ W, Below w.heap.size w W → W.heap[w.heap.size]? = some A → W.heap[w.heap.size + 1]? = some B → W.heap.size = w.heap.size + 2 → c.wp P K a W) : c.wp P K a ((w.alloc A).alloc B) := fresh2 (P := fun W => c.wp P K a W) h
def Old (X : Nat → Prop) (W : World) : Prop := ∀ g, X g → g < W.heap.size
theorem Old.keep {X : Nat → Prop} {W W' : World} (h : Old X W) (hb : W.heap.size ≤ W'.heap.size) : Old X W' := fun g hg => Nat.lt_of_lt_of_le (h g hg) hb
abbrev Bl := Nat × Array Value × TypeId
def Xo (X : Nat → Prop) (L : List Nat) : Nat → Prop := fun g => X g ∨ g ∈ L
theorem fresh4 {P : World → Prop} {w : World} {A0 A1 A2 A3 : Obj} (h : ∀ W, Below w.heap.size w W → W.heap[w.heap.size]? = some A0 → W.heap[w.heap.size + 1]? = some A1 → W.heap[w.heap.size + 2]? = some A2 → W.heap[w.heap.size + 3]? = some A3 → W.heap.size = w.heap.size + 4 → P W) : P ((((w.alloc A0).alloc A1).alloc A2).alloc A3) :=
  fresh3 (P := fun W => P (W.alloc A3)) fun W1 b1 h0 h1 h2 s1 => fresh1 fun W2 b2 hn s2 => h W2 (ret_tr b1 b2) ((b2.block _ (by omega)).trans h0) ((b2.block _ (by omega)).trans h1) ((b2.block _ (by omega)).trans h2) (by rw [s1] at hn; exact hn) (by omega)
theorem map_set_same {L : List Bl} {k b : Nat} {cs cs' : Array Value} {t : TypeId} (hk : L[k]? = some (b, cs, t)) : (L.set k (b, cs', t)).map (·.1) = L.map (·.1) := by
  apply List.ext_getElem?
  intro j
  rw [List.getElem?_map, List.getElem?_map, List.getElem?_set]
  by_cases e : k = j
  · subst e
    rw [if_pos rfl, hk]
    have := (List.getElem?_eq_some_iff.1 hk).1
    rw [if_pos this]
    rfl
  · rw [if_neg e]
theorem cells2 {W : World} {b : Nat} {u0 u1 : Value} {t : TypeId} {f : Nat × Nat} (h : W.heap[b]? = some (.cells #[u0, u1] t f)) : W.cell? ⟨b, 0, none⟩ = some u0 ∧ W.cell? ⟨b, 1, none⟩ = some u1 := by
  refine ⟨?_, ?_⟩ <;> (rw [Lib.cell_of_heap h]; rfl)
theorem wpList_fresh1 {P : Program} {ops : Array Oper} {Q : Exit → Act → World → Prop} {l : List Oper} {a : Act} {w : World} {A : Obj}
    (h : ∀ W, Below w.heap.size w W → W.heap[w.heap.size]? = some A → W.heap.size = w.heap.size + 1 → wpList P ops Q l a W) : wpList P ops Q l a (w.alloc A) := fresh1 (P := fun W => wpList P ops Q l a W) h
theorem there_block {w : World} {b : Nat} {old : Array Value} {t : TypeId} (hb : w.heap[b]? = some (.cells old t (0, 0))) : w.there b 0 old.size := fun j hj => by
  refine ⟨?_, Lib.frozen_of_heap hb _⟩
  rw [Lib.cell_of_heap hb, Nat.zero_add, Array.getElem?_eq_getElem hj]
  rfl
theorem heap_setCells_same {b : Nat} {t : TypeId} : ∀ (vs : List Value) (o : Nat) (w : World) (cs : Array Value), w.heap[b]? = some (.cells cs t (0, 0)) → ∃ cs', (w.setCells b o vs).heap[b]? = some (.cells cs' t (0, 0)) ∧ cs'.size = cs.size
  | [], _, _, cs, h => ⟨cs, h, rfl⟩
  | v :: r, o, w, cs, h => by
    obtain ⟨cs', h1, h2⟩ := heap_setCells_same r (o + 1) (w.setCell ⟨b, o, none⟩ v) _ (heap_set h)
    exact ⟨cs', h1, by rw [h2, Array.size_setIfInBounds]⟩
theorem heap_setCells_all {w : World} {b : Nat} {old : Array Value} {t : TypeId} (vs : List Value) (hb : w.heap[b]? = some (.cells old t (0, 0))) (hs : old.size = vs.length) : (w.setCells b 0 vs).heap[b]? = some (.cells vs.toArray t (0, 0)) := by
  obtain ⟨cs', h1, h2⟩ := heap_setCells_same (t := t) vs 0 w old hb
  rw [h1]
  have hr := World.rangeAt_setCells_same w b 0 vs (by rw [← hs]; exact there_block hb)
  have : cs' = vs.toArray := by
    apply Array.ext_getElem?
    intro j
    rcases Nat.lt_or_ge j vs.length with hj | hj
    · have h3 := hr j vs[j] (List.getElem?_eq_getElem hj)
      rw [Lib.cell_of_heap h1, Nat.zero_add] at h3
      rw [h3]
      simp [hj]
    · rw [Array.getElem?_eq_none (by omega), Array.getElem?_eq_none (by simpa using hj)]
  rw [this]
theorem wpList_store_row {P : Program} {ops : Array Oper} {rest : List Oper} {op : Oper} {a : Act} {w : World} {Q : Exit → Act → World → Prop} (hgd : op.guard = none) (ty : TypeId) (x y : Operand) (ho : op.op = .store ty x y)
    (b : Nat) {cells old : List Value} {t : TypeId} (hx : a.eval x = .pointer (some ⟨b, 0, none⟩)) (hy : a.eval y = .agg cells.toArray) (hb : w.heap[b]? = some (.cells old.toArray t (0, 0))) (hs : old.length = cells.length)
    (hi : (P.info? ty).map (·.size) = some cells.length) (h1 : cells.all (·.oneCell') = true)
    (h : ∀ W', Below b w W' → (∀ g, g ≠ b → W'.heap[g]? = w.heap[g]?) → W'.heap.size = w.heap.size → W'.heap[b]? = some (.cells cells.toArray t (0, 0)) → wpList P ops Q rest (a.put op.dst undef) W') : wpList P ops Q (op :: rest) a w := by
  refine wpList_store_mid hgd ty x y ho b 0 cells.toArray hx hy ?_ (by simpa using hi) ?_ ?_
  · have := there_block hb
    rw [List.size_toArray] at this ⊢
    rwa [← hs]
  · exact all_oneCell_toArray fun v hv => List.all_eq_true.1 h1 v hv
  · exact h _ (below_setCells _ _ (Nat.le_refl _) _ _ _) (fun g hg => heap_setCells _ _ hg _ _ _) (size_setCells _ _ _ _) (heap_setCells_all _ hb (by rw [List.size_toArray]; exact hs))
theorem yieldsIf_load_row {P : Program} {ops : Array Oper} {S : World → Prop} {op : Oper} {a : Act} (hw : Region.wanted op (yielded ops a.tmps) = true) (ty : TypeId) (x : Operand) (ho : op.op = .load ty x)
    (b : Nat) (hx : a.eval x = .pointer (some ⟨b, 0, none⟩)) (t : TypeId) (cs : Array Value) (fr : Nat × Nat) (d : TypeDesc) (hS : ∀ w, S w → w.heap[b]? = some (.cells cs t fr))
    (hu : P.underlying ty = some d) (hd : (match d with | .struct _ | .array _ _ => true | _ => false) = true) (hi : (P.info? ty).map (·.size) = some cs.size) : YieldsIf P ops S op (.agg cs) a :=
  .inl ⟨hw, fun w hw' => by
    unfold execOp
    simp only [ho, hx, Instr.loadAt, Instr.sureAddr, Sem.run_bind, Sem.run_pure, Result.andThen_ok, run_loadVar_row w b t ty cs fr d (hS w hw') hu hd hi]⟩
end Go.Proofs.YtilhiafmljmljaaDoor
namespace Go.Proofs.YtilhiafmljmljaaDoor
open Go.RowKit Go.Shelf
abbrev Thing := (Nat → Prop) → World → Prop
structure Firm (P : Thing) : Prop where
  add : ∀ {X Y : Nat → Prop} {W W' : World}, P X W → Below W.heap.size W W' → (∀ g, Y g → X g ∨ W.heap.size ≤ g) → P Y W'
  other : ∀ {X : Nat → Prop} {b : Nat} {W W' : World}, P X W → X b → W'.heap.size = W.heap.size → (∀ g, g ≠ b → W'.heap[g]? = W.heap[g]?) → P X W'
section
variable {P Q : Thing} {X Y : Nat → Prop} {W W' : World}
theorem Firm.keep (f : Firm P) (h : P X W) (hb : Below W.heap.size W W') : P X W' := f.add h hb fun _ hg => .inl hg
theorem Firm.sub (f : Firm P) (h : P X W) (hs : ∀ g, Y g → X g) : P Y W := f.add h (Below.refl _ _) fun g hg => .inl (hs g hg)
theorem Firm.and (f : Firm P) (g : Firm Q) : Firm (fun X W => P X W ∧ Q X W) := ⟨fun h hb hY => ⟨f.add h.1 hb hY, g.add h.2 hb hY⟩, fun h hX hs hg => ⟨f.other h.1 hX hs hg, g.other h.2 hX hs hg⟩⟩
theorem Firm.all {α : Type} {P : α → Thing} {S : α → Prop} (f : ∀ a, Firm (P a)) : Firm (fun X W => ∀ a, S a → P a X W) := ⟨fun h hb hY a ha => (f a).add (h a ha) hb hY, fun h hX hs hg a ha => (f a).other (h a ha) hX hs hg⟩
theorem Firm.pure (p : Prop) : Firm (fun _ _ => p) := ⟨fun h _ _ => h, fun h _ _ _ => h⟩
end
def RdX (size : Nat) (v : Value) (n : Nat) (xs : List Value) : Thing := fun X W => Rd W.heap.size size v n xs W ∧ ∀ g, X g → Avoid g v
theorem RdX.firm (size : Nat) (v : Value) (n : Nat) (xs : List Value) : Firm (RdX size v n xs) :=
  ⟨fun h hb hY => ⟨rd_keep h.1 hb, fun g hg => (hY g hg).elim (h.2 g) fun h1 => rd_far h.1 h1⟩,
   fun {X b W W'} h hX hs hg => ⟨by rw [hs]; exact rd_other h.1 (h.2 b hX) hg, h.2⟩⟩
theorem RdX.none0 (size : Nat) (X : Nat → Prop) (W : World) : RdX size (.slice none 0 0) 0 [] X W := ⟨Rd.none0 _ _ _, fun g _ a n c e _ => by cases e⟩
theorem RdX.form {size n : Nat} {v : Value} {xs : List Value} {X : Nat → Prop} {W : World} (h : RdX size v n xs X W) : ∃ ao cap, v = .slice ao n cap := by
  obtain ⟨ao, cap, e, _, _⟩ := Rd.form h.1
  exact ⟨ao, cap, e⟩
theorem RdX.own {base size n : Nat} {e : TypeId} {v : Value} {xs : List Value} {X : Nat → Prop} {W : World} (h : W.ownsRow base e size v n xs) (hX : ∀ g, X g → g < base) : RdX size v n xs X W :=
  ⟨Rd.own h (Nat.le_refl _), fun g hg => own_far h (hX g hg)⟩
structure Sf (X : Nat → Prop) (w : World) (B : List Bl) (G : List Thing) (W : World) : Prop where
  bel : Below w.heap.size w W
  old : Old X w
  blk : ∀ x ∈ B, W.heap[x.1]? = some (.cells x.2.1 x.2.2 (0, 0)) ∧ w.heap.size ≤ x.1
  nd : (B.map (·.1)).Nodup
  gv : ∀ P ∈ G, Firm P ∧ P (Xo X (B.map (·.1))) W
section
variable {X : Nat → Prop} {w W W' : World} {B : List Bl} {G : List Thing}
theorem Sf.lt (h : Sf X w B G W) {x : Bl} (hx : x ∈ B) : x.1 < W.heap.size := (Array.getElem?_eq_some_iff.1 (h.blk x hx).1).1
theorem Sf.start (hX : Old X w) (hG : ∀ P ∈ G, Firm P ∧ P X w) : Sf X w [] G w :=
  ⟨Below.refl _ _, hX, (fun _ h => by cases h), List.nodup_nil, fun P hP => ⟨(hG P hP).1, (hG P hP).1.sub (hG P hP).2 fun g hg => hg.elim id (fun h => by cases h)⟩⟩
theorem Sf.call (h : Sf X w B G W) (hb : Below W.heap.size W W') : Sf X w B G W' :=
  ⟨ret_tr h.bel hb, h.old, fun x hx => ⟨(hb.block _ (h.lt hx)).trans (h.blk x hx).1, (h.blk x hx).2⟩, h.nd, fun P hP => ⟨(h.gv P hP).1, (h.gv P hP).1.keep (h.gv P hP).2 hb⟩⟩
theorem Sf.oldX (h : Sf X w B G W) : Old (Xo X (B.map (·.1))) W := fun g hg => by
  rcases hg with hg | hg
  · exact Nat.lt_of_lt_of_le (h.old g hg) h.bel.size
  · obtain ⟨x, hx, rfl⟩ := List.mem_map.1 hg
    exact h.lt hx
theorem Sf.news (h : Sf X w B G W) (hb : Below W.heap.size W W') (C : List Bl) (hC : ∀ x ∈ C, W'.heap[x.1]? = some (.cells x.2.1 x.2.2 (0, 0)) ∧ W.heap.size ≤ x.1) (hn : (C.map (·.1)).Nodup) : Sf X w (B ++ C) G W' := by
  have hY : ∀ g, Xo X ((B ++ C).map (·.1)) g → Xo X (B.map (·.1)) g ∨ W.heap.size ≤ g := fun g hg => by
    rcases hg with hg | hg
    · exact .inl (.inl hg)
    · rw [List.map_append, List.mem_append] at hg
      rcases hg with hg | hg
      · exact .inl (.inr hg)
      · obtain ⟨x, hx, rfl⟩ := List.mem_map.1 hg
        exact .inr (hC x hx).2
  refine ⟨ret_tr h.bel hb, h.old, fun x hx => ?_, ?_, fun P hP => ⟨(h.gv P hP).1, (h.gv P hP).1.add (h.gv P hP).2 hb hY⟩⟩
  · rcases List.mem_append.1 hx with hx | hx
    · exact ⟨(hb.block _ (h.lt hx)).trans (h.blk x hx).1, (h.blk x hx).2⟩
    · exact ⟨(hC x hx).1, Nat.le_trans h.bel.size (hC x hx).2⟩
  · rw [List.map_append, List.nodup_append]
    refine ⟨h.nd, hn, fun a ha b hb2 e => ?_⟩
    obtain ⟨x, hx, rfl⟩ := List.mem_map.1 ha
    obtain ⟨y, hy, rfl⟩ := List.mem_map.1 hb2
    have := h.lt hx
    have := (hC y hy).2
    omega
theorem Sf.at (h : Sf X w B G W) (k : Nat) {b : Nat} {cs : Array Value} {t : TypeId} (hk : B[k]? = some (b, cs, t)) : W.heap[b]? = some (.cells cs t (0, 0)) := (h.blk _ (List.mem_of_getElem? hk)).1
theorem Sf.own (h : Sf X w B G W) (k : Nat) {b : Nat} {cs : Array Value} {t : TypeId} (hk : B[k]? = some (b, cs, t)) : w.heap.size ≤ b ∧ b < W.heap.size := ⟨(h.blk _ (List.mem_of_getElem? hk)).2, h.lt (List.mem_of_getElem? hk)⟩
theorem Sf.set (h : Sf X w B G W) (k : Nat) {b : Nat} {cs cs' : Array Value} {t : TypeId} (hk : B[k]? = some (b, cs, t)) (hb : Below b W W') (hg : ∀ g, g ≠ b → W'.heap[g]? = W.heap[g]?) (hs : W'.heap.size = W.heap.size) (hn : W'.heap[b]? = some (.cells cs' t (0, 0))) :
    Sf X w (B.set k (b, cs', t)) G W' := by
  have hm := map_set_same (cs' := cs') hk
  have hkl := (List.getElem?_eq_some_iff.1 hk).1
  have hXb : Xo X (B.map (·.1)) b := .inr (List.mem_map.2 ⟨_, List.mem_of_getElem? hk, rfl⟩)
  have hwb := (h.own k hk).1
  refine ⟨h.bel.trans (hb.mono hwb), h.old, fun x hx => ?_, by rw [hm]; exact h.nd, fun P hP => by rw [hm]; exact ⟨(h.gv P hP).1, (h.gv P hP).1.other (h.gv P hP).2 hXb hs hg⟩⟩
  obtain ⟨j, hj⟩ := List.mem_iff_getElem?.1 hx
  rw [List.getElem?_set] at hj
  by_cases e : k = j
  · subst e
    rw [if_pos rfl, if_pos hkl] at hj
    obtain rfl := Option.some.inj hj
    exact ⟨hn, hwb⟩
  · rw [if_neg e] at hj
    have hne : x.1 ≠ b := fun e2 => by
      have h1 : (B.map (·.1))[k]? = some b := by rw [List.getElem?_map, hk]; rfl
      have h2 : (B.map (·.1))[j]? = some b := by rw [List.getElem?_map, hj, ← e2]; rfl
      have hkl' : k < (B.map (·.1)).length := by simpa using hkl
      exact e ((List.getElem?_inj hkl' h.nd).1 (h1.trans h2.symm))
    exact ⟨(hg _ hne).trans (h.blk x (List.mem_of_getElem? hj)).1, (h.blk x (List.mem_of_getElem? hj)).2⟩
theorem Sf.less (h : Sf X w B G W) {G' : List Thing} (hG : ∀ x ∈ G', x ∈ G) : Sf X w B G' W := ⟨h.bel, h.old, h.blk, h.nd, fun x hx => h.gv x (hG x hx)⟩
theorem Sf.g (h : Sf X w B G W) (k : Nat) {P : Thing} (hk : G[k]? = some P) : P (Xo X (B.map (·.1))) W := (h.gv _ (List.mem_of_getElem? hk)).2
end
end Go.Proofs.YtilhiafmljmljaaDoor
namespace Go.Proofs.YtilhiafmljmljaaDoor
open Go.RowKit Go.Shelf
structure KeepX (X : Nat → Prop) (W W' : World) : Prop where
  os : W'.os = W.os
  tape : W'.tape = W.tape
  output : W'.output = W.output
  size : W.heap.size ≤ W'.heap.size
  blk : ∀ g, X g → W'.heap[g]? = W.heap[g]?
section
variable {X Y : Nat → Prop} {W W' V : World}
theorem KeepX.refl (X : Nat → Prop) (W : World) : KeepX X W W := ⟨rfl, rfl, rfl, Nat.le_refl _, fun _ _ => rfl⟩
theorem KeepX.trans (h : KeepX X W W') (k : KeepX X W' V) : KeepX X W V := ⟨k.os.trans h.os, k.tape.trans h.tape, k.output.trans h.output, Nat.le_trans h.size k.size, fun g hg => (k.blk g hg).trans (h.blk g hg)⟩
theorem KeepX.sub (h : KeepX X W W') (hs : ∀ g, Y g → X g) : KeepX Y W W' := ⟨h.os, h.tape, h.output, h.size, fun g hg => h.blk g (hs g hg)⟩
theorem KeepX.of (hb : Below W.heap.size W W') (hX : Old X W) : KeepX X W W' := ⟨hb.os, hb.tape, hb.output, hb.size, fun g hg => hb.block g (hX g hg)⟩
theorem KeepX.below {B : Nat} (h : KeepX X W W') (hX : ∀ g, g < B → X g) : Below B W W' := ⟨h.os, h.tape, h.output, h.size, fun g hg => h.blk g (hX g hg)⟩
theorem KeepX.put {b : Nat} (hn : ¬ X b) (o : Obj) : KeepX X W (W.putObj b o) := ⟨rfl, rfl, rfl, by simp, fun g hg => World.putObj_heap_other fun e => hn (e ▸ hg)⟩
theorem KeepX.one {b : Nat} (hn : ¬ X b) (hb : Below b W W') (hg : ∀ g, g ≠ b → W'.heap[g]? = W.heap[g]?) : KeepX X W W' := ⟨hb.os, hb.tape, hb.output, hb.size, fun g h => hg g fun e => hn (e ▸ h)⟩
theorem Old.kept (h : Old X W) (hk : W.heap.size ≤ W'.heap.size) : Old X W' := fun g hg => Nat.lt_of_lt_of_le (h g hg) hk
end
def itPost (T : Thing) (Z : Nat → Prop) (W : World) : Exit → Act → World → Prop
  | .normal, _, W' => T Z W' ∧ KeepX Z W W'
  | _, _, _ => False
def SeqIt {α : Type} (P : Program) (g : Nat) (lb : Array Value) (encs : α → Array Value) (xs : List α) (X0 : Nat → Prop) (w : World) : Prop :=
  ∀ (l n : Nat) (J : List α → Thing) (Y : Nat → Prop) (W : World), (∀ q, Firm (J q)) → KeepX X0 w W → (∀ g, X0 g → Y g) → Old Y W →
    (∀ q x Z W1 m, (∀ g, Y g → Z g) → Old Z W1 → J q Z W1 → q.length < xs.length → YieldAt Fence.wide m P l (encs x) W1 fun e W' => e = .returned (.bool true) ∧ J (q ++ [x]) Z W' ∧ KeepX Z W1 W') →
    J [] Y W → CallsIn Fence.wide n P g (#[.func (.yield l) #[] #[]] ++ lb) W fun e W' => (∃ v, e = .returned v) ∧ J xs Y W' ∧ KeepX Y W W'
def LoopT (D R : Nat) (o : Obj) (T : Thing) : Thing := fun Z W => T (Xo Z [D, R]) W ∧ W.heap[R]? = some o ∧ W.heap[D]? = some (.deferred (some [])) ∧ ¬ Z R ∧ ¬ Z D
theorem lt_some {W : World} {k : Nat} {o : Obj} (h : W.heap[k]? = some o) : k < W.heap.size := (Array.getElem?_eq_some_iff.1 h).1
theorem LoopT.firm {D R : Nat} {o : Obj} {T : Thing} (f : Firm T) : Firm (LoopT D R o T) :=
  ⟨fun {X Y W W'} h hb hY => ⟨f.add h.1 hb fun g hg => hg.elim (fun hg => (hY g hg).imp .inl id) fun hg => .inl (.inr hg), (hb.block _ (lt_some h.2.1)).trans h.2.1, (hb.block _ (lt_some h.2.2.1)).trans h.2.2.1,
    fun hR => (hY R hR).elim h.2.2.2.1 fun hs => by have := lt_some h.2.1; omega, fun hD => (hY D hD).elim h.2.2.2.2 fun hs => by have := lt_some h.2.2.1; omega⟩,
   fun {X b W W'} h hX hs hg => ⟨f.other h.1 (.inl hX) hs hg, (hg R fun e => h.2.2.2.1 (e ▸ hX)).trans h.2.1, (hg D fun e => h.2.2.2.2 (e ▸ hX)).trans h.2.2.1, h.2.2.2⟩⟩
theorem Firm.put {T : Thing} (f : Firm T) {Z : Nat → Prop} {W : World} (h : T Z W) {b : Nat} (hb : Z b) (o : Obj) : T Z (W.putObj b o) :=
  f.other h hb (by simp) fun g hg => World.putObj_heap_other hg
theorem range_it {α : Type} {P : Program} {g : Operand} {ps : Array Tmp} {assign body : Code} {Q : Exit → Act → World → Prop} {a : Act} {w : World} {gf : Nat} {lb : Array Value}
    (hg : a.eval g = .func (.func gf) #[] lb) (eg : ∀ args w, (callFunc gf args).run P w = .ok (.enter gf args) w) {encs : α → Array Value} (hps : ∀ x, (encs x).size = ps.size) {xs : List α} {X0 Y : Nat → Prop} {w0 : World}
    (hseq : SeqIt P gf lb encs xs X0 w0) (hk : KeepX X0 w0 w) (hXY : ∀ g, X0 g → Y g) (hY : Old Y w) (I : List α → Thing) (fI : ∀ q, Firm (I q)) (h0 : I [] Y w) (Ax : α → Act → Thing) (fA : ∀ x a', Firm (Ax x a'))
    (hassign : ∀ (l m : Nat) (q : List α) (x : α) (Z : Nat → Prop) (W : World) (K : Act → World → Prop), (∀ g, Y g → Z g) → Old Z W → I q Z W → (∀ a' W', KeepX Z W W' → I q Z W' → Ax x a' Z W' → K a' W') →
      assign.wpIn (Fence.wide.inRound l) m P (Exit.then K (fun _ _ _ => False)) { tmps := (ps.zip (encs x)).foldl (fun t (p, v) => t.setIfInBounds p v) a.tmps, defers := [] } W)
    (hbody : ∀ (l m : Nat) (q : List α) (x : α) (Z : Nat → Prop) (a' : Act) (W : World), (∀ g, Y g → Z g) → Old Z W → I q Z W → Ax x a' Z W → q.length < xs.length → body.wpIn (Fence.wide.inRound l) m P (itPost (I (q ++ [x])) Z W) a' W)
    (hdone : ∀ (D : Nat) (Z : Nat → Prop) (W : World), (∀ g, Y g → Z g) → Z D → w.heap.size ≤ D → Old Z W → I xs Z W → KeepX Y w W → W.heap[D]? = some (.deferred (some [])) → Q .normal { a with defers := { target := .collected D, args := #[] } :: a.defers } W) :
    (Code.rangeFunc g ps assign body).wp P Q a w := by
  refine (wpIn_wide (n := 0)).1 (wpIn_rangeFunc ?_)
  intro fn hfn
  rw [show Fence.wide.round = none from rfl]
  obtain ⟨rec, hrec⟩ : ∃ rec : LoopState → Option Code → Loop, rec = fun st pe => { state := st, pending := pe, fn, tmps := a.tmps, params := ps, assign, body, defers := w.heap.size } := ⟨_, rfl⟩
  obtain ⟨W1, hW1⟩ : ∃ W1, (w.alloc (.deferred (some []))).alloc (.loop (rec .ready none)) = W1 := ⟨_, rfl⟩
  have hL1 : W1.heap[w.heap.size + 1]? = some (.loop (rec .ready none)) := by
    rw [← hW1]; have := World.alloc_heap_new (w.alloc (.deferred (some []))) (.loop (rec .ready none)); rwa [World.size_alloc] at this
  have hK1 : W1.heap[w.heap.size]? = some (.deferred (some [])) := by
    rw [← hW1]; exact (Below.heap_alloc _ _ _ (by simp)).trans (World.alloc_heap_new w _)
  have hb1 : Below w.heap.size w W1 := by
    rw [← hW1]; exact ((Below.refl _ w).alloc (Nat.le_refl _) _).alloc (by simp) _
  have hY1 : Old Y W1 := hY.kept hb1.size
  have nD : ¬ Y w.heap.size := fun h => Nat.lt_irrefl _ (hY _ h)
  have nR : ¬ Y (w.heap.size + 1) := fun h => by have := hY _ h; omega
  refine ⟨w.heap.size + 1, [{ target := .collected w.heap.size, args := #[] }], W1, { target := .fn (.func gf) lb, args := #[.func (.yield (w.heap.size + 1)) #[] #[]] }, W1, gf,
    #[.func (.yield (w.heap.size + 1)) #[] #[]] ++ lb, W1, ?_, ?_, ?_, ?_, fun h => (by cases h), ?_⟩
  · rw [← hW1, hrec]; exact run_enterLoop_outer _ _ _ _ _
  · simp only [resolve, hg]
    simp [go_sem]
  · intro f' _; exact trivial
  · simp [invoke, go_sem, eg]
  · refine (hseq (w.heap.size + 1) (0 - 1) (fun q => LoopT w.heap.size (w.heap.size + 1) (.loop (rec .ready none)) (I q)) Y W1 (fun q => LoopT.firm (fI q)) (hk.trans ((KeepX.of hb1 hY).sub hXY)) hXY hY1 ?_ ⟨(fI []).add h0 hb1 (fun g hg => hg.imp id fun hg => by simp at hg; omega), hL1, hK1, nR, nD⟩).mono ?_
    · -- one round
      rintro q x Z W m hYZ hZ ⟨hi, hl, hd, zR, zD⟩ hlen
      have hy := run_yield (P := P) (args := encs x) hl (by rw [hrec]; exact hps x)
      rw [hrec] at hy
      have hZ' : Old (Xo Z [w.heap.size, w.heap.size + 1]) W := fun g hg => by
        rcases hg with hg | hg
        · exact hZ g hg
        · simp only [List.mem_cons, List.not_mem_nil, or_false] at hg
          rcases hg with rfl | rfl
          · exact lt_some hd
          · exact lt_some hl
      have zz : ∀ g, Y g → Xo Z [w.heap.size, w.heap.size + 1] g := fun g hg => .inl (hYZ g hg)
      have inR : Xo Z [w.heap.size, w.heap.size + 1] (w.heap.size + 1) := .inr (by simp)
      have inD : Xo Z [w.heap.size, w.heap.size + 1] w.heap.size := .inr (by simp)
      refine ⟨fn, _, assign, body, hy, roundIn_of_wpIn hfn (hassign _ m q x _ W _ zz hZ' hi ?_)⟩
      clear hy
      intro a' Wa hka hia hax
      have hla := (hka.blk _ inR).trans hl
      have hda := (hka.blk _ inD).trans hd
      refine ⟨_, run_beginRound hla (by rw [hrec]), ?_⟩
      obtain ⟨W2, hW2⟩ : ∃ W2, Wa.putObj (w.heap.size + 1) (.loop { rec .ready none with state := .busy }) = W2 := ⟨_, rfl⟩
      have hs2 : Wa.heap.size ≤ W2.heap.size := by rw [← hW2]; simp
      have hi2 := (fI q).put hia inR (.loop { rec .ready none with state := .busy })
      have ha2 := (fA x a').put hax inR (.loop { rec .ready none with state := .busy })
      have hl2 : W2.heap[w.heap.size + 1]? = some (.loop { rec .ready none with state := .busy }) := by rw [← hW2]; exact World.putObj_heap_same (lt_some hla)
      have hd2 : W2.heap[w.heap.size]? = some (.deferred (some [])) := by rw [← hW2]; exact (World.putObj_heap_other (by omega)).trans hda
      have hk2 : KeepX Z Wa W2 := by rw [← hW2]; exact KeepX.put zR _
      rw [hW2] at hi2 ha2 ⊢
      clear hW2
      refine wpIn_mono (hbody _ m q x _ a' W2 zz ((hZ'.kept hka.size).kept hs2) hi2 ha2 hlen) ?_
      rintro e a3 W3 hp
      cases e with
      | normal =>
        obtain ⟨hi3, hk3⟩ := hp
        have hl3 := (hk3.blk _ inR).trans hl2
        have hd3 := (hk3.blk _ inD).trans hd2
        have hr := run_endRound (P := P) none hl3
        rw [hrec] at hr
        refine ⟨_, _, hr, rfl, ⟨(fI _).put hi3 inR _, ?_, (World.putObj_heap_other (by omega)).trans hd3, zR, zD⟩, ?_⟩
        · rw [hrec]; exact World.putObj_heap_same (lt_some hl3)
        · exact (((hka.sub fun g hg => .inl hg).trans hk2).trans (hk3.sub fun g hg => .inl hg)).trans (KeepX.put zR _)
      | ret => exact hp.elim
      | exit id => exact hp.elim
      | goto t => exact hp.elim
      | panic ch => exact hp.elim
      | outgrown => exact hp.elim
    · -- behind the iterator
      rintro e W2 ⟨⟨v, rfl⟩, ⟨hi, hl, hd, _, _⟩, hkY⟩
      have hend := run_endLoop (P := P) hl (by rw [hrec]; simp)
      refine ⟨none, _, by rw [hrec] at hend; exact hend, ?_⟩
      refine hdone w.heap.size (Xo Y [w.heap.size, w.heap.size + 1]) _ (fun g hg => .inl hg) (.inr (by simp)) (Nat.le_refl _) ?_ ((fI xs).put hi (.inr (by simp)) _) (((KeepX.of hb1 hY).trans hkY).trans (KeepX.put nR _)) ((World.putObj_heap_other (by omega)).trans hd)
      intro g hg
      rw [World.putObj_size]
      rcases hg with hg | hg
      · exact Nat.lt_of_lt_of_le (hY1 g hg) hkY.size
      · simp only [List.mem_cons, List.not_mem_nil, or_false] at hg
        rcases hg with rfl | rfl
        · exact lt_some hd
        · exact lt_some hl
end Go.Proofs.YtilhiafmljmljaaDoor
namespace Go.Proofs.YtilhiafmljmljaaDoor
open Go.RowKit Go.Shelf
abbrev Bo := Nat × Obj
structure It (X : Nat → Prop) (w : World) (B : List Bo) (J : Thing) (W : World) : Prop where
  keep : KeepX X w W
  old : Old X w
  blk : ∀ x ∈ B, W.heap[x.1]? = some x.2 ∧ w.heap.size ≤ x.1
  nd : (B.map (·.1)).Nodup
  firm : Firm J
  j : J (Xo X (B.map (·.1))) W
section
variable {X : Nat → Prop} {w W W' : World} {B C : List Bo} {J J' : Thing}
theorem It.start (hX : Old X w) (f : Firm J) (h : J X w) : It X w [] J w := ⟨KeepX.refl _ _, hX, (fun _ h => by cases h), List.nodup_nil, f, f.sub h fun _ hg => hg.elim id fun h => by cases h⟩
theorem It.lt (h : It X w B J W) {x : Bo} (hx : x ∈ B) : x.1 < W.heap.size := lt_some (h.blk x hx).1
theorem It.oldX (h : It X w B J W) : Old (Xo X (B.map (·.1))) W := fun g hg => by
  rcases hg with hg | hg
  · exact Nat.lt_of_lt_of_le (h.old g hg) h.keep.size
  · obtain ⟨x, hx, rfl⟩ := List.mem_map.1 hg
    exact h.lt hx
theorem It.call (h : It X w B J W) (hb : Below W.heap.size W W') : It X w B J W' :=
  ⟨h.keep.trans ((KeepX.of hb h.oldX).sub fun _ hg => .inl hg), h.old, fun x hx => ⟨(hb.block _ (h.lt hx)).trans (h.blk x hx).1, (h.blk x hx).2⟩, h.nd, h.firm, h.firm.keep h.j hb⟩
theorem It.push (h : It X w B J W) (hb : Below W.heap.size W W') {b : Nat} {o : Obj} (ho : W'.heap[b]? = some o) (hl : W.heap.size ≤ b) : It X w ((b, o) :: B) J W' := by
  have h1 := h.call hb
  refine ⟨h1.keep, h.old, fun x hx => ?_, ?_, h.firm, h.firm.add h.j hb fun g hg => ?_⟩
  · rcases List.mem_cons.1 hx with rfl | hx
    · exact ⟨ho, Nat.le_trans h.keep.size hl⟩
    · exact h1.blk x hx
  · rw [List.map_cons, List.nodup_cons]
    refine ⟨fun hm => ?_, h.nd⟩
    obtain ⟨x, hx, he⟩ := List.mem_map.1 hm
    have := h.lt hx
    dsimp only at he
    omega
  · rcases hg with hg | hg
    · exact .inl (.inl hg)
    · rw [List.map_cons, List.mem_cons] at hg
      rcases hg with rfl | hg
      · exact .inr hl
      · exact .inl (.inr hg)
theorem It.news (h : It X w B J W) (hb : Below W.heap.size W W') (C : List Bo) (hC : ∀ x ∈ C, W'.heap[x.1]? = some x.2 ∧ W.heap.size ≤ x.1) (hn : (C.map (·.1)).Nodup) : It X w (C ++ B) J W' := by
  have h1 := h.call hb
  refine ⟨h1.keep, h.old, fun x hx => ?_, ?_, h.firm, h.firm.add h.j hb fun g hg => ?_⟩
  · rcases List.mem_append.1 hx with hx | hx
    · exact ⟨(hC x hx).1, Nat.le_trans h.keep.size (hC x hx).2⟩
    · exact h1.blk x hx
  · rw [List.map_append, List.nodup_append]
    refine ⟨hn, h.nd, fun a ha b hb2 e => ?_⟩
    obtain ⟨x, hx, rfl⟩ := List.mem_map.1 ha
    obtain ⟨y, hy, rfl⟩ := List.mem_map.1 hb2
    have := (hC x hx).2
    have := h.lt hy
    omega
  · rcases hg with hg | hg
    · exact .inl (.inl hg)
    · rw [List.map_append, List.mem_append] at hg
      rcases hg with hg | hg
      · obtain ⟨x, hx, rfl⟩ := List.mem_map.1 hg
        exact .inr (hC x hx).2
      · exact .inl (.inr hg)
theorem It.less (h : It X w B J W) (hC : C.Sublist B) : It X w C J W :=
  ⟨h.keep, h.old, fun x hx => h.blk x (hC.subset hx), List.Sublist.nodup (hC.map _) h.nd, h.firm, h.firm.sub h.j fun _ hg => hg.imp id fun hg => (hC.map (·.1)).subset hg⟩
theorem It.drop {x : Bo} (h : It X w (x :: B) J W) : It X w B J W := h.less (List.sublist_cons_self _ _)
theorem It.round (h : It X w B J W) (hk : KeepX (Xo X (B.map (·.1))) W W') (f : Firm J') (hj : J' (Xo X (B.map (·.1))) W') : It X w B J' W' :=
  ⟨h.keep.trans (hk.sub fun _ hg => .inl hg), h.old, fun x hx => ⟨(hk.blk _ (.inr (List.mem_map.2 ⟨x, hx, rfl⟩))).trans (h.blk x hx).1, (h.blk x hx).2⟩, h.nd, f, hj⟩
theorem It.at (h : It X w B J W) (k : Nat) {b : Nat} {o : Obj} (hk : B[k]? = some (b, o)) : W.heap[b]? = some o := (h.blk _ (List.mem_of_getElem? hk)).1
theorem It.no (h : It X w B J W) {x : Bo} (hx : x ∈ B) : ¬ X x.1 := fun hX => by have := h.old _ hX; have := (h.blk x hx).2; omega
theorem It.put {b : Nat} {o : Obj} (h : It X w ((b, o) :: B) J W) (o' : Obj) : It X w B J (W.putObj b o') := by
  have hn := h.nd
  rw [List.map_cons, List.nodup_cons] at hn
  refine ⟨h.keep.trans (KeepX.put (h.no List.mem_cons_self) o'), h.old, fun x hx => ?_, hn.2, h.firm, h.firm.sub (h.firm.put h.j (.inr List.mem_cons_self) o') fun g hg => hg.imp id fun hg => by rw [List.map_cons]; exact List.mem_cons_of_mem _ hg⟩
  have hb := h.blk x (List.mem_cons_of_mem _ hx)
  refine ⟨(World.putObj_heap_other fun e => hn.1 ?_).trans hb.1, hb.2⟩
  rw [← e]
  exact List.mem_map.2 ⟨x, hx, rfl⟩
def HeldT (J : Thing) (B : List Bo) : Thing := fun Z W => J (Xo Z (B.map (·.1))) W ∧ ∀ x ∈ B, W.heap[x.1]? = some x.2 ∧ ¬ Z x.1
theorem HeldT.firm (f : Firm J) (B : List Bo) : Firm (HeldT J B) :=
  ⟨fun {X Y W W'} h hb hY => ⟨f.add h.1 hb fun g hg => hg.elim (fun hg => (hY g hg).imp .inl id) fun hg => .inl (.inr hg), fun x hx => ⟨(hb.block _ (lt_some (h.2 x hx).1)).trans (h.2 x hx).1, fun hg => (hY _ hg).elim (h.2 x hx).2 fun hs => by have := lt_some (h.2 x hx).1; omega⟩⟩,
   fun {X b W W'} h hX hs hg => ⟨f.other h.1 (.inl hX) hs hg, fun x hx => ⟨(hg _ fun e => (h.2 x hx).2 (by rw [e]; exact hX)).trans (h.2 x hx).1, (h.2 x hx).2⟩⟩⟩
theorem It.held (h : It X w (C ++ B) J W) : HeldT J B (Xo X (C.map (·.1))) W := by
  refine ⟨h.firm.sub h.j fun g hg => ?_, fun x hx => ⟨(h.blk x (List.mem_append_right _ hx)).1, fun hg => ?_⟩⟩
  · rw [List.map_append]
    rcases hg with (hg | hg) | hg
    · exact .inl hg
    · exact .inr (List.mem_append_left _ hg)
    · exact .inr (List.mem_append_right _ hg)
  · rcases hg with hg | hg
    · exact h.no (List.mem_append_right _ hx) hg
    · have := h.nd
      rw [List.map_append, List.nodup_append] at this
      exact this.2.2 _ hg _ (List.mem_map.2 ⟨x, hx, rfl⟩) rfl
theorem It.back (h : It X w (C ++ B) J W) {Z : Nat → Prop} {D : Nat} {o : Obj} (hZ : ∀ g, Xo X (C.map (·.1)) g → Z g) (hD : Z D) (hl : W.heap.size ≤ D) (f : Firm J') (hT : HeldT J' B Z W') (hk : KeepX (Xo X (C.map (·.1))) W W') (ho : W'.heap[D]? = some o) : It X w ((D, o) :: B) J' W' := by
  have hnd := h.nd
  rw [List.map_append, List.nodup_append] at hnd
  refine ⟨h.keep.trans (hk.sub fun _ hg => .inl hg), h.old, fun x hx => ?_, ?_, f, f.sub hT.1 fun g hg => ?_⟩
  · rcases List.mem_cons.1 hx with rfl | hx
    · exact ⟨ho, Nat.le_trans h.keep.size hl⟩
    · exact ⟨(hT.2 x hx).1, (h.blk x (List.mem_append_right _ hx)).2⟩
  · rw [List.map_cons, List.nodup_cons]
    refine ⟨fun hm => ?_, hnd.2.1⟩
    obtain ⟨x, hx, he⟩ := List.mem_map.1 hm
    have := h.lt (List.mem_append_right C hx)
    dsimp only at he
    omega
  · rcases hg with hg | hg
    · exact .inl (hZ g (.inl hg))
    · rw [List.map_cons, List.mem_cons] at hg
      rcases hg with rfl | hg
      · exact .inl hD
      · exact .inr hg
end
theorem roundIn_in {F : Fence} {n : Nat} {P : Program} {l l0 : Nat} {f : FuncId} {tmps : Array Value} {assign body : Code} {w : World} {R : Ending → World → Prop} (h : RoundIn F n P l f tmps assign body w R) : RoundIn (F.inRound l0) n P l f tmps assign body w R := h
theorem boxT_firm (o : Obj) (p : Nat → Prop) : Firm (fun Z V => ∃ b, V.heap[b]? = some o ∧ ¬ Z b ∧ p b) :=
  ⟨fun {X Y W W'} h hb hY => by
    obtain ⟨b, h1, h2, h3⟩ := h
    exact ⟨b, (hb.block _ (lt_some h1)).trans h1, fun hg => (hY _ hg).elim h2 fun hs => by have := lt_some h1; omega, h3⟩,
   fun {X b' W W'} h hX hs hg => by
    obtain ⟨b, h1, h2, h3⟩ := h
    exact ⟨b, (hg _ fun e => h2 (by rw [e]; exact hX)).trans h1, h2, h3⟩⟩
def marksB (ms : List Nat) : List Bo := ms.map fun D => (D, .deferred (some []))
def marksD (ms : List Nat) : List Deferred := ms.map fun D => { target := .collected D, args := #[] }
theorem leaves_marks {X : Nat → Prop} {w : World} {n : Nat} {P : Program} {fn : Func} {tmps : Array Value} {R : Ending → World → Prop} {B : List Bo} {J : Thing} : ∀ (ms : List Nat) (W : World), It X w (marksB ms ++ B) J W → (∀ W', It X w B J W' → LeavesInM Fence.wide n P fn tmps R [] .returning W') →
    LeavesInM Fence.wide n P fn tmps R (marksD ms) .returning W := by
  intro ms
  induction ms with
  | nil => intro W h hW; exact hW W h
  | cons D ms ih =>
    intro W h hW
    exact ⟨by simp, .inl ⟨D, _, rfl, run_takeDeferred (h.at 0 rfl), ih _ (h.put _) hW⟩⟩
def endM (n : Nat) (P : Program) (fn : Func) (R : Ending → World → Prop) : Exit → Act → World → Prop
  | .normal, a, w => LeavesInM Fence.wide n P fn a.tmps R a.defers .returning w
  | .ret, a, w => LeavesInM Fence.wide n P fn a.tmps R a.defers .returning w
  | _, _, _ => False
theorem calls_end {n : Nat} {P : Program} {f : FuncId} {fn : Func} {c : Code} {args : Array Value} {w : World} {R : Ending → World → Prop} (hf : P.funcs[f]? = some fn) (hb : fn.body = some c)
    (h : c.wp P (endM n P fn R) { tmps := args ++ Array.replicate (fn.ntmps - args.size) undef, defers := [] } w) : CallsIn Fence.wide n P f args w R := by
  refine callsIn_of_wp_marks hf hb trivial (wpIn_wide.2 (wp_mono h ?_)) rfl
  intro e a w he
  cases e with
  | normal => exact he
  | ret => exact he
  | exit id => exact he.elim
  | goto t => exact he.elim
  | panic ch => exact he.elim
  | outgrown => exact he.elim
end Go.Proofs.YtilhiafmljmljaaDoor
