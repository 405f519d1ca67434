import Derived.Test.YtilhiafmljmljaaR14
import Derived.Test.YtilhiafmljmljaaR13
namespace Go.Proofs.Ytilhiafmljmljaa
open Go.RowKit Go.Shelf
structure KeepX (X : Nat → Prop) (W W' : World) : Prop where
  os : W'.os = W.os
  tape : W'.tape = W.tape
  output : W'.output = W.output
  size : W.heap.size ≤ W'.heap.size
  blk : ∀ g, X g → W'.heap[g]? = W.heap[g]?
section
variable {X Y : Nat → Prop} {W W' V : World}
theorem KeepX.refl (X : Nat → Prop) (W : World) : KeepX X W W := ⟨rfl, rfl, rfl, Nat.le_refl _, fun _ _ => rfl⟩
theorem KeepX.trans (h : KeepX X W W') (k : KeepX X W' V) : KeepX X W V := ⟨k.os.trans h.os, k.tape.trans h.tape, k.output.trans h.output, Nat.le_trans h.size k.size, fun g hg => (k.blk g hg).trans (h.blk g hg)⟩
theorem KeepX.sub (h : KeepX X W W') (hs : ∀ g, Y g → X g) : KeepX Y W W' := ⟨h.os, h.tape, h.output, h.size, fun g hg => h.blk g (hs g hg)⟩
theorem KeepX.of (hb : Below W.heap.size W W') (hX : Old X W) : KeepX X W W' := ⟨hb.os, hb.tape, hb.output, hb.size, fun g hg => hb.block g (hX g hg)⟩
theorem KeepX.below {B : Nat} (h : KeepX X W W') (hX : ∀ g, g < B → X g) : Below B W W' := ⟨h.os, h.tape, h.output, h.size, fun g hg => h.blk g (hX g hg)⟩
theorem KeepX.put {b : Nat} (hn : ¬ X b) (o : Obj) : KeepX X W (W.putObj b o) := ⟨rfl, rfl, rfl, by simp, fun g hg => World.putObj_heap_other fun e => hn (e ▸ hg)⟩
theorem KeepX.one {b : Nat} (hn : ¬ X b) (hb : Below b W W') (hg : ∀ g, g ≠ b → W'.heap[g]? = W.heap[g]?) : KeepX X W W' := ⟨hb.os, hb.tape, hb.output, hb.size, fun g h => hg g fun e => hn (e ▸ h)⟩
theorem Old.kept (h : Old X W) (hk : W.heap.size ≤ W'.heap.size) : Old X W' := fun g hg => Nat.lt_of_lt_of_le (h g hg) hk
end
def itPost (T : Thing) (Z : Nat → Prop) (W : World) : Exit → Act → World → Prop
  | .normal, _, W' => T Z W' ∧ KeepX Z W W'
  | _, _, _ => False
def SeqIt {α : Type} (P : Program) (g : Nat) (lb : Array Value) (encs : α → Array Value) (xs : List α) (X0 : Nat → Prop) (w : World) : Prop :=
  ∀ (l n : Nat) (J : List α → Thing) (Y : Nat → Prop) (W : World), (∀ q, Firm (J q)) → KeepX X0 w W → (∀ g, X0 g → Y g) → Old Y W →
    (∀ q x Z W1 m, (∀ g, Y g → Z g) → Old Z W1 → J q Z W1 → q.length < xs.length → YieldAt Fence.wide m P l (encs x) W1 fun e W' => e = .returned (.bool true) ∧ J (q ++ [x]) Z W' ∧ KeepX Z W1 W') →
    J [] Y W → CallsIn Fence.wide n P g (#[.func (.yield l) #[] #[]] ++ lb) W fun e W' => (∃ v, e = .returned v) ∧ J xs Y W' ∧ KeepX Y W W'
def LoopT (D R : Nat) (o : Obj) (T : Thing) : Thing := fun Z W => T (Xo Z [D, R]) W ∧ W.heap[R]? = some o ∧ W.heap[D]? = some (.deferred (some [])) ∧ ¬ Z R ∧ ¬ Z D
theorem lt_some {W : World} {k : Nat} {o : Obj} (h : W.heap[k]? = some o) : k < W.heap.size := (Array.getElem?_eq_some_iff.1 h).1
theorem LoopT.firm {D R : Nat} {o : Obj} {T : Thing} (f : Firm T) : Firm (LoopT D R o T) :=
  ⟨fun {X Y W W'} h hb hY => ⟨f.add h.1 hb fun g hg => hg.elim (fun hg => (hY g hg).imp .inl id) fun hg => .inl (.inr hg), (hb.block _ (lt_some h.2.1)).trans h.2.1, (hb.block _ (lt_some h.2.2.1)).trans h.2.2.1,
    fun hR => (hY R hR).elim h.2.2.2.1 fun hs => by have := lt_some h.2.1; omega, fun hD => (hY D hD).elim h.2.2.2.2 fun hs => by have := lt_some h.2.2.1; omega⟩,
   fun {X b W W'} h hX hs hg => ⟨f.other h.1 (.inl hX) hs hg, (hg R fun e => h.2.2.2.1 (e ▸ hX)).trans h.2.1, (hg D fun e => h.2.2.2.2 (e ▸ hX)).trans h.2.2.1, h.2.2.2⟩⟩
theorem Firm.put {T : Thing} (f : Firm T) {Z : Nat → Prop} {W : World} (h : T Z W) {b : Nat} (hb : Z b) (o : Obj) : T Z (W.putObj b o) :=
  f.other h hb (by simp) fun g hg => World.putObj_heap_other hg
theorem range_it {α : Type} {P : Program} {g : Operand} {ps : Array Tmp} {assign body : Code} {Q : Exit → Act → World → Prop} {a : Act} {w : World} {gf : Nat} {lb : Array Value}
    (hg : a.eval g = .func (.func gf) #[] lb) (eg : ∀ args w, (callFunc gf args).run P w = .ok (.enter gf args) w) {encs : α → Array Value} (hps : ∀ x, (encs x).size = ps.size) {xs : List α} {X0 Y : Nat → Prop} {w0 : World}
    (hseq : SeqIt P gf lb encs xs X0 w0) (hk : KeepX X0 w0 w) (hXY : ∀ g, X0 g → Y g) (hY : Old Y w) (I : List α → Thing) (fI : ∀ q, Firm (I q)) (h0 : I [] Y w) (Ax : α → Act → Thing) (fA : ∀ x a', Firm (Ax x a'))
    (hassign : ∀ (l m : Nat) (q : List α) (x : α) (Z : Nat → Prop) (W : World) (K : Act → World → Prop), (∀ g, Y g → Z g) → Old Z W → I q Z W → (∀ a' W', KeepX Z W W' → I q Z W' → Ax x a' Z W' → K a' W') →
      assign.wpIn (Fence.wide.inRound l) m P (Exit.then K (fun _ _ _ => False)) { tmps := (ps.zip (encs x)).foldl (fun t (p, v) => t.setIfInBounds p v) a.tmps, defers := [] } W)
    (hbody : ∀ (l m : Nat) (q : List α) (x : α) (Z : Nat → Prop) (a' : Act) (W : World), (∀ g, Y g → Z g) → Old Z W → I q Z W → Ax x a' Z W → q.length < xs.length → body.wpIn (Fence.wide.inRound l) m P (itPost (I (q ++ [x])) Z W) a' W)
    (hdone : ∀ (D : Nat) (Z : Nat → Prop) (W : World), (∀ g, Y g → Z g) → Z D → w.heap.size ≤ D → Old Z W → I xs Z W → KeepX Y w W → W.heap[D]? = some (.deferred (some [])) → Q .normal { a with defers := { target := .collected D, args := #[] } :: a.defers } W) :
    (Code.rangeFunc g ps assign body).wp P Q a w := by
  refine (wpIn_wide (n := 0)).1 (wpIn_rangeFunc ?_)
  intro fn hfn
  rw [show Fence.wide.round = none from rfl]
  obtain ⟨rec, hrec⟩ : ∃ rec : LoopState → Option Code → Loop, rec = fun st pe => { state := st, pending := pe, fn, tmps := a.tmps, params := ps, assign, body, defers := w.heap.size } := ⟨_, rfl⟩
  obtain ⟨W1, hW1⟩ : ∃ W1, (w.alloc (.deferred (some []))).alloc (.loop (rec .ready none)) = W1 := ⟨_, rfl⟩
  have hL1 : W1.heap[w.heap.size + 1]? = some (.loop (rec .ready none)) := by
    rw [← hW1]; have := World.alloc_heap_new (w.alloc (.deferred (some []))) (.loop (rec .ready none)); rwa [World.size_alloc] at this
  have hK1 : W1.heap[w.heap.size]? = some (.deferred (some [])) := by
    rw [← hW1]; exact (Below.heap_alloc _ _ _ (by simp)).trans (World.alloc_heap_new w _)
  have hb1 : Below w.heap.size w W1 := by
    rw [← hW1]; exact ((Below.refl _ w).alloc (Nat.le_refl _) _).alloc (by simp) _
  have hY1 : Old Y W1 := hY.kept hb1.size
  have nD : ¬ Y w.heap.size := fun h => Nat.lt_irrefl _ (hY _ h)
  have nR : ¬ Y (w.heap.size + 1) := fun h => by have := hY _ h; omega
  refine ⟨w.heap.size + 1, [{ target := .collected w.heap.size, args := #[] }], W1, { target := .fn (.func gf) lb, args := #[.func (.yield (w.heap.size + 1)) #[] #[]] }, W1, gf,
    #[.func (.yield (w.heap.size + 1)) #[] #[]] ++ lb, W1, ?_, ?_, ?_, ?_, fun h => (by cases h), ?_⟩
  · rw [← hW1, hrec]; exact run_enterLoop_outer _ _ _ _ _
  · simp only [resolve, hg]
    simp [go_sem]
  · intro f' _; exact trivial
  · simp [invoke, go_sem, eg]
  · refine (hseq (w.heap.size + 1) (0 - 1) (fun q => LoopT w.heap.size (w.heap.size + 1) (.loop (rec .ready none)) (I q)) Y W1 (fun q => LoopT.firm (fI q)) (hk.trans ((KeepX.of hb1 hY).sub hXY)) hXY hY1 ?_ ⟨(fI []).add h0 hb1 (fun g hg => hg.imp id fun hg => by simp at hg; omega), hL1, hK1, nR, nD⟩).mono ?_
    · -- one round
      rintro q x Z W m hYZ hZ ⟨hi, hl, hd, zR, zD⟩ hlen
      have hy := run_yield (P := P) (args := encs x) hl (by rw [hrec]; exact hps x)
      rw [hrec] at hy
      have hZ' : Old (Xo Z [w.heap.size, w.heap.size + 1]) W := fun g hg => by
        rcases hg with hg | hg
        · exact hZ g hg
        · simp only [List.mem_cons, List.not_mem_nil, or_false] at hg
          rcases hg with rfl | rfl
          · exact lt_some hd
          · exact lt_some hl
      have zz : ∀ g, Y g → Xo Z [w.heap.size, w.heap.size + 1] g := fun g hg => .inl (hYZ g hg)
      have inR : Xo Z [w.heap.size, w.heap.size + 1] (w.heap.size + 1) := .inr (by simp)
      have inD : Xo Z [w.heap.size, w.heap.size + 1] w.heap.size := .inr (by simp)
      refine ⟨fn, _, assign, body, hy, roundIn_of_wpIn hfn (hassign _ m q x _ W _ zz hZ' hi ?_)⟩
      clear hy
      intro a' Wa hka hia hax
      have hla := (hka.blk _ inR).trans hl
      have hda := (hka.blk _ inD).trans hd
      refine ⟨_, run_beginRound hla (by rw [hrec]), ?_⟩
      obtain ⟨W2, hW2⟩ : ∃ W2, Wa.putObj (w.heap.size + 1) (.loop { rec .ready none with state := .busy }) = W2 := ⟨_, rfl⟩
      have hs2 : Wa.heap.size ≤ W2.heap.size := by rw [← hW2]; simp
      have hi2 := (fI q).put hia inR (.loop { rec .ready none with state := .busy })
      have ha2 := (fA x a').put hax inR (.loop { rec .ready none with state := .busy })
      have hl2 : W2.heap[w.heap.size + 1]? = some (.loop { rec .ready none with state := .busy }) := by rw [← hW2]; exact World.putObj_heap_same (lt_some hla)
      have hd2 : W2.heap[w.heap.size]? = some (.deferred (some [])) := by rw [← hW2]; exact (World.putObj_heap_other (by omega)).trans hda
      have hk2 : KeepX Z Wa W2 := by rw [← hW2]; exact KeepX.put zR _
      rw [hW2] at hi2 ha2 ⊢
      clear hW2
      refine wpIn_mono (hbody _ m q x _ a' W2 zz ((hZ'.kept hka.size).kept hs2) hi2 ha2 hlen) ?_
      rintro e a3 W3 hp
      cases e with
      | normal =>
        obtain ⟨hi3, hk3⟩ := hp
        have hl3 := (hk3.blk _ inR).trans hl2
        have hd3 := (hk3.blk _ inD).trans hd2
        have hr := run_endRound (P := P) none hl3
        rw [hrec] at hr
        refine ⟨_, _, hr, rfl, ⟨(fI _).put hi3 inR _, ?_, (World.putObj_heap_other (by omega)).trans hd3, zR, zD⟩, ?_⟩
        · rw [hrec]; exact World.putObj_heap_same (lt_some hl3)
        · exact (((hka.sub fun g hg => .inl hg).trans hk2).trans (hk3.sub fun g hg => .inl hg)).trans (KeepX.put zR _)
      | ret => exact hp.elim
      | exit id => exact hp.elim
      | goto t => exact hp.elim
      | panic ch => exact hp.elim
      | outgrown => exact hp.elim
    · -- behind the iterator
      rintro e W2 ⟨⟨v, rfl⟩, ⟨hi, hl, hd, _, _⟩, hkY⟩
      have hend := run_endLoop (P := P) hl (by rw [hrec]; simp)
      refine ⟨none, _, by rw [hrec] at hend; exact hend, ?_⟩
      refine hdone w.heap.size (Xo Y [w.heap.size, w.heap.size + 1]) _ (fun g hg => .inl hg) (.inr (by simp)) (Nat.le_refl _) ?_ ((fI xs).put hi (.inr (by simp)) _) (((KeepX.of hb1 hY).trans hkY).trans (KeepX.put nR _)) ((World.putObj_heap_other (by omega)).trans hd)
      intro g hg
      rw [World.putObj_size]
      rcases hg with hg | hg
      · exact Nat.lt_of_lt_of_le (hY1 g hg) hkY.size
      · simp only [List.mem_cons, List.not_mem_nil, or_false] at hg
        rcases hg with rfl | rfl
        · exact lt_some hd
        · exact lt_some hl
end Go.Proofs.Ytilhiafmljmljaa
namespace Go.Proofs.Ytilhiafmljmljaa
open Go.RowKit Go.Shelf
abbrev Bo := Nat × Obj
structure It (X : Nat → Prop) (w : World) (B : List Bo) (J : Thing) (W : World) : Prop where
  keep : KeepX X w W
  old : Old X w
  blk : ∀ x ∈ B, W.heap[x.1]? = some x.2 ∧ w.heap.size ≤ x.1
  nd : (B.map (·.1)).Nodup
  firm : Firm J
  j : J (Xo X (B.map (·.1))) W
section
variable {X : Nat → Prop} {w W W' : World} {B C : List Bo} {J J' : Thing}
theorem It.start (hX : Old X w) (f : Firm J) (h : J X w) : It X w [] J w := ⟨KeepX.refl _ _, hX, (fun _ h => by cases h), List.nodup_nil, f, f.sub h fun _ hg => hg.elim id fun h => by cases h⟩
theorem It.lt (h : It X w B J W) {x : Bo} (hx : x ∈ B) : x.1 < W.heap.size := lt_some (h.blk x hx).1
theorem It.oldX (h : It X w B J W) : Old (Xo X (B.map (·.1))) W := fun g hg => by
  rcases hg with hg | hg
  · exact Nat.lt_of_lt_of_le (h.old g hg) h.keep.size
  · obtain ⟨x, hx, rfl⟩ := List.mem_map.1 hg
    exact h.lt hx
theorem It.call (h : It X w B J W) (hb : Below W.heap.size W W') : It X w B J W' :=
  ⟨h.keep.trans ((KeepX.of hb h.oldX).sub fun _ hg => .inl hg), h.old, fun x hx => ⟨(hb.block _ (h.lt hx)).trans (h.blk x hx).1, (h.blk x hx).2⟩, h.nd, h.firm, h.firm.keep h.j hb⟩
theorem It.push (h : It X w B J W) (hb : Below W.heap.size W W') {b : Nat} {o : Obj} (ho : W'.heap[b]? = some o) (hl : W.heap.size ≤ b) : It X w ((b, o) :: B) J W' := by
  have h1 := h.call hb
  refine ⟨h1.keep, h.old, fun x hx => ?_, ?_, h.firm, h.firm.add h.j hb fun g hg => ?_⟩
  · rcases List.mem_cons.1 hx with rfl | hx
    · exact ⟨ho, Nat.le_trans h.keep.size hl⟩
    · exact h1.blk x hx
  · rw [List.map_cons, List.nodup_cons]
    refine ⟨fun hm => ?_, h.nd⟩
    obtain ⟨x, hx, he⟩ := List.mem_map.1 hm
    have := h.lt hx
    dsimp only at he
    omega
  · rcases hg with hg | hg
    · exact .inl (.inl hg)
    · rw [List.map_cons, List.mem_cons] at hg
      rcases hg with rfl | hg
      · exact .inr hl
      · exact .inl (.inr hg)
theorem It.news (h : It X w B J W) (hb : Below W.heap.size W W') (C : List Bo) (hC : ∀ x ∈ C, W'.heap[x.1]? = some x.2 ∧ W.heap.size ≤ x.1) (hn : (C.map (·.1)).Nodup) : It X w (C ++ B) J W' := by
  have h1 := h.call hb
  refine ⟨h1.keep, h.old, fun x hx => ?_, ?_, h.firm, h.firm.add h.j hb fun g hg => ?_⟩
  · rcases List.mem_append.1 hx with hx | hx
    · exact ⟨(hC x hx).1, Nat.le_trans h.keep.size (hC x hx).2⟩
    · exact h1.blk x hx
  · rw [List.map_append, List.nodup_append]
    refine ⟨hn, h.nd, fun a ha b hb2 e => ?_⟩
    obtain ⟨x, hx, rfl⟩ := List.mem_map.1 ha
    obtain ⟨y, hy, rfl⟩ := List.mem_map.1 hb2
    have := (hC x hx).2
    have := h.lt hy
    omega
  · rcases hg with hg | hg
    · exact .inl (.inl hg)
    · rw [List.map_append, List.mem_append] at hg
      rcases hg with hg | hg
      · obtain ⟨x, hx, rfl⟩ := List.mem_map.1 hg
        exact .inr (hC x hx).2
      · exact .inl (.inr hg)
theorem It.less (h : It X w B J W) (hC : C.Sublist B) : It X w C J W :=
  ⟨h.keep, h.old, fun x hx => h.blk x (hC.subset hx), List.Sublist.nodup (hC.map _) h.nd, h.firm, h.firm.sub h.j fun _ hg => hg.imp id fun hg => (hC.map (·.1)).subset hg⟩
theorem It.drop {x : Bo} (h : It X w (x :: B) J W) : It X w B J W := h.less (List.sublist_cons_self _ _)
theorem It.round (h : It X w B J W) (hk : KeepX (Xo X (B.map (·.1))) W W') (f : Firm J') (hj : J' (Xo X (B.map (·.1))) W') : It X w B J' W' :=
  ⟨h.keep.trans (hk.sub fun _ hg => .inl hg), h.old, fun x hx => ⟨(hk.blk _ (.inr (List.mem_map.2 ⟨x, hx, rfl⟩))).trans (h.blk x hx).1, (h.blk x hx).2⟩, h.nd, f, hj⟩
theorem It.at (h : It X w B J W) (k : Nat) {b : Nat} {o : Obj} (hk : B[k]? = some (b, o)) : W.heap[b]? = some o := (h.blk _ (List.mem_of_getElem? hk)).1
theorem It.no (h : It X w B J W) {x : Bo} (hx : x ∈ B) : ¬ X x.1 := fun hX => by have := h.old _ hX; have := (h.blk x hx).2; omega
theorem It.put {b : Nat} {o : Obj} (h : It X w ((b, o) :: B) J W) (o' : Obj) : It X w B J (W.putObj b o') := by
  have hn := h.nd
  rw [List.map_cons, List.nodup_cons] at hn
  refine ⟨h.keep.trans (KeepX.put (h.no List.mem_cons_self) o'), h.old, fun x hx => ?_, hn.2, h.firm, h.firm.sub (h.firm.put h.j (.inr List.mem_cons_self) o') fun g hg => hg.imp id fun hg => by rw [List.map_cons]; exact List.mem_cons_of_mem _ hg⟩
  have hb := h.blk x (List.mem_cons_of_mem _ hx)
  refine ⟨(World.putObj_heap_other fun e => hn.1 ?_).trans hb.1, hb.2⟩
  rw [← e]
  exact List.mem_map.2 ⟨x, hx, rfl⟩
def HeldT (J : Thing) (B : List Bo) : Thing := fun Z W => J (Xo Z (B.map (·.1))) W ∧ ∀ x ∈ B, W.heap[x.1]? = some x.2 ∧ ¬ Z x.1
theorem HeldT.firm (f : Firm J) (B : List Bo) : Firm (HeldT J B) :=
  ⟨fun {X Y W W'} h hb hY => ⟨f.add h.1 hb fun g hg => hg.elim (fun hg => (hY g hg).imp .inl id) fun hg => .inl (.inr hg), fun x hx => ⟨(hb.block _ (lt_some (h.2 x hx).1)).trans (h.2 x hx).1, fun hg => (hY _ hg).elim (h.2 x hx).2 fun hs => by have := lt_some (h.2 x hx).1; omega⟩⟩,
   fun {X b W W'} h hX hs hg => ⟨f.other h.1 (.inl hX) hs hg, fun x hx => ⟨(hg _ fun e => (h.2 x hx).2 (by rw [e]; exact hX)).trans (h.2 x hx).1, (h.2 x hx).2⟩⟩⟩
theorem It.held (h : It X w (C ++ B) J W) : HeldT J B (Xo X (C.map (·.1))) W := by
  refine ⟨h.firm.sub h.j fun g hg => ?_, fun x hx => ⟨(h.blk x (List.mem_append_right _ hx)).1, fun hg => ?_⟩⟩
  · rw [List.map_append]
    rcases hg with (hg | hg) | hg
    · exact .inl hg
    · exact .inr (List.mem_append_left _ hg)
    · exact .inr (List.mem_append_right _ hg)
  · rcases hg with hg | hg
    · exact h.no (List.mem_append_right _ hx) hg
    · have := h.nd
      rw [List.map_append, List.nodup_append] at this
      exact this.2.2 _ hg _ (List.mem_map.2 ⟨x, hx, rfl⟩) rfl
theorem It.back (h : It X w (C ++ B) J W) {Z : Nat → Prop} {D : Nat} {o : Obj} (hZ : ∀ g, Xo X (C.map (·.1)) g → Z g) (hD : Z D) (hl : W.heap.size ≤ D) (f : Firm J') (hT : HeldT J' B Z W') (hk : KeepX (Xo X (C.map (·.1))) W W') (ho : W'.heap[D]? = some o) : It X w ((D, o) :: B) J' W' := by
  have hnd := h.nd
  rw [List.map_append, List.nodup_append] at hnd
  refine ⟨h.keep.trans (hk.sub fun _ hg => .inl hg), h.old, fun x hx => ?_, ?_, f, f.sub hT.1 fun g hg => ?_⟩
  · rcases List.mem_cons.1 hx with rfl | hx
    · exact ⟨ho, Nat.le_trans h.keep.size hl⟩
    · exact ⟨(hT.2 x hx).1, (h.blk x (List.mem_append_right _ hx)).2⟩
  · rw [List.map_cons, List.nodup_cons]
    refine ⟨fun hm => ?_, hnd.2.1⟩
    obtain ⟨x, hx, he⟩ := List.mem_map.1 hm
    have := h.lt (List.mem_append_right C hx)
    dsimp only at he
    omega
  · rcases hg with hg | hg
    · exact .inl (hZ g (.inl hg))
    · rw [List.map_cons, List.mem_cons] at hg
      rcases hg with rfl | hg
      · exact .inl hD
      · exact .inr hg
end
theorem roundIn_in {F : Fence} {n : Nat} {P : Program} {l l0 : Nat} {f : FuncId} {tmps : Array Value} {assign body : Code} {w : World} {R : Ending → World → Prop} (h : RoundIn F n P l f tmps assign body w R) : RoundIn (F.inRound l0) n P l f tmps assign body w R := h
theorem boxT_firm (o : Obj) (p : Nat → Prop) : Firm (fun Z V => ∃ b, V.heap[b]? = some o ∧ ¬ Z b ∧ p b) :=
  ⟨fun {X Y W W'} h hb hY => by
    obtain ⟨b, h1, h2, h3⟩ := h
    exact ⟨b, (hb.block _ (lt_some h1)).trans h1, fun hg => (hY _ hg).elim h2 fun hs => by have := lt_some h1; omega, h3⟩,
   fun {X b' W W'} h hX hs hg => by
    obtain ⟨b, h1, h2, h3⟩ := h
    exact ⟨b, (hg _ fun e => h2 (by rw [e]; exact hX)).trans h1, h2, h3⟩⟩
def marksB (ms : List Nat) : List Bo := ms.map fun D => (D, .deferred (some []))
def marksD (ms : List Nat) : List Deferred := ms.map fun D => { target := .collected D, args := #[] }
theorem leaves_marks {X : Nat → Prop} {w : World} {n : Nat} {P : Program} {fn : Func} {tmps : Array Value} {R : Ending → World → Prop} {B : List Bo} {J : Thing} : ∀ (ms : List Nat) (W : World), It X w (marksB ms ++ B) J W → (∀ W', It X w B J W' → LeavesInM Fence.wide n P fn tmps R [] .returning W') →
    LeavesInM Fence.wide n P fn tmps R (marksD ms) .returning W := by
  intro ms
  induction ms with
  | nil => intro W h hW; exact hW W h
  | cons D ms ih =>
    intro W h hW
    exact ⟨by simp, .inl ⟨D, _, rfl, run_takeDeferred (h.at 0 rfl), ih _ (h.put _) hW⟩⟩
def endM (n : Nat) (P : Program) (fn : Func) (R : Ending → World → Prop) : Exit → Act → World → Prop
  | .normal, a, w => LeavesInM Fence.wide n P fn a.tmps R a.defers .returning w
  | .ret, a, w => LeavesInM Fence.wide n P fn a.tmps R a.defers .returning w
  | _, _, _ => False
theorem calls_end {n : Nat} {P : Program} {f : FuncId} {fn : Func} {c : Code} {args : Array Value} {w : World} {R : Ending → World → Prop} (hf : P.funcs[f]? = some fn) (hb : fn.body = some c)
    (h : c.wp P (endM n P fn R) { tmps := args ++ Array.replicate (fn.ntmps - args.size) undef, defers := [] } w) : CallsIn Fence.wide n P f args w R := by
  refine callsIn_of_wp_marks hf hb trivial (wpIn_wide.2 (wp_mono h ?_)) rfl
  intro e a w he
  cases e with
  | normal => exact he
  | ret => exact he
  | exit id => exact he.elim
  | goto t => exact he.elim
  | panic ch => exact he.elim
  | outgrown => exact he.elim
end Go.Proofs.Ytilhiafmljmljaa
namespace Go.Proofs.Ytilhiafmljmljaa
def nd (l : List NodeL) (k : Nat) : NodeL := l.getD k zeroN
theorem nd_lt {l : List NodeL} {k : Nat} (h : k < l.length) : nd l k = l[k] := by
  unfold nd; rw [List.getD_eq_getElem?_getD, List.getElem?_eq_getElem h]; rfl
theorem nd_ge {l : List NodeL} {k : Nat} (h : l.length ≤ k) : nd l k = zeroN := by
  unfold nd; rw [List.getD_eq_getElem?_getD, List.getElem?_eq_none h]; rfl
theorem nd_kind {l : List NodeL} {k : Nat} (h : (nd l k).kind ≠ 0) : k < l.length := by
  refine Decidable.byContradiction fun hk => h ?_
  rw [nd_ge (by omega)]; rfl
theorem at_nd (l : List NodeL) (k : Nat) : atI l (k : Int) = nd l k := by unfold atI nd; rw [Int.toNat_natCast]
theorem got_nd (l : List NodeL) (k : Nat) : gotB l (k : Int) = true ↔ (nd l k).kind ≠ 0 := by
  unfold gotB
  rw [at_nd, Bool.and_eq_true]
  constructor
  · rintro ⟨_, h⟩; simpa using h
  · intro h; exact ⟨nat_in (nd_kind h), by simpa using h⟩
theorem got_nat {l : List NodeL} {i : Int} (h : gotB l i = true) : ∃ k : Nat, i = k ∧ k < l.length ∧ (nd l k).kind ≠ 0 := by
  obtain ⟨h0, h1⟩ := got_le h
  obtain ⟨k, rfl⟩ := Int.eq_ofNat_of_zero_le h0
  exact ⟨k, rfl, by omega, (got_nd l k).1 h⟩
theorem nodeL_nd {l : List NodeL} {k : Nat} (h : (nd l k).kind ≠ 0) : nodeL l (k : Int) = nd l k := by
  unfold nodeL; rw [if_pos ((got_nd l k).2 h), at_nd]
theorem nd_set {l : List NodeL} {k : Nat} (h : k < l.length) (n : NodeL) (j : Nat) : nd (l.set k n) j = if j = k then n else nd l j := by
  unfold nd
  rw [List.getD_eq_getElem?_getD, List.getD_eq_getElem?_getD, List.getElem?_set]
  by_cases e : j = k
  · subst e; simp [h]
  · rw [if_neg e, if_neg (fun h => e h.symm)]
def cntN (es : List EntL) (j : Int) : Nat := es.countP fun e => decide (e.2 = j)
def cnt (l : List NodeL) (j : Int) : Nat := (l.map fun n => cntN n.names j).sum
theorem cntN_nil (j : Int) : cntN [] j = 0 := rfl
theorem cntN_pos {es : List EntL} {j : Int} : 0 < cntN es j ↔ ∃ e ∈ es, e.2 = j := by
  unfold cntN
  rw [List.countP_pos_iff]
  simp
theorem cntN_zero {es : List EntL} {j : Int} : cntN es j = 0 ↔ ∀ e ∈ es, e.2 ≠ j := by
  unfold cntN
  rw [List.countP_eq_zero]
  simp
theorem cnt_set {l : List NodeL} {k : Nat} (h : k < l.length) (n : NodeL) (j : Int) : cnt (l.set k n) j + cntN (nd l k).names j = cnt l j + cntN n.names j := by
  rw [nd_lt h]
  unfold cnt
  induction l generalizing k with
  | nil => simp at h
  | cons a l ih =>
    cases k with
    | zero => simp; omega
    | succ k =>
      have := ih (k := k) (by simpa using h)
      simp only [List.set_cons_succ, List.map_cons, List.sum_cons, List.getElem_cons_succ] at this ⊢
      omega
theorem cnt_app (l : List NodeL) (n : NodeL) (j : Int) : cnt (l ++ [n]) j = cnt l j + cntN n.names j := by simp [cnt]
theorem cnt_ge {l : List NodeL} (k : Nat) (j : Int) : cntN (nd l k).names j ≤ cnt l j := by
  by_cases h : k < l.length
  · have := cnt_set h ⟨0, 0, 0, 0, 0, 0, [], []⟩ j
    simp only [cntN_nil] at this
    omega
  · rw [nd_ge (by omega)]; exact Nat.zero_le _
theorem cnt_ge2 {l : List NodeL} {k h : Nat} (hne : k ≠ h) (j : Int) : cntN (nd l k).names j + cntN (nd l h).names j ≤ cnt l j := by
  by_cases hk : k < l.length
  · have h1 := cnt_set hk ⟨0, 0, 0, 0, 0, 0, [], []⟩ j
    have h2 := cnt_ge (l := l.set k ⟨0, 0, 0, 0, 0, 0, [], []⟩) h j
    rw [nd_set hk, if_neg (Ne.symm hne)] at h2
    simp only [cntN_nil] at h1
    omega
  · rw [nd_ge (l := l) (k := k) (by omega)]
    have := cnt_ge (l := l) h j
    simpa [zeroN, cntN_nil] using this
theorem nm_cnt (l : List NodeL) (j : Int) (s : Nat × Int) : (nmL l j s).1 = s.1 + cnt l j := by
  have hf : ∀ (es : List EntL) (at' : Int) (s : Nat × Int), (foldN j at' s es).1 = s.1 + cntN es j := by
    intro es at'
    induction es with
    | nil => intro s; rfl
    | cons e es ih =>
      intro s
      show (foldN j at' (stepN j at' s e) es).1 = _
      rw [ih]
      unfold stepN cntN
      by_cases h : e.2 = j <;> simp [h] <;> omega
  have : ∀ k, k ≤ l.length → (nmTo l j s k).1 = s.1 + cnt (l.take k) j := by
    intro k
    induction k with
    | zero => intro _; simp [nmTo, cnt]
    | succ k ih =>
      intro hk
      show (foldN j k (nmTo l j s k) (l.getD k zeroN).names).1 = _
      rw [hf, ih (by omega), List.take_succ_eq_append_getElem (by omega), cnt_app, ← nd_lt (by omega)]
      unfold nd
      omega
  have := this l.length (Nat.le_refl _)
  rwa [List.take_length] at this
inductive Rooted (l : List NodeL) : Int → Prop
  | root : Rooted l 0
  | up (k : Nat) : (nd l k).kind = 2 → Rooted l (nd l k).up → Rooted l k
def LocOk (n : NodeL) : Prop := plainB n = true ∧ (n.kind ≠ 2 → n.names = []) ∧ (n.kind = 2 → n.data = []) ∧ SortedP n.names
def Placed (l : List NodeL) (k : Nat) (n : NodeL) : Prop :=
  (cnt l k = 0 → n.names = [] ∧ n.up = 0) ∧ (cnt l k ≠ 0 → cnt l k = 1 ∧ (∃ h : Nat, n.up = h ∧ 0 < cntN (nd l h).names k) ∧ Rooted l k)
def NamedOk (l : List NodeL) (k : Nat) (n : NodeL) : Prop := n.links = cnt l k ∧ (cnt l k = 0 → 1 ≤ n.opn) ∧ (n.kind = 2 → Placed l k n)
structure RigE (l : List NodeL) (E : Nat → Prop) : Prop where
  root : (nd l 0).kind = 2 ∧ (nd l 0).up = 0 ∧ (nd l 0).links = 1
  zero : ∀ k, (nd l k).kind = 0 → nd l k = zeroN
  loc : ∀ k, (nd l k).kind ≠ 0 → LocOk (nd l k)
  nam : ∀ k, ∀ e ∈ (nd l k).names, ∃ j : Nat, e.2 = j ∧ j ≠ 0 ∧ (nd l j).kind ≠ 0
  nmd : ∀ k, k ≠ 0 → ¬ E k → (nd l k).kind ≠ 0 → NamedOk l k (nd l k)
abbrev Rig (l : List NodeL) : Prop := RigE l fun _ => False
theorem rootR_Rooted {l : List NodeL} : ∀ (f : Nat) (j : Int), rootR l f j = true → Rooted l j := by
  intro f
  induction f with
  | zero => intro j h; cases h
  | succ f ih =>
    intro j h
    rcases rootR_up h with rfl | ⟨hg, hk, h2⟩
    · exact .root
    · obtain ⟨k, rfl, _, _⟩ := got_nat hg
      rw [at_nd] at hk h2
      exact .up k hk (ih _ h2)
theorem rootR_mono (l : List NodeL) : ∀ (f : Nat) (j : Int), rootR l f j = true → rootR l (f + 1) j = true := by
  intro f
  induction f with
  | zero => intro j h; cases h
  | succ f ih =>
    intro j h
    unfold rootR at h ⊢
    split
    · rfl
    · rename_i h0
      rw [if_neg h0] at h
      split at h
      · rename_i h1; rw [if_pos h1]; exact ih _ h
      · cases h
theorem rootR_path (l : List NodeL) (h0 : 0 < l.length) : ∀ (f : Nat) (j : Int), rootR l (f + 1) j = true → rootR l f j = false →
    ∃ L : List Nat, L.length = f + 1 ∧ L.Nodup ∧ (∀ x ∈ L, x < l.length) ∧ ∀ x ∈ L, rootR l (f + 1) (x : Int) = true := by
  intro f
  induction f with
  | zero =>
    intro j h _
    refine ⟨[0], rfl, by simp, fun x hx => ?_, fun x hx => ?_⟩
    · obtain rfl := List.mem_singleton.1 hx; exact h0
    · obtain rfl := List.mem_singleton.1 hx; rfl
  | succ f ih =>
    intro j h hn
    have hj : j ≠ 0 := by
      intro e; subst e
      rw [show rootR l (f + 1) 0 = true from rfl] at hn
      cases hn
    rcases rootR_up h with h1 | ⟨hg, hk, h2⟩
    · exact absurd h1 hj
    · have hn' : rootR l f (atI l j).up = false := by
        unfold rootR at hn
        rw [if_neg hj, if_pos (by rw [hg, hk]; rfl)] at hn
        exact hn
      obtain ⟨k, rfl, hlt, _⟩ := got_nat hg
      obtain ⟨L, a1, a2, a3, a4⟩ := ih _ h2 hn'
      refine ⟨k :: L, by simp [a1], List.nodup_cons.2 ⟨fun hm => ?_, a2⟩, fun x hx => ?_, fun x hx => ?_⟩
      · have := a4 k hm
        rw [hn] at this
        cases this
      · rcases List.mem_cons.1 hx with rfl | hx
        · exact hlt
        · exact a3 x hx
      · rcases List.mem_cons.1 hx with rfl | hx
        · exact h
        · exact rootR_mono l _ _ (a4 x hx)
theorem rootR_len (l : List NodeL) (h0 : 0 < l.length) : ∀ (f : Nat) (j : Int), rootR l f j = true → rootR l (l.length + 1) j = true := by
  intro f
  induction f with
  | zero => intro j h; cases h
  | succ f ih =>
    intro j h
    by_cases hf : f + 1 ≤ l.length + 1
    · have : ∀ d, rootR l (f + 1 + d) j = true := by
        intro d
        induction d with
        | zero => exact h
        | succ d ihd => exact rootR_mono l _ _ ihd
      have h2 := this (l.length + 1 - (f + 1))
      rwa [show f + 1 + (l.length + 1 - (f + 1)) = l.length + 1 by omega] at h2
    · cases hc : rootR l f j with
      | true => exact ih j hc
      | false =>
        obtain ⟨L, a1, a2, a3, _⟩ := rootR_path l h0 f j h hc
        have := pigeon _ _ a2 a3
        omega
theorem Rooted_rootR {l : List NodeL} (h0 : 0 < l.length) {j : Int} (h : Rooted l j) : rootR l (l.length + 1) j = true := by
  have : ∃ f, rootR l f j = true := by
    induction h with
    | root => exact ⟨1, rfl⟩
    | up k hk _ ih =>
      obtain ⟨f, hf⟩ := ih
      refine ⟨f + 1, ?_⟩
      unfold rootR
      split
      · rfl
      · rw [at_nd, if_pos (by rw [(got_nd l k).2 (by rw [hk]; decide), hk]; rfl)]
        exact hf
  obtain ⟨f, hf⟩ := this
  exact rootR_len l h0 f j hf
theorem Rooted_iff {l : List NodeL} (h0 : 0 < l.length) (j : Int) : rootR l (l.length + 1) j = true ↔ Rooted l j := ⟨rootR_Rooted _ _, Rooted_rootR h0⟩
end Go.Proofs.Ytilhiafmljmljaa
