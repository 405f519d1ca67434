/-
  A call's state: disks and nodes in memory, blocks of its own; the document's Set and Get; arms.
-/
import Derived.Test.YthpcldmhamjnbaaDskF
import Derived.Test.YthpcldmhamjnbaaDskG
import Derived.Deep.DeepCutAuto
import Derived.Deep.MidRow
import Derived.StillTailTactics
namespace Go.Proofs.Ythpcldmhamjnbaa
open Go.RowKit Go.Shelf
attribute [local go_sem ↓] Go.wp_at_zero Go.wp_at_succ

theorem code_fresh1 {P : Program} {a : Act} {w : World} {A : Obj} {c : Code} {K : Exit → Act → World → Prop} (h : ∀ W, Below w.heap.size w W → W.heap[w.heap.size]? = some A → W.heap.size = w.heap.size + 1 → c.wp P K a W) : c.wp P K a (w.alloc A) := fresh1 (P := fun W => c.wp P K a W) h
theorem code_fresh2 {P : Program} {a : Act} {w : World} {A B : Obj} {c : Code} {K : Exit → Act → World → Prop} (h : ∀ W, Below w.heap.size w W → W.heap[w.heap.size]? = some A → W.heap[w.heap.size + 1]? = some B → W.heap.size = w.heap.size + 2 → c.wp P K a W) : c.wp P K a ((w.alloc A).alloc B) := fresh2 (P := fun W => c.wp P K a W) h
theorem code_fresh3 {P : Program} {a : Act} {w : World} {A B C : Obj} {c : Code} {K : Exit → Act → World → Prop} (h : ∀ W, Below w.heap.size w W → W.heap[w.heap.size]? = some A → W.heap[w.heap.size + 1]? = some B → W.heap[w.heap.size + 2]? = some C → W.heap.size = w.heap.size + 3 → c.wp P K a W) : c.wp P K a (((w.alloc A).alloc B).alloc C) := fresh3 (P := fun W => c.wp P K a W) h
theorem post_sets3 {P : Program} {fn : Func} {Q : Ending → World → Prop} {x : Exit} {a : Act} {w : World} {b : Nat} {u0 u1 u2 r0 r1 r2 : Value} {t : TypeId} (hb : w.heap[b]? = some (.cells #[r0, r1, r2] t (0, 0)))
    (h : ∀ W', Below b w W' → (∀ g, g ≠ b → W'.heap[g]? = w.heap[g]?) → W'.heap.size = w.heap.size → W'.heap[b]? = some (.cells #[u0, u1, u2] t (0, 0)) → bodyPost P fn Q x a W') :
    bodyPost P fn Q x a (((w.setCell ⟨b, 0, none⟩ u0).setCell ⟨b, 1, none⟩ u1).setCell ⟨b, 2, none⟩ u2) := sets3 (P := fun W => bodyPost P fn Q x a W) hb h
theorem infoNodeR : (Try.prog.info? 53).map (fun i => (i.zero, i.size, i.bytes)) = some (some (.agg #[.int .i64 0, .int .i64 0, .int .i64 0, .int .i64 0, .int .i64 0, .int .i64 0, .string ⟨#[]⟩, .slice none 0 0]), 8, 88) := by kernel_rfl
/-- What the document's Set tells; it lies in no old block that what came in does not lie in. -/
def RSetIs (v vn : Value) (ms : List NodeM) (most room i : Int) (n : NodeL) (e : Ending) (w w' : World) : Prop :=
  ∃ v' ms', e = .returned (.agg #[v', .int .i64 most, .int .i64 room]) ∧ pl ms' = setL (pl ms) i n ∧ RdM w'.heap.size v' ms' w' ∧ Below w.heap.size w w' ∧ ∀ g, g < w.heap.size → AvoidM g v ms → Avoid g vn → AvoidM g v' ms'
set_option maxRecDepth 100000 in
set_option maxHeartbeats 4000000 in
theorem rset_any (v : Value) (ms : List NodeM) (most room i : Int) (n : NodeL) (vn : Value) (w : World) (hv : RdM w.heap.size v ms w) (hl : ms.length ≤ 10000) (hn : RdNm w.heap.size (n, vn) w) :
    Calls Try.prog 38 #[.agg #[v, .int .i64 most, .int .i64 room], .int .i64 i, nval n vn] w fun e w' => RSetIs v vn ms most room i n e w w' := by
  obtain ⟨ao, cap, rfl, _, _⟩ := rdm_form hv
  obtain ⟨aon, capn, e, _, _⟩ := Rd.form hn
  have e' : vn = .slice aon n.names.length capn := e
  subst e'
  have HV := Lib.hid hv
  have HN := Lib.hid hn
  clear hv hn e
  have hret : ∀ (W : World) (cs : Array Value) (fr), W.heap[w.heap.size + 2]? = some (.cells cs 33 fr) → cs.size = 3 → ∀ tmps : Array Value, tmps.getD 6 undef = .pointer (some ⟨w.heap.size + 2, 0, none⟩) → (results Try.f38 tmps).run Try.prog W = .ok (.agg cs) W := fun W cs fr h hs tmps ht =>
    results_cell_row (p := 6) (ty := 33) rfl tmps W (w.heap.size + 2) _ cs fr _ ht h Try.underlying33 rfl (by rw [hs]; kernel_rfl)
  have no : inL (pl ms) i = false → (decide (i < 0) = true ∨ (decide (i < 0) = false ∧ decide ((ms.length : Int) ≤ i) = true)) := fun h => by
    unfold inL at h
    rw [pl_len] at h
    by_cases h0 : i < 0
    · exact .inl (decide_eq_true h0)
    · refine .inr ⟨decide_eq_false h0, decide_eq_true ?_⟩
      rw [decide_eq_true (by omega), Bool.true_and, decide_eq_false_iff_not] at h
      omega
  cases hi : inL (pl ms) i with
  | false =>
    have HS : Hid (pl ms = setL (pl ms) i n) := Lib.hid (by unfold setL; rw [hi]; rfl)
    rcases no hi with g0 | ⟨g0, g1⟩
    all_goals
      clear hi
      go_enter Try.func38, Try.ntmps38
      go_upto_region 1 with (fail)
      refine code_fresh3 ?_
      intro W0 hb0 hP hQ hR hs0
      obtain ⟨p0, p1, p2⟩ := cells3 hP
      obtain ⟨q0, q1, q2⟩ := cells3 hR
      have rf := fun j => Lib.frozen_of_heap hR j
      go_wp2_with fail
      refine post_sets3 hR ?_
      intro W3 hb3 hg3 hs3 hR3
      refine bodyPost_ret (hret _ _ _ hR3 rfl _ rfl) rfl ?_
      have hB3 := hb0.trans (hb3.mono (by omega))
      exact ⟨_, ms, rfl, HS.out, rdm_keep HV.out hB3, hB3, fun _ _ h _ => h⟩
  | true =>
    obtain ⟨k, rfl, hk⟩ := in_nat hi
    rw [pl_len] at hk
    have HS : Hid ((pl ms).set k n = setL (pl ms) (k : Int) n) := Lib.hid (by unfold setL; rw [hi]; rfl)
    have g0 : decide ((k : Int) < 0) = false := decide_eq_false (by omega)
    have g1 : decide (ms.length ≤ k) = false := decide_eq_false (by omega)
    have k0 : (0 : Int) ≤ (k : Int) := by omega
    have k1 : (k : Int) < (ms.length : Int) := by omega
    obtain ⟨i0, hi0, hz0, hz1, hz2⟩ := info_parts infoNodeR
    clear hi
    go_enter Try.func38, Try.ntmps38
    go_upto_region 1 with (fail)
    refine code_fresh3 ?_
    intro W0 hb0 hP hQ hR hs0
    obtain ⟨p0, p1, p2⟩ := cells3 hP
    have HV0 := Lib.hid ((rdm_keep HV.out hb0).1)
    have HO := Lib.hid (cellsN_one HV.out.one)
    have hba : Below W0.heap.size W0 (W0.alloc (.cells #[] 53)) := (Below.refl _ W0).alloc (Nat.le_refl _) _
    have HV1 := Lib.hid (HV0.out.below hba)
    have hown0 : (W0.alloc (.cells #[] 53)).ownsRow (w.heap.size + 3) 53 8 (.slice (some ⟨w.heap.size + 3, 0, none⟩) 0 0) 0 [] := by
      have := World.ownsRow_lit (e := 53) (size := 8) W0 #[] 0 (Nat.le_refl _) (Nat.zero_le _) rfl
      rw [hs0] at this
      exact this
    have hsA : (w.heap.size + 3) ≤ (W0.alloc (.cells #[] 53)).heap.size := by simp; omega
    go_wp2_with (at_builtin; go_loud (refine wpList_append_rd rfl (.tmp 18) (.tmp 20) 31 rfl (w.heap.size + 3) 53 i0 _ 8 88 Try.underlying31 hi0 hz0 hz1 hz2 rfl (by decide) _ 0 [] rfl hown0 W0.heap.size _ ms.length (cellsN ms) rfl HV1.out HO.out (by unfold maxLen; omega) (by omega) hsA ?_))
    intro v3 w3 ho3 hgr3
    have hB3 : Below W0.heap.size W0 w3 := hba.grown hgr3 (by simp) (fun j ej => by simp [Value.ownBlock] at ej; omega)
    have hs3 := hB3.size
    have hP3 := (hB3.block _ (by omega)).trans hP
    have hQ3 := (hB3.block _ (by omega)).trans hQ
    have hR3 := (hB3.block _ (by omega)).trans hR
    have HB3 := Lib.hid (ret_tr hb0 hB3)
    obtain ⟨g, cap3, cur, rfl, hg0, hheap, -, -, -, -⟩ := ho3.2.resolve_left (fun h => by have := h.2; omega)
    have hgn : g < w3.heap.size := (Array.getElem?_eq_some_iff.1 hheap).1
    have HRo : Hid (Rd w3.heap.size 8 (.slice (some ⟨g, 0, none⟩) ms.length cap3) ms.length (cellsN ms) w3) := Lib.hid (Rd.own ho3 (Nat.le_refl _))
    have HR3 := Lib.hid hR3
    have HP3 := Lib.hid hP3
    obtain ⟨d0, d1, d2, d3, d4, d5, d6, d7⟩ := cells8 hQ3
    obtain ⟨s0, s1, s2, s3, s4, s5, s6, s7⟩ := eight0 HRo.out k hk
    have hf3 := fun j => Lib.frozen_of_heap hheap j
    have hR3' := hR3
    obtain ⟨q0, q1, q2⟩ := cells3 hR3'
    clear p0 p1 p2
    obtain ⟨p0, p1, p2⟩ := cells3 hP3
    clear hP3 hQ3 hR3 hR3' hheap ho3 hP hQ hR hba hB3 hgr3
    go_upto_region 5 with (fail)
    refine sets8o (P := fun W => Code.wp _ _ _ _ W) ?_
    intro W5 e5
    have hm3 : RdM w3.heap.size (.slice (some ⟨g, 0, none⟩) ms.length cap3) ms w3 := ⟨HRo.out, (rdm_keep HV.out HB3.out).2⟩
    have hn3 : RdNm w3.heap.size (n, .slice aon n.names.length capn) w3 := rdnm_keep HN.out HB3.out
    have hm5 : RdM w3.heap.size (.slice (some ⟨g, 0, none⟩) ms.length cap3) (ms.set k (n, .slice aon n.names.length capn)) W5 := by
      rw [e5]
      exact setM _ hm3 hk hn3 (fun x hx => rd_far (HV.out.2 x hx) (by omega)) (rd_far HN.out (by omega))
    have hs5 : W5.heap.size = w3.heap.size := by rw [e5, size_setCells]
    have hP5 := (show W5.heap[w.heap.size]? = w3.heap[w.heap.size]? by rw [e5, heap_setCells _ _ (by omega)]).trans HP3.out
    have hR5 := (show W5.heap[w.heap.size + 2]? = w3.heap[w.heap.size + 2]? by rw [e5, heap_setCells _ _ (by omega)]).trans HR3.out
    have hB5 : Below w.heap.size w W5 := by rw [e5]; exact HB3.out.trans (below_setCells _ _ (by omega) _ _ _)
    clear e5 hf3 s0 s1 s2 s3 s4 s5 s6 s7 d0 d1 d2 d3 d4 d5 d6 d7 p0 p1 p2 q0 q1 q2
    obtain ⟨p0, p1, p2⟩ := cells3 hP5
    obtain ⟨q0, q1, q2⟩ := cells3 hR5
    have rf := fun j => Lib.frozen_of_heap hR5 j
    go_wp2_with fail
    refine post_sets3 hR5 ?_
    intro W6 hb6 hg6 hs6 hR6
    refine bodyPost_ret (hret _ _ _ hR6 rfl _ rfl) rfl ?_
    have gx : g ≠ w.heap.size + 2 := by omega
    refine ⟨_, ms.set k (n, .slice aon n.names.length capn), rfl, (pl_set ms k (n, .slice aon n.names.length capn)).trans HS.out, ?_, hB5.trans (hb6.mono (by omega)), fun q hq hav havn => ⟨by intro a n' c e _; injection e with e _ _; injection e with e; rw [← e]; show g ≠ q; omega, fun x hx => ?_⟩⟩
    rotate_left
    · rcases List.mem_or_eq_of_mem_set hx with hx | rfl
      · exact hav.2 x hx
      · exact havn
    have hne : ∀ x ∈ ms.set k (n, .slice aon n.names.length capn), Avoid (w.heap.size + 2) x.2 := fun x hx => by
      rcases List.mem_or_eq_of_mem_set hx with hx | rfl
      · exact rd_far (HV.out.2 x hx) (by omega)
      · exact rd_far HN.out (by omega)
    rw [hs6, hs5]
    exact rdm_other (g := w.heap.size + 2) hm5 (by intro a n' c e _; injection e with e _ _; injection e with e; rw [← e]; exact gx) hne hg6
/-- Nodes that read as these, in no block of X. -/
def GivesX (X : Nat → Prop) (l : List NodeL) (v : Value) (W : World) : Prop := ∃ ms, pl ms = l ∧ RdM W.heap.size v ms W ∧ ∀ g, X g → AvoidM g v ms
/-- A node's names, in no block of X. -/
def NodeX (X : Nat → Prop) (n : NodeL) (vn : Value) (W : World) : Prop := RdNm W.heap.size (n, vn) W ∧ ∀ g, X g → Avoid g vn
/-- Old blocks. -/
def Old (X : Nat → Prop) (W : World) : Prop := ∀ g, X g → g < W.heap.size
theorem GivesX.gives {X : Nat → Prop} {l : List NodeL} {v : Value} {W : World} (h : GivesX X l v W) : GivesN l v W := by
  obtain ⟨ms, a, b, _⟩ := h; exact ⟨ms, a, b⟩
theorem GivesX.keep {X : Nat → Prop} {l : List NodeL} {v : Value} {W W' : World} (h : GivesX X l v W) (hb : Below W.heap.size W W') : GivesX X l v W' := by
  obtain ⟨ms, a, b, c⟩ := h; exact ⟨ms, a, rdm_keep b hb, c⟩
theorem GivesX.sub {X Y : Nat → Prop} {l : List NodeL} {v : Value} {W : World} (h : GivesX X l v W) (hs : ∀ g, Y g → X g) : GivesX Y l v W := by
  obtain ⟨ms, a, b, c⟩ := h; exact ⟨ms, a, b, fun g hg => c g (hs g hg)⟩
/-- .. nor in newer blocks. -/
theorem GivesX.add {X Y : Nat → Prop} {l : List NodeL} {v : Value} {W W' : World} (h : GivesX X l v W) (hb : Below W.heap.size W W') (hY : ∀ g, Y g → X g ∨ W.heap.size ≤ g) : GivesX Y l v W' := by
  obtain ⟨ms, a, b, c⟩ := h
  refine ⟨ms, a, rdm_keep b hb, fun g hg => ?_⟩
  rcases hY g hg with h1 | h1
  · exact c g h1
  · exact ⟨rd_far b.1 h1, fun x hx => rd_far (b.2 x hx) h1⟩
theorem GivesX.other {X : Nat → Prop} {l : List NodeL} {v : Value} {b : Nat} {W W' : World} (h : GivesX X l v W) (hX : X b) (hs : W'.heap.size = W.heap.size) (hg : ∀ g, g ≠ b → W'.heap[g]? = W.heap[g]?) : GivesX X l v W' := by
  obtain ⟨ms, a, h1, c⟩ := h
  refine ⟨ms, a, ?_, c⟩
  rw [hs]
  exact rdm_other h1 (c b hX).1 (fun x hx => (c b hX).2 x hx) hg
theorem NodeX.keep {X : Nat → Prop} {n : NodeL} {vn : Value} {W W' : World} (h : NodeX X n vn W) (hb : Below W.heap.size W W') : NodeX X n vn W' := ⟨rdnm_keep h.1 hb, h.2⟩
theorem NodeX.sub {X Y : Nat → Prop} {n : NodeL} {vn : Value} {W : World} (h : NodeX X n vn W) (hs : ∀ g, Y g → X g) : NodeX Y n vn W := ⟨h.1, fun g hg => h.2 g (hs g hg)⟩
theorem NodeX.add {X Y : Nat → Prop} {n : NodeL} {vn : Value} {W W' : World} (h : NodeX X n vn W) (hb : Below W.heap.size W W') (hY : ∀ g, Y g → X g ∨ W.heap.size ≤ g) : NodeX Y n vn W' :=
  ⟨rdnm_keep h.1 hb, fun g hg => (hY g hg).elim (h.2 g) fun h1 => rd_far h.1 h1⟩
theorem NodeX.other {X : Nat → Prop} {n : NodeL} {vn : Value} {b : Nat} {W W' : World} (h : NodeX X n vn W) (hX : X b) (hs : W'.heap.size = W.heap.size) (hg : ∀ g, g ≠ b → W'.heap[g]? = W.heap[g]?) : NodeX X n vn W' := by
  refine ⟨?_, h.2⟩
  rw [hs]
  exact rd_other h.1 (h.2 b hX) hg
theorem NodeX.zero (X : Nat → Prop) (W : World) : NodeX X zeroN (.slice none 0 0) W := ⟨Rd.none0 _ _ _, fun g _ a n c e _ => by cases e⟩
theorem NodeX.same {X : Nat → Prop} {n m : NodeL} {vn : Value} {W : World} (h : NodeX X n vn W) (e : m.names = n.names) : NodeX X m vn W := by
  refine ⟨?_, h.2⟩
  have h1 := h.1
  unfold RdNm at h1 ⊢
  rw [e]
  exact h1
theorem Old.keep {X : Nat → Prop} {W W' : World} (h : Old X W) (hb : W.heap.size ≤ W'.heap.size) : Old X W' := fun g hg => Nat.lt_of_lt_of_le (h g hg) hb
theorem gives_form {X : Nat → Prop} {l : List NodeL} {v : Value} {W : World} (h : GivesX X l v W) : ∃ ao cap, v = .slice ao l.length cap := by
  obtain ⟨ms, rfl, hv, _⟩ := h
  obtain ⟨ao, cap, e, _, _⟩ := rdm_form hv
  exact ⟨ao, cap, by rw [pl_len]; exact e⟩
theorem node_form {X : Nat → Prop} {n : NodeL} {v : Value} {W : World} (h : NodeX X n v W) : ∃ ao cap, v = .slice ao n.names.length cap := by
  obtain ⟨ao, cap, e, _, _⟩ := Rd.form h.1
  exact ⟨ao, cap, e⟩
/-- A disk as a result. -/
def RDiskIs (X : Nat → Prop) (l : List NodeL) (most room : Int) (e : Ending) (w w' : World) : Prop :=
  ∃ ao cap, e = .returned (.agg #[.slice ao l.length cap, .int .i64 most, .int .i64 room]) ∧ GivesX X l (.slice ao l.length cap) w' ∧ Below w.heap.size w w'
theorem rset_g (X : Nat → Prop) (l : List NodeL) (most room i : Int) (n : NodeL) (v vn : Value) (W : World) (hX : Old X W) (hg : GivesX X l v W) (hl : l.length ≤ 10000) (hn : NodeX X n vn W) :
    Calls Try.prog 38 #[.agg #[v, .int .i64 most, .int .i64 room], .int .i64 i, nval n vn] W fun e w' => RDiskIs X (setL l i n) most room e W w' := by
  obtain ⟨m, rfl, h, ha⟩ := hg
  refine (rset_any v m most room i n vn W h (by rw [← pl_len]; exact hl) hn.1).mono ?_
  rintro e w' ⟨v', ms', rfl, hp, hg', hb, hav⟩
  have hG : GivesX X (setL (pl m) i n) v' w' := ⟨ms', hp, hg', fun g hx => hav g (hX g hx) (ha g hx) (hn.2 g hx)⟩
  obtain ⟨ao, cap, rfl⟩ := gives_form hG
  exact ⟨ao, cap, rfl, hG, hb⟩
/-- What the document's Get tells; the names lie where the disk's lie. -/
def RGetX (v : Value) (ms : List NodeM) (i : Int) (e : Ending) (W W' : World) : Prop :=
  ∃ vn, e = .returned (.tuple #[nval (getL (pl ms) i) vn, .bool (gotB (pl ms) i)]) ∧ RdNm W'.heap.size (getL (pl ms) i, vn) W' ∧ Below W.heap.size W W' ∧ ∀ g, AvoidM g v ms → Avoid g vn
theorem getx_no {v : Value} {ms : List NodeM} {i : Int} {w W : World} (h : gotB (pl ms) i = false) (hb : Below w.heap.size w W) : RGetX v ms i (.returned (.tuple #[.agg #[.int .i64 0, .int .i64 0, .int .i64 0, .int .i64 0, .int .i64 0, .int .i64 0, .string ⟨#[]⟩, .slice none 0 0], .bool false])) w W :=
  ⟨.slice none 0 0, by unfold getL; rw [h]; rfl, by unfold getL; rw [h]; exact Rd.none0 _ _ _, hb, fun g _ a n c e _ => by cases e⟩
set_option maxRecDepth 100000 in
set_option maxHeartbeats 2000000 in
theorem rgetx_any (v : Value) (ms : List NodeM) (most room i : Int) (w : World) (hv : RdM w.heap.size v ms w) (hl : ms.length ≤ 10000) :
    Calls Try.prog 23 #[.agg #[v, .int .i64 most, .int .i64 room], .int .i64 i] w fun e w' => RGetX v ms i e w w' := by
  obtain ⟨ao, cap, rfl, _, _⟩ := rdm_form hv
  have HV := Lib.hid hv
  have HL := Lib.hid hl
  clear hv
  have hret : ∀ (W : World) (cs : Array Value) (fr), W.heap[w.heap.size + 1]? = some (.cells cs 53 fr) → cs.size = 8 → ∀ tmps : Array Value, tmps.getD 4 undef = .pointer (some ⟨w.heap.size + 1, 0, none⟩) → (results Try.f23 tmps).run Try.prog W = .ok (.tuple #[.agg cs, tmps.getD 5 undef]) W := fun W cs fr h hs tmps ht =>
    results_ct (p := 4) (u := 5) (ty := 53) rfl tmps W (w.heap.size + 1) _ cs fr _ ht h Try.underlying53 rfl (by rw [hs]; kernel_rfl)
  have no : ∀ W : World, gotB (pl ms) i = false → Below w.heap.size w W → RGetX (.slice ao ms.length cap) ms i (.returned (.tuple #[.agg #[.int .i64 0, .int .i64 0, .int .i64 0, .int .i64 0, .int .i64 0, .int .i64 0, .string ⟨#[]⟩, .slice none 0 0], .bool false])) w W := fun _ h hb => getx_no h hb
  have HNO := Lib.hid no
  clear no
  by_cases h1 : i < 0
  · have hI : decide (i < 0) = true := by simpa using h1
    have HG : Hid (gotB (pl ms) i = false) := Lib.hid (by unfold gotB inL; rw [show decide (0 ≤ i) = false by simp; omega]; rfl)
    clear h1
    go_enter Try.func23, Try.ntmps23
    go_wp2_with fail
    refine fresh2 (P := fun W => bodyPost _ _ _ _ _ W) ?_
    intro W0 hb0 hP hQ hs0
    refine bodyPost_ret (hret _ _ _ hQ rfl _ rfl) rfl ?_
    exact HNO.out _ HG.out hb0
  have g1 : decide (i < 0) = false := by simpa using h1
  by_cases h2 : (ms.length : Int) ≤ i
  · have hI : decide ((ms.length : Int) ≤ i) = true := by simpa using h2
    have HG : Hid (gotB (pl ms) i = false) := Lib.hid (by unfold gotB inL; rw [show decide (i < (pl ms).length) = false by rw [pl_len]; simpa using h2]; simp)
    clear h1 h2
    go_enter Try.func23, Try.ntmps23
    go_wp2_with fail
    refine fresh2 (P := fun W => bodyPost _ _ _ _ _ W) ?_
    intro W0 hb0 hP hQ hs0
    refine bodyPost_ret (hret _ _ _ hQ rfl _ rfl) rfl ?_
    exact HNO.out _ HG.out hb0
  have g2 : decide ((ms.length : Int) ≤ i) = false := by simpa using h2
  obtain ⟨k, rfl, hk⟩ : ∃ k : Nat, i = k ∧ k < ms.length := ⟨i.toNat, by omega, by omega⟩
  have hin := nat_in (l := pl ms) (k := k) (by rw [pl_len]; exact hk)
  have hat := at_nat (pl ms) k (by rw [pl_len]; exact hk)
  have k0 : (0 : Int) ≤ (k : Int) := by omega
  have k1 : (k : Int) < (ms.length : Int) := by omega
  obtain ⟨b, off, n, aon, capn, rfl, hb, hn, hmk, hrn, c0, c1, c2, c3, c4, c5, c6, c7⟩ := node_at HV.out k hk
  rw [hn] at hat
  by_cases h0 : n.kind = 0
  · have hd : (n.kind == 0) = true := by simpa using h0
    have HG : Hid (gotB (pl ms) k = false) := Lib.hid (by unfold gotB; rw [hat]; simp [h0])
    clear h0 h1 h2 hin hat hn hrn
    try clear hmk
    go_enter Try.func23, Try.ntmps23
    go_wp2_with fail
    refine fresh2 (P := fun W => bodyPost _ _ _ _ _ W) ?_
    intro W0 hb0 hP hQ hs0
    refine bodyPost_ret (hret _ _ _ hQ rfl _ rfl) rfl ?_
    exact HNO.out _ HG.out hb0
  · have hd : (n.kind == 0) = false := by simpa using h0
    have HG : Hid (gotB (pl ms) k = true) := Lib.hid (by unfold gotB; rw [hat, hin]; simp [h0])
    have HGe : Hid (getL (pl ms) k = n) := Lib.hid (by unfold getL; rw [HG.out, hat]; rfl)
    have HR := Lib.hid hrn
    have HA : Hid (∀ g, AvoidM g (.slice (some ⟨b, off, none⟩) ms.length cap) ms → Avoid g (.slice aon n.names.length capn)) := Lib.hid fun g hg => by have := hg.2 _ (List.getElem_mem hk); rw [hmk] at this; exact this
    clear hmk
    clear h0 h1 h2 hin hat hn hrn
    try clear hmk
    go_enter Try.func23, Try.ntmps23
    go_wp2_with fail
    refine fresh2 (P := fun W => bodyPost _ _ _ _ _ W) ?_
    intro W0 hb0 hP hQ hs0
    refine bodyPost_ret (hret _ _ _ hQ rfl _ rfl) rfl ?_
    exact ⟨.slice aon n.names.length capn, by rw [HGe.out, HG.out]; rfl, by rw [HGe.out]; exact rd_keep HR.out hb0, hb0, HA.out⟩
/-- What the document's Get tells, of whatever reads as these nodes. -/
theorem rgetc (X : Nat → Prop) (l : List NodeL) (most room i : Int) (v : Value) (W : World) (hg : GivesX X l v W) (hl : l.length ≤ 10000) :
    Calls Try.prog 23 #[.agg #[v, .int .i64 most, .int .i64 room], .int .i64 i] W fun e w' => ∃ ao cap, e = .returned (.tuple #[nval (getL l i) (.slice ao (getL l i).names.length cap), .bool (gotB l i)]) ∧ NodeX X (getL l i) (.slice ao (getL l i).names.length cap) w' ∧ Below W.heap.size W w' := by
  obtain ⟨m, rfl, h, ha⟩ := hg
  refine (rgetx_any v m most room i W h (by rw [← pl_len]; exact hl)).mono ?_
  rintro e w' ⟨v1, rfl, hr, hb, hav⟩
  have hN : NodeX X (getL (pl m) i) v1 w' := ⟨hr, fun g hx => hav g (ha g hx)⟩
  obtain ⟨ao, cap, rfl⟩ := node_form hN
  exact ⟨ao, cap, rfl, hN, hb⟩
theorem set_g (X : Nat → Prop) (l : List NodeL) (most room i : Int) (n : NodeL) (v vn : Value) (W : World) (hX : Old X W) (hg : GivesX X l v W) (hl : l.length ≤ 10000) (hn : NodeX X n vn W) (hnl : n.names.length ≤ 10000) :
    Calls Try.prog 37 #[.agg #[v, .int .i64 most, .int .i64 room], .int .i64 i, nval n vn] W fun e w' => RDiskIs X (setL l i n) most room e W w' := by
  obtain ⟨m, rfl, h, ha⟩ := hg
  refine (set_any v m most room i n vn W h (by rw [← pl_len]; exact hl) hn.1 hnl).mono ?_
  rintro e w' ⟨v', ms', rfl, hp, hr, hb, hav⟩
  have hG : GivesX X (setL (pl m) i n) v' w' := ⟨ms', hp, hr, fun g hx => hav g (hX g hx) (ha g hx)⟩
  obtain ⟨ao, cap, rfl⟩ := gives_form hG
  exact ⟨ao, cap, rfl, hG, hb⟩
/-- What the program's Get tells: a node with names of its own. -/
theorem getc (X : Nat → Prop) (l : List NodeL) (most room i : Int) (v : Value) (W : World) (hX : Old X W) (hg : GivesX X l v W) (hl : l.length ≤ 10000) (hnl : ∀ n ∈ l, n.names.length ≤ 10000) :
    Calls Try.prog 35 #[.agg #[v, .int .i64 most, .int .i64 room], .int .i64 i] W fun e w' => ∃ ao cap, e = .returned (.tuple #[nval (getL l i) (.slice ao (getL l i).names.length cap), .bool (gotB l i)]) ∧ NodeX X (getL l i) (.slice ao (getL l i).names.length cap) w' ∧ Below W.heap.size W w' := by
  obtain ⟨m, rfl, h, ha⟩ := hg
  refine (get_new v m most room i W h (by rw [← pl_len]; exact hl) hnl).mono ?_
  rintro e w' ⟨v1, rfl, hr, hb, hnew⟩
  have hN : NodeX X (getL (pl m) i) v1 w' := ⟨hr, fun g hx => by
    rintro a n c rfl _ e
    have h1 : W.heap.size ≤ a.block := hnew a.block rfl
    have h2 := hX g hx
    omega⟩
  obtain ⟨ao, cap, rfl⟩ := node_form hN
  exact ⟨ao, cap, rfl, hN, hb⟩
theorem code_set1 {P : Program} {a : Act} {w : World} {c : Code} {K : Exit → Act → World → Prop} {b i : Nat} {u : Value} {cs : Array Value} {t : TypeId} (hb : w.heap[b]? = some (.cells cs t (0, 0)))
    (h : ∀ W', Below b w W' → (∀ g, g ≠ b → W'.heap[g]? = w.heap[g]?) → W'.heap.size = w.heap.size → W'.heap[b]? = some (.cells (cs.setIfInBounds i u) t (0, 0)) → c.wp P K a W') : c.wp P K a (w.setCell ⟨b, i, none⟩ u) :=
  h _ ((Below.refl b w).setCell (p := ⟨b, i, none⟩) (Nat.le_refl _) u) (fun g hg => Below.heap_setCell _ _ _ g hg) (by simp [World.setCell]) (heap_set hb)
abbrev diskV (ao : Option Addr) (n cap : Nat) (most room : Int) : Value := .agg #[.slice ao n cap, .int .i64 most, .int .i64 room]
/-- A block and its cells. -/
abbrev Bl := Nat × Array Value × TypeId
def Xo (X : Nat → Prop) (L : List Nat) : Nat → Prop := fun g => X g ∨ g ∈ L
structure St (X : Nat → Prop) (w : World) (B : List Bl) (G : List (List NodeL × Value)) (N : List (NodeL × Value)) (W : World) : Prop where
  bel : Below w.heap.size w W
  old : Old X w
  blk : ∀ x ∈ B, W.heap[x.1]? = some (.cells x.2.1 x.2.2 (0, 0)) ∧ w.heap.size ≤ x.1
  nd : (B.map (·.1)).Nodup
  gv : ∀ x ∈ G, GivesX (Xo X (B.map (·.1))) x.1 x.2 W
  nv : ∀ x ∈ N, NodeX (Xo X (B.map (·.1))) x.1 x.2 W
theorem fresh4 {P : World → Prop} {w : World} {A0 A1 A2 A3 : Obj} (h : ∀ W, Below w.heap.size w W → W.heap[w.heap.size]? = some A0 → W.heap[w.heap.size + 1]? = some A1 → W.heap[w.heap.size + 2]? = some A2 → W.heap[w.heap.size + 3]? = some A3 → W.heap.size = w.heap.size + 4 → P W) : P ((((w.alloc A0).alloc A1).alloc A2).alloc A3) :=
  fresh3 (P := fun W => P (W.alloc A3)) fun W1 b1 h0 h1 h2 s1 => fresh1 fun W2 b2 hn s2 => h W2 (ret_tr b1 b2) ((b2.block _ (by omega)).trans h0) ((b2.block _ (by omega)).trans h1) ((b2.block _ (by omega)).trans h2) (by rw [s1] at hn; exact hn) (by omega)
theorem code_fresh4 {P : Program} {a : Act} {w : World} {A0 A1 A2 A3 : Obj} {c : Code} {K : Exit → Act → World → Prop} (h : ∀ W, Below w.heap.size w W → W.heap[w.heap.size]? = some A0 → W.heap[w.heap.size + 1]? = some A1 → W.heap[w.heap.size + 2]? = some A2 → W.heap[w.heap.size + 3]? = some A3 → W.heap.size = w.heap.size + 4 → c.wp P K a W) : c.wp P K a ((((w.alloc A0).alloc A1).alloc A2).alloc A3) := fresh4 (P := fun W => c.wp P K a W) h
theorem fresh5 {P : World → Prop} {w : World} {A0 A1 A2 A3 A4 : Obj} (h : ∀ W, Below w.heap.size w W → W.heap[w.heap.size]? = some A0 → W.heap[w.heap.size + 1]? = some A1 → W.heap[w.heap.size + 2]? = some A2 → W.heap[w.heap.size + 3]? = some A3 → W.heap[w.heap.size + 4]? = some A4 → W.heap.size = w.heap.size + 5 → P W) : P (((((w.alloc A0).alloc A1).alloc A2).alloc A3).alloc A4) :=
  fresh4 (P := fun W => P (W.alloc A4)) fun W1 b1 h0 h1 h2 h3 s1 => fresh1 fun W2 b2 hn s2 => h W2 (ret_tr b1 b2) ((b2.block _ (by omega)).trans h0) ((b2.block _ (by omega)).trans h1) ((b2.block _ (by omega)).trans h2) ((b2.block _ (by omega)).trans h3) (by rw [s1] at hn; exact hn) (by omega)
theorem code_fresh5 {P : Program} {a : Act} {w : World} {A0 A1 A2 A3 A4 : Obj} {c : Code} {K : Exit → Act → World → Prop} (h : ∀ W, Below w.heap.size w W → W.heap[w.heap.size]? = some A0 → W.heap[w.heap.size + 1]? = some A1 → W.heap[w.heap.size + 2]? = some A2 → W.heap[w.heap.size + 3]? = some A3 → W.heap[w.heap.size + 4]? = some A4 → W.heap.size = w.heap.size + 5 → c.wp P K a W) : c.wp P K a (((((w.alloc A0).alloc A1).alloc A2).alloc A3).alloc A4) := fresh5 (P := fun W => c.wp P K a W) h
theorem fresh6 {P : World → Prop} {w : World} {A0 A1 A2 A3 A4 A5 : Obj} (h : ∀ W, Below w.heap.size w W → W.heap[w.heap.size]? = some A0 → W.heap[w.heap.size + 1]? = some A1 → W.heap[w.heap.size + 2]? = some A2 → W.heap[w.heap.size + 3]? = some A3 → W.heap[w.heap.size + 4]? = some A4 → W.heap[w.heap.size + 5]? = some A5 → W.heap.size = w.heap.size + 6 → P W) : P ((((((w.alloc A0).alloc A1).alloc A2).alloc A3).alloc A4).alloc A5) :=
  fresh5 (P := fun W => P (W.alloc A5)) fun W1 b1 h0 h1 h2 h3 h4 s1 => fresh1 fun W2 b2 hn s2 => h W2 (ret_tr b1 b2) ((b2.block _ (by omega)).trans h0) ((b2.block _ (by omega)).trans h1) ((b2.block _ (by omega)).trans h2) ((b2.block _ (by omega)).trans h3) ((b2.block _ (by omega)).trans h4) (by rw [s1] at hn; exact hn) (by omega)
theorem code_fresh6 {P : Program} {a : Act} {w : World} {A0 A1 A2 A3 A4 A5 : Obj} {c : Code} {K : Exit → Act → World → Prop} (h : ∀ W, Below w.heap.size w W → W.heap[w.heap.size]? = some A0 → W.heap[w.heap.size + 1]? = some A1 → W.heap[w.heap.size + 2]? = some A2 → W.heap[w.heap.size + 3]? = some A3 → W.heap[w.heap.size + 4]? = some A4 → W.heap[w.heap.size + 5]? = some A5 → W.heap.size = w.heap.size + 6 → c.wp P K a W) : c.wp P K a ((((((w.alloc A0).alloc A1).alloc A2).alloc A3).alloc A4).alloc A5) := fresh6 (P := fun W => c.wp P K a W) h
section
variable {X : Nat → Prop} {w W W' : World} {B : List Bl} {G : List (List NodeL × Value)} {N : List (NodeL × Value)}
theorem St.lt (h : St X w B G N W) {x : Bl} (hx : x ∈ B) : x.1 < W.heap.size := (Array.getElem?_eq_some_iff.1 (h.blk x hx).1).1
theorem St.start (hX : Old X w) (hG : ∀ x ∈ G, GivesX X x.1 x.2 w) (hN : ∀ x ∈ N, NodeX X x.1 x.2 w) : St X w [] G N w :=
  ⟨Below.refl _ _, hX, (fun _ h => by cases h), List.nodup_nil, fun x hx => (hG x hx).sub (Y := Xo X []) fun g hg => hg.elim id (fun h => by cases h), fun x hx => (hN x hx).sub (Y := Xo X []) fun g hg => hg.elim id (fun h => by cases h)⟩
theorem St.call (h : St X w B G N W) (hb : Below W.heap.size W W') : St X w B G N W' :=
  ⟨ret_tr h.bel hb, h.old, fun x hx => ⟨(hb.block _ (h.lt hx)).trans (h.blk x hx).1, (h.blk x hx).2⟩, h.nd, fun x hx => (h.gv x hx).keep hb, fun x hx => (h.nv x hx).keep hb⟩
theorem St.oldX (h : St X w B G N W) : Old (Xo X (B.map (·.1))) W := fun g hg => by
  rcases hg with hg | hg
  · exact Nat.lt_of_lt_of_le (h.old g hg) h.bel.size
  · obtain ⟨x, hx, rfl⟩ := List.mem_map.1 hg
    exact h.lt hx
theorem St.news (h : St X w B G N W) (hb : Below W.heap.size W W') (C : List Bl) (hC : ∀ x ∈ C, W'.heap[x.1]? = some (.cells x.2.1 x.2.2 (0, 0)) ∧ W.heap.size ≤ x.1) (hn : (C.map (·.1)).Nodup) : St X w (B ++ C) G N W' := by
  have hY : ∀ g, Xo X ((B ++ C).map (·.1)) g → Xo X (B.map (·.1)) g ∨ W.heap.size ≤ g := fun g hg => by
    rcases hg with hg | hg
    · exact .inl (.inl hg)
    · rw [List.map_append, List.mem_append] at hg
      rcases hg with hg | hg
      · exact .inl (.inr hg)
      · obtain ⟨x, hx, rfl⟩ := List.mem_map.1 hg
        exact .inr (hC x hx).2
  refine ⟨ret_tr h.bel hb, h.old, fun x hx => ?_, ?_, fun x hx => (h.gv x hx).add hb hY, fun x hx => (h.nv x hx).add hb hY⟩
  · rcases List.mem_append.1 hx with hx | hx
    · exact ⟨(hb.block _ (h.lt hx)).trans (h.blk x hx).1, (h.blk x hx).2⟩
    · exact ⟨(hC x hx).1, Nat.le_trans h.bel.size (hC x hx).2⟩
  · rw [List.map_append, List.nodup_append]
    refine ⟨h.nd, hn, fun a ha b hb2 e => ?_⟩
    obtain ⟨x, hx, rfl⟩ := List.mem_map.1 ha
    obtain ⟨y, hy, rfl⟩ := List.mem_map.1 hb2
    have := h.lt hx
    have := (hC y hy).2
    omega
theorem St.new1 (h : St X w B G N W) (hb : Below W.heap.size W W') {cs0 : Array Value} {t0 : TypeId} (h0 : W'.heap[W.heap.size]? = some (.cells cs0 t0 (0, 0))) :
    St X w (B ++ [(W.heap.size, cs0, t0)]) G N W' :=
  h.news hb _ (fun x hx => by
    simp only [List.mem_cons, List.not_mem_nil, or_false] at hx
    rcases hx with rfl
    · exact ⟨h0, Nat.le_refl _⟩) (by simp)
theorem St.new2 (h : St X w B G N W) (hb : Below W.heap.size W W') {cs0 cs1 : Array Value} {t0 t1 : TypeId} (h0 : W'.heap[W.heap.size]? = some (.cells cs0 t0 (0, 0))) (h1 : W'.heap[W.heap.size + 1]? = some (.cells cs1 t1 (0, 0))) :
    St X w (B ++ [(W.heap.size, cs0, t0), (W.heap.size + 1, cs1, t1)]) G N W' :=
  h.news hb _ (fun x hx => by
    simp only [List.mem_cons, List.not_mem_nil, or_false] at hx
    rcases hx with rfl | rfl
    · exact ⟨h0, Nat.le_refl _⟩
    · exact ⟨h1, Nat.le_add_right _ _⟩) (by simp)
theorem St.new3 (h : St X w B G N W) (hb : Below W.heap.size W W') {cs0 cs1 cs2 : Array Value} {t0 t1 t2 : TypeId} (h0 : W'.heap[W.heap.size]? = some (.cells cs0 t0 (0, 0))) (h1 : W'.heap[W.heap.size + 1]? = some (.cells cs1 t1 (0, 0))) (h2 : W'.heap[W.heap.size + 2]? = some (.cells cs2 t2 (0, 0))) :
    St X w (B ++ [(W.heap.size, cs0, t0), (W.heap.size + 1, cs1, t1), (W.heap.size + 2, cs2, t2)]) G N W' :=
  h.news hb _ (fun x hx => by
    simp only [List.mem_cons, List.not_mem_nil, or_false] at hx
    rcases hx with rfl | rfl | rfl
    · exact ⟨h0, Nat.le_refl _⟩
    · exact ⟨h1, Nat.le_add_right _ _⟩
    · exact ⟨h2, Nat.le_add_right _ _⟩) (by simp)
theorem St.new4 (h : St X w B G N W) (hb : Below W.heap.size W W') {cs0 cs1 cs2 cs3 : Array Value} {t0 t1 t2 t3 : TypeId} (h0 : W'.heap[W.heap.size]? = some (.cells cs0 t0 (0, 0))) (h1 : W'.heap[W.heap.size + 1]? = some (.cells cs1 t1 (0, 0))) (h2 : W'.heap[W.heap.size + 2]? = some (.cells cs2 t2 (0, 0))) (h3 : W'.heap[W.heap.size + 3]? = some (.cells cs3 t3 (0, 0))) :
    St X w (B ++ [(W.heap.size, cs0, t0), (W.heap.size + 1, cs1, t1), (W.heap.size + 2, cs2, t2), (W.heap.size + 3, cs3, t3)]) G N W' :=
  h.news hb _ (fun x hx => by
    simp only [List.mem_cons, List.not_mem_nil, or_false] at hx
    rcases hx with rfl | rfl | rfl | rfl
    · exact ⟨h0, Nat.le_refl _⟩
    · exact ⟨h1, Nat.le_add_right _ _⟩
    · exact ⟨h2, Nat.le_add_right _ _⟩
    · exact ⟨h3, Nat.le_add_right _ _⟩) (by simp)
theorem St.new5 (h : St X w B G N W) (hb : Below W.heap.size W W') {cs0 cs1 cs2 cs3 cs4 : Array Value} {t0 t1 t2 t3 t4 : TypeId} (h0 : W'.heap[W.heap.size]? = some (.cells cs0 t0 (0, 0))) (h1 : W'.heap[W.heap.size + 1]? = some (.cells cs1 t1 (0, 0))) (h2 : W'.heap[W.heap.size + 2]? = some (.cells cs2 t2 (0, 0))) (h3 : W'.heap[W.heap.size + 3]? = some (.cells cs3 t3 (0, 0))) (h4 : W'.heap[W.heap.size + 4]? = some (.cells cs4 t4 (0, 0))) :
    St X w (B ++ [(W.heap.size, cs0, t0), (W.heap.size + 1, cs1, t1), (W.heap.size + 2, cs2, t2), (W.heap.size + 3, cs3, t3), (W.heap.size + 4, cs4, t4)]) G N W' :=
  h.news hb _ (fun x hx => by
    simp only [List.mem_cons, List.not_mem_nil, or_false] at hx
    rcases hx with rfl | rfl | rfl | rfl | rfl
    · exact ⟨h0, Nat.le_refl _⟩
    · exact ⟨h1, Nat.le_add_right _ _⟩
    · exact ⟨h2, Nat.le_add_right _ _⟩
    · exact ⟨h3, Nat.le_add_right _ _⟩
    · exact ⟨h4, Nat.le_add_right _ _⟩) (by simp)
theorem St.new6 (h : St X w B G N W) (hb : Below W.heap.size W W') {cs0 cs1 cs2 cs3 cs4 cs5 : Array Value} {t0 t1 t2 t3 t4 t5 : TypeId} (h0 : W'.heap[W.heap.size]? = some (.cells cs0 t0 (0, 0))) (h1 : W'.heap[W.heap.size + 1]? = some (.cells cs1 t1 (0, 0))) (h2 : W'.heap[W.heap.size + 2]? = some (.cells cs2 t2 (0, 0))) (h3 : W'.heap[W.heap.size + 3]? = some (.cells cs3 t3 (0, 0))) (h4 : W'.heap[W.heap.size + 4]? = some (.cells cs4 t4 (0, 0))) (h5 : W'.heap[W.heap.size + 5]? = some (.cells cs5 t5 (0, 0))) :
    St X w (B ++ [(W.heap.size, cs0, t0), (W.heap.size + 1, cs1, t1), (W.heap.size + 2, cs2, t2), (W.heap.size + 3, cs3, t3), (W.heap.size + 4, cs4, t4), (W.heap.size + 5, cs5, t5)]) G N W' :=
  h.news hb _ (fun x hx => by
    simp only [List.mem_cons, List.not_mem_nil, or_false] at hx
    rcases hx with rfl | rfl | rfl | rfl | rfl | rfl
    · exact ⟨h0, Nat.le_refl _⟩
    · exact ⟨h1, Nat.le_add_right _ _⟩
    · exact ⟨h2, Nat.le_add_right _ _⟩
    · exact ⟨h3, Nat.le_add_right _ _⟩
    · exact ⟨h4, Nat.le_add_right _ _⟩
    · exact ⟨h5, Nat.le_add_right _ _⟩) (by simp)
theorem St.at (h : St X w B G N W) (k : Nat) {b : Nat} {cs : Array Value} {t : TypeId} (hk : B[k]? = some (b, cs, t)) : W.heap[b]? = some (.cells cs t (0, 0)) := (h.blk _ (List.mem_of_getElem? hk)).1
theorem St.own (h : St X w B G N W) (k : Nat) {b : Nat} {cs : Array Value} {t : TypeId} (hk : B[k]? = some (b, cs, t)) : w.heap.size ≤ b ∧ b < W.heap.size := ⟨(h.blk _ (List.mem_of_getElem? hk)).2, h.lt (List.mem_of_getElem? hk)⟩
theorem map_set_same {L : List Bl} {k b : Nat} {cs cs' : Array Value} {t : TypeId} (hk : L[k]? = some (b, cs, t)) : (L.set k (b, cs', t)).map (·.1) = L.map (·.1) := by
  apply List.ext_getElem?
  intro j
  rw [List.getElem?_map, List.getElem?_map, List.getElem?_set]
  by_cases e : k = j
  · subst e
    rw [if_pos rfl, hk]
    have := (List.getElem?_eq_some_iff.1 hk).1
    rw [if_pos this]
    rfl
  · rw [if_neg e]
theorem St.set (h : St X w B G N W) (k : Nat) {b : Nat} {cs cs' : Array Value} {t : TypeId} (hk : B[k]? = some (b, cs, t)) (hb : Below b W W') (hg : ∀ g, g ≠ b → W'.heap[g]? = W.heap[g]?) (hs : W'.heap.size = W.heap.size) (hn : W'.heap[b]? = some (.cells cs' t (0, 0))) :
    St X w (B.set k (b, cs', t)) G N W' := by
  have hm := map_set_same (cs' := cs') hk
  have hkl := (List.getElem?_eq_some_iff.1 hk).1
  have hXb : Xo X (B.map (·.1)) b := .inr (List.mem_map.2 ⟨_, List.mem_of_getElem? hk, rfl⟩)
  have hwb := (h.own k hk).1
  refine ⟨h.bel.trans (hb.mono hwb), h.old, fun x hx => ?_, by rw [hm]; exact h.nd, fun x hx => by rw [hm]; exact (h.gv x hx).other hXb hs hg, fun x hx => by rw [hm]; exact (h.nv x hx).other hXb hs hg⟩
  obtain ⟨j, hj⟩ := List.mem_iff_getElem?.1 hx
  rw [List.getElem?_set] at hj
  by_cases e : k = j
  · subst e
    rw [if_pos rfl, if_pos hkl] at hj
    obtain rfl := Option.some.inj hj
    exact ⟨hn, hwb⟩
  · rw [if_neg e] at hj
    have hne : x.1 ≠ b := fun e2 => by
      have h1 : (B.map (·.1))[k]? = some b := by rw [List.getElem?_map, hk]; rfl
      have h2 : (B.map (·.1))[j]? = some b := by rw [List.getElem?_map, hj, ← e2]; rfl
      have hkl' : k < (B.map (·.1)).length := by simpa using hkl
      exact e ((List.getElem?_inj hkl' h.nd).1 (h1.trans h2.symm))
    exact ⟨(hg _ hne).trans (h.blk x (List.mem_of_getElem? hj)).1, (h.blk x (List.mem_of_getElem? hj)).2⟩
theorem St.addG (h : St X w B G N W) {l : List NodeL} {v : Value} (hg : GivesX (Xo X (B.map (·.1))) l v W) : St X w B (G ++ [(l, v)]) N W :=
  ⟨h.bel, h.old, h.blk, h.nd, fun x hx => by
    rcases List.mem_append.1 hx with hx | hx
    · exact h.gv x hx
    · rw [List.mem_singleton] at hx; subst hx; exact hg, h.nv⟩
theorem St.addN (h : St X w B G N W) {n : NodeL} {v : Value} (hn : NodeX (Xo X (B.map (·.1))) n v W) : St X w B G (N ++ [(n, v)]) W :=
  ⟨h.bel, h.old, h.blk, h.nd, h.gv, fun x hx => by
    rcases List.mem_append.1 hx with hx | hx
    · exact h.nv x hx
    · rw [List.mem_singleton] at hx; subst hx; exact hn⟩
theorem St.less (h : St X w B G N W) {G' : List (List NodeL × Value)} {N' : List (NodeL × Value)} (hG : ∀ x ∈ G', x ∈ G) (hN : ∀ x ∈ N', x ∈ N) : St X w B G' N' W :=
  ⟨h.bel, h.old, h.blk, h.nd, fun x hx => h.gv x (hG x hx), fun x hx => h.nv x (hN x hx)⟩
theorem St.g (h : St X w B G N W) (k : Nat) {l : List NodeL} {v : Value} (hk : G[k]? = some (l, v)) : GivesX (Xo X (B.map (·.1))) l v W := h.gv _ (List.mem_of_getElem? hk)
theorem St.n (h : St X w B G N W) (k : Nat) {n : NodeL} {v : Value} (hk : N[k]? = some (n, v)) : NodeX (Xo X (B.map (·.1))) n v W := h.nv _ (List.mem_of_getElem? hk)
theorem St.gX (h : St X w B G N W) (k : Nat) {l : List NodeL} {v : Value} (hk : G[k]? = some (l, v)) : GivesX X l v W := (h.g k hk).sub fun _ hg => .inl hg
theorem St.nX (h : St X w B G N W) (k : Nat) {n : NodeL} {v : Value} (hk : N[k]? = some (n, v)) : NodeX X n v W := (h.n k hk).sub fun _ hg => .inl hg
end
theorem fresh1d {P : World → Prop} {w : World} {A : Obj} (h : ∀ W, Below w.heap.size w W → W.heap[w.heap.size]? = some A → W.heap.size = w.heap.size + 1 → P W) : P (w.alloc A).drew :=
  h _ ((Below.refl _ w).alloc (Nat.le_refl _) _).drew (heap_alloc_new w A) (by simp)
theorem cells2 {W : World} {b : Nat} {u0 u1 : Value} {t : TypeId} {f : Nat × Nat} (h : W.heap[b]? = some (.cells #[u0, u1] t f)) : W.cell? ⟨b, 0, none⟩ = some u0 ∧ W.cell? ⟨b, 1, none⟩ = some u1 := by
  refine ⟨?_, ?_⟩ <;> (rw [Lib.cell_of_heap h]; rfl)
theorem wpList_fresh1 {P : Program} {ops : Array Oper} {Q : Exit → Act → World → Prop} {l : List Oper} {a : Act} {w : World} {A : Obj}
    (h : ∀ W, Below w.heap.size w W → W.heap[w.heap.size]? = some A → W.heap.size = w.heap.size + 1 → wpList P ops Q l a W) : wpList P ops Q l a (w.alloc A) := fresh1 (P := fun W => wpList P ops Q l a W) h
theorem wpList_fresh1d {P : Program} {ops : Array Oper} {Q : Exit → Act → World → Prop} {l : List Oper} {a : Act} {w : World} {A : Obj}
    (h : ∀ W, Below w.heap.size w W → W.heap[w.heap.size]? = some A → W.heap.size = w.heap.size + 1 → wpList P ops Q l a W) : wpList P ops Q l a (w.alloc A).drew := fresh1d (P := fun W => wpList P ops Q l a W) h
theorem there_block {w : World} {b : Nat} {old : Array Value} {t : TypeId} (hb : w.heap[b]? = some (.cells old t (0, 0))) : w.there b 0 old.size := fun j hj => by
  refine ⟨?_, Lib.frozen_of_heap hb _⟩
  rw [Lib.cell_of_heap hb, Nat.zero_add, Array.getElem?_eq_getElem hj]
  rfl
theorem heap_setCells_same {b : Nat} {t : TypeId} : ∀ (vs : List Value) (o : Nat) (w : World) (cs : Array Value), w.heap[b]? = some (.cells cs t (0, 0)) → ∃ cs', (w.setCells b o vs).heap[b]? = some (.cells cs' t (0, 0)) ∧ cs'.size = cs.size
  | [], _, _, cs, h => ⟨cs, h, rfl⟩
  | v :: r, o, w, cs, h => by
    obtain ⟨cs', h1, h2⟩ := heap_setCells_same r (o + 1) (w.setCell ⟨b, o, none⟩ v) _ (heap_set h)
    exact ⟨cs', h1, by rw [h2, Array.size_setIfInBounds]⟩
theorem heap_setCells_all {w : World} {b : Nat} {old : Array Value} {t : TypeId} (vs : List Value) (hb : w.heap[b]? = some (.cells old t (0, 0))) (hs : old.size = vs.length) : (w.setCells b 0 vs).heap[b]? = some (.cells vs.toArray t (0, 0)) := by
  obtain ⟨cs', h1, h2⟩ := heap_setCells_same (t := t) vs 0 w old hb
  rw [h1]
  have hr := World.rangeAt_setCells_same w b 0 vs (by rw [← hs]; exact there_block hb)
  have : cs' = vs.toArray := by
    apply Array.ext_getElem?
    intro j
    rcases Nat.lt_or_ge j vs.length with hj | hj
    · have h3 := hr j vs[j] (List.getElem?_eq_getElem hj)
      rw [Lib.cell_of_heap h1, Nat.zero_add] at h3
      rw [h3]
      simp [hj]
    · rw [Array.getElem?_eq_none (by omega), Array.getElem?_eq_none (by simpa using hj)]
  rw [this]
/-- A block, written all over, in a plain region. -/
theorem wpList_store_row {P : Program} {ops : Array Oper} {rest : List Oper} {op : Oper} {a : Act} {w : World} {Q : Exit → Act → World → Prop} (hgd : op.guard = none) (ty : TypeId) (x y : Operand) (ho : op.op = .store ty x y)
    (b : Nat) {cells old : List Value} {t : TypeId} (hx : a.eval x = .pointer (some ⟨b, 0, none⟩)) (hy : a.eval y = .agg cells.toArray) (hb : w.heap[b]? = some (.cells old.toArray t (0, 0))) (hs : old.length = cells.length)
    (hi : (P.info? ty).map (·.size) = some cells.length) (h1 : cells.all (·.oneCell') = true)
    (h : ∀ W', Below b w W' → (∀ g, g ≠ b → W'.heap[g]? = w.heap[g]?) → W'.heap.size = w.heap.size → W'.heap[b]? = some (.cells cells.toArray t (0, 0)) → wpList P ops Q rest (a.put op.dst undef) W') : wpList P ops Q (op :: rest) a w := by
  refine wpList_store_mid hgd ty x y ho b 0 cells.toArray hx hy ?_ (by simpa using hi) ?_ ?_
  · have := there_block hb
    rw [List.size_toArray] at this ⊢
    rwa [← hs]
  · exact all_oneCell_toArray fun v hv => List.all_eq_true.1 h1 v hv
  · exact h _ (below_setCells _ _ (Nat.le_refl _) _ _ _) (fun g hg => heap_setCells _ _ hg _ _ _) (size_setCells _ _ _ _) (heap_setCells_all _ hb (by rw [List.size_toArray]; exact hs))
/-- The same of one operation, in a region that draws. -/
theorem wp_store_row {P : Program} {op : Oper} {a : Act} {w : World} {K : Act → World → Prop} {Q : Exit → Act → World → Prop} (ty : TypeId) (x y : Operand) (ho : op.op = .store ty x y)
    (b : Nat) {cells old : List Value} {t : TypeId} (hx : a.eval x = .pointer (some ⟨b, 0, none⟩)) (hy : a.eval y = .agg cells.toArray) (hb : w.heap[b]? = some (.cells old.toArray t (0, 0))) (hs : old.length = cells.length)
    (hi : (P.info? ty).map (·.size) = some cells.length) (h1 : cells.all (·.oneCell') = true)
    (h : ∀ W', Below b w W' → (∀ g, g ≠ b → W'.heap[g]? = w.heap[g]?) → W'.heap.size = w.heap.size → W'.heap[b]? = some (.cells cells.toArray t (0, 0)) → K (a.put op.dst undef) W') : op.wp P a w K Q := by
  refine wp_store_mid ty x y ho b 0 cells.toArray hx hy ?_ (by simpa using hi) ?_ ?_
  · have := there_block hb
    rw [List.size_toArray] at this ⊢
    rwa [← hs]
  · exact all_oneCell_toArray fun v hv => List.all_eq_true.1 h1 v hv
  · exact h _ (below_setCells _ _ (Nat.le_refl _) _ _ _) (fun g hg => heap_setCells _ _ hg _ _ _) (size_setCells _ _ _ _) (heap_setCells_all _ hb (by rw [List.size_toArray]; exact hs))
/-- A whole block, read, in the head of a region whose head only reads. -/
theorem wpStill_load_row {P : Program} {ops : Array Oper} {rest : List Oper} {o : Oper} {a : Act} {w : World} {Q : Act → Prop} (hgd : o.guard = none) (ty : TypeId) (x : Operand) (ho : o.op = .load ty x)
    (g : Nat) (hx : a.eval x = .pointer (some ⟨g, 0, none⟩)) (t : TypeId) (cs : Array Value) (fr : Nat × Nat) (d : TypeDesc) (hg : w.heap[g]? = some (.cells cs t fr))
    (hu : P.underlying ty = some d) (hd : (match d with | .struct _ | .array _ _ => true | _ => false) = true) (hi : (P.info? ty).map (·.size) = some cs.size)
    (h : wpStill P ops w Q rest (a.put o.dst (.agg cs))) : wpStill P ops w Q (o :: rest) a := by
  refine wpStill_step fun K hK => ?_
  rw [if_pos (by simp [Region.wanted, hgd])]
  unfold Oper.still execOp
  simp only [ho, hx, Instr.loadAt, Instr.sureAddr, Sem.run_bind, Sem.run_pure, Result.andThen_ok, run_loadVar_row w g t ty cs fr d hg hu hd hi]
  exact ⟨rfl, hK _ h⟩
/-- A whole block, read, under an S that gives it: it may be taken first. -/
theorem yieldsIf_load_row {P : Program} {ops : Array Oper} {S : World → Prop} {op : Oper} {a : Act} (hw : Region.wanted op (yielded ops a.tmps) = true) (ty : TypeId) (x : Operand) (ho : op.op = .load ty x)
    (b : Nat) (hx : a.eval x = .pointer (some ⟨b, 0, none⟩)) (t : TypeId) (cs : Array Value) (fr : Nat × Nat) (d : TypeDesc) (hS : ∀ w, S w → w.heap[b]? = some (.cells cs t fr))
    (hu : P.underlying ty = some d) (hd : (match d with | .struct _ | .array _ _ => true | _ => false) = true) (hi : (P.info? ty).map (·.size) = some cs.size) : YieldsIf P ops S op (.agg cs) a :=
  .inl ⟨hw, fun w hw' => by
    unfold execOp
    simp only [ho, hx, Instr.loadAt, Instr.sureAddr, Sem.run_bind, Sem.run_pure, Result.andThen_ok, run_loadVar_row w b t ty cs fr d (hS w hw') hu hd hi]⟩
/-- Two structs and a slot as results. -/
theorem results_cct {P : Program} {fn : Func} {p q u : Tmp} {ty ty2 : TypeId} (h : fn.results = #[.cell p ty, .cell q ty2, .tmp u]) (tmps : Array Value) (w : World) (g g2 : Nat) (t t2 : TypeId) (cs cs2 : Array Value) (fr fr2 : Nat × Nat) (d d2 : TypeDesc)
    (hp : tmps.getD p undef = .pointer (some ⟨g, 0, none⟩)) (hg : w.heap[g]? = some (.cells cs t fr)) (hq : tmps.getD q undef = .pointer (some ⟨g2, 0, none⟩)) (hg2 : w.heap[g2]? = some (.cells cs2 t2 fr2))
    (hu : P.underlying ty = some d) (hd : (match d with | .struct _ | .array _ _ => true | _ => false) = true) (hi : (P.info? ty).map (·.size) = some cs.size)
    (hu2 : P.underlying ty2 = some d2) (hd2 : (match d2 with | .struct _ | .array _ _ => true | _ => false) = true) (hi2 : (P.info? ty2).map (·.size) = some cs2.size) :
    (results fn tmps).run P w = .ok (.tuple #[.agg cs, .agg cs2, tmps.getD u undef]) w := by
  have hp' : tmps[p]?.getD undef = .pointer (some ⟨g, 0, none⟩) := by simpa using hp
  have hq' : tmps[q]?.getD undef = .pointer (some ⟨g2, 0, none⟩) := by simpa using hq
  simp [results, h, hp', hq', asAddr, run_loadVar_row w g t ty cs fr d hg hu hd hi, run_loadVar_row w g2 t2 ty2 cs2 fr2 d2 hg2 hu2 hd2 hi2, Result.andThen]
theorem one_g {X : Nat → Prop} {w : World} {l : List NodeL} {v : Value} (hg : GivesX X l v w) : ∀ x ∈ [(l, v)], GivesX X x.1 x.2 w := fun x hx => by rw [List.mem_singleton] at hx; subst hx; exact hg
theorem one_n {X : Nat → Prop} {w : World} {n : NodeL} {v : Value} (hg : NodeX X n v w) : ∀ x ∈ [(n, v)], NodeX X x.1 x.2 w := fun x hx => by rw [List.mem_singleton] at hx; subst hx; exact hg
theorem no_n {X : Nat → Prop} {w : World} : ∀ x ∈ ([] : List (NodeL × Value)), NodeX X x.1 x.2 w := fun _ h => by cases h
end Go.Proofs.Ythpcldmhamjnbaa
