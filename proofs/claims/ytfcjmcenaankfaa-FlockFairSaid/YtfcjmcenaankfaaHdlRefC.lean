/-
  The document's Set, Dup, Close.
-/
import Derived.Test.YtfcjmcenaankfaaHdlRefB
namespace Go.Proofs.Ytfcjmcenaankfaa
open Go.RowKit Go.Shelf
attribute [local go_sem ↓] Go.wp_at_zero Go.wp_at_succ

theorem cells6 {W : World} {b : Nat} {u0 u1 u2 u3 u4 u5 : Value} {t : TypeId} {f : Nat × Nat} (h : W.heap[b]? = some (.cells #[u0, u1, u2, u3, u4, u5] t f)) :
    W.cell? ⟨b, 0, none⟩ = some u0 ∧ W.cell? ⟨b, 1, none⟩ = some u1 ∧ W.cell? ⟨b, 2, none⟩ = some u2 ∧ W.cell? ⟨b, 3, none⟩ = some u3 ∧ W.cell? ⟨b, 4, none⟩ = some u4 ∧ W.cell? ⟨b, 5, none⟩ = some u5 := by
  refine ⟨?_, ?_, ?_, ?_, ?_, ?_⟩ <;> (rw [Lib.cell_of_heap h]; rfl)
theorem grown_set (W : World) (g o : Nat) (vs : List Value) : W.grownBy (W.setCells g o vs) (some g) := by
  have hb := below_setCells g g (Nat.le_refl g) vs o W
  exact ⟨hb.os, hb.tape, hb.output, hb.size, fun k _ hk => heap_setCells g k (fun e => hk (by rw [e])) vs o W⟩
/-- A table, told. -/
def TabIs (X : Nat → Prop) (t : TabL) (e : Ending) (w w' : World) : Prop := ∃ vd vf, e = .returned (.agg #[vd, vf]) ∧ TabX t vd vf X w' ∧ Below w.heap.size w w'
/-- A table, told with something else, and an error. -/
def TabIs2 (X : Nat → Prop) (t : TabL) (x : Value) (n : Int) (e : Ending) (w w' : World) : Prop := ∃ vd vf, e = .returned (.tuple #[.agg #[vd, vf], x, .int .i64 n]) ∧ TabX t vd vf X w' ∧ Below w.heap.size w w'
/-- A write to the descriptions' row. -/
theorem OwnT.writeD {tD tS tI : TypeId} {base : Nat} {t : TabL} {vd vf : Value} {rows : List RowV} {W : World} (h : OwnT tD tS tI base t vd vf rows W) {g cap : Nat} (e : vd = .slice (some ⟨g, 0, none⟩) t.ds.length cap) {i : Nat} (hi : i < t.ds.length) (d : DescL) (hS : tS ≠ tD) (hI : tI ≠ tD) : OwnT tD tS tI base ⟨t.ds.set i d, t.fs⟩ vd vf rows (W.setCells g (i * 6) (dcells d)) :=
  h.segD e (cells_set_all _ _ hi d) (by rw [List.length_set]) (by show i * 6 + 6 ≤ _; omega) hS hI rfl (fun k hk => heap_setCells g k hk _ _ _)
theorem OwnT.writeR {tD tS tI : TypeId} {base : Nat} {t : TabL} {vd vf : Value} {rows : List RowV} {W : World} (h : OwnT tD tS tI base t vd vf rows W) {g cap : Nat} (e : vd = .slice (some ⟨g, 0, none⟩) t.ds.length cap) {i : Nat} (hi : i < t.ds.length) (r : Int) (hS : tS ≠ tD) (hI : tI ≠ tD) : OwnT tD tS tI base ⟨t.ds.set i { t.ds[i] with refs := r }, t.fs⟩ vd vf rows (W.setCell ⟨g, i * 6 + 4, none⟩ (.int .i64 r)) :=
  h.segD e (vs := [.int .i64 r]) (cells_set_refs _ _ hi r) (by rw [List.length_set]) (by show i * 6 + 4 + 1 ≤ _; omega) hS hI rfl (fun k hk => heap_setCells g k hk [.int .i64 r] _ _)
theorem OwnT.writeF {tD tS tI : TypeId} {base : Nat} {t : TabL} {vd vf : Value} {rows : List RowV} {W : World} (h : OwnT tD tS tI base t vd vf rows W) {p k g cr : Nat} (hp : p < t.fs.length) (hk : k < (t.fs[p]).length) (hr : rows[p]? = some (t.fs[p], .slice (some ⟨g, 0, none⟩) (t.fs[p]).length cr)) (v : Int) (hD : tD ≠ tI) (hS : tS ≠ tI) :
    OwnT tD tS tI base ⟨t.ds, putF t.fs p k v⟩ vd vf (rows.set p ((t.fs[p]).set k v, .slice (some ⟨g, 0, none⟩) (t.fs[p]).length cr)) (W.setCell ⟨g, k, none⟩ (.int .i64 v)) :=
  h.segF hp hk hr v hD hS rfl (fun k' hk' => heap_setCells g k' hk' [.int .i64 v] _ _)
/-- A block is written that was there ahead of it. -/
theorem OwnT.before {tD tS tI : TypeId} {base : Nat} {t : TabL} {vd vf : Value} {rows : List RowV} {W W' : World} (h : OwnT tD tS tI base t vd vf rows W) {g : Nat} (hg : g < base) (ho : ∀ k, k ≠ g → W'.heap[k]? = W.heap[k]?) : OwnT tD tS tI base t vd vf rows W' := by
  have ne : ∀ {e' : TypeId} {s n : Nat} {v : Value} {xs : List Value}, W.ownsRow base e' s v n xs → v.ownBlock ≠ some g := fun h hv => by have := (h.lt g hv).1; omega
  exact ⟨h.fs, own_other h.ds (ne h.ds) ho, own_other h.out (ne h.out) ho, fun m hm => own_other (h.row m hm) (ne (h.row m hm)) ho, h.apart⟩
theorem Sf.apart2 {X : Nat → Prop} {w W : World} {B : List Bl} {G : List Thing} (_h : Sf X w B G W) {base : Nat} {e te : TypeId} {s n : Nat} {v : Value} {xs : List Value} (ho : W.ownsRow base e s v n xs) {L : List Nat} {o : Nat} {cs : Array Value} (hB : B.map (·.1) = L ++ [o]) (hL : ∀ g ∈ L, g < base) (hoo : W.heap[o]? = some (.cells cs te (0, 0))) (hne : te ≠ e) : ∀ g, v.ownBlock = some g → ∀ x ∈ B, x.1 ≠ g := by
  intro g hg x hx e1
  have hm : x.1 ∈ L ++ [o] := hB ▸ List.mem_map.2 ⟨x, hx, rfl⟩
  rcases List.mem_append.1 hm with hm | hm
  · have := hL _ hm; have := (ho.lt g hg).1; omega
  · rw [List.mem_singleton] at hm
    obtain ⟨cs', h1⟩ := own_type ho hg
    rw [← e1, hm, hoo] at h1
    injection h1 with h1
    injection h1 with _ h1
    exact hne h1
theorem Sf.ids {X : Nat → Prop} {w W : World} {B : List Bl} {G : List Thing} (h : Sf X w B G W) : ∀ g ∈ B.map (·.1), g < W.heap.size := fun g hg => by
  obtain ⟨x, hx, rfl⟩ := List.mem_map.1 hg
  exact h.lt hx
/-- Some cells of a row are written, in a plain region. -/
theorem wpList_store_seg {P : Program} {ops : Array Oper} {rest : List Oper} {op : Oper} {a : Act} {w : World} {Q : Exit → Act → World → Prop} (hgd : op.guard = none) (ty : TypeId) (x y : Operand) (ho : op.op = .store ty x y)
    (b o : Nat) {cells : List Value} (hx : a.eval x = .pointer (some ⟨b, o, none⟩)) (hy : a.eval y = .agg cells.toArray) (ht : w.there b o cells.length) (hi : (P.info? ty).map (·.size) = some cells.length) (h1 : cells.all (·.oneCell') = true)
    (h : wpList P ops Q rest (a.put op.dst undef) (w.setCells b o cells)) : wpList P ops Q (op :: rest) a w :=
  wpList_store_mid hgd ty x y ho b o cells.toArray hx hy (by rw [List.size_toArray]; exact ht) (by simpa using hi) (all_oneCell_toArray fun v hv => List.all_eq_true.1 h1 v hv) h
theorem own_newer {W : World} {base : Nat} {e : TypeId} {s n g cap : Nat} {xs : List Value} (h : W.ownsRow base e s (.slice (some ⟨g, 0, none⟩) n cap) n xs) : base ≤ g := (h.lt g rfl).1
set_option maxRecDepth 100000 in
set_option maxHeartbeats 4000000 in
theorem rsetH_c (X : Nat → Prop) (t : TabL) (i : Int) (x : DescL) (ad af : Option Addr) (cap capf : Nat) (w : World) (hX : Old X w) (hT : TabX t (.slice ad t.ds.length cap) (.slice af t.fs.length capf) X w) (hz : SizeT t) :
    Calls Try.prog 26 #[tabV ad t.ds.length cap af t.fs.length capf, .int .i64 i, dvalD x] w fun e w' => TabIs X (setT t i x) e w w' := by
  have S0 := Lib.hid (Sf.start (G := [TabX t (.slice ad t.ds.length cap) (.slice af t.fs.length capf)]) hX (th1 (TabX.firm _ _ _) hT))
  have H0 := Lib.hid hT
  have HZ := Lib.hid hz
  have HRET : Hid (∀ (W : World) (cs : Array Value) (fr), W.heap[w.heap.size + 2]? = some (.cells cs 33 fr) → cs.size = 2 → ∀ tmps : Array Value, tmps.getD 6 undef = .pointer (some ⟨w.heap.size + 2, 0, none⟩) → (results Try.f26 tmps).run Try.prog W = .ok (.agg cs) W) := Lib.hid fun W cs fr h hs tmps ht =>
  results_cell_row (p := 6)  (ty := 33) rfl tmps W (w.heap.size + 2) _ cs fr _ ht h Try.underlying33 rfl (by rw [hs]; kernel_rfl)
  have HOLD := Lib.hid hX
  clear hX hT hz
  go_enter Try.func26, Try.ntmps26
  go_upto_region 1 with (fail)
  refine code_fresh3 ?_
  intro W1 hb hA0 hA1 hA2 hs
  have S1 := Lib.hid (S0.out.new3 hb hA0 hA1 hA2)
  clear hb hA0 hA1 hA2 hs
  obtain ⟨d0, d1⟩ := cells2 (S1.out.at 0 rfl)
  by_cases h1 : i < 0
  · have i1 : decide (i < 0) = true := decide_eq_true h1
    have HR : Hid (setT t i x = t) := Lib.hid (if_pos (.inl h1))
    go_upto_region 2 with (fail)
    clear d0 d1
    have h_r := (S1.out.at 2 rfl)
    have h_d := (S1.out.at 0 rfl)
    go_wp2_with (first | (refine wpList_load_row rfl 33 _ rfl _ rfl 33 _ (0, 0) _ h_d Try.underlying33 rfl (by kernel_rfl) ?_) | (refine wpList_store_row rfl 33 _ _ rfl _ rfl rfl h_r rfl (by kernel_rfl) rfl ?_; intro W2 hb hg hs hn; have S2 := Lib.hid (S1.out.set 2 rfl hb hg hs hn); clear hb hg hs hn))
    refine bodyPost_ret (HRET.out _ _ _ (S2.out.at 2 rfl) rfl _ rfl) rfl ?_
    rw [HR.out]
    exact ⟨_, _, rfl, S2.out.gX 0 rfl, S2.out.bel⟩
  · have i1 : decide (i < 0) = false := decide_eq_false h1
    by_cases h2 : (t.ds.length : Int) ≤ i
    · have i2 : decide ((t.ds.length : Int) ≤ i) = true := decide_eq_true h2
      have HR : Hid (setT t i x = t) := Lib.hid (if_pos (.inr (.inl h2)))
      go_upto_region 2 with (fail)
      clear d0 d1
      have h_r := (S1.out.at 2 rfl)
      have h_d := (S1.out.at 0 rfl)
      go_wp2_with (first | (refine wpList_load_row rfl 33 _ rfl _ rfl 33 _ (0, 0) _ h_d Try.underlying33 rfl (by kernel_rfl) ?_) | (refine wpList_store_row rfl 33 _ _ rfl _ rfl rfl h_r rfl (by kernel_rfl) rfl ?_; intro W2 hb hg hs hn; have S2 := Lib.hid (S1.out.set 2 rfl hb hg hs hn); clear hb hg hs hn))
      refine bodyPost_ret (HRET.out _ _ _ (S2.out.at 2 rfl) rfl _ rfl) rfl ?_
      rw [HR.out]
      exact ⟨_, _, rfl, S2.out.gX 0 rfl, S2.out.bel⟩
    · have i2 : decide ((t.ds.length : Int) ≤ i) = false := decide_eq_false h2
      obtain ⟨a, rfl⟩ := Int.eq_ofNat_of_zero_le (show 0 ≤ i by omega)
      have i21 : decide (t.ds.length ≤ a) = false := decide_eq_false (by omega)
      have ha : a < t.ds.length := by omega
      have a0 : (0 : Int) ≤ (a : Int) := by omega
      have a1 : (a : Int) < (t.ds.length : Int) := by omega
      obtain ⟨b, off, ead, -, -, -, -, c4, -⟩ := TabX.desc (S1.out.g 0 rfl) a ha
      subst ead
      obtain ⟨y, hy⟩ : ∃ y, y = t.ds[a] := ⟨_, rfl⟩
      rw [← hy] at c4
      have HS0 : Hid (setT t (a : Int) x = if y.refs < 1 then t else ⟨t.ds.set a { x with refs := y.refs }, t.fs⟩) := Lib.hid (by unfold setT; rw [desc_at ha, ← hy]; by_cases h : y.refs < 1; rw [if_pos (.inr (.inr h)), if_pos h]; rw [if_neg (by omega), if_neg h, Int.toNat_natCast])
      have HY := Lib.hid hy
      clear hy h1 h2
      by_cases h3 : y.refs < 1
      · have i3 : decide (y.refs < 1) = true := decide_eq_true h3
        have HR := Lib.hid (HS0.out.trans (if_pos h3))
        go_upto_region 2 with (fail)
        clear d0 d1
        have h_r := (S1.out.at 2 rfl)
        have h_d := (S1.out.at 0 rfl)
        go_wp2_with (first | (refine wpList_load_row rfl 33 _ rfl _ rfl 33 _ (0, 0) _ h_d Try.underlying33 rfl (by kernel_rfl) ?_) | (refine wpList_store_row rfl 33 _ _ rfl _ rfl rfl h_r rfl (by kernel_rfl) rfl ?_; intro W2 hb hg hs hn; have S2 := Lib.hid (S1.out.set 2 rfl hb hg hs hn); clear hb hg hs hn))
        refine bodyPost_ret (HRET.out _ _ _ (S2.out.at 2 rfl) rfl _ rfl) rfl ?_
        rw [HR.out]
        exact ⟨_, _, rfl, S2.out.gX 0 rfl, S2.out.bel⟩
      · have i3 : decide (y.refs < 1) = false := decide_eq_false h3
        have HR := Lib.hid (HS0.out.trans (if_neg h3))
        clear h3
        go_upto_region 3 with (fail)
        clear d0 d1
        have h_d := (S1.out.at 0 rfl)
        go_wp2_with (first | (refine wpList_load_row rfl 33 _ rfl _ rfl 33 _ (0, 0) _ h_d Try.underlying33 rfl (by kernel_rfl) ?_))
        have HBS := Lib.hid (S1.out.bel.size)
        refine (rcopied_c t _ _ _ _ _ (S1.out.g 0 rfl) HZ.out).mono ?_
        rintro e W2 ⟨ad2, cap2, af2, capf2, rows, rfl, hO, hb⟩
        clear h_d
        have S2 := Lib.hid (S1.out.call hb)
        have HO := Lib.hid hO
        have HBZ := Lib.hid hb.size
        clear hO
        clear hb
        have HXB := Lib.hid (show ∀ g, X g → g < W1.heap.size from fun g hg => Nat.lt_of_lt_of_le (HOLD.out g hg) HBS.out)
        have HL := Lib.hid (show ∀ g ∈ [w.heap.size, w.heap.size + 1, w.heap.size + 2], g < W1.heap.size from S1.out.ids)
        go_upto_region 4 with (fail)
        refine code_fresh1 ?_
        intro W3 hb hA0 hs
        have S3 := Lib.hid (S2.out.new1 hb hA0)
        replace HO := Lib.hid (HO.out.below hb)
        clear hb hA0 hs
        obtain ⟨b5, off5, e5, -, -, -, -, c45, -⟩ := TabX.desc (S3.out.g 0 rfl) a ha
        injection e5 with e5
        injection e5 with e5a e5b _
        subst e5a
        subst e5b
        rw [← HY.out] at c45
        obtain ⟨d0, d1⟩ := cells2 (S3.out.at 0 rfl)
        obtain ⟨x0, x1, x2, x3, x4, x5⟩ := cells6 (S3.out.at 1 rfl)
        have fx := fun j => Lib.frozen_of_heap (S3.out.at 1 rfl) j
        go_upto_region 5 with (fail)
        have hold := (S3.out.at 1 rfl)
        refine code_set1 hold ?_
        intro W4 hb hg hs hn
        clear c45 d0 d1 x0 x1 x2 x3 x4 x5 fx
        have hn2 : W4.heap[w.heap.size + 1]? = some (.cells #[.int .i64 x.ino, .int .i64 x.pos, .bool x.rd, .bool x.wr, .int .i64 y.refs, .int .i64 x.lock] 55 (0, 0)) := hn
        have S4 := Lib.hid (S3.out.set 1 rfl hb hg hs hn2)
        replace HO := Lib.hid (HO.out.before (HL.out _ (by simp)) hg)
        clear hb hg hs hn hn2 hold
        obtain ⟨g, cp9, e9, hf9, ht9, -, -, -, -, -, -⟩ := HO.out.descO a ha
        injection e9 with e9a _ e9b
        subst e9a
        subst e9b
        have h_x := (S4.out.at 1 rfl)
        obtain ⟨o0, o1⟩ := cells2 (S4.out.at 3 rfl)
        go_upto_region 6 with (first | (refine wpList_load_row rfl 55 _ rfl _ rfl 55 _ (0, 0) _ h_x Try.underlying55 rfl (by kernel_rfl) ?_) | (refine wpList_store_seg rfl 55 _ _ rfl g (a * 6) rfl rfl ht9 (by kernel_rfl) rfl ?_))
        clear h_x o0 o1
        have hgw : W4.grownBy (W4.setCells g (a * 6) [.int .i64 x.ino, .int .i64 x.pos, .bool x.rd, .bool x.wr, .int .i64 y.refs, .int .i64 x.lock]) (some g) := grown_set W4 g _ _
        have HOn : Hid (OwnT 55 48 3 W1.heap.size ⟨t.ds.set a { x with refs := y.refs }, t.fs⟩ (.slice (some ⟨g, 0, none⟩) t.ds.length cap2) (.slice af2 t.fs.length capf2) rows (W4.setCells g (a * 6) [.int .i64 x.ino, .int .i64 x.pos, .bool x.rd, .bool x.wr, .int .i64 y.refs, .int .i64 x.lock])) := Lib.hid (HO.out.writeD rfl ha { x with refs := y.refs } (by decide) (by decide))
        have S5 := Lib.hid (S4.out.grown (fun P hP => by rw [List.mem_singleton] at hP; subst hP; exact H0.out) hgw (fun g e => by rw [← Option.some.inj e]; exact ⟨Nat.le_trans HBS.out (HO.out.ds.lt _ rfl).1, S4.out.apart2 HO.out.ds rfl HL.out (S4.out.at 3 rfl) (by decide) _ rfl⟩))
        clear HO
        have HO := HOn
        clear HOn hgw
        generalize (W4.setCells g (a * 6) [.int .i64 x.ino, .int .i64 x.pos, .bool x.rd, .bool x.wr, .int .i64 y.refs, .int .i64 x.lock]) = W6 at *
        have h_r := (S5.out.at 2 rfl)
        have h_o := (S5.out.at 3 rfl)
        go_wp2_with (first | (refine wpList_load_row rfl 33 _ rfl _ rfl 33 _ (0, 0) _ h_o Try.underlying33 rfl (by kernel_rfl) ?_) | (refine wpList_store_row rfl 33 _ _ rfl _ rfl rfl h_r rfl (by kernel_rfl) rfl ?_; intro W7 hb hg hs hn; have S7 := Lib.hid (S5.out.set 2 rfl hb hg hs hn); replace HO := Lib.hid (HO.out.before (HL.out _ (by simp)) hg); clear hb hg hs hn))
        refine bodyPost_ret (HRET.out _ _ _ (S7.out.at 2 rfl) rfl _ rfl) rfl ?_
        rw [HR.out]
        exact ⟨_, _, rfl, HO.out.tab HXB.out, S7.out.bel⟩
theorem refs_small {t : TabL} (hr : RightT t) (hz : SizeT t) {i : Nat} (hi : i < t.ds.length) : 0 ≤ t.ds[i].refs ∧ t.ds[i].refs ≤ 400 := by
  have h1 := (desc_right hr hi).1
  have h2 := refs_bound t.fs i 20 20 hz.2.1 hz.2.2
  omega
theorem first_T {t : TabL} {a f : Nat} (hf : f = firstR (rowT t a)) (h : f < (rowT t a).length) : firstT t a = (f : Int) := by unfold firstT; rw [← hf, if_pos h]
theorem first_F {t : TabL} {a : Nat} (h : ¬ firstR (rowT t a) < (rowT t a).length) : firstT t a = -1 := by unfold firstT; rw [if_neg h]
end Go.Proofs.Ytfcjmcenaankfaa
