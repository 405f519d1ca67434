/-
  The document's Set, Dup, Close.
-/
import Derived.Test.YtbcmhjgjcknfmaaHdlRefB
namespace Go.Proofs.Ytbcmhjgjcknfmaa
open Go.RowKit Go.Shelf
attribute [local go_sem ↓] Go.wp_at_zero Go.wp_at_succ

theorem cells6 {W : World} {b : Nat} {u0 u1 u2 u3 u4 u5 : Value} {t : TypeId} {f : Nat × Nat} (h : W.heap[b]? = some (.cells #[u0, u1, u2, u3, u4, u5] t f)) :
    W.cell? ⟨b, 0, none⟩ = some u0 ∧ W.cell? ⟨b, 1, none⟩ = some u1 ∧ W.cell? ⟨b, 2, none⟩ = some u2 ∧ W.cell? ⟨b, 3, none⟩ = some u3 ∧ W.cell? ⟨b, 4, none⟩ = some u4 ∧ W.cell? ⟨b, 5, none⟩ = some u5 := by
  refine ⟨?_, ?_, ?_, ?_, ?_, ?_⟩ <;> (rw [Lib.cell_of_heap h]; rfl)
theorem grown_set (W : World) (g o : Nat) (vs : List Value) : W.grownBy (W.setCells g o vs) (some g) := by
  have hb := below_setCells g g (Nat.le_refl g) vs o W
  exact ⟨hb.os, hb.tape, hb.output, hb.size, fun k _ hk => heap_setCells g k (fun e => hk (by rw [e])) vs o W⟩
/-- A table, told. -/
def TabIs (X : Nat → Prop) (t : TabL) (e : Ending) (w w' : World) : Prop := ∃ vd vf, e = .returned (.agg #[vd, vf]) ∧ TabX t vd vf X w' ∧ Below w.heap.size w w'
/-- A table, told with something else, and an error. -/
def TabIs2 (X : Nat → Prop) (t : TabL) (x : Value) (n : Int) (e : Ending) (w w' : World) : Prop := ∃ vd vf, e = .returned (.tuple #[.agg #[vd, vf], x, .int .i64 n]) ∧ TabX t vd vf X w' ∧ Below w.heap.size w w'
/-- A write to the descriptions' row. -/
theorem OwnT.writeD {tD tS tI : TypeId} {base : Nat} {t : TabL} {vd vf : Value} {rows : List RowV} {W : World} (h : OwnT tD tS tI base t vd vf rows W) {g cap : Nat} (e : vd = .slice (some ⟨g, 0, none⟩) t.ds.length cap) {i : Nat} (hi : i < t.ds.length) (d : DescL) (hS : tS ≠ tD) (hI : tI ≠ tD) : OwnT tD tS tI base ⟨t.ds.set i d, t.fs⟩ vd vf rows (W.setCells g (i * 6) (dcells d)) :=
  h.segD e (cells_set_all _ _ hi d) (by rw [List.length_set]) (by show i * 6 + 6 ≤ _; omega) hS hI rfl (fun k hk => heap_setCells g k hk _ _ _)
theorem OwnT.writeR {tD tS tI : TypeId} {base : Nat} {t : TabL} {vd vf : Value} {rows : List RowV} {W : World} (h : OwnT tD tS tI base t vd vf rows W) {g cap : Nat} (e : vd = .slice (some ⟨g, 0, none⟩) t.ds.length cap) {i : Nat} (hi : i < t.ds.length) (r : Int) (hS : tS ≠ tD) (hI : tI ≠ tD) : OwnT tD tS tI base ⟨t.ds.set i { t.ds[i] with refs := r }, t.fs⟩ vd vf rows (W.setCell ⟨g, i * 6 + 4, none⟩ (.int .i64 r)) :=
  h.segD e (vs := [.int .i64 r]) (cells_set_refs _ _ hi r) (by rw [List.length_set]) (by show i * 6 + 4 + 1 ≤ _; omega) hS hI rfl (fun k hk => heap_setCells g k hk [.int .i64 r] _ _)
theorem OwnT.writeF {tD tS tI : TypeId} {base : Nat} {t : TabL} {vd vf : Value} {rows : List RowV} {W : World} (h : OwnT tD tS tI base t vd vf rows W) {p k g cr : Nat} (hp : p < t.fs.length) (hk : k < (t.fs[p]).length) (hr : rows[p]? = some (t.fs[p], .slice (some ⟨g, 0, none⟩) (t.fs[p]).length cr)) (v : Int) (hD : tD ≠ tI) (hS : tS ≠ tI) :
    OwnT tD tS tI base ⟨t.ds, putF t.fs p k v⟩ vd vf (rows.set p ((t.fs[p]).set k v, .slice (some ⟨g, 0, none⟩) (t.fs[p]).length cr)) (W.setCell ⟨g, k, none⟩ (.int .i64 v)) :=
  h.segF hp hk hr v hD hS rfl (fun k' hk' => heap_setCells g k' hk' [.int .i64 v] _ _)
/-- A block is written that was there ahead of it. -/
theorem OwnT.before {tD tS tI : TypeId} {base : Nat} {t : TabL} {vd vf : Value} {rows : List RowV} {W W' : World} (h : OwnT tD tS tI base t vd vf rows W) {g : Nat} (hg : g < base) (ho : ∀ k, k ≠ g → W'.heap[k]? = W.heap[k]?) : OwnT tD tS tI base t vd vf rows W' := by
  have ne : ∀ {e' : TypeId} {s n : Nat} {v : Value} {xs : List Value}, W.ownsRow base e' s v n xs → v.ownBlock ≠ some g := fun h hv => by have := (h.lt g hv).1; omega
  exact ⟨h.fs, own_other h.ds (ne h.ds) ho, own_other h.out (ne h.out) ho, fun m hm => own_other (h.row m hm) (ne (h.row m hm)) ho, h.apart⟩
theorem Sf.apart2 {X : Nat → Prop} {w W : World} {B : List Bl} {G : List Thing} (_h : Sf X w B G W) {base : Nat} {e te : TypeId} {s n : Nat} {v : Value} {xs : List Value} (ho : W.ownsRow base e s v n xs) {L : List Nat} {o : Nat} {cs : Array Value} (hB : B.map (·.1) = L ++ [o]) (hL : ∀ g ∈ L, g < base) (hoo : W.heap[o]? = some (.cells cs te (0, 0))) (hne : te ≠ e) : ∀ g, v.ownBlock = some g → ∀ x ∈ B, x.1 ≠ g := by
  intro g hg x hx e1
  have hm : x.1 ∈ L ++ [o] := hB ▸ List.mem_map.2 ⟨x, hx, rfl⟩
  rcases List.mem_append.1 hm with hm | hm
  · have := hL _ hm; have := (ho.lt g hg).1; omega
  · rw [List.mem_singleton] at hm
    obtain ⟨cs', h1⟩ := own_type ho hg
    rw [← e1, hm, hoo] at h1
    injection h1 with h1
    injection h1 with _ h1
    exact hne h1
theorem Sf.ids {X : Nat → Prop} {w W : World} {B : List Bl} {G : List Thing} (h : Sf X w B G W) : ∀ g ∈ B.map (·.1), g < W.heap.size := fun g hg => by
  obtain ⟨x, hx, rfl⟩ := List.mem_map.1 hg
  exact h.lt hx
/-- Some cells of a row are written, in a plain region. -/
theorem wpList_store_seg {P : Program} {ops : Array Oper} {rest : List Oper} {op : Oper} {a : Act} {w : World} {Q : Exit → Act → World → Prop} (hgd : op.guard = none) (ty : TypeId) (x y : Operand) (ho : op.op = .store ty x y)
    (b o : Nat) {cells : List Value} (hx : a.eval x = .pointer (some ⟨b, o, none⟩)) (hy : a.eval y = .agg cells.toArray) (ht : w.there b o cells.length) (hi : (P.info? ty).map (·.size) = some cells.length) (h1 : cells.all (·.oneCell') = true)
    (h : wpList P ops Q rest (a.put op.dst undef) (w.setCells b o cells)) : wpList P ops Q (op :: rest) a w :=
  wpList_store_mid hgd ty x y ho b o cells.toArray hx hy (by rw [List.size_toArray]; exact ht) (by simpa using hi) (all_oneCell_toArray fun v hv => List.all_eq_true.1 h1 v hv) h
theorem own_newer {W : World} {base : Nat} {e : TypeId} {s n g cap : Nat} {xs : List Value} (h : W.ownsRow base e s (.slice (some ⟨g, 0, none⟩) n cap) n xs) : base ≤ g := (h.lt g rfl).1
set_option maxRecDepth 100000 in
set_option maxHeartbeats 4000000 in
theorem rsetH_c (X : Nat → Prop) (t : TabL) (i : Int) (x : DescL) (ad af : Option Addr) (cap capf : Nat) (w : World) (hX : Old X w) (hT : TabX t (.slice ad t.ds.length cap) (.slice af t.fs.length capf) X w) (hz : SizeT t) :
    Calls Try.prog 25 #[tabV ad t.ds.length cap af t.fs.length capf, .int .i64 i, dvalD x] w fun e w' => TabIs X (setT t i x) e w w' := by
  have S0 := Lib.hid (Sf.start (G := [TabX t (.slice ad t.ds.length cap) (.slice af t.fs.length capf)]) hX (th1 (TabX.firm _ _ _) hT))
  have H0 := Lib.hid hT
  have HZ := Lib.hid hz
  have HRET : Hid (∀ (W : World) (cs : Array Value) (fr), W.heap[w.heap.size + 2]? = some (.cells cs 32 fr) → cs.size = 2 → ∀ tmps : Array Value, tmps.getD 6 undef = .pointer (some ⟨w.heap.size + 2, 0, none⟩) → (results Try.f25 tmps).run Try.prog W = .ok (.agg cs) W) := Lib.hid fun W cs fr h hs tmps ht =>
  results_cell_row (p := 6)  (ty := 32) rfl tmps W (w.heap.size + 2) _ cs fr _ ht h Try.underlying32 rfl (by rw [hs]; kernel_rfl)
  have HOLD := Lib.hid hX
  clear hX hT hz
  go_enter Try.func25, Try.ntmps25
  go_upto_region 1 with (fail)
  refine code_fresh3 ?_
  intro W1 hb hA0 hA1 hA2 hs
  have S1 := Lib.hid (S0.out.new3 hb hA0 hA1 hA2)
  clear hb hA0 hA1 hA2 hs
  obtain ⟨d0, d1⟩ := cells2 (S1.out.at 0 rfl)
  by_cases h1 : i < 0
  · have i1 : decide (i < 0) = true := decide_eq_true h1
    have HR : Hid (setT t i x = t) := Lib.hid (if_pos (.inl h1))
    go_upto_region 2 with (fail)
    clear d0 d1
    have h_r := (S1.out.at 2 rfl)
    have h_d := (S1.out.at 0 rfl)
    go_wp2_with (first | (refine wpList_load_row rfl 32 _ rfl _ rfl 32 _ (0, 0) _ h_d Try.underlying32 rfl (by kernel_rfl) ?_) | (refine wpList_store_row rfl 32 _ _ rfl _ rfl rfl h_r rfl (by kernel_rfl) rfl ?_; intro W2 hb hg hs hn; have S2 := Lib.hid (S1.out.set 2 rfl hb hg hs hn); clear hb hg hs hn))
    refine bodyPost_ret (HRET.out _ _ _ (S2.out.at 2 rfl) rfl _ rfl) rfl ?_
    rw [HR.out]
    exact ⟨_, _, rfl, S2.out.gX 0 rfl, S2.out.bel⟩
  · have i1 : decide (i < 0) = false := decide_eq_false h1
    by_cases h2 : (t.ds.length : Int) ≤ i
    · have i2 : decide ((t.ds.length : Int) ≤ i) = true := decide_eq_true h2
      have HR : Hid (setT t i x = t) := Lib.hid (if_pos (.inr (.inl h2)))
      go_upto_region 2 with (fail)
      clear d0 d1
      have h_r := (S1.out.at 2 rfl)
      have h_d := (S1.out.at 0 rfl)
      go_wp2_with (first | (refine wpList_load_row rfl 32 _ rfl _ rfl 32 _ (0, 0) _ h_d Try.underlying32 rfl (by kernel_rfl) ?_) | (refine wpList_store_row rfl 32 _ _ rfl _ rfl rfl h_r rfl (by kernel_rfl) rfl ?_; intro W2 hb hg hs hn; have S2 := Lib.hid (S1.out.set 2 rfl hb hg hs hn); clear hb hg hs hn))
      refine bodyPost_ret (HRET.out _ _ _ (S2.out.at 2 rfl) rfl _ rfl) rfl ?_
      rw [HR.out]
      exact ⟨_, _, rfl, S2.out.gX 0 rfl, S2.out.bel⟩
    · have i2 : decide ((t.ds.length : Int) ≤ i) = false := decide_eq_false h2
      obtain ⟨a, rfl⟩ := Int.eq_ofNat_of_zero_le (show 0 ≤ i by omega)
      have i21 : decide (t.ds.length ≤ a) = false := decide_eq_false (by omega)
      have ha : a < t.ds.length := by omega
      have a0 : (0 : Int) ≤ (a : Int) := by omega
      have a1 : (a : Int) < (t.ds.length : Int) := by omega
      obtain ⟨b, off, ead, -, -, -, -, c4, -⟩ := TabX.desc (S1.out.g 0 rfl) a ha
      subst ead
      obtain ⟨y, hy⟩ : ∃ y, y = t.ds[a] := ⟨_, rfl⟩
      rw [← hy] at c4
      have HS0 : Hid (setT t (a : Int) x = if y.refs < 1 then t else ⟨t.ds.set a { x with refs := y.refs }, t.fs⟩) := Lib.hid (by unfold setT; rw [desc_at ha, ← hy]; by_cases h : y.refs < 1; rw [if_pos (.inr (.inr h)), if_pos h]; rw [if_neg (by omega), if_neg h, Int.toNat_natCast])
      have HY := Lib.hid hy
      clear hy h1 h2
      by_cases h3 : y.refs < 1
      · have i3 : decide (y.refs < 1) = true := decide_eq_true h3
        have HR := Lib.hid (HS0.out.trans (if_pos h3))
        go_upto_region 2 with (fail)
        clear d0 d1
        have h_r := (S1.out.at 2 rfl)
        have h_d := (S1.out.at 0 rfl)
        go_wp2_with (first | (refine wpList_load_row rfl 32 _ rfl _ rfl 32 _ (0, 0) _ h_d Try.underlying32 rfl (by kernel_rfl) ?_) | (refine wpList_store_row rfl 32 _ _ rfl _ rfl rfl h_r rfl (by kernel_rfl) rfl ?_; intro W2 hb hg hs hn; have S2 := Lib.hid (S1.out.set 2 rfl hb hg hs hn); clear hb hg hs hn))
        refine bodyPost_ret (HRET.out _ _ _ (S2.out.at 2 rfl) rfl _ rfl) rfl ?_
        rw [HR.out]
        exact ⟨_, _, rfl, S2.out.gX 0 rfl, S2.out.bel⟩
      · have i3 : decide (y.refs < 1) = false := decide_eq_false h3
        have HR := Lib.hid (HS0.out.trans (if_neg h3))
        clear h3
        go_upto_region 3 with (fail)
        clear d0 d1
        have h_d := (S1.out.at 0 rfl)
        go_wp2_with (first | (refine wpList_load_row rfl 32 _ rfl _ rfl 32 _ (0, 0) _ h_d Try.underlying32 rfl (by kernel_rfl) ?_))
        have HBS := Lib.hid (S1.out.bel.size)
        refine (rcopied_c t _ _ _ _ _ (S1.out.g 0 rfl) HZ.out).mono ?_
        rintro e W2 ⟨ad2, cap2, af2, capf2, rows, rfl, hO, hb⟩
        clear h_d
        have S2 := Lib.hid (S1.out.call hb)
        have HO := Lib.hid hO
        have HBZ := Lib.hid hb.size
        clear hO
        clear hb
        have HXB := Lib.hid (show ∀ g, X g → g < W1.heap.size from fun g hg => Nat.lt_of_lt_of_le (HOLD.out g hg) HBS.out)
        have HL := Lib.hid (show ∀ g ∈ [w.heap.size, w.heap.size + 1, w.heap.size + 2], g < W1.heap.size from S1.out.ids)
        go_upto_region 4 with (fail)
        refine code_fresh1 ?_
        intro W3 hb hA0 hs
        have S3 := Lib.hid (S2.out.new1 hb hA0)
        replace HO := Lib.hid (HO.out.below hb)
        clear hb hA0 hs
        obtain ⟨b5, off5, e5, -, -, -, -, c45, -⟩ := TabX.desc (S3.out.g 0 rfl) a ha
        injection e5 with e5
        injection e5 with e5a e5b _
        subst e5a
        subst e5b
        rw [← HY.out] at c45
        obtain ⟨d0, d1⟩ := cells2 (S3.out.at 0 rfl)
        obtain ⟨x0, x1, x2, x3, x4, x5⟩ := cells6 (S3.out.at 1 rfl)
        have fx := fun j => Lib.frozen_of_heap (S3.out.at 1 rfl) j
        go_upto_region 5 with (fail)
        have hold := (S3.out.at 1 rfl)
        refine code_set1 hold ?_
        intro W4 hb hg hs hn
        clear c45 d0 d1 x0 x1 x2 x3 x4 x5 fx
        have hn2 : W4.heap[w.heap.size + 1]? = some (.cells #[.int .i64 x.ino, .int .i64 x.pos, .bool x.rd, .bool x.wr, .int .i64 y.refs, .int .i64 x.lock] 39 (0, 0)) := hn
        have S4 := Lib.hid (S3.out.set 1 rfl hb hg hs hn2)
        replace HO := Lib.hid (HO.out.before (HL.out _ (by simp)) hg)
        clear hb hg hs hn hn2 hold
        obtain ⟨g, cp9, e9, hf9, ht9, -, -, -, -, -, -⟩ := HO.out.descO a ha
        injection e9 with e9a _ e9b
        subst e9a
        subst e9b
        have h_x := (S4.out.at 1 rfl)
        obtain ⟨o0, o1⟩ := cells2 (S4.out.at 3 rfl)
        go_upto_region 6 with (first | (refine wpList_load_row rfl 39 _ rfl _ rfl 39 _ (0, 0) _ h_x Try.underlying39 rfl (by kernel_rfl) ?_) | (refine wpList_store_seg rfl 39 _ _ rfl g (a * 6) rfl rfl ht9 (by kernel_rfl) rfl ?_))
        clear h_x o0 o1
        have hgw : W4.grownBy (W4.setCells g (a * 6) [.int .i64 x.ino, .int .i64 x.pos, .bool x.rd, .bool x.wr, .int .i64 y.refs, .int .i64 x.lock]) (some g) := grown_set W4 g _ _
        have HOn : Hid (OwnT 39 65 3 W1.heap.size ⟨t.ds.set a { x with refs := y.refs }, t.fs⟩ (.slice (some ⟨g, 0, none⟩) t.ds.length cap2) (.slice af2 t.fs.length capf2) rows (W4.setCells g (a * 6) [.int .i64 x.ino, .int .i64 x.pos, .bool x.rd, .bool x.wr, .int .i64 y.refs, .int .i64 x.lock])) := Lib.hid (HO.out.writeD rfl ha { x with refs := y.refs } (by decide) (by decide))
        have S5 := Lib.hid (S4.out.grown (fun P hP => by rw [List.mem_singleton] at hP; subst hP; exact H0.out) hgw (fun g e => by rw [← Option.some.inj e]; exact ⟨Nat.le_trans HBS.out (HO.out.ds.lt _ rfl).1, S4.out.apart2 HO.out.ds rfl HL.out (S4.out.at 3 rfl) (by decide) _ rfl⟩))
        clear HO
        have HO := HOn
        clear HOn hgw
        generalize (W4.setCells g (a * 6) [.int .i64 x.ino, .int .i64 x.pos, .bool x.rd, .bool x.wr, .int .i64 y.refs, .int .i64 x.lock]) = W6 at *
        have h_r := (S5.out.at 2 rfl)
        have h_o := (S5.out.at 3 rfl)
        go_wp2_with (first | (refine wpList_load_row rfl 32 _ rfl _ rfl 32 _ (0, 0) _ h_o Try.underlying32 rfl (by kernel_rfl) ?_) | (refine wpList_store_row rfl 32 _ _ rfl _ rfl rfl h_r rfl (by kernel_rfl) rfl ?_; intro W7 hb hg hs hn; have S7 := Lib.hid (S5.out.set 2 rfl hb hg hs hn); replace HO := Lib.hid (HO.out.before (HL.out _ (by simp)) hg); clear hb hg hs hn))
        refine bodyPost_ret (HRET.out _ _ _ (S7.out.at 2 rfl) rfl _ rfl) rfl ?_
        rw [HR.out]
        exact ⟨_, _, rfl, HO.out.tab HXB.out, S7.out.bel⟩
theorem refs_small {t : TabL} (hr : RightT t) (hz : SizeT t) {i : Nat} (hi : i < t.ds.length) : 0 ≤ t.ds[i].refs ∧ t.ds[i].refs ≤ 400 := by
  have h1 := (desc_right hr hi).1
  have h2 := refs_bound t.fs i 20 20 hz.2.1 hz.2.2
  omega
theorem first_T {t : TabL} {a f : Nat} (hf : f = firstR (rowT t a)) (h : f < (rowT t a).length) : firstT t a = (f : Int) := by unfold firstT; rw [← hf, if_pos h]
theorem first_F {t : TabL} {a : Nat} (h : ¬ firstR (rowT t a) < (rowT t a).length) : firstT t a = -1 := by unfold firstT; rw [if_neg h]
set_option maxRecDepth 100000 in
set_option maxHeartbeats 4000000 in
theorem rdupH_c (X : Nat → Prop) (t : TabL) (p fd : Int) (ad af : Option Addr) (cap capf : Nat) (w : World) (hX : Old X w) (hT : TabX t (.slice ad t.ds.length cap) (.slice af t.fs.length capf) X w) (hz : SizeT t) (hr : RightT t) :
    Calls Try.prog 16 #[tabV ad t.ds.length cap af t.fs.length capf, .int .i64 p, .int .i64 fd] w fun e w' => TabIs2 X (dupT t p fd).1 (.int .i64 (dupT t p fd).2.1) (dupT t p fd).2.2 e w w' := by
  have S0 := Lib.hid (Sf.start (G := [TabX t (.slice ad t.ds.length cap) (.slice af t.fs.length capf)]) hX (th1 (TabX.firm _ _ _) hT))
  have H0 := Lib.hid hT
  have HZ := Lib.hid hz
  have HRET : Hid (∀ (W : World) (cs : Array Value) (fr), W.heap[w.heap.size + 1]? = some (.cells cs 32 fr) → cs.size = 2 → ∀ tmps : Array Value, tmps.getD 6 undef = .pointer (some ⟨w.heap.size + 1, 0, none⟩) → (results Try.f16 tmps).run Try.prog W = .ok (.tuple #[.agg cs, tmps.getD 7 undef, tmps.getD 8 undef]) W) := Lib.hid fun W cs fr h hs tmps ht =>
  results_ctt (p := 6) (u := 7) (v := 8) (ty := 32) rfl tmps W (w.heap.size + 1) _ cs fr _ ht h Try.underlying32 rfl (by rw [hs]; kernel_rfl)
  have HOLD := Lib.hid hX
  have HRT := Lib.hid hr
  clear hX hT hz hr
  go_enter Try.func16, Try.ntmps16
  go_upto_region 1 with (fail)
  refine code_fresh2 ?_
  intro W1 hb hA0 hA1 hs
  have S1 := Lib.hid (S0.out.new2 hb hA0 hA1)
  clear hb hA0 hA1 hs
  have h_d := (S1.out.at 0 rfl)
  go_wp2_with (first | (refine wpList_load_row rfl 32 _ rfl _ rfl 32 _ (0, 0) _ h_d Try.underlying32 rfl (by kernel_rfl) ?_))
  refine (rgetH_c t _ _ _ _ _ (S1.out.g 0 rfl) p fd HRT.out).mono ?_
  rintro e W2 ⟨hgot, hb⟩
  clear h_d
  have S2 := Lib.hid (S1.out.call hb)
  unfold GotIs at hgot
  subst hgot
  clear hb
  obtain ⟨y, hy⟩ : ∃ y, y = foundT t p fd := ⟨_, rfl⟩
  obtain ⟨pl, hpl⟩ : ∃ pl, pl = placeT t p fd := ⟨_, rfl⟩
  obtain ⟨hs, hhs⟩ : ∃ hs, hs = hasT t p fd := ⟨_, rfl⟩
  rw [← hy, ← hpl, ← hhs]
  have HY := Lib.hid hy
  have HPL := Lib.hid hpl
  have HHS := Lib.hid hhs
  clear hy hpl hhs
  go_upto_region 2 with (fail)
  refine code_fresh1 ?_
  intro W3 hb hA0 hs
  have S3 := Lib.hid (S2.out.new1 hb hA0)
  clear hb hA0 hs
  cases hs with
  | false =>
    have HR : Hid (dupT t p fd = (t, 0, 12)) := Lib.hid (if_pos HHS.out.symm)
    have h_r := (S3.out.at 1 rfl)
    have h_d := (S3.out.at 0 rfl)
    go_wp2_with (first | (refine wpList_load_row rfl 32 _ rfl _ rfl 32 _ (0, 0) _ h_d Try.underlying32 rfl (by kernel_rfl) ?_) | (refine wpList_store_row rfl 32 _ _ rfl _ rfl rfl h_r rfl (by kernel_rfl) rfl ?_; intro W4 hb hg hs hn; have S4 := Lib.hid (S3.out.set 1 rfl hb hg hs hn); clear hb hg hs hn))
    refine bodyPost_ret (HRET.out _ _ _ (S4.out.at 1 rfl) rfl _ rfl) rfl ?_
    rw [HR.out]
    exact ⟨_, _, rfl, S4.out.gX 0 rfl, S4.out.bel⟩
  | true =>
    have HR0 : Hid (dupT t p fd = if (rowT t p).length ≤ firstR (rowT t p) then (t, 0, 13) else (⟨t.ds.set (placeT t p fd).toNat { foundT t p fd with refs := (foundT t p fd).refs + 1 }, putF t.fs p.toNat (firstR (rowT t p)) (placeT t p fd)⟩, ((firstR (rowT t p) : Nat) : Int), 0)) := Lib.hid (if_neg (by rw [← HHS.out]; decide))
    obtain ⟨a, m, rfl, rfl, ha, hm, h0⟩ := has_T HHS.out.symm
    obtain ⟨i, hi, hil, hrf⟩ := place_T HRT.out ha hm h0
    obtain ⟨e1, e2⟩ := found_at HHS.out.symm hi hil
    have hpi : pl = (i : Int) := HPL.out.trans e1
    subst hpi
    have hyi := HY.out.trans e2
    have HYI := Lib.hid hyi
    have hrs := refs_small HRT.out HZ.out hil
    rw [← hyi] at hrs
    have HRS := Lib.hid hrs
    have i0 : (0 : Int) ≤ (i : Int) := by omega
    have i1 : (i : Int) < (t.ds.length : Int) := by omega
    have p0 : (0 : Int) ≤ (a : Int) := by omega
    have p1 : (a : Int) < (t.fs.length : Int) := by omega
    have m0 : (0 : Int) ≤ (m : Int) := by omega
    have hm2 : m < (t.fs[a]).length := by rw [row_at ha] at hm; exact hm
    have m1 : (m : Int) < ((t.fs[a]).length : Int) := by omega
    clear e1 e2 hyi hrs
    have h_d := (S3.out.at 0 rfl)
    go_wp2_with (first | (refine wpList_load_row rfl 32 _ rfl _ rfl 32 _ (0, 0) _ h_d Try.underlying32 rfl (by kernel_rfl) ?_))
    by_cases hfr : (rowT t a).length ≤ firstR (rowT t a)
    · have HF := Lib.hid (first_F (t := t) (a := a) (by omega))
      have HR := Lib.hid (HR0.out.trans (if_pos hfr))
      refine (rfirst_c t _ _ _ _ _ (S3.out.g 0 rfl) a ha HZ.out).mono ?_
      rintro e W4 ⟨rfl, hb⟩
      clear h_d
      have S4 := Lib.hid (S3.out.call hb)
      rw [HF.out]
      clear hb
      have h_r := (S4.out.at 1 rfl)
      have h_d := (S4.out.at 0 rfl)
      go_wp2_with (first | (refine wpList_load_row rfl 32 _ rfl _ rfl 32 _ (0, 0) _ h_d Try.underlying32 rfl (by kernel_rfl) ?_) | (refine wpList_store_row rfl 32 _ _ rfl _ rfl rfl h_r rfl (by kernel_rfl) rfl ?_; intro W5 hb hg hs hn; have S5 := Lib.hid (S4.out.set 1 rfl hb hg hs hn); clear hb hg hs hn))
      refine bodyPost_ret (HRET.out _ _ _ (S5.out.at 1 rfl) rfl _ rfl) rfl ?_
      rw [HR.out]
      exact ⟨_, _, rfl, S5.out.gX 0 rfl, S5.out.bel⟩
    · replace hfr := Nat.lt_of_not_le hfr
      obtain ⟨f, hf⟩ : ∃ f, f = firstR (rowT t a) := ⟨_, rfl⟩
      rw [← hf] at hfr
      have HF := Lib.hid (first_T hf hfr)
      have HR : Hid (dupT t (a : Int) (m : Int) = (⟨t.ds.set i { t.ds[i] with refs := t.ds[i].refs + 1 }, putF t.fs a f (i : Int)⟩, (f : Int), 0)) := Lib.hid (by rw [HR0.out, if_neg (by omega), ← HPL.out, ← HY.out, HYI.out, Int.toNat_natCast, Int.toNat_natCast, ← hf])
      have hf2 : f < (t.fs[a]).length := by rw [row_at ha] at hfr; exact hfr
      have f0 : (0 : Int) ≤ (f : Int) := by omega
      have f1 : (f : Int) < ((t.fs[a]).length : Int) := by omega
      have f2 : decide ((f : Int) < 0) = false := decide_eq_false (by omega)
      clear hf hfr
      refine (rfirst_c t _ _ _ _ _ (S3.out.g 0 rfl) a ha HZ.out).mono ?_
      rintro e W4 ⟨rfl, hb⟩
      clear h_d
      have S4 := Lib.hid (S3.out.call hb)
      rw [HF.out]
      clear hb
      go_upto_region 7 with (fail)
      have h_d := (S4.out.at 0 rfl)
      go_wp2_with (first | (refine wpList_load_row rfl 32 _ rfl _ rfl 32 _ (0, 0) _ h_d Try.underlying32 rfl (by kernel_rfl) ?_))
      have HBS := Lib.hid (S4.out.bel.size)
      refine (rcopied_c t _ _ _ _ _ (S4.out.g 0 rfl) HZ.out).mono ?_
      rintro e W5 ⟨ad2, cap2, af2, capf2, rows, rfl, hO, hb⟩
      clear h_d
      have S5 := Lib.hid (S4.out.call hb)
      have HO := Lib.hid hO
      have HBZ := Lib.hid hb.size
      clear hO
      clear hb
      have HXB := Lib.hid (show ∀ g, X g → g < W4.heap.size from fun g hg => Nat.lt_of_lt_of_le (HOLD.out g hg) HBS.out)
      have HL := Lib.hid (show ∀ g ∈ [w.heap.size, w.heap.size + 1, W2.heap.size], g < W4.heap.size from S4.out.ids)
      go_upto_region 8 with (fail)
      refine code_fresh1 ?_
      intro W6 hb hA0 hs
      have S6 := Lib.hid (S5.out.new1 hb hA0)
      replace HO := Lib.hid (HO.out.below hb)
      clear hb hA0 hs
      obtain ⟨g, cp9, e9, hf9, ht9, -, -, -, -, q4, -⟩ := HO.out.descO i hil
      injection e9 with e9a _ e9b
      subst e9a
      subst e9b
      rw [← HYI.out] at q4
      have w1 : IntKind.i64.wrap (y.refs + 1) = y.refs + 1 := Go.IntWalk.i64_in _ (by have := HRS.out; omega)
      obtain ⟨o0, o1⟩ := cells2 (S6.out.at 3 rfl)
      go_upto_region 9 with (fail)
      clear q4 o0 o1
      have hgw : W6.grownBy (W6.setCell ⟨g, i * 6 + 4, none⟩ (.int .i64 (y.refs + 1))) (some g) := grown_set W6 g _ [(.int .i64 (y.refs + 1))]
      have HOn : Hid (OwnT 39 65 3 W4.heap.size ⟨t.ds.set i { t.ds[i] with refs := y.refs + 1 }, t.fs⟩ (.slice (some ⟨g, 0, none⟩) t.ds.length cap2) (.slice af2 t.fs.length capf2) rows (W6.setCell ⟨g, i * 6 + 4, none⟩ (.int .i64 (y.refs + 1)))) := Lib.hid (HO.out.writeR rfl hil (y.refs + 1) (by decide) (by decide))
      have S7 := Lib.hid (S6.out.grown (fun P hP => by rw [List.mem_singleton] at hP; subst hP; exact H0.out) hgw (fun g e => by rw [← Option.some.inj e]; exact ⟨Nat.le_trans HBS.out (HO.out.ds.lt _ rfl).1, S6.out.apart2 HO.out.ds rfl HL.out (S6.out.at 3 rfl) (by decide) _ rfl⟩))
      clear HO
      have HO := HOn
      clear HOn hgw
      generalize (W6.setCell ⟨g, i * 6 + 4, none⟩ (.int .i64 (y.refs + 1))) = W8 at *
      obtain ⟨gf, capf3, gr, cr, e8, hrw, cR8, fR8, cI8⟩ := HO.out.rowO a ha f hf2
      injection e8 with e8a _ e8b
      subst e8a
      subst e8b
      have hro : W8.ownsRow W4.heap.size 3 1 (.slice (some ⟨gr, 0, none⟩) (t.fs[a]).length cr) (t.fs[a]).length (intC (t.fs[a])) := HO.out.row _ (List.mem_of_getElem? hrw)
      obtain ⟨o0, o1⟩ := cells2 (S7.out.at 3 rfl)
      go_upto_region 10 with (fail)
      clear cR8 fR8 cI8 o0 o1
      have hgw : W8.grownBy (W8.setCell ⟨gr, f, none⟩ (.int .i64 (i : Int))) (some gr) := grown_set W8 gr _ [(.int .i64 (i : Int))]
      have HOn : Hid (OwnT 39 65 3 W4.heap.size ⟨t.ds.set i { t.ds[i] with refs := y.refs + 1 }, putF t.fs a f (i : Int)⟩ (.slice (some ⟨g, 0, none⟩) t.ds.length cap2) (.slice (some ⟨gf, 0, none⟩) t.fs.length capf2) (rows.set a ((t.fs[a]).set f (i : Int), .slice (some ⟨gr, 0, none⟩) (t.fs[a]).length cr)) (W8.setCell ⟨gr, f, none⟩ (.int .i64 (i : Int)))) := Lib.hid (HO.out.writeF ha hf2 hrw (i : Int) (by decide) (by decide))
      have S9 := Lib.hid (S7.out.grown (fun P hP => by rw [List.mem_singleton] at hP; subst hP; exact H0.out) hgw (fun g e => by rw [← Option.some.inj e]; exact ⟨Nat.le_trans HBS.out (hro.lt _ rfl).1, S7.out.apart2 hro rfl HL.out (S7.out.at 3 rfl) (by decide) _ rfl⟩))
      clear HO
      have HO := HOn
      clear HOn hgw
      generalize (W8.setCell ⟨gr, f, none⟩ (.int .i64 (i : Int))) = W10 at *
      rw [show y.refs = t.ds[i].refs by rw [HYI.out]] at HO
      have h_r := (S9.out.at 1 rfl)
      have h_o := (S9.out.at 3 rfl)
      go_wp2_with (first | (refine wpList_load_row rfl 32 _ rfl _ rfl 32 _ (0, 0) _ h_o Try.underlying32 rfl (by kernel_rfl) ?_) | (refine wpList_store_row rfl 32 _ _ rfl _ rfl rfl h_r rfl (by kernel_rfl) rfl ?_; intro W11 hb hg hs hn; have S11 := Lib.hid (S9.out.set 1 rfl hb hg hs hn); replace HO := Lib.hid (HO.out.before (HL.out _ (by simp)) hg); clear hb hg hs hn))
      refine bodyPost_ret (HRET.out _ _ _ (S11.out.at 1 rfl) rfl _ rfl) rfl ?_
      rw [HR.out]
      exact ⟨_, _, rfl, HO.out.tab HXB.out, S11.out.bel⟩
set_option maxRecDepth 100000 in
set_option maxHeartbeats 4000000 in
theorem rcloseH_c (X : Nat → Prop) (t : TabL) (p fd : Int) (ad af : Option Addr) (cap capf : Nat) (w : World) (hX : Old X w) (hT : TabX t (.slice ad t.ds.length cap) (.slice af t.fs.length capf) X w) (hz : SizeT t) (hr : RightT t) :
    Calls Try.prog 18 #[tabV ad t.ds.length cap af t.fs.length capf, .int .i64 p, .int .i64 fd] w fun e w' => TabIs2 X (closeT t p fd).1 (dvalD (closeT t p fd).2.1) (closeT t p fd).2.2 e w w' := by
  have S0 := Lib.hid (Sf.start (G := [TabX t (.slice ad t.ds.length cap) (.slice af t.fs.length capf)]) hX (th1 (TabX.firm _ _ _) hT))
  have H0 := Lib.hid hT
  have HZ := Lib.hid hz
  have HRET : Hid (∀ (W : World) (cs cs2 : Array Value) (fr fr2), W.heap[w.heap.size + 1]? = some (.cells cs 32 fr) → cs.size = 2 → W.heap[w.heap.size + 2]? = some (.cells cs2 39 fr2) → cs2.size = 6 → ∀ tmps : Array Value, tmps.getD 6 undef = .pointer (some ⟨w.heap.size + 1, 0, none⟩) → tmps.getD 7 undef = .pointer (some ⟨w.heap.size + 2, 0, none⟩) → (results Try.f18 tmps).run Try.prog W = .ok (.tuple #[.agg cs, .agg cs2, tmps.getD 8 undef]) W) := Lib.hid fun W cs cs2 fr fr2 h hs h2 hs2 tmps ht ht2 =>
  results_cct (p := 6) (q := 7) (u := 8) (ty := 32) (ty2 := 39) rfl tmps W (w.heap.size + 1) (w.heap.size + 2) _ _ cs cs2 fr fr2 _ _ ht h ht2 h2 Try.underlying32 rfl (by rw [hs]; kernel_rfl) Try.underlying39 rfl (by rw [hs2]; kernel_rfl)
  have HOLD := Lib.hid hX
  have HRT := Lib.hid hr
  clear hX hT hz hr
  go_enter Try.func18, Try.ntmps18
  go_upto_region 1 with (fail)
  refine code_fresh3 ?_
  intro W1 hb hA0 hA1 hA2 hs
  have S1 := Lib.hid (S0.out.new3 hb hA0 hA1 hA2)
  clear hb hA0 hA1 hA2 hs
  have h_d := (S1.out.at 0 rfl)
  go_wp2_with (first | (refine wpList_load_row rfl 32 _ rfl _ rfl 32 _ (0, 0) _ h_d Try.underlying32 rfl (by kernel_rfl) ?_))
  refine (rgetH_c t _ _ _ _ _ (S1.out.g 0 rfl) p fd HRT.out).mono ?_
  rintro e W2 ⟨hgot, hb⟩
  clear h_d
  have S2 := Lib.hid (S1.out.call hb)
  unfold GotIs at hgot
  subst hgot
  clear hb
  obtain ⟨y, hy⟩ : ∃ y, y = foundT t p fd := ⟨_, rfl⟩
  obtain ⟨pl, hpl⟩ : ∃ pl, pl = placeT t p fd := ⟨_, rfl⟩
  obtain ⟨hs, hhs⟩ : ∃ hs, hs = hasT t p fd := ⟨_, rfl⟩
  rw [← hy, ← hpl, ← hhs]
  have HY := Lib.hid hy
  have HPL := Lib.hid hpl
  have HHS := Lib.hid hhs
  clear hy hpl hhs
  go_upto_region 2 with (fail)
  refine code_fresh1 ?_
  intro W3 hb hA0 hs
  have S3 := Lib.hid (S2.out.new1 hb hA0)
  clear hb hA0 hs
  cases hs with
  | false =>
    have HR : Hid (closeT t p fd = (t, zeroD, 12)) := Lib.hid (if_pos HHS.out.symm)
    go_upto_region 3 with (fail)
    have h_d := (S3.out.at 0 rfl)
    have h_r := (S3.out.at 1 rfl)
    have h_q := (S3.out.at 2 rfl)
    go_wp2_with (first | (refine wpList_load_row rfl 32 _ rfl _ rfl 32 _ (0, 0) _ h_d Try.underlying32 rfl (by kernel_rfl) ?_) | (refine wpList_store_row rfl 32 _ _ rfl _ rfl rfl h_r rfl (by kernel_rfl) rfl ?_; intro W4 hb hg hs hn; have S4 := Lib.hid (S3.out.set 1 rfl hb hg hs hn); clear hb hg hs hn; have h_q := S4.out.at 2 rfl) | (refine wpList_store_row rfl 39 _ _ rfl _ rfl rfl h_q rfl (by kernel_rfl) rfl ?_; intro W5 hb hg hs hn; have S5 := Lib.hid (S4.out.set 2 rfl hb hg hs hn); clear hb hg hs hn))
    refine bodyPost_ret (HRET.out _ _ _ _ _ (S5.out.at 1 rfl) rfl (S5.out.at 2 rfl) rfl _ rfl rfl) rfl ?_
    rw [HR.out]
    exact ⟨_, _, rfl, S5.out.gX 0 rfl, S5.out.bel⟩
  | true =>
    have HR0 : Hid (closeT t p fd = (⟨t.ds.set (placeT t p fd).toNat (if (lessD (foundT t p fd)).refs = 0 then zeroD else lessD (foundT t p fd)), putF t.fs p.toNat fd.toNat (-1)⟩, lessD (foundT t p fd), 0)) := Lib.hid (if_neg (by rw [← HHS.out]; decide))
    obtain ⟨a, m, rfl, rfl, ha, hm, h0⟩ := has_T HHS.out.symm
    obtain ⟨i, hi, hil, hrf⟩ := place_T HRT.out ha hm h0
    obtain ⟨e1, e2⟩ := found_at HHS.out.symm hi hil
    have hpi : pl = (i : Int) := HPL.out.trans e1
    subst hpi
    have hyi := HY.out.trans e2
    have HYI := Lib.hid hyi
    have hrs := refs_small HRT.out HZ.out hil
    rw [← hyi] at hrs
    have HRS := Lib.hid hrs
    have i0 : (0 : Int) ≤ (i : Int) := by omega
    have i1 : (i : Int) < (t.ds.length : Int) := by omega
    have p0 : (0 : Int) ≤ (a : Int) := by omega
    have p1 : (a : Int) < (t.fs.length : Int) := by omega
    have m0 : (0 : Int) ≤ (m : Int) := by omega
    have hm2 : m < (t.fs[a]).length := by rw [row_at ha] at hm; exact hm
    have m1 : (m : Int) < ((t.fs[a]).length : Int) := by omega
    clear e1 e2 hyi hrs
    have HR : Hid (closeT t (a : Int) (m : Int) = (⟨t.ds.set i (if (lessD y).refs = 0 then zeroD else lessD y), putF t.fs a m (-1)⟩, lessD y, 0)) := Lib.hid (by rw [HR0.out, ← HPL.out, ← HY.out, Int.toNat_natCast, Int.toNat_natCast, Int.toNat_natCast])
    go_upto_region 4 with (fail)
    have h_d := (S3.out.at 0 rfl)
    go_wp2_with (first | (refine wpList_load_row rfl 32 _ rfl _ rfl 32 _ (0, 0) _ h_d Try.underlying32 rfl (by kernel_rfl) ?_))
    have HBS := Lib.hid (S3.out.bel.size)
    refine (rcopied_c t _ _ _ _ _ (S3.out.g 0 rfl) HZ.out).mono ?_
    rintro e W4 ⟨ad2, cap2, af2, capf2, rows, rfl, hO, hb⟩
    clear h_d
    have S4 := Lib.hid (S3.out.call hb)
    have HO := Lib.hid hO
    have HBZ := Lib.hid hb.size
    clear hO
    clear hb
    have HXB := Lib.hid (show ∀ g, X g → g < W3.heap.size from fun g hg => Nat.lt_of_lt_of_le (HOLD.out g hg) HBS.out)
    have HL := Lib.hid (show ∀ g ∈ [w.heap.size, w.heap.size + 1, w.heap.size + 2, W2.heap.size], g < W3.heap.size from S3.out.ids)
    go_upto_region 5 with (fail)
    refine code_fresh1 ?_
    intro W5 hb hA0 hs
    have S5 := Lib.hid (S4.out.new1 hb hA0)
    replace HO := Lib.hid (HO.out.below hb)
    clear hb hA0 hs
    obtain ⟨gf, capf3, gr, cr, e8, hrw, cR8, fR8, cI8⟩ := HO.out.rowO a ha m hm2
    injection e8 with e8a _ e8b
    subst e8a
    subst e8b
    have hro : W5.ownsRow W3.heap.size 3 1 (.slice (some ⟨gr, 0, none⟩) (t.fs[a]).length cr) (t.fs[a]).length (intC (t.fs[a])) := HO.out.row _ (List.mem_of_getElem? hrw)
    obtain ⟨o0, o1⟩ := cells2 (S5.out.at 4 rfl)
    go_upto_region 6 with (fail)
    clear cR8 fR8 cI8 o0 o1
    obtain ⟨gd, cpd, e9, -, -, -, -, -, -, -, -⟩ := HO.out.descO i hil
    injection e9 with e9a _ e9b
    subst e9a
    subst e9b
    have hgw : W5.grownBy (W5.setCell ⟨gr, m, none⟩ (.int .i64 (-1))) (some gr) := grown_set W5 gr _ [(.int .i64 (-1))]
    have HOn : Hid (OwnT 39 65 3 W3.heap.size ⟨t.ds, putF t.fs a m (-1)⟩ (.slice (some ⟨gd, 0, none⟩) t.ds.length cap2) (.slice (some ⟨gf, 0, none⟩) t.fs.length capf2) (rows.set a ((t.fs[a]).set m (-1), .slice (some ⟨gr, 0, none⟩) (t.fs[a]).length cr)) (W5.setCell ⟨gr, m, none⟩ (.int .i64 (-1)))) := Lib.hid (HO.out.writeF ha hm2 hrw (-1) (by decide) (by decide))
    have S6 := Lib.hid (S5.out.grown (fun P hP => by rw [List.mem_singleton] at hP; subst hP; exact H0.out) hgw (fun g e => by rw [← Option.some.inj e]; exact ⟨Nat.le_trans HBS.out (hro.lt _ rfl).1, S5.out.apart2 hro rfl HL.out (S5.out.at 4 rfl) (by decide) _ rfl⟩))
    clear HO
    have HO := HOn
    clear HOn hgw
    generalize (W5.setCell ⟨gr, m, none⟩ (.int .i64 (-1))) = W7 at *
    have w1 : IntKind.i64.wrap (y.refs - 1) = y.refs - 1 := Go.IntWalk.i64_in _ (by have := HRS.out; omega)
    obtain ⟨n0, n1, n2, n3, n4, n5⟩ := cells6 (S6.out.at 3 rfl)
    have fn := fun j => Lib.frozen_of_heap (S6.out.at 3 rfl) j
    go_upto_region 7 with (fail)
    have hold := (S6.out.at 3 rfl)
    refine code_set1 hold ?_
    intro W8 hb hg hs hn
    clear n0 n1 n2 n3 n4 n5 fn
    have hn2 : W8.heap[W2.heap.size]? = some (.cells #[.int .i64 y.ino, .int .i64 y.pos, .bool y.rd, .bool y.wr, .int .i64 (y.refs - 1), .int .i64 y.lock] 39 (0, 0)) := hn
    have S8 := Lib.hid (S6.out.set 3 rfl hb hg hs hn2)
    replace HO := Lib.hid (HO.out.before (HL.out _ (by simp)) hg)
    clear hb hg hs hn hn2 hold
    obtain ⟨g, cp9, e9, hf9, ht9, -, -, -, -, -, -⟩ := HO.out.descO i hil
    injection e9 with e9a _ e9b
    injection e9a with e9a
    injection e9a with e9a
    subst e9a
    have h_n := (S8.out.at 3 rfl)
    obtain ⟨o0, o1⟩ := cells2 (S8.out.at 4 rfl)
    go_upto_region 8 with (first | (refine wpList_load_row rfl 39 _ rfl _ rfl 39 _ (0, 0) _ h_n Try.underlying39 rfl (by kernel_rfl) ?_) | (refine wpList_store_seg rfl 39 _ _ rfl gd (i * 6) rfl rfl ht9 (by kernel_rfl) rfl ?_))
    clear hf9 ht9 h_n o0 o1
    have hgw : W8.grownBy (W8.setCells gd (i * 6) [.int .i64 y.ino, .int .i64 y.pos, .bool y.rd, .bool y.wr, .int .i64 (y.refs - 1), .int .i64 y.lock]) (some gd) := grown_set W8 gd _ _
    have HOn : Hid (OwnT 39 65 3 W3.heap.size ⟨t.ds.set i (lessD y), putF t.fs a m (-1)⟩ (.slice (some ⟨gd, 0, none⟩) t.ds.length cap2) (.slice (some ⟨gf, 0, none⟩) t.fs.length capf2) (rows.set a ((t.fs[a]).set m (-1), .slice (some ⟨gr, 0, none⟩) (t.fs[a]).length cr)) (W8.setCells gd (i * 6) [.int .i64 y.ino, .int .i64 y.pos, .bool y.rd, .bool y.wr, .int .i64 (y.refs - 1), .int .i64 y.lock])) := Lib.hid (HO.out.writeD (by first | rfl | (rw [List.length_set])) hil (lessD y) (by decide) (by decide))
    have S9 := Lib.hid (S8.out.grown (fun P hP => by rw [List.mem_singleton] at hP; subst hP; exact H0.out) hgw (fun g e => by rw [← Option.some.inj e]; exact ⟨Nat.le_trans HBS.out (HO.out.ds.lt _ rfl).1, S8.out.apart2 HO.out.ds rfl HL.out (S8.out.at 4 rfl) (by decide) _ rfl⟩))
    clear HO
    have HO := HOn
    clear HOn hgw
    generalize (W8.setCells gd (i * 6) [.int .i64 y.ino, .int .i64 y.pos, .bool y.rd, .bool y.wr, .int .i64 (y.refs - 1), .int .i64 y.lock]) = W10 at *
    obtain ⟨n0, n1, n2, n3, n4, n5⟩ := cells6 (S9.out.at 3 rfl)
    by_cases hz1 : y.refs - 1 = 0
    · have z1 : (y.refs - 1 == 0) = true := by simpa using hz1
      have z2 : decide (y.refs - 1 = 0) = true := decide_eq_true hz1
      have HR1 : Hid (closeT t (a : Int) (m : Int) = (⟨t.ds.set i zeroD, putF t.fs a m (-1)⟩, lessD y, 0)) := Lib.hid (by rw [HR.out, if_pos (show (lessD y).refs = 0 from hz1)])
      replace HR := HR1
      clear HR1 hz1
      obtain ⟨g, cp9, e9, hf9, ht9, -, -, -, -, -, -⟩ := HO.out.descO i (show i < (t.ds.set i (lessD y)).length by rw [List.length_set]; exact hil)
      injection e9 with e9a _ e9b
      injection e9a with e9a
      injection e9a with e9a
      subst e9a
      obtain ⟨o0, o1⟩ := cells2 (S9.out.at 4 rfl)
      go_upto_region 10 with (first | (refine wpList_store_seg rfl 39 _ _ rfl gd (i * 6) rfl rfl ht9 (by kernel_rfl) rfl ?_))
      clear n0 n1 n2 n3 n4 n5 hf9 ht9 o0 o1
      have hgw : W10.grownBy (W10.setCells gd (i * 6) [.int .i64 0, .int .i64 0, .bool false, .bool false, .int .i64 0, .int .i64 0]) (some gd) := grown_set W10 gd _ _
      have HOn : Hid (OwnT 39 65 3 W3.heap.size ⟨(t.ds.set i (lessD y)).set i zeroD, putF t.fs a m (-1)⟩ (.slice (some ⟨gd, 0, none⟩) t.ds.length cap2) (.slice (some ⟨gf, 0, none⟩) t.fs.length capf2) (rows.set a ((t.fs[a]).set m (-1), .slice (some ⟨gr, 0, none⟩) (t.fs[a]).length cr)) (W10.setCells gd (i * 6) [.int .i64 0, .int .i64 0, .bool false, .bool false, .int .i64 0, .int .i64 0])) := Lib.hid (HO.out.writeD (by first | rfl | (rw [List.length_set])) (show i < (t.ds.set i (lessD y)).length by rw [List.length_set]; exact hil) zeroD (by decide) (by decide))
      have S11 := Lib.hid (S9.out.grown (fun P hP => by rw [List.mem_singleton] at hP; subst hP; exact H0.out) hgw (fun g e => by rw [← Option.some.inj e]; exact ⟨Nat.le_trans HBS.out (HO.out.ds.lt _ rfl).1, S9.out.apart2 HO.out.ds rfl HL.out (S9.out.at 4 rfl) (by decide) _ rfl⟩))
      clear HO
      have HO := HOn
      clear HOn hgw
      generalize (W10.setCells gd (i * 6) [.int .i64 0, .int .i64 0, .bool false, .bool false, .int .i64 0, .int .i64 0]) = W12 at *
      rw [List.set_set] at HO
      go_upto_region 10 with (fail)
      have HO2 := Lib.hid (HO.out.below (Below.refl _ W12).drew)
      clear HO
      have h_o := (S11.out.at 4 rfl)
      have h_n := (S11.out.at 3 rfl)
      refine wp_region_held_drew (S := fun W => W.heap[W4.heap.size]? = some (.cells #[.slice (some ⟨gd, 0, none⟩) t.ds.length cap2, .slice (some ⟨gf, 0, none⟩) t.fs.length capf2] 32 (0, 0)) ∧ W.heap[W2.heap.size]? = some (.cells #[.int .i64 y.ino, .int .i64 y.pos, .bool y.rd, .bool y.wr, .int .i64 (y.refs - 1), .int .i64 y.lock] 39 (0, 0)) ∧ True) (by kernel_rfl) ⟨(S11.out.at 4 rfl), (S11.out.at 3 rfl), trivial⟩ (fun hHeld => ?_)
      clear h_o h_n
      have S13 := Lib.hid (S11.out.call (Below.refl W12.heap.size W12).drew)
      generalize W12.drew = W13 at *
      have HO := HO2
      clear HO2
      refine wpAnyH_take (i := 0) rfl (by kernel_rfl) (by kernel_rfl) (by kernel_rfl) (fun _ _ _ h => h) (yieldsIf_load_row (by rfl) 32 _ rfl _ rfl 32 _ (0, 0) _ (fun _ h => h.1) Try.underlying32 rfl (by kernel_rfl)) hHeld ?_
      (try simp only [List.getElem_toArray]); (try simp only [List.getElem_cons_succ]); (try simp only [List.getElem_cons_zero]); (try simp only [Act.put]); (try simp only [List.setIfInBounds_toArray]); (try simp only [List.set_cons_succ]); (try simp only [List.set_cons_zero])
      refine wpAnyH_take (i := 1) rfl (by kernel_rfl) (by kernel_rfl) (by kernel_rfl) (fun _ _ _ h => h) (yieldsIf_load_row (by rfl) 39 _ rfl _ rfl 39 _ (0, 0) _ (fun _ h => h.2.1) Try.underlying39 rfl (by kernel_rfl)) hHeld ?_
      (try simp only [List.getElem_toArray]); (try simp only [List.getElem_cons_succ]); (try simp only [List.getElem_cons_zero]); (try simp only [Act.put]); (try simp only [List.setIfInBounds_toArray]); (try simp only [List.set_cons_succ]); (try simp only [List.set_cons_zero])
      refine wpAnyH_ready (rs := [2]) (by kernel_rfl) (by simp) ?_
      refine AllReadyH.cons rfl (fun K hK => ?_) AllReadyH.nil
      rw [if_pos (by rfl)]
      refine wp_store_row 32 _ _ rfl _ rfl rfl (S13.out.at 1 rfl) rfl (by kernel_rfl) rfl ?_
      intro W14 hb hg hs hn
      have S14 := Lib.hid (S13.out.set 1 rfl hb hg hs hn)
      replace HO := Lib.hid (HO.out.before (HL.out _ (by simp)) hg)
      clear hb hg hs hn hHeld
      refine hK.out _ _ ⟨(S14.out.at 4 rfl), (S14.out.at 3 rfl), trivial⟩ (fun hHeld => ?_)
      clear hK K
      (try simp only [List.getElem_toArray]); (try simp only [List.getElem_cons_succ]); (try simp only [List.getElem_cons_zero]); (try simp only [Act.put]); (try simp only [List.setIfInBounds_toArray]); (try simp only [List.set_cons_succ]); (try simp only [List.set_cons_zero])
      refine wpAnyH_ready (rs := [3]) (by kernel_rfl) (by simp) ?_
      refine AllReadyH.cons rfl (fun K hK => ?_) AllReadyH.nil
      rw [if_pos (by rfl)]
      refine wp_store_row 39 _ _ rfl _ rfl rfl (S14.out.at 2 rfl) rfl (by kernel_rfl) rfl ?_
      intro W15 hb hg hs hn
      have S15 := Lib.hid (S14.out.set 2 rfl hb hg hs hn)
      replace HO := Lib.hid (HO.out.before (HL.out _ (by simp)) hg)
      clear hb hg hs hn hHeld
      refine hK.out _ _ ⟨(S15.out.at 4 rfl), (S15.out.at 3 rfl), trivial⟩ (fun hHeld => ?_)
      clear hK K
      (try simp only [List.getElem_toArray]); (try simp only [List.getElem_cons_succ]); (try simp only [List.getElem_cons_zero]); (try simp only [Act.put]); (try simp only [List.setIfInBounds_toArray]); (try simp only [List.set_cons_succ]); (try simp only [List.set_cons_zero])
      refine wpAnyH_take (i := 4) (v := ?v1) rfl (by kernel_rfl) (by kernel_rfl) (by kernel_rfl) (fun _ _ _ h => h) (Or.inl ⟨by rfl, ?hy1⟩) hHeld ?rest1
      case hy1 => (intro w hSw; (try dsimp only at hSw); (try go_split_ands); go_simp; first | done | with_reducible rfl)
      (try simp only [List.getElem_toArray]); (try simp only [List.getElem_cons_succ]); (try simp only [List.getElem_cons_zero]); (try simp only [Act.put]); (try simp only [List.setIfInBounds_toArray]); (try simp only [List.set_cons_succ]); (try simp only [List.set_cons_zero])
      refine wpAnyH_done (by kernel_rfl) ?_ _
      go_wp2_with fail
      refine bodyPost_ret (HRET.out _ _ _ _ _ (S15.out.at 1 rfl) rfl (S15.out.at 2 rfl) rfl _ rfl rfl) rfl ?_
      rw [HR.out]
      exact ⟨_, _, rfl, HO.out.tab HXB.out, S15.out.bel⟩
    · have z1 : (y.refs - 1 == 0) = false := by simpa using hz1
      have z2 : decide (y.refs - 1 = 0) = false := decide_eq_false hz1
      have HR1 : Hid (closeT t (a : Int) (m : Int) = (⟨t.ds.set i (lessD y), putF t.fs a m (-1)⟩, lessD y, 0)) := Lib.hid (by rw [HR.out, if_neg (show ¬ (lessD y).refs = 0 from hz1)])
      replace HR := HR1
      clear HR1 hz1
      go_upto_region 10 with (fail)
      clear n0 n1 n2 n3 n4 n5
      have HO2 := Lib.hid (HO.out.below (Below.refl _ W10).drew)
      clear HO
      have h_o := (S9.out.at 4 rfl)
      have h_n := (S9.out.at 3 rfl)
      refine wp_region_held_drew (S := fun W => W.heap[W4.heap.size]? = some (.cells #[.slice (some ⟨gd, 0, none⟩) t.ds.length cap2, .slice (some ⟨gf, 0, none⟩) t.fs.length capf2] 32 (0, 0)) ∧ W.heap[W2.heap.size]? = some (.cells #[.int .i64 y.ino, .int .i64 y.pos, .bool y.rd, .bool y.wr, .int .i64 (y.refs - 1), .int .i64 y.lock] 39 (0, 0)) ∧ True) (by kernel_rfl) ⟨(S9.out.at 4 rfl), (S9.out.at 3 rfl), trivial⟩ (fun hHeld => ?_)
      clear h_o h_n
      have S11 := Lib.hid (S9.out.call (Below.refl W10.heap.size W10).drew)
      generalize W10.drew = W11 at *
      have HO := HO2
      clear HO2
      refine wpAnyH_take (i := 0) rfl (by kernel_rfl) (by kernel_rfl) (by kernel_rfl) (fun _ _ _ h => h) (yieldsIf_load_row (by rfl) 32 _ rfl _ rfl 32 _ (0, 0) _ (fun _ h => h.1) Try.underlying32 rfl (by kernel_rfl)) hHeld ?_
      (try simp only [List.getElem_toArray]); (try simp only [List.getElem_cons_succ]); (try simp only [List.getElem_cons_zero]); (try simp only [Act.put]); (try simp only [List.setIfInBounds_toArray]); (try simp only [List.set_cons_succ]); (try simp only [List.set_cons_zero])
      refine wpAnyH_take (i := 1) rfl (by kernel_rfl) (by kernel_rfl) (by kernel_rfl) (fun _ _ _ h => h) (yieldsIf_load_row (by rfl) 39 _ rfl _ rfl 39 _ (0, 0) _ (fun _ h => h.2.1) Try.underlying39 rfl (by kernel_rfl)) hHeld ?_
      (try simp only [List.getElem_toArray]); (try simp only [List.getElem_cons_succ]); (try simp only [List.getElem_cons_zero]); (try simp only [Act.put]); (try simp only [List.setIfInBounds_toArray]); (try simp only [List.set_cons_succ]); (try simp only [List.set_cons_zero])
      refine wpAnyH_ready (rs := [2]) (by kernel_rfl) (by simp) ?_
      refine AllReadyH.cons rfl (fun K hK => ?_) AllReadyH.nil
      rw [if_pos (by rfl)]
      refine wp_store_row 32 _ _ rfl _ rfl rfl (S11.out.at 1 rfl) rfl (by kernel_rfl) rfl ?_
      intro W12 hb hg hs hn
      have S12 := Lib.hid (S11.out.set 1 rfl hb hg hs hn)
      replace HO := Lib.hid (HO.out.before (HL.out _ (by simp)) hg)
      clear hb hg hs hn hHeld
      refine hK.out _ _ ⟨(S12.out.at 4 rfl), (S12.out.at 3 rfl), trivial⟩ (fun hHeld => ?_)
      clear hK K
      (try simp only [List.getElem_toArray]); (try simp only [List.getElem_cons_succ]); (try simp only [List.getElem_cons_zero]); (try simp only [Act.put]); (try simp only [List.setIfInBounds_toArray]); (try simp only [List.set_cons_succ]); (try simp only [List.set_cons_zero])
      refine wpAnyH_ready (rs := [3]) (by kernel_rfl) (by simp) ?_
      refine AllReadyH.cons rfl (fun K hK => ?_) AllReadyH.nil
      rw [if_pos (by rfl)]
      refine wp_store_row 39 _ _ rfl _ rfl rfl (S12.out.at 2 rfl) rfl (by kernel_rfl) rfl ?_
      intro W13 hb hg hs hn
      have S13 := Lib.hid (S12.out.set 2 rfl hb hg hs hn)
      replace HO := Lib.hid (HO.out.before (HL.out _ (by simp)) hg)
      clear hb hg hs hn hHeld
      refine hK.out _ _ ⟨(S13.out.at 4 rfl), (S13.out.at 3 rfl), trivial⟩ (fun hHeld => ?_)
      clear hK K
      (try simp only [List.getElem_toArray]); (try simp only [List.getElem_cons_succ]); (try simp only [List.getElem_cons_zero]); (try simp only [Act.put]); (try simp only [List.setIfInBounds_toArray]); (try simp only [List.set_cons_succ]); (try simp only [List.set_cons_zero])
      refine wpAnyH_take (i := 4) (v := ?v2) rfl (by kernel_rfl) (by kernel_rfl) (by kernel_rfl) (fun _ _ _ h => h) (Or.inl ⟨by rfl, ?hy2⟩) hHeld ?rest2
      case hy2 => (intro w hSw; (try dsimp only at hSw); (try go_split_ands); go_simp; first | done | with_reducible rfl)
      (try simp only [List.getElem_toArray]); (try simp only [List.getElem_cons_succ]); (try simp only [List.getElem_cons_zero]); (try simp only [Act.put]); (try simp only [List.setIfInBounds_toArray]); (try simp only [List.set_cons_succ]); (try simp only [List.set_cons_zero])
      refine wpAnyH_done (by kernel_rfl) ?_ _
      go_wp2_with fail
      refine bodyPost_ret (HRET.out _ _ _ _ _ (S13.out.at 1 rfl) rfl (S13.out.at 2 rfl) rfl _ rfl rfl) rfl ?_
      rw [HR.out]
      exact ⟨_, _, rfl, HO.out.tab HXB.out, S13.out.bel⟩
end Go.Proofs.Ytbcmhjgjcknfmaa
