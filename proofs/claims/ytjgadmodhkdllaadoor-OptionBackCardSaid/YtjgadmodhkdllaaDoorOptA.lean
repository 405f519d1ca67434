/-
  option: kindOf, value.
-/
import Derived.Test.YtjgadmodhkdllaaDoorMem
import Derived.Test.YtjgadmodhkdllaaDoorShelf
import Derived.Test.YtjgadmodhkdllaaDoorOptPlain
import Derived.Laws.IdiomStrings
import Derived.Lib.Builder
namespace Go.Proofs.YtjgadmodhkdllaaDoor
open Go.RowKit Go.Shelf

/-- Flags in a row of cells. -/
def flags (l : List FlagL) : List Value := l.flatMap fun f => [.int .u8 f.1.toNat, .string (bs f.2)]
theorem flags_len (l : List FlagL) : (flags l).length = l.length * 2 := by
  induction l with
  | nil => rfl
  | cons f l ih => simp [flags] at ih ⊢; omega
theorem flags_app (a b : List FlagL) : flags (a ++ b) = flags a ++ flags b := by simp [flags]

/-- What stands in the package's variables. -/
structure Gl (B : Nat) (a0 a1 : Addr) (m : Int) (W : World) : Prop where
  g0 : W.cell? ⟨0, 0, none⟩ = some (.iface 87 (.pointer (some a0)))
  g1 : W.cell? ⟨1, 0, none⟩ = some (.iface 87 (.pointer (some a1)))
  g2 : W.cell? ⟨2, 0, none⟩ = some (.int .i64 m)
  b0 : ∃ c0 t0, W.heap[a0.block]? = some (.cells c0 t0 (0, 0))
  b1 : ∃ c1 t1, W.heap[a1.block]? = some (.cells c1 t1 (0, 0))
  ne : a0 ≠ a1
  lt : 0 < B ∧ 1 < B ∧ 2 < B ∧ a0.block < B ∧ a1.block < B
theorem lt_of_cell {W : World} {b o : Nat} {v : Value} (h : W.cell? ⟨b, o, none⟩ = some v) : b < W.heap.size := by
  rcases Nat.lt_or_ge b W.heap.size with h1 | h1
  · exact h1
  · unfold World.cell? at h
    rw [Array.getElem?_eq_none h1] at h
    simp at h
theorem Gl.below {B B' : Nat} {a0 a1 : Addr} {m : Int} {W W' : World} (h : Gl B a0 a1 m W) (hb : Below B' W W') (hB : B ≤ B') : Gl B a0 a1 m W' := by
  obtain ⟨h0, h1, h2, ⟨c0, t0, h3⟩, ⟨c1, t1, h4⟩, h5, h6, h7, h8, h9, h10⟩ := h
  exact ⟨(hb.cell (p := ⟨_, 0, none⟩) (Nat.lt_of_lt_of_le h6 hB)).trans h0, (hb.cell (p := ⟨_, 0, none⟩) (Nat.lt_of_lt_of_le h7 hB)).trans h1, (hb.cell (p := ⟨_, 0, none⟩) (Nat.lt_of_lt_of_le h8 hB)).trans h2,
    ⟨c0, t0, (hb.block _ (Nat.lt_of_lt_of_le h9 hB)).trans h3⟩, ⟨c1, t1, (hb.block _ (Nat.lt_of_lt_of_le h10 hB)).trans h4⟩, h5, h6, h7, h8, h9, h10⟩

theorem u8_back (c : UInt8) : ((c.toNat : Int)).toNat.toUInt8 = c := by simp
theorem kind_mark (spec : Str) : kindL spec 58 = 0 := by simp [kindL]

theorem kind_cases (spec : Str) (c : UInt8) : kindL spec c = 0 ∨ kindL spec c = 1 ∨ kindL spec c = 2 := by
  unfold kindL
  split
  · exact .inl rfl
  · split
    · exact .inr (.inr rfl)
    · exact .inr (.inl rfl)
theorem kind_no (spec : Str) (c : UInt8) (h : spec.contains c = false) : kindL spec c = 0 := by unfold kindL; rw [if_pos (Or.inr h)]
theorem kind_two (spec : Str) (c : UInt8) (h0 : c ≠ 58) (h : spec.contains c = true) (h2 : takesL spec c = true) : kindL spec c = 2 := by unfold kindL; rw [if_neg (by simpa [h0] using h), if_pos h2]
theorem kind_one (spec : Str) (c : UInt8) (h0 : c ≠ 58) (h : spec.contains c = true) (h2 : takesL spec c = false) : kindL spec c = 1 := by unfold kindL; rw [if_neg (by simpa [h0] using h), if_neg (by simp [h2])]
theorem u8_ne {c : UInt8} {k : Nat} (hk : k < 256) (h : c ≠ UInt8.ofNat k) : ((c.toNat : Int) == (k : Int)) = false := by
  rw [beq_eq_false_iff_ne]
  intro e
  refine h (UInt8.toNat_inj.1 ?_)
  have : c.toNat = k := by omega
  rw [this]
  simp
  omega

theorem bytes_back {P : Program} {src e dst : TypeId} (hs : P.underlying src = some (.slice e)) (he : P.underlying e = some (.int .u8)) (hd : P.underlying dst = some .string) (w : World) (t : TypeId) (l : List UInt8) :
    (convert src dst (.slice (some ⟨w.heap.size, 0, none⟩) l.length l.length)).run P (w.alloc (.cells (l.map fun c => Value.int .u8 (c.toNat : Int)).toArray t)) = .ok (.string (bs l)) (w.alloc (.cells (l.map fun c => Value.int .u8 (c.toNat : Int)).toArray t)) := by
  refine run_convert_bytes_back _ src dst e _ _ l hs he hd fun j hj => ?_
  have hh : (w.alloc (.cells (l.map fun c => Value.int .u8 (c.toNat : Int)).toArray t)).heap[w.heap.size]? = some (.cells (l.map fun c => Value.int .u8 (c.toNat : Int)).toArray t) := by
    show (w.heap.push _)[w.heap.size]? = _
    simp
  rw [addr_add0, Lib.cell_of_heap hh]
  simp [hj]

set_option maxRecDepth 100000 in
set_option maxHeartbeats 400000 in
theorem kindOf_any (spec : Str) (c : UInt8) (m : Int) (w : World) (hs : spec.length ≤ 65000) (h2 : w.cell? ⟨2, 0, none⟩ = some (.int .i64 m)) :
    Calls Tryd.prog 28 #[.string (bs spec), .int .u8 c.toNat] w fun e W' => e = .returned (.int .i64 (kindL spec c)) ∧ Below w.heap.size w W' := by
  by_cases hc : c = 58
  · subst hc
    have H := Lib.hid (kind_mark spec)
    go_enter Tryd.func28, Tryd.ntmps28
    go_wp2_with fail
    go_ret
    exact ⟨ret_int H.out.symm, Below.refl _ _⟩
  · have hne : ((c.toNat : Int) == 58) = false := u8_ne (k := 58) (by decide) hc
    by_cases hn : spec.contains c = true
    · have hi : decide (Lib.indexByte spec c < 0) = false := by rw [hasL_index, hn]; rfl
      have HN := Lib.hid hn
      have HC := Lib.hid hc
      have hcv : (convert 41 9 (.slice (some ⟨w.heap.size, 0, none⟩) 2 2)).run Tryd.prog (w.alloc (.cells #[.int .u8 c.toNat, .int .u8 58] 5)) = .ok (.string ⟨#[c, 58]⟩) (w.alloc (.cells #[.int .u8 c.toNat, .int .u8 58] 5)) :=
        bytes_back Tryd.underlying41 Tryd.underlying5 Tryd.underlying9 w 5 [c, 58]
      have h2' : (w.alloc (.cells #[.int .u8 c.toNat, .int .u8 58] 5)).cell? ⟨2, 0, none⟩ = some (.int .i64 m) := (World.cell?_alloc_lt w _ ⟨_, 0, none⟩ (lt_of_cell h2)).trans h2
      clear hn hc
      go_enter Tryd.func28, Tryd.ntmps28
      go_wp2_with fail
      refine (Tryd.strings_IndexByte _ _ _).mono ?_
      rintro e w1 ⟨rfl, rfl⟩
      rw [u8_back, bs_list]
      go_wp2_with fail
      refine (Tryd.strings_Contains _ _ m _ (by rw [bs_size]; omega) h2').mono ?_
      rintro e w2 ⟨rfl, rfl⟩
      rw [show (⟨#[c, 58]⟩ : ByteArray).data.toList = [c, 58] from rfl, bs_list, takesL_contains]
      by_cases ht : takesL spec c = true
      · have H := Lib.hid (kind_two spec c HC.out HN.out ht)
        rw [ht]
        clear ht
        go_wp2_with fail
        go_ret
        exact ⟨ret_int H.out.symm, (Below.refl _ _).alloc (Nat.le_refl _) _⟩
      · have ht' : takesL spec c = false := by simpa using ht
        have H := Lib.hid (kind_one spec c HC.out HN.out ht')
        rw [ht']
        clear ht ht'
        go_wp2_with fail
        go_ret
        exact ⟨ret_int H.out.symm, (Below.refl _ _).alloc (Nat.le_refl _) _⟩
    · have hn' : spec.contains c = false := by simpa using hn
      have hi : decide (Lib.indexByte spec c < 0) = true := by rw [hasL_index, hn']; rfl
      have H := Lib.hid (kind_no spec c hn')
      clear hn hn' hc
      go_enter Tryd.func28, Tryd.ntmps28
      go_wp2_with fail
      refine (Tryd.strings_IndexByte _ _ _).mono ?_
      rintro e w1 ⟨rfl, rfl⟩
      rw [u8_back, bs_list]
      go_wp2_with fail
      go_ret
      exact ⟨ret_int H.out.symm, Below.refl _ _⟩

/-- The options that are being taken: the block b, the flags in a row of the call's own, and what is not taken yet. -/
structure Tk (b : Nat) (spec : Str) (fl : List FlagL) (rs : List Str) (vf vr : Value) (W : World) : Prop where
  blk : W.heap[b]? = some (.cells #[.string (bs spec), vf, vr] 49 (0, 0))
  own : W.ownsRow (b + 1) 57 2 vf fl.length (flags fl)
  rd : Rd b 1 vr rs.length (strs rs) W
theorem Tk.cells {b : Nat} {spec : Str} {fl : List FlagL} {rs : List Str} {vf vr : Value} {W : World} (h : Tk b spec fl rs vf vr W) :
    W.cell? ⟨b, 0, none⟩ = some (.string (bs spec)) ∧ W.cell? ⟨b, 1, none⟩ = some vf ∧ W.cell? ⟨b, 2, none⟩ = some vr ∧ (∀ o, W.frozen? ⟨b, o, none⟩ = false) :=
  ⟨by rw [Lib.cell_of_heap h.blk]; rfl, by rw [Lib.cell_of_heap h.blk]; rfl, by rw [Lib.cell_of_heap h.blk]; rfl, fun o => Lib.frozen_of_heap h.blk o⟩
theorem Tk.below {b : Nat} {spec : Str} {fl : List FlagL} {rs : List Str} {vf vr : Value} {W W' : World} (h : Tk b spec fl rs vf vr W) (hb : Below W.heap.size W W') : Tk b spec fl rs vf vr W' := by
  have hlt : b < W.heap.size := (Array.getElem?_eq_some_iff.1 h.blk).1
  exact ⟨(hb.block b hlt).trans h.blk, ownsRow_below h.own hb (Nat.le_refl _), h.rd.below (hb.mono (by omega))⟩
theorem Tk.lt {b : Nat} {spec : Str} {fl : List FlagL} {rs : List Str} {vf vr : Value} {W : World} (h : Tk b spec fl rs vf vr W) : b < W.heap.size := (Array.getElem?_eq_some_iff.1 h.blk).1
theorem heap_set {W : World} {b : Nat} {t : TypeId} {cs : Array Value} {i : Nat} {u : Value} (h : W.heap[b]? = some (.cells cs t (0, 0))) : (W.setCell ⟨b, i, none⟩ u).heap[b]? = some (.cells (cs.setIfInBounds i u) t (0, 0)) := by
  simp [World.setCell, Array.getElem?_modify, h]
theorem ownsRow_set {W : World} {base b i : Nat} {e : TypeId} {size n : Nat} {v u : Value} {xs : List Value} (h : W.ownsRow base e size v n xs) (hb : b < base) : (W.setCell ⟨b, i, none⟩ u).ownsRow base e size v n xs := by
  refine ⟨h.1, h.2.imp id ?_⟩
  rintro ⟨g, cap, cur, h1, h2, h3, h4⟩
  exact ⟨g, cap, cur, h1, h2, (Below.heap_setCell W ⟨b, i, none⟩ u g (by show g ≠ b; omega)).trans h3, h4⟩
theorem Rd.set {W : World} {b i B : Nat} {size n : Nat} {v u : Value} {xs : List Value} (h : Rd B size v n xs W) (hb : B ≤ b) : Rd B size v n xs (W.setCell ⟨b, i, none⟩ u) :=
  h.keep fun b' o hlt => World.cell?_setCell_other W ⟨b, i, none⟩ ⟨b', o, none⟩ u (by intro e; injection e with e; omega)
/-- One argument is taken. -/
theorem Tk.rest {b : Nat} {spec : Str} {fl : List FlagL} {rs : List Str} {vf vr vr' : Value} {W : World} (h : Tk b spec fl rs vf vr W) {rs' : List Str} (hr : Rd b 1 vr' rs'.length (strs rs') W) : Tk b spec fl rs' vf vr' (W.setCell ⟨b, 2, none⟩ vr') :=
  ⟨heap_set h.blk, ownsRow_set h.own (Nat.lt_succ_self b), hr.set (Nat.le_refl _)⟩

theorem sizeStr (w : World) : (sizeOf 9).run Tryd.prog w = .ok 1 w := by kernel_rfl
def ValueIs (a1 : Addr) (b : Nat) (spec behind : Str) (fl : List FlagL) (rs : List Str) (vf : Value) (e : Ending) (W W' : World) : Prop :=
  (behind ≠ [] ∧ e = .returned (.tuple #[.string (bs behind), .nilIface]) ∧ W = W') ∨
  (behind = [] ∧ rs = [] ∧ e = .returned (.tuple #[.string (bs []), .iface 87 (.pointer (some a1))]) ∧ ∃ n, W' = W.drewN n) ∨
  (behind = [] ∧ ∃ r rs' vr', rs = r :: rs' ∧ e = .returned (.tuple #[.string (bs r), .nilIface]) ∧ Tk b spec fl rs' vf vr' W' ∧ W' = W.setCell ⟨b, 2, none⟩ vr')
set_option maxRecDepth 100000 in
set_option maxHeartbeats 400000 in
theorem value_any (B : Nat) (a0 a1 : Addr) (m : Int) (b : Nat) (spec behind : Str) (fl : List FlagL) (rs : List Str) (vf vr : Value) (w : World) (hg : Gl B a0 a1 m w) (ht : Tk b spec fl rs vf vr w) (_ : rs.length ≤ 65000) :
    Calls Tryd.prog 29 #[.pointer (some ⟨b, 0, none⟩), .string (bs behind)] w fun e w' => ValueIs a1 b spec behind fl rs vf e w w' := by
  have HT := Lib.hid ht
  obtain ⟨c0, c1, c2, cf⟩ := ht.cells
  have hg1 := hg.g1
  have hf2 := cf 2
  clear ht hg cf
  by_cases hb : behind = []
  · subst hb
    cases rs with
    | nil =>
      obtain ⟨ao, cap, rfl, _, _⟩ := HT.out.rd.form
      go_enter Tryd.func29, Tryd.ntmps29
      go_wp2_with fail
      go_quiet (fail)
      go_wp2_with fail
      go_ret2
      exact .inr (.inl ⟨rfl, rfl, rfl, _, rfl⟩)
    | cons r rs =>
      obtain ⟨b', off, cap, rfl, hn, hm, hlt, hl, hc⟩ := HT.out.rd.at (by simp)
      have hsl := fun w => run_cut 22 9 (some ⟨b', off, none⟩) (r :: rs).length cap 1 1 w Tryd.underlying22 (sizeStr w) rfl (by simp)
      obtain ⟨ln, hln⟩ : ∃ ln, ln = (r :: rs).length := ⟨_, rfl⟩
      have hpos : 0 < ln := by rw [hln]; simp
      have hwr : IntKind.i64.wrap (1 : Int) = 1 := by decide
      rw [← hln] at hsl c2 hn
      have HL := Lib.hid hln
      have hre : Rd b 1 (.slice (cutA (some ⟨b', off, none⟩) 1 cap) (ln - 1) (cap - 1)) rs.length (strs rs) w := by
        have := HT.out.rd.tail 1 (by simp)
        rw [strs_drop] at this
        rw [hln]
        exact this
      have HR := Lib.hid hre
      have h00 : (strs (r :: rs))[0]? = some (.string (bs r)) := rfl
      have hc0 := hc 0 _ h00
      rw [Nat.add_zero] at hc0
      clear hc hln hre h00 hwr
      go_enter Tryd.func29, Tryd.ntmps29
      go_wp2_with fail
      go_ret2
      refine .inr (.inr ⟨rfl, r, rs, _, rfl, rfl, HT.out.rest HR.out, rfl⟩)
  · have hne : behind.isEmpty = false := by simpa using hb
    have HB := Lib.hid hb
    clear hb
    go_enter Tryd.func29, Tryd.ntmps29
    go_wp2_with fail
    go_ret2
    exact .inl ⟨HB.out, rfl, rfl⟩
end Go.Proofs.YtjgadmodhkdllaaDoor
