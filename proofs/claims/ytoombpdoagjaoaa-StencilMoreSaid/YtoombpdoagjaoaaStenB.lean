/-
  stencil: Make and Fits.
-/
import Derived.Test.YtoombpdoagjaoaaStenA
import Derived.Test.YtoombpdoagjaoaaBuild
namespace Go.Proofs.Ytoombpdoagjaoaa
open Go.RowKit Go.Shelf

theorem builder_below {T e : TypeId} {B b : Nat} {bs : List Value} {w w' : World} (h : Lib.IsBuilderF T e B b bs w) (hb : Below w.heap.size w w') : Lib.IsBuilderF T e B b bs w' := by
  have main : ∀ p, Lib.BuilderAtF T e B b p bs w → Lib.BuilderAtF T e B b p bs w' := by
    rintro p ⟨hB, v, hbk, hown, hne⟩
    have hlt : b < w.heap.size := (Array.getElem?_eq_some_iff.1 hbk).1
    refine ⟨hB, v, (hb.block b hlt).trans hbk, ⟨hown.1, hown.2.imp id ?_⟩, hne⟩
    rintro ⟨g, cap, cur, fz, h1, h2, h3, h4⟩
    exact ⟨g, cap, cur, fz, h1, h2, (hb.block g (Array.getElem?_eq_some_iff.1 h3).1).trans h3, h4⟩
  exact h.imp (main _) (main _)
theorem iter_below {w w' : World} {k : Nat} {s : ByteArray} {p : Nat} (h : w.heap[k]? = some (.stringIter s p)) (hb : Below w.heap.size w w') : w'.heap[k]? = some (.stringIter s p) :=
  (hb.block k (Array.getElem?_eq_some_iff.1 h).1).trans h
theorem strCells_byte (l : List UInt8) : Lib.strCells ⟨l.toArray⟩ = Lib.byteCells l := by
  simp [Lib.strCells, Lib.byteCells]

theorem size_list (l : List UInt8) : (⟨l.toArray⟩ : ByteArray).size = l.length := by simp [ByteArray.size]
/-- What has been made when i blanks are done. -/
def madeTo (l : List UInt8) (ds : List Int) (i : Nat) : List UInt8 := l.take (l.length - xs l) ++ (List.range i).map fun i => lett (ds.getD i 0)
theorem madeTo_succ (l : List UInt8) (ds : List Int) (i : Nat) : madeTo l ds (i + 1) = madeTo l ds i ++ [lett (ds.getD i 0)] := by
  simp [madeTo, List.range_succ]
theorem madeTo_len (l : List UInt8) (ds : List Int) (i : Nat) : (madeTo l ds i).length ≤ l.length + i := by simp [madeTo]
theorem madeTo_end (l : List UInt8) (ds : List Int) : madeTo l ds (xs l) = makeL l ds := rfl
theorem madeTo_zero (l : List UInt8) (ds : List Int) : madeTo l ds 0 = l.take (l.length - xs l) := by simp [madeTo]

set_option maxRecDepth 100000 in
set_option maxHeartbeats 2000000 in
theorem make_any (s : ByteArray) (v : Value) (zs : List Int) (w : World) (hs : s.size ≤ 65000) (hv : RdI w.heap.size .i64 v zs w) (hz : zs.length ≤ 65000) :
    Calls Try.prog 18 #[.string s, v] w fun e W' => e = .returned (.string ⟨(makeL s.data.toList zs).toArray⟩) ∧ Below w.heap.size w W' := by
  have hx := xs_le s.data.toList
  rw [data_len] at hx
  obtain ⟨hd, hhd⟩ : ∃ hd : List UInt8, hd = s.data.toList.take (s.size - xs s.data.toList) := ⟨_, rfl⟩
  obtain ⟨bl, hbl⟩ : ∃ bl : List UInt8, bl = s.data.toList.drop (s.size - xs s.data.toList) := ⟨_, rfl⟩
  have hbl' : bl = List.replicate (xs s.data.toList) 88 := by rw [hbl, ← xs_drop, data_len]
  have hbs : bl.length = xs s.data.toList := by rw [hbl', List.length_replicate]
  have h0 : hd = madeTo s.data.toList zs 0 := by rw [madeTo_zero, hhd, data_len]
  have hdl : hd.length ≤ 65000 := by rw [hhd, List.length_take, data_len]; omega
  have HH := Lib.hid hhd
  have HB := Lib.hid hbl
  have H0 := Lib.hid h0
  have HX := Lib.hid hbl'
  have HS := Lib.hid hbs
  have hbn : bl.length ≤ 65000 := by omega
  clear hhd hbl hbl' h0 hbs
  go_enter Try.func18, Try.ntmps18
  go_wp2_with fail
  refine (cut_any s hs _).mono ?_
  rintro e w1 ⟨rfl, hb1⟩
  rw [← HH.out, ← HB.out]
  have hv1 := hv.below hb1
  have s1 := hb1.size
  go_wp2_with fail
  refine (bwrite_any w1.heap.size w1.heap.size [] ⟨hd.toArray⟩ _ (Lib.IsBuilderF.of (Lib.fresh_isBuilder 44 5 w1)) (by rw [size_list]; simp; omega) (by simp)).mono ?_
  rintro e w2 ⟨rfl, hB2, hb2, hk2⟩
  rw [strCells_byte, List.nil_append, H0.out] at hB2
  have hbz : (⟨bl.toArray⟩ : ByteArray).size = bl.length := size_list bl
  have hw2 : w1.heap.size + 1 ≤ w2.heap.size := by have := hb2.size; simpa using this
  have hlen0 : s.data.toList.length ≤ 65000 := by rw [data_len]; exact hs
  go_wp2
  go_loopw [] (fun wr => ∃ pos : Nat, pos ≤ bl.length ∧ Lib.IsBuilderF 44 5 w1.heap.size w1.heap.size (Lib.byteCells (madeTo s.data.toList zs pos)) wr ∧ wr.heap[w2.heap.size]? = some (.stringIter ⟨bl.toArray⟩ pos) ∧ Below w1.heap.size w1 wr)
    (fun wr => bl.length - wr.iterPos w2.heap.size)
  case atStart => exact ⟨0, Nat.zero_le _, hB2.alloc _, World.iter_heap w2 _ 0, (((Below.refl _ w1).alloc (Nat.le_refl _) _).trans hb2).alloc (by omega) _⟩
  case round =>
    obtain ⟨pos, hle, hI, hit, hbw⟩ := hrel
    have hsz : w2.heap.size < wr.heap.size := (Array.getElem?_eq_some_iff.1 hit).1
    by_cases hp : pos < bl.length
    · have hps : pos < (⟨bl.toArray⟩ : ByteArray).size := by rw [size_list]; exact hp
      have hb88 : (⟨bl.toArray⟩ : ByteArray)[pos]'hps = 88 := by
        show bl.toArray[pos]'_ = 88
        rw [List.getElem_toArray]
        exact List.eq_of_mem_replicate (by rw [← HX.out]; exact List.getElem_mem _)
      have hnx : ∀ ty, (Instr.next (.pointer (some ⟨w2.heap.size, 0, none⟩)) true ty).run Try.prog wr = _ := fun ty => Lib.run_next_ascii_at wr w2.heap.size ⟨bl.toArray⟩ pos ty hit hps (by rw [hb88]; decide)
      have hI2 := hI.iterAt hit (pos + 1)
      have hit2 := Lib.iterAt_heap wr w2.heap.size ⟨bl.toArray⟩ pos (pos + 1) hit
      have hbw2 := Lib.below_iterAt hbw (k := w2.heap.size) (by omega) ⟨bl.toArray⟩ (pos + 1)
      have hsz2 : w2.heap.size < (wr.iterAt w2.heap.size ⟨bl.toArray⟩ (pos + 1)).heap.size := by rw [Lib.iterAt_size]; omega
      rw [hb88] at hnx
      clear hb88
      generalize wr.iterAt w2.heap.size ⟨bl.toArray⟩ (pos + 1) = W3 at *
      have hv3 := hv1.below (hbw2.mono s1)
      have hml := madeTo_len s.data.toList zs pos
      go_wp2_with fail
      refine (drawAt_any _ _ _ pos _ hv3 hz).mono ?_
      rintro e W4 ⟨rfl, rfl⟩
      go_wp2_with fail
      refine (letter_any _ _).mono ?_
      rintro e W4 ⟨rfl, hb4⟩
      have hI4 := builder_below hI2 hb4
      have hit4 := iter_below hit2 hb4
      have hsz4 := hb4.size
      go_wp2_with fail
      refine (bwrite_any w1.heap.size w1.heap.size _ ⟨#[lett (zs.getD pos 0)]⟩ _ hI4 (by rw [Lib.byteCells_length]; show _ + 1 ≤ _; omega) (by omega)).mono ?_
      rintro e W5 ⟨rfl, hI5, hb5, hk5⟩
      have hit5 := hk5.iter hit4 (by omega)
      go_wp2
      go_roundw
      case rel =>
        refine ⟨pos + 1, by omega, ?_, hit5, (hbw2.trans (hb4.mono (by omega))).trans hb5⟩
        rw [madeTo_succ, Lib.byteCells_append, ← strCells_byte [lett (zs.getD pos 0)]]
        exact hI5
      case measure =>
        simp only [World.iterPos, hit5, hit]
        omega
    · have hp' : ¬ pos < (⟨bl.toArray⟩ : ByteArray).size := by rw [size_list]; exact hp
      have hnx : ∀ ty, (Instr.next (.pointer (some ⟨w2.heap.size, 0, none⟩)) true ty).run Try.prog wr = _ := fun ty => Lib.run_next_end_at wr w2.heap.size ⟨bl.toArray⟩ pos ty hit hp'
      have HE : Hid (madeTo s.data.toList zs pos = makeL s.data.toList zs) := Lib.hid (by
        rw [show pos = xs s.data.toList from by have := HS.out; omega]; rfl)
      go_wp2_with fail
      refine (Try.Builder_String_any_k w1.heap.size w1.heap.size (madeTo s.data.toList zs pos) _ hI (by omega)).mono ?_
      rintro e W1 ⟨rfl, _, b1, _⟩
      go_wp2
      go_ret
      exact ⟨ret_str (by rw [HE.out]), hb1.trans ((hbw.trans b1).mono s1)⟩

/-! ### Fits -/
theorem isLettI_byte (c : UInt8) : isLettI (c.toNat : Int) = isLett c := by
  unfold isLettI isLett
  rw [Bool.eq_iff_iff, List.any_eq_true, List.contains_iff_mem]
  constructor
  · rintro ⟨d, hd, he⟩
    rw [beq_iff_eq] at he
    have : d = c := UInt8.toNat_inj.1 (by omega)
    rwa [← this]
  · intro h
    exact ⟨c, h, by simp⟩
theorem isLettI_high (r : Nat) (h : 128 ≤ r) : isLettI (r : Int) = false :=
  isLettI_no _ fun k hk => by have := lett_ascii k hk; omega
theorem isLetter_is (r : Int) (b : Bool) (h : isLettI r = b) (w : World) :
    Calls Try.prog 22 #[.int .i32 r] w fun e W' => e = .returned (.bool b) ∧ Below w.heap.size w W' := by
  rw [← h]; exact isLetter_any r w

theorem fits_no1 {l m : List UInt8} (h : Lib.hasPrefix m (l.take (l.length - xs l)) = false) : fitsB l m = false := by
  unfold fitsB
  by_cases h1 : m.length = l.length
  · by_cases h2 : m.take (l.length - xs l) = l.take (l.length - xs l)
    · exfalso
      have h3 : Lib.hasPrefix m (l.take (l.length - xs l)) = true := by
        rw [← h2]
        unfold Lib.hasPrefix
        simp [List.take_prefix]
      rw [h3] at h; cases h
    · simp [h2]
  · simp [h1]
theorem fits_no2 {l m : List UInt8} (h : m.length ≠ l.length) : fitsB l m = false := by simp [fitsB, h]
theorem fits_pre {l m : List UInt8} (h : Lib.hasPrefix m (l.take (l.length - xs l)) = true) : m.take (l.length - xs l) = l.take (l.length - xs l) := by
  unfold Lib.hasPrefix at h
  have h' : l.take (l.length - xs l) <+: m := by simpa using h
  have := List.prefix_iff_eq_take.1 h'
  have hx := xs_le l
  rw [List.length_take] at this
  rw [this, show min (l.length - xs l) l.length = l.length - xs l from by omega]
theorem fits_all {l m : List UInt8} (h1 : m.length = l.length) (h2 : m.take (l.length - xs l) = l.take (l.length - xs l)) : fitsB l m = (m.drop (l.length - xs l)).all isLett := by
  simp [fitsB, h1, h2]

set_option maxRecDepth 100000 in
set_option maxHeartbeats 2000000 in
theorem fits_any (s t : ByteArray) (w : World) (hs : s.size ≤ 65000) (ht : t.size ≤ 65000) :
    Calls Try.prog 16 #[.string s, .string t] w fun e W' => e = .returned (.bool (fitsB s.data.toList t.data.toList)) ∧ Below w.heap.size w W' := by
  have hls : s.data.toList.length = s.size := data_len s
  have hlt : t.data.toList.length = t.size := data_len t
  obtain ⟨hd, hhd⟩ : ∃ hd : List UInt8, hd = s.data.toList.take (s.size - xs s.data.toList) := ⟨_, rfl⟩
  have hhd' : hd = s.data.toList.take (s.data.toList.length - xs s.data.toList) := by rw [hhd, hls]
  have HH := Lib.hid hhd
  by_cases h1 : Lib.hasPrefix t.data.toList hd = true
  · by_cases h2 : t.size = s.size
    · have h2I : ((t.size : Int) != (s.size : Int)) = false := by rw [h2]; simp
      have h3 := fits_pre (l := s.data.toList) (m := t.data.toList) (by rw [← hhd']; exact h1)
      have h4 := fits_all (by rw [hls, hlt, h2]) h3
      obtain ⟨tl, htl⟩ : ∃ tl : List UInt8, tl = t.data.toList.drop (s.data.toList.length - xs s.data.toList) := ⟨_, rfl⟩
      have hdl : hd.length = s.data.toList.length - xs s.data.toList := by rw [hhd', List.length_take]; omega
      have htr : Lib.trimPrefix t.data.toList hd = tl := by rw [htl, ← hdl]; unfold Lib.trimPrefix; rw [if_pos h1]
      rw [← htl] at h4
      have htn : tl.length ≤ 65000 := by rw [htl, List.length_drop]; omega
      have H4 := Lib.hid h4
      have HT := Lib.hid htr
      have H1 := Lib.hid h1
      clear h4 h3 htl hdl htr h1 h2 hhd hhd' hls hlt
      go_enter Try.func16, Try.ntmps16
      go_wp2_with fail
      refine (cut_any s hs _).mono ?_
      rintro e w1 ⟨rfl, hb1⟩
      rw [← HH.out]
      go_wp2_with fail
      refine (Try.strings_CutPrefix _ _ _).mono ?_
      rintro e w2 ⟨rfl, rfl⟩
      rw [show (⟨hd.toArray⟩ : ByteArray).data.toList = hd from rfl, HT.out, H1.out]
      have hbz : (⟨tl.toArray⟩ : ByteArray).size = tl.length := size_list tl
      go_wp2
      go_loopw [] (fun wr => ∃ pos : Nat, pos ≤ tl.length ∧ (tl.take pos).all isLett = true ∧ wr.heap[w2.heap.size]? = some (.stringIter ⟨tl.toArray⟩ pos) ∧ Below w2.heap.size w2 wr)
        (fun wr => tl.length - wr.iterPos w2.heap.size)
      case atStart => exact ⟨0, Nat.zero_le _, rfl, World.iter_heap w2 _ 0, below_iter _ _⟩
      case round =>
        obtain ⟨pos, hle, hal, hit, hbw⟩ := hrel
        have HA := Lib.hid hal
        clear hal
        have hsz : w2.heap.size < wr.heap.size := (Array.getElem?_eq_some_iff.1 hit).1
        by_cases hp : pos < tl.length
        · have hps : pos < (⟨tl.toArray⟩ : ByteArray).size := by rw [size_list]; exact hp
          have hnx : ∀ ty, (Instr.next (.pointer (some ⟨w2.heap.size, 0, none⟩)) true ty).run Try.prog wr = _ := fun ty => Lib.run_next_any_at wr w2.heap.size ⟨tl.toArray⟩ pos ty hit hps
          have hit2 := Lib.iterAt_heap wr w2.heap.size ⟨tl.toArray⟩ pos (pos + (Utf8.decode ⟨tl.toArray⟩ pos).2) hit
          have hbw2 := Lib.below_iterAt hbw (k := w2.heap.size) (by omega) ⟨tl.toArray⟩ (pos + (Utf8.decode ⟨tl.toArray⟩ pos).2)
          have hsz2 : w2.heap.size < (wr.iterAt w2.heap.size ⟨tl.toArray⟩ (pos + (Utf8.decode ⟨tl.toArray⟩ pos).2)).heap.size := by rw [Lib.iterAt_size]; omega
          have hcl : (⟨tl.toArray⟩ : ByteArray)[pos]'hps = tl[pos]'hp := by
            show tl.toArray[pos]'_ = _
            rw [List.getElem_toArray]
          by_cases hgood : isLett (tl[pos]'hp) = true
          · have ha : ((⟨tl.toArray⟩ : ByteArray)[pos]'hps).toNat < 128 := by
              rw [hcl]
              rcases Nat.lt_or_ge (tl[pos]'hp).toNat 128 with h | h
              · exact h
              · rw [lett_not _ h] at hgood; cases hgood
            have hdec := dec_low _ pos hps ha
            rw [hdec, hcl] at hnx
            rw [hdec] at hit2 hbw2 hsz2
            have hI : isLettI ((tl[pos]'hp).toNat : Int) = true := by rw [isLettI_byte]; exact hgood
            have HN : Hid ((tl.take (pos + 1)).all isLett = true) := Lib.hid (by
              rw [List.take_succ_eq_append_getElem hp, List.all_append, HA.out]; simp [hgood])
            have HI := Lib.hid hI
            clear hI hdec hcl ha hgood
            dsimp only at hnx hit2 hbw2 hsz2
            generalize wr.iterAt w2.heap.size ⟨tl.toArray⟩ (pos + 1) = W3 at *
            go_wp2_with fail
            refine (isLetter_is _ true HI.out _).mono ?_
            rintro e W4 ⟨rfl, hb4⟩
            have hit4 := iter_below hit2 hb4
            go_wp2
            go_roundw
            case rel => exact ⟨pos + 1, by omega, HN.out, hit4, hbw2.trans (hb4.mono (by omega))⟩
            case measure =>
              simp only [World.iterPos, hit4, hit]
              omega
          · have hbad : isLett (tl[pos]'hp) = false := by simpa using hgood
            have hI : isLettI ((Utf8.decode ⟨tl.toArray⟩ pos).1 : Int) = false := by
              rcases Nat.lt_or_ge ((⟨tl.toArray⟩ : ByteArray)[pos]'hps).toNat 128 with h | h
              · rw [dec_low _ pos hps h]; show isLettI (((⟨tl.toArray⟩ : ByteArray)[pos]'hps).toNat : Int) = false; rw [hcl, isLettI_byte]; exact hbad
              · exact isLettI_high _ (decode_high _ pos hps h).1
            have HN : Hid (fitsB s.data.toList t.data.toList = false) := Lib.hid (by
              rw [H4.out, List.all_eq_false]
              exact ⟨tl[pos]'hp, List.getElem_mem _, by simpa using hbad⟩)
            have HI := Lib.hid hI
            clear hI hcl hgood hbad
            generalize wr.iterAt w2.heap.size ⟨tl.toArray⟩ (pos + (Utf8.decode ⟨tl.toArray⟩ pos).2) = W3 at *
            generalize (Utf8.decode ⟨tl.toArray⟩ pos).1 = r at *
            go_wp2_with fail
            refine (isLetter_is _ false HI.out _).mono ?_
            rintro e W4 ⟨rfl, hb4⟩
            go_wp2
            go_ret
            exact ⟨ret_bool HN.out.symm, hb1.trans ((hbw2.trans (hb4.mono (by omega))).mono hb1.size)⟩
        · have hp' : ¬ pos < (⟨tl.toArray⟩ : ByteArray).size := by rw [size_list]; exact hp
          have hnx : ∀ ty, (Instr.next (.pointer (some ⟨w2.heap.size, 0, none⟩)) true ty).run Try.prog wr = _ := fun ty => Lib.run_next_end_at wr w2.heap.size ⟨tl.toArray⟩ pos ty hit hp'
          have HN : Hid (fitsB s.data.toList t.data.toList = true) := Lib.hid (by
            rw [H4.out]; have := HA.out; rwa [List.take_of_length_le (by omega)] at this)
          go_wp2
          go_ret
          exact ⟨ret_bool HN.out.symm, hb1.trans (hbw.mono hb1.size)⟩
    · have h2I : ((t.size : Int) != (s.size : Int)) = true := by rw [bne_iff_ne]; omega
      have HN : Hid (fitsB s.data.toList t.data.toList = false) := Lib.hid (fits_no2 (by rw [hls, hlt]; exact h2))
      have H1 := Lib.hid h1
      clear h1 h2 hhd hhd' hls hlt
      go_enter Try.func16, Try.ntmps16
      go_wp2_with fail
      refine (cut_any s hs _).mono ?_
      rintro e w1 ⟨rfl, hb1⟩
      rw [← HH.out]
      go_wp2_with fail
      refine (Try.strings_CutPrefix _ _ _).mono ?_
      rintro e w2 ⟨rfl, rfl⟩
      rw [show (⟨hd.toArray⟩ : ByteArray).data.toList = hd from rfl, H1.out]
      go_wp2
      go_ret
      exact ⟨ret_bool HN.out.symm, hb1⟩
  · have h1' : Lib.hasPrefix t.data.toList hd = false := by simpa using h1
    have HN : Hid (fitsB s.data.toList t.data.toList = false) := Lib.hid (fits_no1 (by rw [← hhd']; exact h1'))
    have H1 := Lib.hid h1'
    clear h1 h1' hhd hhd' hls hlt
    go_enter Try.func16, Try.ntmps16
    go_wp2_with fail
    refine (cut_any s hs _).mono ?_
    rintro e w1 ⟨rfl, hb1⟩
    rw [← HH.out]
    go_wp2_with fail
    refine (Try.strings_CutPrefix _ _ _).mono ?_
    rintro e w2 ⟨rfl, rfl⟩
    rw [show (⟨hd.toArray⟩ : ByteArray).data.toList = hd from rfl, H1.out]
    go_wp2
    go_ret
    exact ⟨ret_bool HN.out.symm, hb1⟩
end Go.Proofs.Ytoombpdoagjaoaa
