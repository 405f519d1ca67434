/-
  mode.Text, and the document's.
-/
import Derived.Test.YtdenbimepmefpaaModeC
namespace Go.Proofs.Ytdenbimepmefpaa
open Go.RowKit Go.Shelf

/-- What is written for a bit. -/
def Bit (x : Int) (c d : UInt8) : Prop := (x = 0 ∧ d = 45) ∨ (x ≠ 0 ∧ d = c)
theorem sgn_bit (b x : Int) (c : UInt8) (h : x = 0 ↔ b % 2 ≠ 1) : Bit x c (sgn b c) := by
  unfold Bit sgn
  by_cases hb : b % 2 = 1
  · rw [if_pos hb]; exact Or.inr ⟨fun e => (h.1 e) hb, rfl⟩
  · rw [if_neg hb]; exact Or.inl ⟨h.2 hb, rfl⟩
theorem sym_bits (r : Int) (h0 : 0 ≤ r) (h7 : r ≤ 7) : ∃ a b c, symL r = [a, b, c] ∧ Bit (bits .and .i64 r 4) 114 a ∧ Bit (bits .and .i64 r 2) 119 b ∧ Bit (bits .and .i64 r 1) 120 c := by
  obtain ⟨b4, b2, b1⟩ := bit_r r h0 h7
  refine ⟨_, _, _, rfl, sgn_bit _ _ _ ?_, sgn_bit _ _ _ ?_, sgn_bit _ _ _ ?_⟩
  · rw [b4]; omega
  · rw [b2]; omega
  · rw [b1]; omega

set_option maxRecDepth 100000 in
set_option maxHeartbeats 4000000 in
theorem text_any (m : Int) (w : World) : Calls Try.prog 10 #[.int .i64 m] w fun e w' => e = .returned (.string (bs (textL m))) ∧ Below w.heap.size w w' := by
  obtain ⟨a, b, c, hs1, ha, hb, hc⟩ := sym_bits (m / 8 % 8) (by omega) (by omega)
  obtain ⟨d, e, f, hs2, hd, he, hf⟩ := sym_bits (m % 8) (by omega) (by omega)
  have HP : Hid (textL m = [a, b, c, d, e, f]) := Lib.hid (by unfold textL; rw [← symL_mod (m / 8), ← symL_mod m, hs1, hs2]; rfl)
  have Ka := Lib.hid ha
  have Kb := Lib.hid hb
  have Kc := Lib.hid hc
  have Kd := Lib.hid hd
  have Ke := Lib.hid he
  have Kf := Lib.hid hf
  clear hs1 hs2 ha hb hc hd he hf
  have h0 := fresh_b w
  have hb0 : Below w.heap.size w (w.alloc (.cells #[.pointer none, .slice none 0 0] 36)) := (Below.refl _ w).alloc (Nat.le_refl _) _
  go_enter Try.func10, Try.ntmps10
  go_wp2
  go_loopw [7] (fun i wr => Below w.heap.size w wr ∧ ((i = .int .i64 0 ∧ Lib.IsBuilderF 36 5 w.heap.size w.heap.size (Lib.byteCells []) wr) ∨ (i = .int .i64 1 ∧ Lib.IsBuilderF 36 5 w.heap.size w.heap.size (Lib.byteCells [a, b, c]) wr) ∨ (i = .int .i64 2 ∧ Lib.IsBuilderF 36 5 w.heap.size w.heap.size (Lib.byteCells [a, b, c, d, e, f]) wr))) (fun i _ => 2 - (intOf i).toNat)
  case atStart => exact ⟨hb0, Or.inl ⟨rfl, h0⟩⟩
  case round =>
    clear h0 hb0
    obtain ⟨hbw, ⟨rfl, hI⟩ | ⟨rfl, hI⟩ | ⟨rfl, hI⟩⟩ := hrel
    · go_wp2_with fail
      refine (digit0_any _ _).mono ?_
      rintro e1 w1 ⟨rfl, rfl⟩
      go_wp2
      go_loopw [13] (fun i wr => Below w.heap.size w wr ∧ ((i = .int .i64 0 ∧ Lib.IsBuilderF 36 5 w.heap.size w.heap.size (Lib.byteCells []) wr) ∨ (i = .int .i64 1 ∧ Lib.IsBuilderF 36 5 w.heap.size w.heap.size (Lib.byteCells [a]) wr) ∨ (i = .int .i64 2 ∧ Lib.IsBuilderF 36 5 w.heap.size w.heap.size (Lib.byteCells [a, b]) wr) ∨ (i = .int .i64 3 ∧ Lib.IsBuilderF 36 5 w.heap.size w.heap.size (Lib.byteCells [a, b, c]) wr))) (fun i _ => 3 - (intOf i).toNat)
      case atStart => exact ⟨hbw, Or.inl ⟨rfl, hI⟩⟩
      case round =>
        clear hbw hI
        obtain ⟨hbw, ⟨rfl, hI⟩ | ⟨rfl, hI⟩ | ⟨rfl, hI⟩ | ⟨rfl, hI⟩⟩ := hrel
        · have s1 := hbw.size
          have KK := Ka.out
          unfold Bit at KK
          rcases KK with ⟨hx, hy⟩ | ⟨hx, hy⟩
          · have hz : (bits .and .i64 (m / 8 % 8) 4 != 0) = false := by rw [hx]; rfl
            have HX : Hid ((45 : Int) = (a.toNat : Int)) := Lib.hid (by rw [hy]; rfl)
            clear hx hy
            go_wp2_with fail
            refine (byte_any _ _ [] a _ HX.out _ hI (by simp) s1).mono ?_
            rintro e2 w2 ⟨rfl, hI2, hb2⟩
            go_wp2
            go_roundw
            case rel => exact ⟨hbw.trans hb2, Or.inr (Or.inl (⟨rfl, hI2⟩))⟩
            case measure => simp [intOf]
          · have hz : (bits .and .i64 (m / 8 % 8) 4 != 0) = true := by rw [bne_iff_ne]; exact hx
            have HX : Hid ((114 : Int) = (a.toNat : Int)) := Lib.hid (by rw [hy]; rfl)
            clear hx hy
            go_wp2_with fail
            refine (byte_any _ _ [] a _ HX.out _ hI (by simp) s1).mono ?_
            rintro e2 w2 ⟨rfl, hI2, hb2⟩
            go_wp2
            go_roundw
            case rel => exact ⟨hbw.trans hb2, Or.inr (Or.inl (⟨rfl, hI2⟩))⟩
            case measure => simp [intOf]
        · have s1 := hbw.size
          have KK := Kb.out
          unfold Bit at KK
          rcases KK with ⟨hx, hy⟩ | ⟨hx, hy⟩
          · have hz : (bits .and .i64 (m / 8 % 8) 2 != 0) = false := by rw [hx]; rfl
            have HX : Hid ((45 : Int) = (b.toNat : Int)) := Lib.hid (by rw [hy]; rfl)
            clear hx hy
            go_wp2_with fail
            refine (byte_any _ _ [a] b _ HX.out _ hI (by simp) s1).mono ?_
            rintro e2 w2 ⟨rfl, hI2, hb2⟩
            go_wp2
            go_roundw
            case rel => exact ⟨hbw.trans hb2, Or.inr (Or.inr (Or.inl (⟨rfl, hI2⟩)))⟩
            case measure => simp [intOf]
          · have hz : (bits .and .i64 (m / 8 % 8) 2 != 0) = true := by rw [bne_iff_ne]; exact hx
            have HX : Hid ((119 : Int) = (b.toNat : Int)) := Lib.hid (by rw [hy]; rfl)
            clear hx hy
            go_wp2_with fail
            refine (byte_any _ _ [a] b _ HX.out _ hI (by simp) s1).mono ?_
            rintro e2 w2 ⟨rfl, hI2, hb2⟩
            go_wp2
            go_roundw
            case rel => exact ⟨hbw.trans hb2, Or.inr (Or.inr (Or.inl (⟨rfl, hI2⟩)))⟩
            case measure => simp [intOf]
        · have s1 := hbw.size
          have KK := Kc.out
          unfold Bit at KK
          rcases KK with ⟨hx, hy⟩ | ⟨hx, hy⟩
          · have hz : (bits .and .i64 (m / 8 % 8) 1 != 0) = false := by rw [hx]; rfl
            have HX : Hid ((45 : Int) = (c.toNat : Int)) := Lib.hid (by rw [hy]; rfl)
            clear hx hy
            go_wp2_with fail
            refine (byte_any _ _ [a, b] c _ HX.out _ hI (by simp) s1).mono ?_
            rintro e2 w2 ⟨rfl, hI2, hb2⟩
            go_wp2
            go_roundw
            case rel => exact ⟨hbw.trans hb2, Or.inr (Or.inr (Or.inr (⟨rfl, hI2⟩)))⟩
            case measure => simp [intOf]
          · have hz : (bits .and .i64 (m / 8 % 8) 1 != 0) = true := by rw [bne_iff_ne]; exact hx
            have HX : Hid ((120 : Int) = (c.toNat : Int)) := Lib.hid (by rw [hy]; rfl)
            clear hx hy
            go_wp2_with fail
            refine (byte_any _ _ [a, b] c _ HX.out _ hI (by simp) s1).mono ?_
            rintro e2 w2 ⟨rfl, hI2, hb2⟩
            go_wp2
            go_roundw
            case rel => exact ⟨hbw.trans hb2, Or.inr (Or.inr (Or.inr (⟨rfl, hI2⟩)))⟩
            case measure => simp [intOf]
        · go_wp2
          go_roundw
          case rel => exact ⟨hbw, Or.inr (Or.inl (⟨rfl, hI⟩))⟩
          case measure => simp [intOf]
    · go_wp2_with fail
      refine (digit1_any _ _).mono ?_
      rintro e1 w1 ⟨rfl, rfl⟩
      go_wp2
      go_loopw [13] (fun i wr => Below w.heap.size w wr ∧ ((i = .int .i64 0 ∧ Lib.IsBuilderF 36 5 w.heap.size w.heap.size (Lib.byteCells [a, b, c]) wr) ∨ (i = .int .i64 1 ∧ Lib.IsBuilderF 36 5 w.heap.size w.heap.size (Lib.byteCells [a, b, c, d]) wr) ∨ (i = .int .i64 2 ∧ Lib.IsBuilderF 36 5 w.heap.size w.heap.size (Lib.byteCells [a, b, c, d, e]) wr) ∨ (i = .int .i64 3 ∧ Lib.IsBuilderF 36 5 w.heap.size w.heap.size (Lib.byteCells [a, b, c, d, e, f]) wr))) (fun i _ => 3 - (intOf i).toNat)
      case atStart => exact ⟨hbw, Or.inl ⟨rfl, hI⟩⟩
      case round =>
        clear hbw hI
        obtain ⟨hbw, ⟨rfl, hI⟩ | ⟨rfl, hI⟩ | ⟨rfl, hI⟩ | ⟨rfl, hI⟩⟩ := hrel
        · have s1 := hbw.size
          have KK := Kd.out
          unfold Bit at KK
          rcases KK with ⟨hx, hy⟩ | ⟨hx, hy⟩
          · have hz : (bits .and .i64 (m % 8) 4 != 0) = false := by rw [hx]; rfl
            have HX : Hid ((45 : Int) = (d.toNat : Int)) := Lib.hid (by rw [hy]; rfl)
            clear hx hy
            go_wp2_with fail
            refine (byte_any _ _ [a, b, c] d _ HX.out _ hI (by simp) s1).mono ?_
            rintro e2 w2 ⟨rfl, hI2, hb2⟩
            go_wp2
            go_roundw
            case rel => exact ⟨hbw.trans hb2, Or.inr (Or.inl (⟨rfl, hI2⟩))⟩
            case measure => simp [intOf]
          · have hz : (bits .and .i64 (m % 8) 4 != 0) = true := by rw [bne_iff_ne]; exact hx
            have HX : Hid ((114 : Int) = (d.toNat : Int)) := Lib.hid (by rw [hy]; rfl)
            clear hx hy
            go_wp2_with fail
            refine (byte_any _ _ [a, b, c] d _ HX.out _ hI (by simp) s1).mono ?_
            rintro e2 w2 ⟨rfl, hI2, hb2⟩
            go_wp2
            go_roundw
            case rel => exact ⟨hbw.trans hb2, Or.inr (Or.inl (⟨rfl, hI2⟩))⟩
            case measure => simp [intOf]
        · have s1 := hbw.size
          have KK := Ke.out
          unfold Bit at KK
          rcases KK with ⟨hx, hy⟩ | ⟨hx, hy⟩
          · have hz : (bits .and .i64 (m % 8) 2 != 0) = false := by rw [hx]; rfl
            have HX : Hid ((45 : Int) = (e.toNat : Int)) := Lib.hid (by rw [hy]; rfl)
            clear hx hy
            go_wp2_with fail
            refine (byte_any _ _ [a, b, c, d] e _ HX.out _ hI (by simp) s1).mono ?_
            rintro e2 w2 ⟨rfl, hI2, hb2⟩
            go_wp2
            go_roundw
            case rel => exact ⟨hbw.trans hb2, Or.inr (Or.inr (Or.inl (⟨rfl, hI2⟩)))⟩
            case measure => simp [intOf]
          · have hz : (bits .and .i64 (m % 8) 2 != 0) = true := by rw [bne_iff_ne]; exact hx
            have HX : Hid ((119 : Int) = (e.toNat : Int)) := Lib.hid (by rw [hy]; rfl)
            clear hx hy
            go_wp2_with fail
            refine (byte_any _ _ [a, b, c, d] e _ HX.out _ hI (by simp) s1).mono ?_
            rintro e2 w2 ⟨rfl, hI2, hb2⟩
            go_wp2
            go_roundw
            case rel => exact ⟨hbw.trans hb2, Or.inr (Or.inr (Or.inl (⟨rfl, hI2⟩)))⟩
            case measure => simp [intOf]
        · have s1 := hbw.size
          have KK := Kf.out
          unfold Bit at KK
          rcases KK with ⟨hx, hy⟩ | ⟨hx, hy⟩
          · have hz : (bits .and .i64 (m % 8) 1 != 0) = false := by rw [hx]; rfl
            have HX : Hid ((45 : Int) = (f.toNat : Int)) := Lib.hid (by rw [hy]; rfl)
            clear hx hy
            go_wp2_with fail
            refine (byte_any _ _ [a, b, c, d, e] f _ HX.out _ hI (by simp) s1).mono ?_
            rintro e2 w2 ⟨rfl, hI2, hb2⟩
            go_wp2
            go_roundw
            case rel => exact ⟨hbw.trans hb2, Or.inr (Or.inr (Or.inr (⟨rfl, hI2⟩)))⟩
            case measure => simp [intOf]
          · have hz : (bits .and .i64 (m % 8) 1 != 0) = true := by rw [bne_iff_ne]; exact hx
            have HX : Hid ((120 : Int) = (f.toNat : Int)) := Lib.hid (by rw [hy]; rfl)
            clear hx hy
            go_wp2_with fail
            refine (byte_any _ _ [a, b, c, d, e] f _ HX.out _ hI (by simp) s1).mono ?_
            rintro e2 w2 ⟨rfl, hI2, hb2⟩
            go_wp2
            go_roundw
            case rel => exact ⟨hbw.trans hb2, Or.inr (Or.inr (Or.inr (⟨rfl, hI2⟩)))⟩
            case measure => simp [intOf]
        · go_wp2
          go_roundw
          case rel => exact ⟨hbw, Or.inr (Or.inr (⟨rfl, hI⟩))⟩
          case measure => simp [intOf]
    · have s1 := hbw.size
      go_wp2_with fail
      refine (Try.Builder_String_any_f w.heap.size w.heap.size [a, b, c, d, e, f] _ hI s1).mono ?_
      rintro e1 w1 ⟨rfl, _, b1⟩
      go_wp2
      go_ret
      exact ⟨ret_str (by rw [HP.out]), hbw.trans b1⟩
end Go.Proofs.Ytdenbimepmefpaa
