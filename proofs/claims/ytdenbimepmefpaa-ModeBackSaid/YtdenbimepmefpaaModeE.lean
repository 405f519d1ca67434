/-
  The document's Text of a mode.
-/
import Derived.Test.YtdenbimepmefpaaModeD
namespace Go.Proofs.Ytdenbimepmefpaa
open Go.RowKit Go.Shelf

theorem bit1 (_m x : Int) (c : UInt8) : Bit (bits .and .i64 x 1) c (sgn x c) := by
  refine sgn_bit _ _ _ ?_
  rw [show bits .and .i64 x 1 = x % 2 from i64_and1 x]; omega
theorem text_bits (m : Int) : ∃ a b c d e f, textL m = [a, b, c, d, e, f] ∧ Bit (bits .and .i64 (m / 32) 1) 114 a ∧ Bit (bits .and .i64 (m / 16) 1) 119 b ∧ Bit (bits .and .i64 (m / 8) 1) 120 c ∧ Bit (bits .and .i64 (m / 4) 1) 114 d ∧ Bit (bits .and .i64 (m / 2) 1) 119 e ∧ Bit (bits .and .i64 m 1) 120 f := by
  refine ⟨_, _, _, _, _, _, rfl, ?_, ?_, ?_, ?_, ?_, ?_⟩
  · rw [show m / 8 / 4 = m / 32 by omega]; exact bit1 m _ _
  · rw [show m / 8 / 2 = m / 16 by omega]; exact bit1 m _ _
  · exact bit1 m _ _
  · exact bit1 m _ _
  · exact bit1 m _ _
  · exact bit1 m _ _
theorem bit_yes {x : Int} (h : x ≠ 0) (hx : x = 0 ∨ x = 1) : (x == 1) = true := by rw [beq_iff_eq]; omega
theorem and1_two (x : Int) : bits .and .i64 x 1 = 0 ∨ bits .and .i64 x 1 = 1 := by rw [i64_and1]; omega
set_option maxRecDepth 100000 in
set_option maxHeartbeats 4000000 in
theorem rtext_any (m : Int) (w : World) : Calls Try.prog 11 #[.int .i64 m] w fun e w' => e = .returned (.string (bs (textL m))) ∧ w = w' := by
  obtain ⟨a, b, c, d, e, f, hT, ha, hb, hc, hd, he, hf⟩ := text_bits m
  have Ka := Lib.hid ha
  have Kb := Lib.hid hb
  have Kc := Lib.hid hc
  have Kd := Lib.hid hd
  have Ke := Lib.hid he
  have Kf := Lib.hid hf
  have HP := Lib.hid hT
  clear hT ha hb hc hd he hf
  go_enter Try.func11, Try.ntmps11
  go_wp2
  go_loop [3, 4] (fun s i => (s = .string (bs []) ∧ i = .int .i64 5) ∨ (s = .string (bs [a]) ∧ i = .int .i64 4) ∨ (s = .string (bs [a, b]) ∧ i = .int .i64 3) ∨ (s = .string (bs [a, b, c]) ∧ i = .int .i64 2) ∨ (s = .string (bs [a, b, c, d]) ∧ i = .int .i64 1) ∨ (s = .string (bs [a, b, c, d, e]) ∧ i = .int .i64 0) ∨ (s = .string (bs [a, b, c, d, e, f]) ∧ i = .int .i64 (-1))) (fun _ i => (1 + intOf i).toNat)
  case atStart => exact Or.inl ⟨rfl, rfl⟩
  case round =>
    obtain ⟨rfl, rfl⟩ | ⟨rfl, rfl⟩ | ⟨rfl, rfl⟩ | ⟨rfl, rfl⟩ | ⟨rfl, rfl⟩ | ⟨rfl, rfl⟩ | ⟨rfl, rfl⟩ := hrel
    · have KK := Ka.out
      unfold Bit at KK
      rcases KK with ⟨hx, hy⟩ | ⟨hx, hy⟩
      · have hz : (bits .and .i64 (m / 32) 1 == 1) = false := by rw [hx]; rfl
        have HX := Lib.hid hy
        clear hx hy
        go_wp2
        go_round
        case rel => exact Or.inr (Or.inl (⟨by rw [HX.out]; rfl, rfl⟩))
        case measure => simp [intOf]
      · have hz : (bits .and .i64 (m / 32) 1 == 1) = true := by exact bit_yes hx (and1_two _)
        have HX := Lib.hid hy
        clear hx hy
        go_wp2
        go_round
        case rel => exact Or.inr (Or.inl (⟨by rw [HX.out]; rfl, rfl⟩))
        case measure => simp [intOf]
    · have KK := Kb.out
      unfold Bit at KK
      rcases KK with ⟨hx, hy⟩ | ⟨hx, hy⟩
      · have hz : (bits .and .i64 (m / 16) 1 == 1) = false := by rw [hx]; rfl
        have HX := Lib.hid hy
        clear hx hy
        go_wp2
        go_round
        case rel => exact Or.inr (Or.inr (Or.inl (⟨by rw [HX.out]; rfl, rfl⟩)))
        case measure => simp [intOf]
      · have hz : (bits .and .i64 (m / 16) 1 == 1) = true := by exact bit_yes hx (and1_two _)
        have HX := Lib.hid hy
        clear hx hy
        go_wp2
        go_round
        case rel => exact Or.inr (Or.inr (Or.inl (⟨by rw [HX.out]; rfl, rfl⟩)))
        case measure => simp [intOf]
    · have KK := Kc.out
      unfold Bit at KK
      rcases KK with ⟨hx, hy⟩ | ⟨hx, hy⟩
      · have hz : (bits .and .i64 (m / 8) 1 == 1) = false := by rw [hx]; rfl
        have HX := Lib.hid hy
        clear hx hy
        go_wp2
        go_round
        case rel => exact Or.inr (Or.inr (Or.inr (Or.inl (⟨by rw [HX.out]; rfl, rfl⟩))))
        case measure => simp [intOf]
      · have hz : (bits .and .i64 (m / 8) 1 == 1) = true := by exact bit_yes hx (and1_two _)
        have HX := Lib.hid hy
        clear hx hy
        go_wp2
        go_round
        case rel => exact Or.inr (Or.inr (Or.inr (Or.inl (⟨by rw [HX.out]; rfl, rfl⟩))))
        case measure => simp [intOf]
    · have KK := Kd.out
      unfold Bit at KK
      rcases KK with ⟨hx, hy⟩ | ⟨hx, hy⟩
      · have hz : (bits .and .i64 (m / 4) 1 == 1) = false := by rw [hx]; rfl
        have HX := Lib.hid hy
        clear hx hy
        go_wp2
        go_round
        case rel => exact Or.inr (Or.inr (Or.inr (Or.inr (Or.inl (⟨by rw [HX.out]; rfl, rfl⟩)))))
        case measure => simp [intOf]
      · have hz : (bits .and .i64 (m / 4) 1 == 1) = true := by exact bit_yes hx (and1_two _)
        have HX := Lib.hid hy
        clear hx hy
        go_wp2
        go_round
        case rel => exact Or.inr (Or.inr (Or.inr (Or.inr (Or.inl (⟨by rw [HX.out]; rfl, rfl⟩)))))
        case measure => simp [intOf]
    · have KK := Ke.out
      unfold Bit at KK
      rcases KK with ⟨hx, hy⟩ | ⟨hx, hy⟩
      · have hz : (bits .and .i64 (m / 2) 1 == 1) = false := by rw [hx]; rfl
        have HX := Lib.hid hy
        clear hx hy
        go_wp2
        go_round
        case rel => exact Or.inr (Or.inr (Or.inr (Or.inr (Or.inr (Or.inl (⟨by rw [HX.out]; rfl, rfl⟩))))))
        case measure => simp [intOf]
      · have hz : (bits .and .i64 (m / 2) 1 == 1) = true := by exact bit_yes hx (and1_two _)
        have HX := Lib.hid hy
        clear hx hy
        go_wp2
        go_round
        case rel => exact Or.inr (Or.inr (Or.inr (Or.inr (Or.inr (Or.inl (⟨by rw [HX.out]; rfl, rfl⟩))))))
        case measure => simp [intOf]
    · have KK := Kf.out
      unfold Bit at KK
      rcases KK with ⟨hx, hy⟩ | ⟨hx, hy⟩
      · have hz : (bits .and .i64 (m) 1 == 1) = false := by rw [hx]; rfl
        have HX := Lib.hid hy
        clear hx hy
        go_wp2
        go_round
        case rel => exact Or.inr (Or.inr (Or.inr (Or.inr (Or.inr (Or.inr (⟨by rw [HX.out]; rfl, rfl⟩))))))
        case measure => simp [intOf]
      · have hz : (bits .and .i64 (m) 1 == 1) = true := by exact bit_yes hx (and1_two _)
        have HX := Lib.hid hy
        clear hx hy
        go_wp2
        go_round
        case rel => exact Or.inr (Or.inr (Or.inr (Or.inr (Or.inr (Or.inr (⟨by rw [HX.out]; rfl, rfl⟩))))))
        case measure => simp [intOf]
    · go_wp2
      go_ret
      exact ⟨ret_str (by rw [HP.out]), rfl⟩
end Go.Proofs.Ytdenbimepmefpaa
