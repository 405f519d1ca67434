/-
  mode's Parse as the document has it; Print and Text, and the document's.
-/
import Derived.Test.YtdenbimepmefpaaModeB
import Derived.Test.YtdenbimepmefpaaBuildB
namespace Go.Proofs.Ytdenbimepmefpaa
open Go.RowKit Go.Shelf

set_option maxRecDepth 100000 in
set_option maxHeartbeats 1000000 in
theorem rparse_any (l : Str) (hl : l.length ≤ 65000) (w : World) : Calls Try.prog 18 #[.string (bs l)] w fun e w' => e = .returned (.tuple #[.int .i64 (parseN l), .bool (isMode l)]) ∧ w = w' := by
  by_cases h1 : l = []
  · have H := Lib.hid (parse_no1 h1)
    subst h1
    go_enter Try.func18, Try.ntmps18
    go_wp2
    go_ret2
    exact ⟨ret_mode (parseN_no H.out) H.out, rfl⟩
  · have he : l.isEmpty = false := by simpa using h1
    have hz := bs_size l
    have hpos : 1 ≤ l.length := by cases l with | nil => exact absurd rfl h1 | cons a r => simp
    by_cases h2 : l.length ≤ 2
    · have H1 := Lib.hid h1
      clear h1
      go_enter Try.func18, Try.ntmps18
      go_wp2
      go_loop [4, 5] (fun m i => ∃ k : Nat, k ≤ l.length ∧ Hid ((l.take k).all oct = true) ∧ m = .int .i64 (octV (l.take k)) ∧ i = .int .i64 k) (fun _ i => l.length - (intOf i).toNat)
      case atStart => exact ⟨0, Nat.zero_le _, Lib.hid rfl, rfl, rfl⟩
      case round =>
        obtain ⟨k, hk, hA, rfl, rfl⟩ := hrel
        by_cases hlt : k < l.length
        · obtain ⟨hv0, hv7⟩ := octV_one l k (by omega) hA.out
          have HT : Hid (l.take (k + 1) = l.take k ++ [l[k]'hlt]) := Lib.hid (List.take_succ_eq_append_getElem hlt)
          have hx : ∀ h, (bs l)[k]'h = l[k]'hlt := fun h => bs_get l k hlt h
          have HN : Hid (oct (l[k]'hlt) = false → isMode l = false) := Lib.hid (parse_no3 k hlt)
          have HO : Hid (octV (l.take k ++ [l[k]'hlt]) = 8 * octV (l.take k) + (((l[k]'hlt).toNat : Int) - 48)) := Lib.hid (octV_snoc _ _)
          generalize l[k]'hlt = c at *
          generalize octV (l.take k) = x at *
          by_cases c1 : c.toNat < 48
          · have hI : decide ((c.toNat : Int) < 48) = true := by simp; omega
            have HF := Lib.hid (HN.out (by simp [oct]; omega))
            go_wp2
            go_ret2
            exact ⟨ret_mode (parseN_no HF.out) HF.out, rfl⟩
          · by_cases c2 : 55 < c.toNat
            · have HF := Lib.hid (HN.out (by simp [oct]; omega))
              go_wp2
              go_ret2
              exact ⟨ret_mode (parseN_no HF.out) HF.out, rfl⟩
            · have c3 : 48 ≤ (c.toNat : Int) := by omega
              have c4 : (c.toNat : Int) ≤ 55 := by omega
              have HA : Hid ((l.take (k + 1)).all oct = true) := Lib.hid (by rw [HT.out, List.all_append, hA.out]; simp [oct]; omega)
              go_wp2
              go_round
              case rel => exact ⟨k + 1, hlt, HA, by rw [HT.out, HO.out], by go_num⟩
              case measure => simp [intOf]; omega
        · have HY : Hid (isMode l = true ∧ parseN l = octV (l.take k)) := Lib.hid (by
            have := hA.out
            rw [List.take_of_length_le (by omega)] at this ⊢
            exact parse_yes H1.out h2 this)
          go_wp2
          go_ret2
          exact ⟨ret_mode HY.out.2 HY.out.1, rfl⟩
    · have H := Lib.hid (parse_no2 h2)
      have h3 : 2 < l.length := by omega
      clear h1 h2
      go_enter Try.func18, Try.ntmps18
      go_wp2
      go_ret2
      exact ⟨ret_mode (parseN_no H.out) H.out, rfl⟩

/-! ### Print -/
theorem builder_below {T e : TypeId} {B b : Nat} {bs : List Value} {w w' : World} (h : Lib.IsBuilderF T e B b bs w) (hb : Below w.heap.size w w') : Lib.IsBuilderF T e B b bs w' := by
  have main : ∀ p, Lib.BuilderAtF T e B b p bs w → Lib.BuilderAtF T e B b p bs w' := by
    rintro p ⟨hB, v, hbk, hown, hne⟩
    have hlt : b < w.heap.size := (Array.getElem?_eq_some_iff.1 hbk).1
    refine ⟨hB, v, (hb.block b hlt).trans hbk, ⟨hown.1, hown.2.imp id ?_⟩, hne⟩
    rintro ⟨g, cap, cur, fz, h1, h2, h3, h4⟩
    exact ⟨g, cap, cur, fz, h1, h2, (hb.block g (Array.getElem?_eq_some_iff.1 h3).1).trans h3, h4⟩
  exact h.imp (main _) (main _)
theorem cells_snoc (l : Str) (c : UInt8) (x : Int) (h : x = (c.toNat : Int)) : Lib.byteCells l ++ [.int .u8 x] = Lib.byteCells (l ++ [c]) := by
  subst h; simp [Lib.byteCells]
theorem byte_any (B b : Nat) (l : Str) (c : UInt8) (x : Int) (hx : x = (c.toNat : Int)) (w : World) (h : Lib.IsBuilderF 36 5 B b (Lib.byteCells l) w) (hlen : l.length ≤ 65000) (hBw : B ≤ w.heap.size) :
    Calls Try.prog 19 #[.pointer (some ⟨b, 0, none⟩), .int .u8 x] w fun e w' => e = .returned .nilIface ∧
      Lib.IsBuilderF 36 5 B b (Lib.byteCells (l ++ [c])) w' ∧ Below B w w' := by
  rw [← cells_snoc l c x hx]
  exact bbyte_any B b _ x w h (by rw [Lib.byteCells_length]; exact hlen) hBw
theorem fresh_b (w : World) : Lib.IsBuilderF 36 5 w.heap.size w.heap.size (Lib.byteCells []) (w.alloc (.cells #[.pointer none, .slice none 0 0] 36)) :=
  Lib.IsBuilderF.of (Lib.fresh_isBuilder 36 5 w)

set_option maxRecDepth 100000 in
set_option maxHeartbeats 1000000 in
theorem print_any (m : Int) (w : World) : Calls Try.prog 8 #[.int .i64 m] w fun e w' => e = .returned (.string (bs (printL m))) ∧ Below w.heap.size w w' := by
  obtain ⟨a, ha⟩ : ∃ a, a = octC (m / 8 % 8) := ⟨_, rfl⟩
  obtain ⟨b, hb⟩ : ∃ b, b = octC (m % 8) := ⟨_, rfl⟩
  have HA : Hid (48 + m / 8 % 8 = (a.toNat : Int)) := Lib.hid (by rw [ha, octC_nat _ (by omega) (by omega)])
  have HB : Hid (48 + m % 8 = (b.toNat : Int)) := Lib.hid (by rw [hb, octC_nat _ (by omega) (by omega)])
  have HP : Hid (printL m = [a, b]) := Lib.hid (by rw [ha, hb]; rfl)
  have a0 : 0 ≤ m / 8 % 8 := by omega
  have a7 : m / 8 % 8 ≤ 7 := by omega
  have b0 : 0 ≤ m % 8 := by omega
  have b7 : m % 8 ≤ 7 := by omega
  clear ha hb
  have h0 := fresh_b w
  have hb0 : Below w.heap.size w (w.alloc (.cells #[.pointer none, .slice none 0 0] 36)) := (Below.refl _ w).alloc (Nat.le_refl _) _
  go_enter Try.func8, Try.ntmps8
  go_wp2
  go_loopw [5] (fun i wr => Below w.heap.size w wr ∧ ((i = .int .i64 0 ∧ Lib.IsBuilderF 36 5 w.heap.size w.heap.size (Lib.byteCells []) wr) ∨ (i = .int .i64 1 ∧ Lib.IsBuilderF 36 5 w.heap.size w.heap.size (Lib.byteCells [a]) wr) ∨ (i = .int .i64 2 ∧ Lib.IsBuilderF 36 5 w.heap.size w.heap.size (Lib.byteCells [a, b]) wr))) (fun i _ => 2 - (intOf i).toNat)
  case atStart => exact ⟨hb0, Or.inl ⟨rfl, h0⟩⟩
  case round =>
    clear h0 hb0
    obtain ⟨hbw, ⟨rfl, hI⟩ | ⟨rfl, hI⟩ | ⟨rfl, hI⟩⟩ := hrel
    · have s1 := hbw.size
      go_wp2_with fail
      refine (digit0_any _ _).mono ?_
      rintro e w1 ⟨rfl, rfl⟩
      go_wp2_with fail
      refine (byte_any _ _ [] a _ HA.out _ hI (by simp) s1).mono ?_
      rintro e w2 ⟨rfl, hI2, hb2⟩
      go_wp2
      go_roundw
      case rel => exact ⟨hbw.trans hb2, Or.inr (Or.inl ⟨rfl, hI2⟩)⟩
      case measure => simp [intOf]
    · have s1 := hbw.size
      go_wp2_with fail
      refine (digit1_any _ _).mono ?_
      rintro e w1 ⟨rfl, rfl⟩
      go_wp2_with fail
      refine (byte_any _ _ [a] b _ HB.out _ hI (by simp) s1).mono ?_
      rintro e w2 ⟨rfl, hI2, hb2⟩
      go_wp2
      go_roundw
      case rel => exact ⟨hbw.trans hb2, Or.inr (Or.inr ⟨rfl, hI2⟩)⟩
      case measure => simp [intOf]
    · have s1 := hbw.size
      go_wp2_with fail
      refine (Try.Builder_String_any_f w.heap.size w.heap.size [a, b] _ hI s1).mono ?_
      rintro e w1 ⟨rfl, _, b1⟩
      go_wp2
      go_ret
      exact ⟨ret_str (by rw [HP.out]), hbw.trans b1⟩

abbrev digS : ByteArray := ⟨#[48, 49, 50, 51, 52, 53, 54, 55]⟩
theorem digS_size : digS.size = 8 := rfl
theorem digS_cut (k : Nat) (hk : k < 8) : digS.extract k (k + 1) = ⟨#[UInt8.ofNat (48 + k)]⟩ := by
  rw [extract_eq]
  revert k
  decide
theorem slice_dig (n : Int) (h0 : 0 ≤ n) (h7 : n ≤ 7) (w : World) :
    (Instr.slice 9 (.string digS) (some (.int .i64 n)) (some (.int .i64 (n + 1))) none).run Try.prog w = .ok (.string (bs [octC n])) w := by
  obtain ⟨k, rfl⟩ := Int.eq_ofNat_of_zero_le h0
  have hk : k < 8 := by omega
  have hc := digS_cut k hk
  have hz := digS_size
  have hl : octC (k : Int) = UInt8.ofNat (48 + k) := by unfold octC; simp
  rw [hl, show bs [UInt8.ofNat (48 + k)] = ⟨#[UInt8.ofNat (48 + k)]⟩ from rfl, ← hc]
  generalize digS = s at *
  rw [run_slice_string _ _ _ _ _ _ _ Try.underlying9 (by omega) (by omega) (by omega)]
  rfl
theorem rdigit_any (n : Int) (h0 : 0 ≤ n) (h7 : n ≤ 7) (w : World) : Calls Try.prog 22 #[.int .i64 n] w fun e w' => e = .returned (.string (bs [octC n])) ∧ w = w' := by
  have hsl := slice_dig n h0 h7
  go_enter Try.func22, Try.ntmps22
  go_wp2
  go_ret
  exact ⟨rfl, rfl⟩
theorem cat_bs (a b : Str) : bs a ++ bs b = bs (a ++ b) := by apply ByteArray.ext; simp
set_option maxHeartbeats 400000 in
theorem rprint_any (m : Int) (w : World) : Calls Try.prog 9 #[.int .i64 m] w fun e w' => e = .returned (.string (bs (printL m))) ∧ w = w' := by
  obtain ⟨n, hn⟩ : ∃ n, n = m % 64 := ⟨_, rfl⟩
  have hA : Hid (bits .and .i64 m 63 = n) := Lib.hid (by rw [i64_and63, hn])
  have n0 : 0 ≤ n := by omega
  have n1 : n ≤ 63 := by omega
  have H : Hid (printL m = [octC (n / 8)] ++ [octC (n % 8)]) := Lib.hid (by
    rw [hn, show m % 64 / 8 = m / 8 % 8 by omega, show m % 64 % 8 = m % 8 by omega]; rfl)
  clear hn
  go_enter Try.func9, Try.ntmps9
  go_wp2_with fail
  rw [hA.out, show wrap64 (n.tdiv 8) = n / 8 by rw [Int.tdiv_eq_ediv_of_nonneg n0]; unfold wrap64; omega]
  go_wp2_with fail
  refine (rdigit_any _ (by omega) (by omega) _).mono ?_
  rintro e w1 ⟨rfl, rfl⟩
  go_wp2_with fail
  refine (rdigit_any _ (by omega) (by omega) _).mono ?_
  rintro e w1 ⟨rfl, rfl⟩
  go_wp2
  go_ret
  exact ⟨ret_str (by rw [H.out, cat_bs]), rfl⟩
end Go.Proofs.Ytdenbimepmefpaa
