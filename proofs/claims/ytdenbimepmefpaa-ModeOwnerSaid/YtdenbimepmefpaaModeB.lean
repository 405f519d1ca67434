/-
  mode.Parse, and the document's.
-/
import Derived.Test.YtdenbimepmefpaaModeA
namespace Go.Proofs.Ytdenbimepmefpaa
open Go.RowKit

/-- A text, out of its bytes. -/
abbrev bs (l : Str) : ByteArray := ⟨l.toArray⟩
theorem bs_size (l : Str) : (bs l).size = l.length := by simp [ByteArray.size]
theorem bs_of (s : ByteArray) : s = bs s.data.toList := by apply ByteArray.ext; simp
theorem bs_get (l : Str) (k : Nat) (hk : k < l.length) (h : k < (bs l).size) : (bs l)[k]'h = l[k]'hk := by
  show l.toArray[k]'_ = _
  rw [List.getElem_toArray]
theorem parse_no1 {l : Str} (h : l = []) : isMode l = false := by subst h; rfl
theorem parse_no2 {l : Str} (h : ¬ l.length ≤ 2) : isMode l = false := by simp [isMode]; omega
theorem parse_no3 {l : Str} (k : Nat) (hk : k < l.length) (h : oct l[k] = false) : isMode l = false := by
  have : l.all oct = false := by
    rw [List.all_eq_false]
    exact ⟨_, List.getElem_mem hk, by simp [h]⟩
  simp [isMode, this]
theorem parse_yes {l : Str} (h1 : l ≠ []) (h2 : l.length ≤ 2) (h3 : l.all oct = true) : isMode l = true ∧ parseN l = octV l := by
  have : isMode l = true := by simp [isMode, h1, h2, h3]
  exact ⟨this, by unfold parseN; rw [if_pos this]⟩
theorem parseN_no {l : Str} (h : isMode l = false) : parseN l = 0 := by unfold parseN; rw [h]; rfl
theorem ret_mode {l : Str} {n : Int} {b : Bool} (h1 : parseN l = n) (h2 : isMode l = b) : Ending.returned (.tuple #[.int .i64 n, .bool b]) = .returned (.tuple #[.int .i64 (parseN l), .bool (isMode l)]) := by rw [h1, h2]

set_option maxRecDepth 100000 in
set_option maxHeartbeats 1000000 in
theorem parse_any (l : Str) (hl : l.length ≤ 65000) (w : World) : Calls Try.prog 17 #[.string (bs l)] w fun e w' => e = .returned (.tuple #[.int .i64 (parseN l), .bool (isMode l)]) ∧ w = w' := by
  by_cases h1 : l = []
  · have H := Lib.hid (parse_no1 h1)
    subst h1
    go_enter Try.func17, Try.ntmps17
    go_wp2
    go_ret2
    exact ⟨ret_mode (parseN_no H.out) H.out, rfl⟩
  · have he : l.isEmpty = false := by simpa using h1
    have hz := bs_size l
    by_cases h2 : l.length ≤ 2
    · have H1 := Lib.hid h1
      clear h1
      go_enter Try.func17, Try.ntmps17
      go_wp2
      go_loop [4, 15] (fun m i => ∃ k : Nat, k ≤ l.length ∧ Hid ((l.take k).all oct = true) ∧ m = .int .i64 (octV (l.take k)) ∧ i = .int .i64 k) (fun _ i => l.length - (intOf i).toNat)
      case atStart => exact ⟨0, Nat.zero_le _, Lib.hid rfl, rfl, rfl⟩
      case round =>
        obtain ⟨k, hk, hA, rfl, rfl⟩ := hrel
        by_cases hlt : k < l.length
        · obtain ⟨hv0, hv7⟩ := octV_one l k (by omega) hA.out
          have HT : Hid (l.take (k + 1) = l.take k ++ [l[k]'hlt]) := Lib.hid (List.take_succ_eq_append_getElem hlt)
          have hx : ∀ h, (bs l)[k]'h = l[k]'hlt := fun h => bs_get l k hlt h
          have HN : Hid (oct (l[k]'hlt) = false → isMode l = false) := Lib.hid (parse_no3 k hlt)
          have HO : Hid (octV (l.take k ++ [l[k]'hlt]) = 8 * octV (l.take k) + (((l[k]'hlt).toNat : Int) - 48)) := Lib.hid (octV_snoc _ _)
          generalize l[k]'hlt = c at *
          generalize octV (l.take k) = x at *
          by_cases c1 : c.toNat < 48
          · have hI : decide ((c.toNat : Int) < 48) = true := by simp; omega
            have HF := Lib.hid (HN.out (by simp [oct]; omega))
            go_wp2
            go_ret2
            exact ⟨ret_mode (parseN_no HF.out) HF.out, rfl⟩
          · by_cases c2 : 55 < c.toNat
            · have HF := Lib.hid (HN.out (by simp [oct]; omega))
              go_wp2
              go_ret2
              exact ⟨ret_mode (parseN_no HF.out) HF.out, rfl⟩
            · have c3 : 48 ≤ (c.toNat : Int) := by omega
              have c4 : (c.toNat : Int) ≤ 55 := by omega
              have HJ := Lib.hid (or_join x ((c.toNat : Int) - 48) hv0 hv7 (by omega) (by omega))
              have HA : Hid ((l.take (k + 1)).all oct = true) := Lib.hid (by rw [HT.out, List.all_append, hA.out]; simp [oct]; omega)
              go_wp2
              go_round
              case rel => exact ⟨k + 1, hlt, HA, by rw [HJ.out, HT.out, HO.out], by go_num⟩
              case measure => simp [intOf]; omega
        · have HY : Hid (isMode l = true ∧ parseN l = octV (l.take k)) := Lib.hid (by
            have := hA.out
            rw [List.take_of_length_le (by omega)] at this ⊢
            exact parse_yes H1.out h2 this)
          go_wp2
          go_ret2
          exact ⟨ret_mode HY.out.2 HY.out.1, rfl⟩
    · have H := Lib.hid (parse_no2 h2)
      have h3 : 2 < l.length := by omega
      clear h1 h2
      go_enter Try.func17, Try.ntmps17
      go_wp2
      go_ret2
      exact ⟨ret_mode (parseN_no H.out) H.out, rfl⟩
end Go.Proofs.Ytdenbimepmefpaa
