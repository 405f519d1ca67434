/-
  strings.IndexRune, IndexAny, ContainsAny at two plain bytes, in whatever text.
-/
import Derived.Test.YtknjmdgnbhohdaaMem
import Derived.Test.YtknjmdgnbhohdaaShelf
import Derived.Test.YtknjmdgnbhohdaaEntPlain
import Derived.Laws.RangeAny
import Derived.Laws.Runes
import Derived.Lib.Builder
import Derived.Deep.WholeRow
import Derived.WalkMore
namespace Go.Proofs.Ytknjmdgnbhohdaa
open Go.RowKit Go.Shelf

theorem validRune_any (r : Int) (w : World) (h0 : 128 ≤ r) : Calls Try.prog 67 #[.int .i32 r] w fun e w' => e = .returned (.bool (Utf8.valid r)) ∧ w = w' := by
  have hv : Utf8.valid r = decide (r < 55296 ∨ (57343 < r ∧ r ≤ 1114111)) := by
    rw [validRune_eq]
    unfold validRune
    rw [decide_eq_decide]
    omega
  have HV := Lib.hid hv
  clear hv
  have h1 : (0 : Int) ≤ r := by omega
  by_cases ha : r < 55296
  · have H : Hid (decide (r < 55296 ∨ (57343 < r ∧ r ≤ 1114111)) = true) := Lib.hid (by simp [ha])
    go_enter Try.func67, Try.ntmps67
    go_wp2_with fail
    go_ret
    exact ⟨ret_bool (by rw [HV.out, H.out]), rfl⟩
  · by_cases hb : 57343 < r
    · by_cases hc : r ≤ 1114111
      · have H : Hid (decide (r < 55296 ∨ (57343 < r ∧ r ≤ 1114111)) = true) := Lib.hid (by simp [hb, hc])
        go_enter Try.func67, Try.ntmps67
        go_wp2_with fail
        go_ret
        exact ⟨ret_bool (by rw [HV.out, H.out]), rfl⟩
      · have H : Hid (decide (r < 55296 ∨ (57343 < r ∧ r ≤ 1114111)) = false) := Lib.hid (by simp; omega)
        go_enter Try.func67, Try.ntmps67
        go_wp2_with fail
        go_ret
        exact ⟨ret_bool (by rw [HV.out, H.out]), rfl⟩
    · have H : Hid (decide (r < 55296 ∨ (57343 < r ∧ r ≤ 1114111)) = false) := Lib.hid (by simp; omega)
      go_enter Try.func67, Try.ntmps67
      go_wp2_with fail
      go_ret
      exact ⟨ret_bool (by rw [HV.out, H.out]), rfl⟩

theorem below_iter (w : World) (s : ByteArray) (p : Nat) : Below w.heap.size w (w.iter s p) := (Below.refl _ w).alloc (Nat.le_refl _) _
set_option maxRecDepth 100000 in
set_option maxHeartbeats 1000000 in
/-- The sign that stands for what is none, in two plain bytes. -/
theorem indexRune_err (s : ByteArray) (ha : ∀ j (h : j < s.size), (s[j]'h).toNat < 128) (w : World) :
    Calls Try.prog 62 #[.string s, .int .i32 65533] w fun e w' => e = .returned (.int .i64 (-1)) ∧ Below w.heap.size w w' := by
  have HA := Lib.hid ha
  clear ha
  go_enter Try.func62, Try.ntmps62
  go_wp2_with fail
  go_loopw [] (fun W => ∃ pos : Nat, W = w.iter s pos ∧ pos ≤ s.size) (fun W => s.size - W.iterPos w.heap.size)
  case atStart => exact ⟨0, rfl, Nat.zero_le _⟩
  case round =>
    obtain ⟨pos, rfl, hle⟩ := hrel
    by_cases hp : pos < s.size
    · have ha := HA.out pos hp
      have hnx : ∀ ty, (Instr.next (.pointer (some ⟨w.heap.size, 0, none⟩)) true ty).run Try.prog (w.iter s pos) = _ := fun ty => run_next_ascii w s pos ty hp ha
      have hI : (((s[pos]'hp).toNat : Int) == 65533) = false := by rw [beq_eq_false_iff_ne]; omega
      go_wp2_with fail
      go_roundw
      case rel => exact ⟨pos + 1, rfl, by omega⟩
      case measure => simp; omega
    · obtain rfl : pos = s.size := by omega
      have hnx : ∀ ty, (Instr.next (.pointer (some ⟨w.heap.size, 0, none⟩)) true ty).run Try.prog (w.iter s s.size) = _ := fun ty => run_next_end w s s.size ty hp
      go_wp2_with fail
      go_ret
      exact ⟨rfl, below_iter _ _ _⟩
set_option maxRecDepth 100000 in
set_option maxHeartbeats 1000000 in
/-- A sign that is not plain, in two plain bytes. -/
theorem indexRune_far (s : ByteArray) (hs : s.size = 2) (ha : ∀ j (h : j < s.size), (s[j]'h).toNat < 128) (r : Int) (h0 : 128 ≤ r) (hne : r ≠ 65533) (w : World) :
    Calls Try.prog 62 #[.string s, .int .i32 r] w fun e w' => e = .returned (.int .i64 (-1)) ∧ Below w.heap.size w w' := by
  have hI : (r == 65533) = false := by rw [beq_eq_false_iff_ne]; exact hne
  have hlt : decide (r < 128) = false := by simp; omega
  have h00 : (0 : Int) ≤ r := by omega
  by_cases hv : Utf8.valid r = true
  · obtain ⟨e1, e2, e3⟩ := encode_facts r hv h0
    have HV := Lib.hid hv
    rcases (by omega : (Utf8.encode r).size = 2 ∨ (Utf8.encode r).size = 3 ∨ (Utf8.encode r).size = 4) with hp | hp | hp
    · obtain ⟨x, hx, hx2⟩ : ∃ x : UInt8, (∀ h : 1 < (Utf8.encode r).size, (Utf8.encode r)[1]'h = x) ∧ 128 ≤ x.toNat := by
        have e4 := e3 (by omega)
        have : (Utf8.encode r).size - 1 = 1 := by omega
        simp only [this] at e4
        exact ⟨(Utf8.encode r)[1]'(by omega), fun _ => rfl, e4⟩
      obtain ⟨y, hy, hy2⟩ : ∃ y : UInt8, (∀ h : 1 < s.size, s[1]'h = y) ∧ y.toNat < 128 := ⟨s[1]'(by omega), fun _ => rfl, ha 1 (by omega)⟩
      have hq : ((y.toNat : Int) == (x.toNat : Int)) = false := by rw [beq_eq_false_iff_ne]; omega
      have hib : ∀ w, Calls Try.prog 66 #[.string ByteArray.empty, .int .u8 x.toNat] w fun e w' => e = .returned (.int .i64 (-1)) ∧ w' = w := fun w =>
        (Try.strings_IndexByte ByteArray.empty (x.toNat : Int) w).mono fun e w' h => ⟨by rw [h.1]; rfl, h.2⟩
      clear ha hne hv e1 e2 e3 hx2 hy2
      go_enter Try.func62, Try.ntmps62
      go_wp2_with fail
      refine (validRune_any r _ h0).mono ?_
      rintro e w1 ⟨rfl, rfl⟩
      rw [HV.out]
      go_wp2_with fail
      go_step3
      go_wp2_with fail
      go_loop [9, 10] (fun i f => i = .int .i64 1 ∧ f = .int .i64 0) (fun _ _ => 0)
      case atStart => exact ⟨rfl, rfl⟩
      case round =>
        obtain ⟨rfl, rfl⟩ := hrel
        go_wp2_with fail
        go_step3
        go_wp2_with fail
        go_quiet (fail)
        have hw2 : IntKind.i64.wrap 2 = 2 := rfl
        go_wp2_with fail
        go_quiet ((go_at_call 66; exact (hib _).mono fun e w' h => ⟨h.1, _, h.2⟩))
        go_wp2_with fail
        simp (zetaDelta := true) only [go_sem]
        go_ret
        exact ⟨rfl, below_drewN (Below.refl _ _) _⟩
    · clear ha hne hv e1 e2 e3
      go_enter Try.func62, Try.ntmps62
      go_wp2_with fail
      refine (validRune_any r _ h0).mono ?_
      rintro e w1 ⟨rfl, rfl⟩
      rw [HV.out]
      go_wp2_with fail
      go_step3
      go_wp2_with fail
      go_loop [9, 10] (fun i f => i = .int .i64 2 ∧ f = .int .i64 0) (fun _ _ => 0)
      case atStart => exact ⟨rfl, rfl⟩
      case round =>
        obtain ⟨rfl, rfl⟩ := hrel
        go_wp2_with fail
        go_ret
        exact ⟨rfl, Below.refl _ _⟩
    · clear ha hne hv e1 e2 e3
      go_enter Try.func62, Try.ntmps62
      go_wp2_with fail
      refine (validRune_any r _ h0).mono ?_
      rintro e w1 ⟨rfl, rfl⟩
      rw [HV.out]
      go_wp2_with fail
      go_step3
      go_wp2_with fail
      go_loop [9, 10] (fun i f => i = .int .i64 3 ∧ f = .int .i64 0) (fun _ _ => 0)
      case atStart => exact ⟨rfl, rfl⟩
      case round =>
        obtain ⟨rfl, rfl⟩ := hrel
        go_wp2_with fail
        go_ret
        exact ⟨rfl, Below.refl _ _⟩
  · have HV := Lib.hid (show Utf8.valid r = false by simpa using hv)
    clear ha hne hv
    go_enter Try.func62, Try.ntmps62
    go_wp2_with fail
    refine (validRune_any r _ h0).mono ?_
    rintro e w1 ⟨rfl, rfl⟩
    rw [HV.out]
    go_wp2_with fail
    go_ret
    exact ⟨rfl, Below.refl _ _⟩

end Go.Proofs.Ytknjmdgnbhohdaa
