/-
  The document's Holders: who holds a node.
-/
import Derived.Test.YtfcjmcenaankfaaFlkPlain
import Derived.Test.YtfcjmcenaankfaaHdlRefC
namespace Go.Proofs.Ytfcjmcenaankfaa
open Go.RowKit Go.Shelf
attribute [local go_sem ↓] Go.wp_at_zero Go.wp_at_succ

set_option maxRecDepth 100000 in
set_option maxHeartbeats 4000000 in
theorem rholders_c {X : Nat → Prop} (t : TabL) (ad af : Option Addr) (cap capf : Nat) (w : World) (hT : TabX t (.slice ad t.ds.length cap) (.slice af t.fs.length capf) X w) (ino : Int) (hz : SizeT t) :
    Calls Try.prog 15 #[tabV ad t.ds.length cap af t.fs.length capf, .int .i64 ino] w fun e w' => e = .returned (.tuple #[.int .i64 (heldN t.ds ino 1), .int .i64 (heldN t.ds ino 2)]) ∧ Below w.heap.size w w' := by
  have S0 := Lib.hid (Sf.start (w := w) (X := fun _ => False) (G := [TabX t (.slice ad t.ds.length cap) (.slice af t.fs.length capf)]) (fun _ h => h.elim) (th1 (TabX.firm _ _ _) ((TabX.firm _ _ _).sub hT fun _ h => h.elim)))
  have HZ := Lib.hid hz
  clear hT hz
  go_enter Try.func15, Try.ntmps15
  go_upto_region 1 with (fail)
  refine code_fresh1 ?_
  intro W1 hb hA0 hs
  have S1 := Lib.hid (S0.out.new1 hb hA0)
  clear hb hA0 hs
  go_wp2_with fail
  go_loop [6, 7, 8] (fun a b i => ∃ k : Nat, a = .int .i64 (heldN (t.ds.take k) ino 1) ∧ b = .int .i64 (heldN (t.ds.take k) ino 2) ∧ i = .int .i64 k ∧ k ≤ t.ds.length) (fun _ _ i => t.ds.length - (RowKit.intOf i).toNat)
  case atStart => exact ⟨0, rfl, rfl, rfl, Nat.zero_le _⟩
  case round =>
    obtain ⟨k, rfl, rfl, rfl, hk⟩ := hrel
    have hl1 : t.ds.length ≤ 1000 := HZ.out.1
    obtain ⟨d0, -⟩ := cells2 (S1.out.at 0 rfl)
    by_cases hlt : k < t.ds.length
    · have iL1 : decide (k < t.ds.length) = true := decide_eq_true (by omega)
      have iM1 : decide ((k : Int) < (t.ds.length : Int)) = true := decide_eq_true (by omega)
      have k0 : (0 : Int) ≤ (k : Int) := by omega
      have k1 : (k : Int) < (t.ds.length : Int) := by omega
      have wk : IntKind.i64.wrap ((k : Int) + 1) = (k : Int) + 1 := Go.IntWalk.i64_in _ (by omega)
      obtain ⟨b, off, ead, c0, -, -, -, c4, c5⟩ := TabX.desc (S1.out.g 0 rfl) k hlt
      subst ead
      have H1 := Lib.hid (held_next t.ds ino 1 hlt)
      have H2 := Lib.hid (held_next t.ds ino 2 hlt)
      have hn1 := held_le (t.ds.take k) ino 1
      have hn2 := held_le (t.ds.take k) ino 2
      rw [List.length_take] at hn1 hn2
      obtain ⟨n, hn⟩ : ∃ n, n = heldN (t.ds.take k) ino 1 := ⟨_, rfl⟩
      obtain ⟨m, hm⟩ : ∃ m, m = heldN (t.ds.take k) ino 2 := ⟨_, rfl⟩
      rw [← hn] at H1 hn1 ⊢
      rw [← hm] at H2 hn2 ⊢
      clear hn hm
      obtain ⟨y, hy⟩ : ∃ y, y = t.ds[k] := ⟨_, rfl⟩
      rw [← hy] at c0 c4 c5 H1 H2
      clear hy
      have wn : IntKind.i64.wrap ((n : Int) + 1) = (n : Int) + 1 := Go.IntWalk.i64_in _ (by omega)
      have wm : IntKind.i64.wrap ((m : Int) + 1) = (m : Int) + 1 := Go.IntWalk.i64_in _ (by omega)
      by_cases h1 : 0 < y.refs
      · have i1 : decide (0 < y.refs) = true := decide_eq_true h1
        by_cases h2 : y.ino = ino
        · have i21 : (y.ino == ino) = true := by simpa using h2
          have i22 : decide (y.ino = ino) = true := decide_eq_true h2
          have i23 : (y.ino != ino) = false := by simpa using h2
          by_cases h3 : y.lock = 1
          · have i31 : (y.lock == 1) = true := by simpa using h3
            have i32 : decide (y.lock = 1) = true := decide_eq_true h3
            have i33 : (y.lock != 1) = false := by simpa using h3
            have h4 : ¬ y.lock = 2 := by omega
            have i41 : (y.lock == 2) = false := by simpa using h4
            have i42 : decide (y.lock = 2) = false := decide_eq_false h4
            have i43 : (y.lock != 2) = true := by simpa using h4
            skip
            have HA : Hid (heldN (t.ds.take (k + 1)) ino 1 = n + 1) := Lib.hid (by rw [H1.out]; unfold holdB; simp [*])
            have HB : Hid (heldN (t.ds.take (k + 1)) ino 2 = m) := Lib.hid (by rw [H2.out]; unfold holdB; simp [*])
            skip
            go_wp2_with fail
            go_round
            case rel => exact ⟨k + 1, by rw [HA.out]; go_num, by rw [HB.out], by go_num, hlt⟩
            case measure => simp [RowKit.intOf]; omega
          · have i31 : (y.lock == 1) = false := by simpa using h3
            have i32 : decide (y.lock = 1) = false := decide_eq_false h3
            have i33 : (y.lock != 1) = true := by simpa using h3
            by_cases h4 : y.lock = 2
            · have i41 : (y.lock == 2) = true := by simpa using h4
              have i42 : decide (y.lock = 2) = true := decide_eq_true h4
              have i43 : (y.lock != 2) = false := by simpa using h4
              have HA : Hid (heldN (t.ds.take (k + 1)) ino 1 = n) := Lib.hid (by rw [H1.out]; unfold holdB; simp [*])
              have HB : Hid (heldN (t.ds.take (k + 1)) ino 2 = m + 1) := Lib.hid (by rw [H2.out]; unfold holdB; simp [*])
              skip
              go_wp2_with fail
              go_round
              case rel => exact ⟨k + 1, by rw [HA.out], by rw [HB.out]; go_num, by go_num, hlt⟩
              case measure => simp [RowKit.intOf]; omega
            · have i41 : (y.lock == 2) = false := by simpa using h4
              have i42 : decide (y.lock = 2) = false := decide_eq_false h4
              have i43 : (y.lock != 2) = true := by simpa using h4
              have HA : Hid (heldN (t.ds.take (k + 1)) ino 1 = n) := Lib.hid (by rw [H1.out]; unfold holdB; simp [*])
              have HB : Hid (heldN (t.ds.take (k + 1)) ino 2 = m) := Lib.hid (by rw [H2.out]; unfold holdB; simp [*])
              skip
              go_wp2_with fail
              go_round
              case rel => exact ⟨k + 1, by rw [HA.out], by rw [HB.out], by go_num, hlt⟩
              case measure => simp [RowKit.intOf]; omega
        · have i21 : (y.ino == ino) = false := by simpa using h2
          have i22 : decide (y.ino = ino) = false := decide_eq_false h2
          have i23 : (y.ino != ino) = true := by simpa using h2
          have HA : Hid (heldN (t.ds.take (k + 1)) ino 1 = n) := Lib.hid (by rw [H1.out]; unfold holdB; simp [*])
          have HB : Hid (heldN (t.ds.take (k + 1)) ino 2 = m) := Lib.hid (by rw [H2.out]; unfold holdB; simp [*])
          skip
          go_wp2_with fail
          go_round
          case rel => exact ⟨k + 1, by rw [HA.out], by rw [HB.out], by go_num, hlt⟩
          case measure => simp [RowKit.intOf]; omega
      · have i1 : decide (0 < y.refs) = false := decide_eq_false h1
        have HA : Hid (heldN (t.ds.take (k + 1)) ino 1 = n) := Lib.hid (by rw [H1.out]; unfold holdB; simp [*])
        have HB : Hid (heldN (t.ds.take (k + 1)) ino 2 = m) := Lib.hid (by rw [H2.out]; unfold holdB; simp [*])
        skip
        go_wp2_with fail
        go_round
        case rel => exact ⟨k + 1, by rw [HA.out], by rw [HB.out], by go_num, hlt⟩
        case measure => simp [RowKit.intOf]; omega
    · have iL1 : decide (k < t.ds.length) = false := decide_eq_false (by omega)
      have iM1 : decide ((k : Int) < (t.ds.length : Int)) = false := decide_eq_false (by omega)
      have ht : t.ds.take k = t.ds := List.take_of_length_le (by omega)
      rw [ht]
      clear ht hlt
      go_wp2_with fail
      go_ret2
      exact ⟨rfl, S1.out.bel⟩
end Go.Proofs.Ytfcjmcenaankfaa
