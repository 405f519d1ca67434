/-
  fine; what the statements ask of the program's calls.
-/
import Derived.Test.YtfcjmcenaankfaaLaw10A
import Derived.Test.YtfcjmcenaankfaaFlkRefA
import Derived.Test.YtfcjmcenaankfaaFlkRefB
import Derived.Test.YtfcjmcenaankfaaFlkRefC
import Derived.Test.YtfcjmcenaankfaaHdlRefF
namespace Go.Proofs.Ytfcjmcenaankfaa
open Go.RowKit Go.Shelf
attribute [local go_sem ↓] Go.wp_at_zero Go.wp_at_succ

theorem wpList_load_rowG {P : Program} {ops : Array Oper} {rest : List Oper} {o : Oper} {a : Act} {w : World} {Q : Exit → Act → World → Prop} (hw : Region.wanted o (yielded ops a.tmps) = true) (ty : TypeId) (x : Operand) (ho : o.op = .load ty x)
    (g : Nat) (hx : a.eval x = .pointer (some ⟨g, 0, none⟩)) (t : TypeId) (cs : Array Value) (fr : Nat × Nat) (d : TypeDesc) (hg : w.heap[g]? = some (.cells cs t fr))
    (hu : P.underlying ty = some d) (hd : (match d with | .struct _ | .array _ _ => true | _ => false) = true) (hi : (P.info? ty).map (·.size) = some cs.size)
    (h : wpList P ops Q rest (a.put o.dst (.agg cs)) w) : wpList P ops Q (o :: rest) a w :=
  wpList_step fun _ hK => by rw [if_pos hw]; exact wp_load_row ty x ho g hx t cs fr d hg hu hd hi (hK _ _ h)
set_option maxRecDepth 100000 in
set_option maxHeartbeats 4000000 in
theorem fine_c (X : Nat → Prop) (t : TabL) (ad af : Option Addr) (cap capf : Nat) (w : World) (hX : Old X w) (hT : TabX t (.slice ad t.ds.length cap) (.slice af t.fs.length capf) X w) :
    Calls Try.prog 9 #[tabV ad t.ds.length cap af t.fs.length capf] w fun e w' => e = .returned (.bool (fineB t)) ∧ Below w.heap.size w w' := by
  have S0 := Lib.hid (Sf.start (G := [TabX t (.slice ad t.ds.length cap) (.slice af t.fs.length capf)]) hX (th1 (TabX.firm _ _ _) hT))
  clear hX hT
  go_enter Try.func9, Try.ntmps9
  go_upto_region 1 with (fail)
  refine code_fresh1 ?_
  intro W1 hb hA0 hs
  have S1 := Lib.hid (S0.out.new1 hb hA0)
  clear hb hA0 hs
  obtain ⟨d0, d1⟩ := cells2 (S1.out.at 0 rfl)
  go_wp2_with fail
  go_loop [3] (fun i => ∃ k : Nat, i = .int .i64 k ∧ k ≤ t.fs.length ∧ k ≤ 20 ∧ Hid (∀ r ∈ t.fs.take k, r.length ≤ 20)) (fun i => t.fs.length - (RowKit.intOf i).toNat)
  case atStart => exact ⟨0, rfl, Nat.zero_le _, Nat.zero_le _, Lib.hid (fun r hr => by cases hr)⟩
  case round =>
    obtain ⟨k, rfl, hk, hk2, HA⟩ := hrel
    by_cases hlt : k < t.fs.length
    · have iL1 : decide (k < t.fs.length) = true := decide_eq_true (by omega)
      have iM1 : decide ((k : Int) < (t.fs.length : Int)) = true := decide_eq_true (by omega)
      by_cases hl2 : k < 20
      · have iL2 : decide (k < 20) = true := decide_eq_true (by omega)
        have iM2 : decide ((k : Int) < (20 : Int)) = true := decide_eq_true (by omega)
        have k0 : (0 : Int) ≤ (k : Int) := by omega
        have k1 : (k : Int) < (t.fs.length : Int) := by omega
        have wk : IntKind.i64.wrap ((k : Int) + 1) = (k : Int) + 1 := Go.IntWalk.i64_in _ (by omega)
        obtain ⟨b, off, ar, cr, eaf, _, cR, hR⟩ := TabX.row (S1.out.g 0 rfl) k hlt
        subst eaf
        obtain ⟨r, hr⟩ : ∃ r, r = t.fs[k] := ⟨_, rfl⟩
        rw [← hr] at cR
        have HRr := Lib.hid hr
        clear hr hR
        by_cases h3 : 20 < r.length
        · have iL3 : decide (20 < r.length) = true := decide_eq_true (by omega)
          have iM3 : decide ((20 : Int) < (r.length : Int)) = true := decide_eq_true (by omega)
          have HN : Hid (fineB t = false) := Lib.hid (by cases e : fineB t with | false => rfl | true => exact absurd ((fine_B.1 e).1.2.2 r (by rw [HRr.out]; exact List.getElem_mem hlt)) (by omega))
          clear h3
          go_wp2_with fail
          go_ret
          exact ⟨by rw [HN.out]; rfl, S1.out.bel⟩
        · have iL3 : decide (20 < r.length) = false := decide_eq_false (by omega)
          have iM3 : decide ((20 : Int) < (r.length : Int)) = false := decide_eq_false (by omega)
          have HA2 : Hid (∀ r ∈ t.fs.take (k + 1), r.length ≤ 20) := Lib.hid (by rw [List.take_succ_eq_append_getElem hlt]; intro s hs; rcases List.mem_append.1 hs with hs | hs; exact HA.out s hs; rw [List.mem_singleton, ← HRr.out] at hs; subst hs; omega)
          clear h3
          go_wp2_with fail
          go_round
          case rel => exact ⟨k + 1, by go_num, hlt, hl2, HA2⟩
          case measure => simp [RowKit.intOf]; omega
      · have iL2 : decide (k < 20) = false := decide_eq_false (by omega)
        have iM2 : decide ((k : Int) < (20 : Int)) = false := decide_eq_false (by omega)
        have HN : Hid (fineB t = false) := Lib.hid (by cases e : fineB t with | false => rfl | true => exact absurd (fine_B.1 e).1.2.1 (by omega))
        by_cases h4 : t.ds.length ≤ 100
        · have iN4 : decide (t.ds.length ≤ 100) = true := decide_eq_true (by omega)
          have iO4 : decide ((t.ds.length : Int) ≤ 100) = true := decide_eq_true (by omega)
          have iN5 : decide (t.fs.length ≤ 20) = false := decide_eq_false (by omega)
          have iO5 : decide ((t.fs.length : Int) ≤ 20) = false := decide_eq_false (by omega)
          clear hlt hl2 h4
          go_wp2_with fail
          go_ret
          exact ⟨by rw [HN.out]; rfl, S1.out.bel⟩
        · have iN4 : decide (t.ds.length ≤ 100) = false := decide_eq_false (by omega)
          have iO4 : decide ((t.ds.length : Int) ≤ 100) = false := decide_eq_false (by omega)
          have iN5 : decide (t.fs.length ≤ 20) = false := decide_eq_false (by omega)
          have iO5 : decide ((t.fs.length : Int) ≤ 20) = false := decide_eq_false (by omega)
          clear hlt hl2 h4
          go_wp2_with fail
          go_ret
          exact ⟨by rw [HN.out]; rfl, S1.out.bel⟩
    · have iL1 : decide (k < t.fs.length) = false := decide_eq_false (by omega)
      have iM1 : decide ((k : Int) < (t.fs.length : Int)) = false := decide_eq_false (by omega)
      have hts : t.fs.take k = t.fs := List.take_of_length_le (by omega)
      have HB : Hid (∀ r ∈ t.fs, r.length ≤ 20) := Lib.hid (by have := HA.out; rw [hts] at this; exact this)
      clear hts HA
      by_cases h4 : t.ds.length ≤ 100
      · have iN4 : decide (t.ds.length ≤ 100) = true := decide_eq_true (by omega)
        have iO4 : decide ((t.ds.length : Int) ≤ 100) = true := decide_eq_true (by omega)
        have iN5 : decide (t.fs.length ≤ 20) = true := decide_eq_true (by omega)
        have iO5 : decide ((t.fs.length : Int) ≤ 20) = true := decide_eq_true (by omega)
        have HS := Lib.hid (show SizeM 100 t from ⟨h4, by omega, HB.out⟩)
        have HF : Hid (fineB t = rightB t) := Lib.hid (by unfold fineB; rw [small_B.2 HS.out]; rfl)
        have HZ := Lib.hid (size_T HS.out (by decide))
        clear hlt h4
        have h_d := (S1.out.at 0 rfl)
        go_wp2_with (first | (refine wpList_load_row rfl 25 _ rfl _ rfl 25 _ (0, 0) _ h_d Try.underlying25 rfl (by kernel_rfl) ?_) | (refine wpList_load_rowG rfl 25 _ rfl _ rfl 25 _ (0, 0) _ h_d Try.underlying25 rfl (by kernel_rfl) ?_))
        refine (its_c _ t _ _ _ _ _ S1.out.oldX (S1.out.g 0 rfl) HZ.out).mono ?_
        rintro e W2 ⟨ad2, cap2, rfl, hT2, hb⟩
        clear h_d
        have S2 := Lib.hid (S1.out.call hb)
        have HT2 := Lib.hid hT2
        clear hT2
        clear hb
        go_wp2_with fail
        refine (rrightH_c t _ _ _ _ _ HT2.out HZ.out).mono ?_
        rintro e W3 ⟨rfl, hb⟩
        have S3 := Lib.hid (S2.out.call hb)
        clear hb
        go_wp2_with fail
        go_ret
        exact ⟨by rw [HF.out]; rfl, S3.out.bel⟩
      · have iN4 : decide (t.ds.length ≤ 100) = false := decide_eq_false (by omega)
        have iO4 : decide ((t.ds.length : Int) ≤ 100) = false := decide_eq_false (by omega)
        have iN5 : decide (t.fs.length ≤ 20) = true := decide_eq_true (by omega)
        have iO5 : decide ((t.fs.length : Int) ≤ 20) = true := decide_eq_true (by omega)
        have HN : Hid (fineB t = false) := Lib.hid (by cases e : fineB t with | false => rfl | true => exact absurd (fine_B.1 e).1.1 h4)
        clear hlt h4
        go_wp2_with fail
        go_ret
        exact ⟨by rw [HN.out]; rfl, S1.out.bel⟩
/-- The program's calls, as the statements take them (but for shown). -/
structure PF0 : Prop where
  lock : ∀ (X : Nat → Prop) (t : TabL) (i kind : Int) (ad af : Option Addr) (cap capf : Nat) (w : World), Old X w → TabX t (.slice ad t.ds.length cap) (.slice af t.fs.length capf) X w → SizeT t → RightT t → Calls Try.prog 11 #[tabV ad t.ds.length cap af t.fs.length capf, .int .i64 i, .int .i64 kind] w fun e w' => TabIs1 X (lockT t i kind).1 (lockT t i kind).2 e w w'
  holders : ∀ (X : Nat → Prop) (t : TabL) (ino : Int) (ad af : Option Addr) (cap capf : Nat) (w : World), Old X w → TabX t (.slice ad t.ds.length cap) (.slice af t.fs.length capf) X w → SizeT t → RightT t → Calls Try.prog 14 #[tabV ad t.ds.length cap af t.fs.length capf, .int .i64 ino] w fun e w' => e = .returned (.tuple #[.int .i64 (heldN t.ds ino 1), .int .i64 (heldN t.ds ino 2)]) ∧ Below w.heap.size w w'
  fair : ∀ (X : Nat → Prop) (t : TabL) (ad af : Option Addr) (cap capf : Nat) (w : World), Old X w → TabX t (.slice ad t.ds.length cap) (.slice af t.fs.length capf) X w → SizeT t → RightT t → Calls Try.prog 17 #[tabV ad t.ds.length cap af t.fs.length capf] w fun e w' => e = .returned (.bool (fairB t)) ∧ Below w.heap.size w w'
structure PF : Prop extends PF0 where
  shown : ∀ w : World, Calls Try.prog 10 #[] w fun e w' => e = .returned (.bool true) ∧ Below w.heap.size w w'
end Go.Proofs.Ytfcjmcenaankfaa
