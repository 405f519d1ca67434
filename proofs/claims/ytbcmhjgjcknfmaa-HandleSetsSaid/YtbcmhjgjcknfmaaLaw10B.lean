/-
  What the statements ask of the program's calls; fine, stays.
-/
import Derived.Test.YtbcmhjgjcknfmaaLaw10A
namespace Go.Proofs.Ytbcmhjgjcknfmaa
open Go.RowKit Go.Shelf
attribute [local go_sem ↓] Go.wp_at_zero Go.wp_at_succ

theorem wpList_load_rowG {P : Program} {ops : Array Oper} {rest : List Oper} {o : Oper} {a : Act} {w : World} {Q : Exit → Act → World → Prop} (hw : Region.wanted o (yielded ops a.tmps) = true) (ty : TypeId) (x : Operand) (ho : o.op = .load ty x)
    (g : Nat) (hx : a.eval x = .pointer (some ⟨g, 0, none⟩)) (t : TypeId) (cs : Array Value) (fr : Nat × Nat) (d : TypeDesc) (hg : w.heap[g]? = some (.cells cs t fr))
    (hu : P.underlying ty = some d) (hd : (match d with | .struct _ | .array _ _ => true | _ => false) = true) (hi : (P.info? ty).map (·.size) = some cs.size)
    (h : wpList P ops Q rest (a.put o.dst (.agg cs)) w) : wpList P ops Q (o :: rest) a w :=
  wpList_step fun _ hK => by rw [if_pos hw]; exact wp_load_row ty x ho g hx t cs fr d hg hu hd hi (hK _ _ h)
/-- The program's calls, as the statements take them. -/
structure PH : Prop where
  new : ∀ (X : Nat → Prop) (n : Int) (w : World), Old X w → Calls Try.prog 29 #[.int .i64 n] w fun e w' => TabIs X (newT n) e w w'
  opn : ∀ (X : Nat → Prop) (t : TabL) (p : Int) (x : DescL) (ad af : Option Addr) (cap capf : Nat) (w : World), Old X w → TabX t (.slice ad t.ds.length cap) (.slice af t.fs.length capf) X w → SizeT t → RightT t →
    Calls Try.prog 13 #[tabV ad t.ds.length cap af t.fs.length capf, .int .i64 p, dvalD x] w fun e w' => TabIs2 X (openT t p x).1 (.int .i64 (openT t p x).2.1) (openT t p x).2.2 e w w'
  get : ∀ (X : Nat → Prop) (t : TabL) (p fd : Int) (ad af : Option Addr) (cap capf : Nat) (w : World), Old X w → TabX t (.slice ad t.ds.length cap) (.slice af t.fs.length capf) X w → SizeT t → RightT t →
    Calls Try.prog 20 #[tabV ad t.ds.length cap af t.fs.length capf, .int .i64 p, .int .i64 fd] w fun e w' => GotIs t p fd e ∧ Below w.heap.size w w'
  set : ∀ (X : Nat → Prop) (t : TabL) (i : Int) (x : DescL) (ad af : Option Addr) (cap capf : Nat) (w : World), Old X w → TabX t (.slice ad t.ds.length cap) (.slice af t.fs.length capf) X w → SizeT t → RightT t →
    Calls Try.prog 24 #[tabV ad t.ds.length cap af t.fs.length capf, .int .i64 i, dvalD x] w fun e w' => TabIs X (setT t i x) e w w'
  dup : ∀ (X : Nat → Prop) (t : TabL) (p fd : Int) (ad af : Option Addr) (cap capf : Nat) (w : World), Old X w → TabX t (.slice ad t.ds.length cap) (.slice af t.fs.length capf) X w → SizeT t → RightT t →
    Calls Try.prog 15 #[tabV ad t.ds.length cap af t.fs.length capf, .int .i64 p, .int .i64 fd] w fun e w' => TabIs2 X (dupT t p fd).1 (.int .i64 (dupT t p fd).2.1) (dupT t p fd).2.2 e w w'
  close : ∀ (X : Nat → Prop) (t : TabL) (p fd : Int) (ad af : Option Addr) (cap capf : Nat) (w : World), Old X w → TabX t (.slice ad t.ds.length cap) (.slice af t.fs.length capf) X w → SizeT t → RightT t →
    Calls Try.prog 17 #[tabV ad t.ds.length cap af t.fs.length capf, .int .i64 p, .int .i64 fd] w fun e w' => TabIs2 X (closeT t p fd).1 (dvalD (closeT t p fd).2.1) (closeT t p fd).2.2 e w w'
  count : ∀ (X : Nat → Prop) (t : TabL) (p : Int) (ad af : Option Addr) (cap capf : Nat) (w : World), Old X w → TabX t (.slice ad t.ds.length cap) (.slice af t.fs.length capf) X w → SizeT t → RightT t →
    Calls Try.prog 22 #[tabV ad t.ds.length cap af t.fs.length capf, .int .i64 p] w fun e w' => e = .returned (.int .i64 (countT t p)) ∧ Below w.heap.size w w'
  right : ∀ (X : Nat → Prop) (t : TabL)  (ad af : Option Addr) (cap capf : Nat) (w : World), Old X w → TabX t (.slice ad t.ds.length cap) (.slice af t.fs.length capf) X w → SizeT t →
    Calls Try.prog 27 #[tabV ad t.ds.length cap af t.fs.length capf] w fun e w' => e = .returned (.bool (rightB t)) ∧ Below w.heap.size w w'
  shown : ∀ w : World, Calls Try.prog 11 #[] w fun e w' => e = .returned (.bool true) ∧ Below w.heap.size w w'
set_option maxRecDepth 100000 in
set_option maxHeartbeats 4000000 in
theorem fine_c (X : Nat → Prop) (t : TabL) (ad af : Option Addr) (cap capf : Nat) (w : World) (hX : Old X w) (hT : TabX t (.slice ad t.ds.length cap) (.slice af t.fs.length capf) X w) :
    Calls Try.prog 10 #[tabV ad t.ds.length cap af t.fs.length capf] w fun e w' => e = .returned (.bool (fineB t)) ∧ Below w.heap.size w w' := by
  have S0 := Lib.hid (Sf.start (G := [TabX t (.slice ad t.ds.length cap) (.slice af t.fs.length capf)]) hX (th1 (TabX.firm _ _ _) hT))
  clear hX hT
  go_enter Try.func10, Try.ntmps10
  go_upto_region 1 with (fail)
  refine code_fresh1 ?_
  intro W1 hb hA0 hs
  have S1 := Lib.hid (S0.out.new1 hb hA0)
  clear hb hA0 hs
  have h_d := (S1.out.at 0 rfl)
  go_wp2_with (first | (refine wpList_load_row rfl 25 _ rfl _ rfl 25 _ (0, 0) _ h_d Try.underlying25 rfl (by kernel_rfl) ?_))
  refine (small_c t _ _ _ _ _ (S1.out.g 0 rfl)).mono ?_
  rintro e W2 ⟨rfl, hb⟩
  clear h_d
  have S2 := Lib.hid (S1.out.call hb)
  clear hb
  cases hsm : smallB t with
  | false =>
    have HF : Hid (fineB t = false) := Lib.hid (by unfold fineB; rw [hsm]; rfl)
    clear hsm
    have h_d := (S2.out.at 0 rfl)
    go_wp2_with (first | (refine wpList_load_row rfl 25 _ rfl _ rfl 25 _ (0, 0) _ h_d Try.underlying25 rfl (by kernel_rfl) ?_) | (refine wpList_load_rowG rfl 25 _ rfl _ rfl 25 _ (0, 0) _ h_d Try.underlying25 rfl (by kernel_rfl) ?_))
    go_ret
    exact ⟨by rw [HF.out]; rfl, S2.out.bel⟩
  | true =>
    have HF : Hid (fineB t = rightB t) := Lib.hid (by unfold fineB; rw [hsm]; rfl)
    have HZ := Lib.hid (size_T (small_B.1 hsm) (by decide))
    clear hsm
    have h_d := (S2.out.at 0 rfl)
    go_wp2_with (first | (refine wpList_load_row rfl 25 _ rfl _ rfl 25 _ (0, 0) _ h_d Try.underlying25 rfl (by kernel_rfl) ?_) | (refine wpList_load_rowG rfl 25 _ rfl _ rfl 25 _ (0, 0) _ h_d Try.underlying25 rfl (by kernel_rfl) ?_))
    refine (its_c _ t _ _ _ _ _ S2.out.oldX (S2.out.g 0 rfl) HZ.out).mono ?_
    rintro e W3 ⟨ad2, cap2, rfl, hT2, hb⟩
    clear h_d
    have S3 := Lib.hid (S2.out.call hb)
    have HT2 := Lib.hid hT2
    clear hT2
    clear hb
    go_wp2_with fail
    refine (rrightH_c t _ _ _ _ _ HT2.out HZ.out).mono ?_
    rintro e W4 ⟨rfl, hb⟩
    have S4 := Lib.hid (S3.out.call hb)
    clear hb
    go_wp2_with fail
    go_ret
    exact ⟨by rw [HF.out]; rfl, S4.out.bel⟩
set_option maxRecDepth 100000 in
set_option maxHeartbeats 4000000 in
theorem stays_c (X : Nat → Prop) (t : TabL) (ad af : Option Addr) (cap capf : Nat) (w : World) (hX : Old X w) (hT : TabX t (.slice ad t.ds.length cap) (.slice af t.fs.length capf) X w) (hz : SizeT t) (hr : RightT t) :
    Calls Try.prog 31 #[tabV ad t.ds.length cap af t.fs.length capf] w fun e w' => e = .returned (.bool true) ∧ Below w.heap.size w w' := by
  have S0 := Lib.hid (Sf.start (G := [TabX t (.slice ad t.ds.length cap) (.slice af t.fs.length capf)]) hX (th1 (TabX.firm _ _ _) hT))
  have HZ := Lib.hid hz
  have HR := Lib.hid (right_B.2 hr)
  have iL : decide (t.ds.length ≤ 1000) = true := decide_eq_true hz.1
  have iM : decide ((t.ds.length : Int) ≤ 1000) = true := decide_eq_true (by have := hz.1; omega)
  clear hX hT hz hr
  go_enter Try.func31, Try.ntmps31
  go_upto_region 1 with (fail)
  refine code_fresh1 ?_
  intro W1 hb hA0 hs
  have S1 := Lib.hid (S0.out.new1 hb hA0)
  clear hb hA0 hs
  obtain ⟨d0, d1⟩ := cells2 (S1.out.at 0 rfl)
  have h_d := (S1.out.at 0 rfl)
  go_wp2_with (first | (refine wpList_load_row rfl 25 _ rfl _ rfl 25 _ (0, 0) _ h_d Try.underlying25 rfl (by kernel_rfl) ?_) | (refine wpList_load_rowG rfl 25 _ rfl _ rfl 25 _ (0, 0) _ h_d Try.underlying25 rfl (by kernel_rfl) ?_))
  refine (its_c _ t _ _ _ _ _ S1.out.oldX (S1.out.g 0 rfl) HZ.out).mono ?_
  rintro e W2 ⟨ad2, cap2, rfl, hT2, hb⟩
  clear d0 d1 h_d
  have S2 := Lib.hid (S1.out.call hb)
  have HT2 := Lib.hid hT2
  clear hT2
  clear hb
  go_wp2_with fail
  refine (rrightH_c t _ _ _ _ _ HT2.out HZ.out).mono ?_
  rintro e W3 ⟨rfl, hb⟩
  have S3 := Lib.hid (S2.out.call hb)
  rw [HR.out]
  clear hb
  go_wp2_with fail
  go_ret
  exact ⟨rfl, S3.out.bel⟩
end Go.Proofs.Ytbcmhjgjcknfmaa
