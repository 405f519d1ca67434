/-
  What one process does no other sees; what is set: HandleOther, HandleSets.
-/
import Derived.Test.YtbcmhjgjcknfmaaLaw10B
namespace Go.Proofs.Ytbcmhjgjcknfmaa
open Go.RowKit Go.Shelf
attribute [local go_sem ↓] Go.wp_at_zero Go.wp_at_succ

theorem Sf.left {X : Nat → Prop} {w W : World} {B C : List Bl} {G : List Thing} (h : Sf X w (B ++ C) G W) : Sf X w B G W := h.leave (List.sublist_append_left _ _)
theorem eqDescH (x y : DescL) (w : World) : (Op.equalIn 10000 27 (dvalD x) (dvalD y)).run Try.prog w = .ok (decide (x = y)) w := by
  have u3 := Try.underlying3
  have u4 := Try.underlying4
  have a3 := Try.isAgg3
  have a4 := Try.isAgg4
  have hS : Try.prog.underlying 27 = some (.struct (Try.prog.fieldsOf 27)) := by kernel_rfl
  rw [show (10000 : Nat) = 9998 + 1 + 1 from rfl, run_equalIn_agg w (9998 + 1) 27 _ _ hS (by kernel_rfl)]
  simp only [Program.fieldsOf, Try.underlying27]
  go_simp
  obtain ⟨x1, x2, x3, x4, x5, x6⟩ := x
  obtain ⟨y1, y2, y3, y4, y5, y6⟩ := y
  by_cases h1 : x1 = y1 <;> by_cases h2 : x2 = y2 <;> by_cases h3 : x3 = y3 <;> by_cases h4 : x4 = y4 <;> by_cases h5 : x5 = y5 <;> by_cases h6 : x6 = y6 <;> simp [h1, h2, h3, h4, h5, h6]
theorem eqDescHG : Try.prog.eqGuardType Try.prog.depth 27 = false := by kernel_rfl
set_option maxRecDepth 100000 in
set_option maxHeartbeats 4000000 in
theorem other_l (pc : PH) (t : TabL) (p q fd : Int) (x : DescL) (ad af : Option Addr) (cap capf : Nat) (w : World) (hT : TabX t (.slice ad t.ds.length cap) (.slice af t.fs.length capf) (fun _ => False) w) :
    Calls Try.prog 8 #[tabV ad t.ds.length cap af t.fs.length capf, .int .i64 p, .int .i64 q, .int .i64 fd, dvalD x] w fun e w' => e = .returned (.bool true) ∧ Below w.heap.size w w' := by
  have S0 := Lib.hid (Sf.start (G := [TabX t (.slice ad t.ds.length cap) (.slice af t.fs.length capf)]) (fun _ h => h.elim) (th1 (TabX.firm _ _ _) hT))
  clear hT
  have hgd := eqDescHG
  go_enter Try.func8, Try.ntmps8
  go_upto_region 1 with (fail)
  refine code_fresh2 ?_
  intro W1 hb hA0 hA1 hs
  have S1 := Lib.hid (S0.out.new2 hb hA0 hA1)
  clear hb hA0 hA1 hs
  have h_d := (S1.out.at 0 rfl)
  go_wp2_with (first | (refine wpList_load_row rfl 25 _ rfl _ rfl 25 _ (0, 0) _ h_d Try.underlying25 rfl (by kernel_rfl) ?_) | (refine wpList_load_rowG rfl 25 _ rfl _ rfl 25 _ (0, 0) _ h_d Try.underlying25 rfl (by kernel_rfl) ?_))
  refine (fine_c _ t _ _ _ _ _ S1.out.oldX (S1.out.g 0 rfl)).mono ?_
  rintro e W2 ⟨rfl, hb⟩
  clear h_d
  have S2 := Lib.hid (S1.out.call hb)
  clear hb
  cases hfb : fineB t with
  | false =>
    clear hfb
    go_wp2_with fail
    refine (pc.shown W2).mono ?_
    rintro e W3 ⟨rfl, hb⟩
    have S3 := Lib.hid (S2.out.call hb)
    clear hb
    go_wp2_with fail
    go_ret
    exact ⟨rfl, S3.out.bel⟩
  | true =>
    have HFB := Lib.hid (fine_B.1 hfb)
    have HSZ := Lib.hid (size_T HFB.out.1 (by decide))
    clear hfb
    by_cases hpq : p = q
    · have q1 : (p == q) = true := by simpa using hpq
      have q2 : decide (p = q) = true := decide_eq_true hpq
      clear hpq
      go_wp2_with fail
      refine (pc.shown W2).mono ?_
      rintro e W3 ⟨rfl, hb⟩
      have S3 := Lib.hid (S2.out.call hb)
      clear hb
      go_wp2_with fail
      go_ret
      exact ⟨rfl, S3.out.bel⟩
    · have q1 : (p == q) = false := by simpa using hpq
      have q2 : decide (p = q) = false := decide_eq_false hpq
      have HPQ := Lib.hid hpq
      clear hpq
      go_wp2_with fail
      refine (pc.shown W2).mono ?_
      rintro e W3 ⟨rfl, hb⟩
      have S3 := Lib.hid (S2.out.call hb)
      clear hb
      go_upto_region 3 with (fail)
      clear q1 q2
      have h_d := (S3.out.at 0 rfl)
      have h_x := (S3.out.at 1 rfl)
      go_wp2_with (first | (refine wpList_load_row rfl 25 _ rfl _ rfl 25 _ (0, 0) _ h_d Try.underlying25 rfl (by kernel_rfl) ?_) | (refine wpList_load_rowG rfl 25 _ rfl _ rfl 25 _ (0, 0) _ h_d Try.underlying25 rfl (by kernel_rfl) ?_) | (refine wpList_load_row rfl 27 _ rfl _ rfl 27 _ (0, 0) _ h_x Try.underlying27 rfl (by kernel_rfl) ?_) | (refine wpList_load_rowG rfl 27 _ rfl _ rfl 27 _ (0, 0) _ h_x Try.underlying27 rfl (by kernel_rfl) ?_))
      refine (pc.opn _ t p x _ _ _ _ W3 S3.out.oldX (S3.out.g 0 rfl) HSZ.out HFB.out.2).mono ?_
      rintro e W4 ⟨vd4, vf4, rfl, hT4, hb⟩
      obtain ⟨ad4, cap4, af4, capf4, rfl, rfl⟩ := hT4.form
      clear h_d h_x
      obtain ⟨ta, hta⟩ : ∃ ta, ta = (openT t p x).1 := ⟨_, rfl⟩
      rw [← hta] at hT4 ⊢
      obtain ⟨ta1, hta1⟩ : ∃ ta1, ta1 = (openT t p x).2.1 := ⟨_, rfl⟩
      obtain ⟨ta2, hta2⟩ : ∃ ta2, ta2 = (openT t p x).2.2 := ⟨_, rfl⟩
      rw [← hta1, ← hta2]
      have Hta1 := Lib.hid hta1
      have Hta2 := Lib.hid hta2
      clear hta1 hta2
      have Hta := Lib.hid hta
      have S4 := Lib.hid ((S3.out.call hb).more (TabX.firm _ _ _) hT4)
      clear hta hb hT4
      go_upto_region 4 with (fail)
      refine code_fresh1 ?_
      intro W5 hb hA0 hs
      have S5 := Lib.hid (S4.out.new1 hb hA0)
      clear hb hA0 hs
      have h_d := (S5.out.at 0 rfl)
      go_wp2_with (first | (refine wpList_load_row rfl 25 _ rfl _ rfl 25 _ (0, 0) _ h_d Try.underlying25 rfl (by kernel_rfl) ?_) | (refine wpList_load_rowG rfl 25 _ rfl _ rfl 25 _ (0, 0) _ h_d Try.underlying25 rfl (by kernel_rfl) ?_))
      refine (pc.close _ t p fd _ _ _ _ W5 S5.out.oldX (S5.out.g 0 rfl) HSZ.out HFB.out.2).mono ?_
      rintro e W6 ⟨vd6, vf6, rfl, hT6, hb⟩
      obtain ⟨ad6, cap6, af6, capf6, rfl, rfl⟩ := hT6.form
      clear h_d
      obtain ⟨tc, htc⟩ : ∃ tc, tc = (closeT t p fd).1 := ⟨_, rfl⟩
      rw [← htc] at hT6 ⊢
      obtain ⟨tc1, htc1⟩ : ∃ tc1, tc1 = (closeT t p fd).2.1 := ⟨_, rfl⟩
      obtain ⟨tc2, htc2⟩ : ∃ tc2, tc2 = (closeT t p fd).2.2 := ⟨_, rfl⟩
      rw [← htc1, ← htc2]
      have Htc1 := Lib.hid htc1
      have Htc2 := Lib.hid htc2
      clear htc1 htc2
      have Htc := Lib.hid htc
      have S6 := Lib.hid ((S5.out.call hb).more (TabX.firm _ _ _) hT6)
      clear htc hb hT6
      go_upto_region 5 with (fail)
      refine code_fresh2 ?_
      intro W7 hb hA0 hA1 hs
      have S7 := Lib.hid (S6.out.new2 hb hA0 hA1)
      clear hb hA0 hA1 hs
      have HA := Lib.hid (show SizeT ta ∧ RightT ta ∧ ∀ m, hasT ta q m = hasT t q m ∧ placeT ta q m = placeT t q m ∧ foundT ta q m = foundT t q m by rw [Hta.out]; exact ⟨size_T (size_open HFB.out.1 p x) (by decide), right_open HFB.out.2 p x, fun m => other_open HFB.out.2 HPQ.out x m⟩)
      have HC := Lib.hid (show SizeT tc ∧ RightT tc ∧ ∀ m, hasT tc q m = hasT t q m ∧ placeT tc q m = placeT t q m ∧ (foundT tc q m).ino = (foundT t q m).ino ∧ (foundT tc q m).pos = (foundT t q m).pos by rw [Htc.out]; exact ⟨size_T (size_close HFB.out.1 p fd) (by decide), right_close HFB.out.2 p fd, fun m => other_close HFB.out.2 HPQ.out fd m⟩)
      go_wp2_with fail
      go_loopw [17] (fun i wr => ∃ k : Nat, i = .int .i64 k ∧ k ≤ 8 ∧ Hid (Sf (fun _ => False) w [(w.heap.size, #[.slice ad t.ds.length cap, .slice af t.fs.length capf], 25), (w.heap.size + 1, #[.int .i64 x.ino, .int .i64 x.pos, .bool x.rd, .bool x.wr, .int .i64 x.refs, .int .i64 x.lock], 27), (W4.heap.size, #[.slice ad4 ta.ds.length cap4, .slice af4 ta.fs.length capf4], 25), (W6.heap.size, #[.slice ad6 tc.ds.length cap6, .slice af6 tc.fs.length capf6], 25), (W6.heap.size + 1, #[.int .i64 tc1.ino, .int .i64 tc1.pos, .bool tc1.rd, .bool tc1.wr, .int .i64 tc1.refs, .int .i64 tc1.lock], 27)] [TabX t (.slice ad t.ds.length cap) (.slice af t.fs.length capf), TabX ta (.slice ad4 ta.ds.length cap4) (.slice af4 ta.fs.length capf4), TabX tc (.slice ad6 tc.ds.length cap6) (.slice af6 tc.fs.length capf6)] wr)) (fun i _ => 8 - (RowKit.intOf i).toNat)
      case atStart => exact ⟨0, rfl, by decide, S7⟩
      case round =>
        clear S7
        obtain ⟨k, rfl, hk, S30⟩ := hrel
        by_cases hlt : k < 8
        · have iL : decide (k < 8) = true := decide_eq_true hlt
          have iM : decide ((k : Int) < 8) = true := decide_eq_true (by omega)
          have wk : IntKind.i64.wrap ((k : Int) + 1) = (k : Int) + 1 := Go.IntWalk.i64_in _ (by omega)
          obtain ⟨pl, hpl⟩ : ∃ pl, pl = placeT t q k := ⟨_, rfl⟩
          obtain ⟨y, hy⟩ : ∃ y, y = foundT t q k := ⟨_, rfl⟩
          obtain ⟨hs, hhs⟩ : ∃ hs, hs = hasT t q k := ⟨_, rfl⟩
          obtain ⟨v, hv⟩ : ∃ v, v = foundT tc q k := ⟨_, rfl⟩
          have A1 := HA.out.2.2 k
          have A2 := HC.out.2.2 k
          rw [← hpl, ← hy, ← hhs] at A1 A2
          rw [← hv] at A2
          have HA1 := Lib.hid A1
          have HA2 := Lib.hid A2
          have HPL := Lib.hid hpl
          have HY := Lib.hid hy
          have HHS := Lib.hid hhs
          have HV := Lib.hid hv
          clear A1 A2 hpl hy hhs hv
          go_upto_region 8 with (fail)
          have h_d := (S30.out.at 0 rfl)
          go_wp2_with (first | (refine wpList_load_row rfl 25 _ rfl _ rfl 25 _ (0, 0) _ h_d Try.underlying25 rfl (by kernel_rfl) ?_) | (refine wpList_load_rowG rfl 25 _ rfl _ rfl 25 _ (0, 0) _ h_d Try.underlying25 rfl (by kernel_rfl) ?_))
          refine (pc.get _ t q k _ _ _ _ wr S30.out.oldX (S30.out.g 0 rfl) HSZ.out HFB.out.2).mono ?_
          rintro e W28 ⟨hgot, hb⟩
          clear h_d
          have S28 := Lib.hid (S30.out.call hb)
          unfold GotIs at hgot
          subst hgot
          clear hb
          rw [← HPL.out, ← HY.out, ← HHS.out]
          go_upto_region 9 with (fail)
          refine code_fresh1 ?_
          intro W29 hb hA0 hs
          have S29 := Lib.hid (S28.out.new1 hb hA0)
          clear hb hA0 hs
          have h_a := (S29.out.at 2 rfl)
          go_wp2_with (first | (refine wpList_load_row rfl 25 _ rfl _ rfl 25 _ (0, 0) _ h_a Try.underlying25 rfl (by kernel_rfl) ?_) | (refine wpList_load_rowG rfl 25 _ rfl _ rfl 25 _ (0, 0) _ h_a Try.underlying25 rfl (by kernel_rfl) ?_))
          refine (pc.get _ ta q k _ _ _ _ W29 S29.out.oldX (S29.out.g 1 rfl) HA.out.1 HA.out.2.1).mono ?_
          rintro e W30 ⟨hgot, hb⟩
          clear h_a
          have S30 := Lib.hid (S29.out.call hb)
          unfold GotIs at hgot
          subst hgot
          clear hb
          rw [HA1.out.1, HA1.out.2.1, HA1.out.2.2]
          go_upto_region 10 with (fail)
          refine code_fresh1 ?_
          intro W31 hb hA0 hs
          have S31 := Lib.hid (S30.out.new1 hb hA0)
          clear hb hA0 hs
          have h_c := (S31.out.at 3 rfl)
          go_wp2_with (first | (refine wpList_load_row rfl 25 _ rfl _ rfl 25 _ (0, 0) _ h_c Try.underlying25 rfl (by kernel_rfl) ?_) | (refine wpList_load_rowG rfl 25 _ rfl _ rfl 25 _ (0, 0) _ h_c Try.underlying25 rfl (by kernel_rfl) ?_))
          refine (pc.get _ tc q k _ _ _ _ W31 S31.out.oldX (S31.out.g 2 rfl) HC.out.1 HC.out.2.1).mono ?_
          rintro e W32 ⟨hgot, hb⟩
          clear h_c
          have S32 := Lib.hid (S31.out.call hb)
          unfold GotIs at hgot
          subst hgot
          clear hb
          rw [HA2.out.1, HA2.out.2.1, ← HV.out]
          go_upto_region 11 with (fail)
          refine code_fresh1 ?_
          intro W33 hb hA0 hs
          have S33 := Lib.hid (S32.out.new1 hb hA0)
          clear hb hA0 hs
          have heq : ∀ w, (Op.equalIn 10000 27 (.agg #[.int .i64 y.ino, .int .i64 y.pos, .bool y.rd, .bool y.wr, .int .i64 y.refs, .int .i64 y.lock]) (.agg #[.int .i64 y.ino, .int .i64 y.pos, .bool y.rd, .bool y.wr, .int .i64 y.refs, .int .i64 y.lock])).run Try.prog w = .ok (decide (y = y)) w := fun w => eqDescH y y w
          have hyy : decide (y = y) = true := decide_eq_true rfl
          obtain ⟨y0, y1, -, -, -, -⟩ := cells6 (S33.out.at 5 rfl)
          obtain ⟨v0, v1, -, -, -, -⟩ := cells6 (S33.out.at 7 rfl)
          rw [HA2.out.2.2.1] at v0
          rw [HA2.out.2.2.2] at v1
          have h_y := (S33.out.at 5 rfl)
          have h_z := (S33.out.at 6 rfl)
          go_wp2_with (first | (refine wpList_load_row rfl 27 _ rfl _ rfl 27 _ (0, 0) _ h_y Try.underlying27 rfl (by kernel_rfl) ?_) | (refine wpList_load_rowG rfl 27 _ rfl _ rfl 27 _ (0, 0) _ h_y Try.underlying27 rfl (by kernel_rfl) ?_) | (refine wpList_load_row rfl 27 _ rfl _ rfl 27 _ (0, 0) _ h_z Try.underlying27 rfl (by kernel_rfl) ?_) | (refine wpList_load_rowG rfl 27 _ rfl _ rfl 27 _ (0, 0) _ h_z Try.underlying27 rfl (by kernel_rfl) ?_))
          go_roundw
          case rel => exact ⟨k + 1, by go_num, hlt, S33.out.left.left.left⟩
          case measure => simp [RowKit.intOf]; omega
        · have iL : decide (k < 8) = false := decide_eq_false hlt
          have iM : decide ((k : Int) < 8) = false := decide_eq_false (by omega)
          clear hlt
          go_wp2_with fail
          go_ret
          exact ⟨rfl, S30.out.bel⟩
end Go.Proofs.Ytbcmhjgjcknfmaa
