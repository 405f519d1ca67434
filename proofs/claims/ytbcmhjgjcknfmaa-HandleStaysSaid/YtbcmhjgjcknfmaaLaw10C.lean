/-
  A table that is right stays so: HandleStays.
-/
import Derived.Test.YtbcmhjgjcknfmaaLaw10B
namespace Go.Proofs.Ytbcmhjgjcknfmaa
open Go.RowKit Go.Shelf
attribute [local go_sem ↓] Go.wp_at_zero Go.wp_at_succ

set_option maxRecDepth 100000 in
set_option maxHeartbeats 4000000 in
theorem stays_l (pc : PH) (t : TabL) (p fd : Int) (x : DescL) (ad af : Option Addr) (cap capf : Nat) (w : World) (hT : TabX t (.slice ad t.ds.length cap) (.slice af t.fs.length capf) (fun _ => False) w) :
    Calls Try.prog 5 #[tabV ad t.ds.length cap af t.fs.length capf, .int .i64 p, .int .i64 fd, dvalD x] w fun e w' => e = .returned (.bool true) ∧ Below w.heap.size w w' := by
  have S0 := Lib.hid (Sf.start (G := [TabX t (.slice ad t.ds.length cap) (.slice af t.fs.length capf)]) (fun _ h => h.elim) (th1 (TabX.firm _ _ _) hT))
  clear hT
  go_enter Try.func5, Try.ntmps5
  go_upto_region 1 with (fail)
  refine code_fresh2 ?_
  intro W1 hb hA0 hA1 hs
  have S1 := Lib.hid (S0.out.new2 hb hA0 hA1)
  clear hb hA0 hA1 hs
  have h_d := (S1.out.at 0 rfl)
  go_wp2_with (first | (refine wpList_load_row rfl 25 _ rfl _ rfl 25 _ (0, 0) _ h_d Try.underlying25 rfl (by kernel_rfl) ?_) | (refine wpList_load_rowG rfl 25 _ rfl _ rfl 25 _ (0, 0) _ h_d Try.underlying25 rfl (by kernel_rfl) ?_))
  refine (fine_c _ t _ _ _ _ _ S1.out.oldX (S1.out.g 0 rfl)).mono ?_
  rintro e W2 ⟨rfl, hb⟩
  clear h_d
  have S2 := Lib.hid (S1.out.call hb)
  clear hb
  cases hfb : fineB t with
  | false =>
    clear hfb
    go_wp2_with fail
    refine (pc.shown W2).mono ?_
    rintro e W3 ⟨rfl, hb⟩
    have S3 := Lib.hid (S2.out.call hb)
    clear hb
    go_wp2_with fail
    go_ret
    exact ⟨rfl, S3.out.bel⟩
  | true =>
    have HFB := Lib.hid (fine_B.1 hfb)
    have HSZ := Lib.hid (size_T HFB.out.1 (by decide))
    clear hfb
    go_wp2_with fail
    refine (pc.shown W2).mono ?_
    rintro e W3 ⟨rfl, hb⟩
    have S3 := Lib.hid (S2.out.call hb)
    clear hb
    go_upto_region 3 with (fail)
    have h_d := (S3.out.at 0 rfl)
    have h_x := (S3.out.at 1 rfl)
    go_wp2_with (first | (refine wpList_load_row rfl 25 _ rfl _ rfl 25 _ (0, 0) _ h_d Try.underlying25 rfl (by kernel_rfl) ?_) | (refine wpList_load_rowG rfl 25 _ rfl _ rfl 25 _ (0, 0) _ h_d Try.underlying25 rfl (by kernel_rfl) ?_) | (refine wpList_load_row rfl 27 _ rfl _ rfl 27 _ (0, 0) _ h_x Try.underlying27 rfl (by kernel_rfl) ?_) | (refine wpList_load_rowG rfl 27 _ rfl _ rfl 27 _ (0, 0) _ h_x Try.underlying27 rfl (by kernel_rfl) ?_))
    refine (pc.opn _ t p x _ _ _ _ W3 S3.out.oldX (S3.out.g 0 rfl) HSZ.out HFB.out.2).mono ?_
    rintro e W4 ⟨vd4, vf4, rfl, hT4, hb⟩
    obtain ⟨ad4, cap4, af4, capf4, rfl, rfl⟩ := hT4.form
    clear h_d h_x
    obtain ⟨ta, hta⟩ : ∃ ta, ta = (openT t p x).1 := ⟨_, rfl⟩
    rw [← hta] at hT4 ⊢
    obtain ⟨ta1, hta1⟩ : ∃ ta1, ta1 = (openT t p x).2.1 := ⟨_, rfl⟩
    obtain ⟨ta2, hta2⟩ : ∃ ta2, ta2 = (openT t p x).2.2 := ⟨_, rfl⟩
    rw [← hta1, ← hta2]
    have Hta1 := Lib.hid hta1
    have Hta2 := Lib.hid hta2
    clear hta1 hta2
    have Hta := Lib.hid hta
    have S4 := Lib.hid ((S3.out.call hb).more (TabX.firm _ _ _) hT4)
    clear hta hb hT4
    go_upto_region 4 with (fail)
    refine code_fresh1 ?_
    intro W5 hb hA0 hs
    have S5 := Lib.hid (S4.out.new1 hb hA0)
    clear hb hA0 hs
    have h_d := (S5.out.at 0 rfl)
    go_wp2_with (first | (refine wpList_load_row rfl 25 _ rfl _ rfl 25 _ (0, 0) _ h_d Try.underlying25 rfl (by kernel_rfl) ?_) | (refine wpList_load_rowG rfl 25 _ rfl _ rfl 25 _ (0, 0) _ h_d Try.underlying25 rfl (by kernel_rfl) ?_))
    refine (pc.dup _ t p fd _ _ _ _ W5 S5.out.oldX (S5.out.g 0 rfl) HSZ.out HFB.out.2).mono ?_
    rintro e W6 ⟨vd6, vf6, rfl, hT6, hb⟩
    obtain ⟨ad6, cap6, af6, capf6, rfl, rfl⟩ := hT6.form
    clear h_d
    obtain ⟨tb, htb⟩ : ∃ tb, tb = (dupT t p fd).1 := ⟨_, rfl⟩
    rw [← htb] at hT6 ⊢
    obtain ⟨tb1, htb1⟩ : ∃ tb1, tb1 = (dupT t p fd).2.1 := ⟨_, rfl⟩
    obtain ⟨tb2, htb2⟩ : ∃ tb2, tb2 = (dupT t p fd).2.2 := ⟨_, rfl⟩
    rw [← htb1, ← htb2]
    have Htb1 := Lib.hid htb1
    have Htb2 := Lib.hid htb2
    clear htb1 htb2
    have Htb := Lib.hid htb
    have S6 := Lib.hid ((S5.out.call hb).more (TabX.firm _ _ _) hT6)
    clear htb hb hT6
    go_upto_region 5 with (fail)
    refine code_fresh1 ?_
    intro W7 hb hA0 hs
    have S7 := Lib.hid (S6.out.new1 hb hA0)
    clear hb hA0 hs
    have h_d := (S7.out.at 0 rfl)
    go_wp2_with (first | (refine wpList_load_row rfl 25 _ rfl _ rfl 25 _ (0, 0) _ h_d Try.underlying25 rfl (by kernel_rfl) ?_) | (refine wpList_load_rowG rfl 25 _ rfl _ rfl 25 _ (0, 0) _ h_d Try.underlying25 rfl (by kernel_rfl) ?_))
    refine (pc.close _ t p fd _ _ _ _ W7 S7.out.oldX (S7.out.g 0 rfl) HSZ.out HFB.out.2).mono ?_
    rintro e W8 ⟨vd8, vf8, rfl, hT8, hb⟩
    obtain ⟨ad8, cap8, af8, capf8, rfl, rfl⟩ := hT8.form
    clear h_d
    obtain ⟨tc, htc⟩ : ∃ tc, tc = (closeT t p fd).1 := ⟨_, rfl⟩
    rw [← htc] at hT8 ⊢
    obtain ⟨tc1, htc1⟩ : ∃ tc1, tc1 = (closeT t p fd).2.1 := ⟨_, rfl⟩
    obtain ⟨tc2, htc2⟩ : ∃ tc2, tc2 = (closeT t p fd).2.2 := ⟨_, rfl⟩
    rw [← htc1, ← htc2]
    have Htc1 := Lib.hid htc1
    have Htc2 := Lib.hid htc2
    clear htc1 htc2
    have Htc := Lib.hid htc
    have S8 := Lib.hid ((S7.out.call hb).more (TabX.firm _ _ _) hT8)
    clear htc hb hT8
    go_upto_region 6 with (fail)
    refine code_fresh2 ?_
    intro W9 hb hA0 hA1 hs
    have S9 := Lib.hid (S8.out.new2 hb hA0 hA1)
    clear hb hA0 hA1 hs
    have h_a := (S9.out.at 2 rfl)
    go_wp2_with (first | (refine wpList_load_row rfl 25 _ rfl _ rfl 25 _ (0, 0) _ h_a Try.underlying25 rfl (by kernel_rfl) ?_) | (refine wpList_load_rowG rfl 25 _ rfl _ rfl 25 _ (0, 0) _ h_a Try.underlying25 rfl (by kernel_rfl) ?_))
    refine (stays_c _ ta _ _ _ _ _ S9.out.oldX (S9.out.g 1 rfl) (by rw [Hta.out]; exact size_T (size_open HFB.out.1 p x) (by decide)) (by rw [Hta.out]; exact right_open HFB.out.2 p x)).mono ?_
    rintro e W10 ⟨rfl, hb⟩
    clear h_a
    have S10 := Lib.hid (S9.out.call hb)
    clear hb
    have h_b := (S10.out.at 3 rfl)
    go_wp2_with (first | (refine wpList_load_row rfl 25 _ rfl _ rfl 25 _ (0, 0) _ h_b Try.underlying25 rfl (by kernel_rfl) ?_) | (refine wpList_load_rowG rfl 25 _ rfl _ rfl 25 _ (0, 0) _ h_b Try.underlying25 rfl (by kernel_rfl) ?_))
    refine (stays_c _ tb _ _ _ _ _ S10.out.oldX (S10.out.g 2 rfl) (by rw [Htb.out]; exact size_T (size_dup HFB.out.1 p fd) (by decide)) (by rw [Htb.out]; exact right_dup HFB.out.2 p fd)).mono ?_
    rintro e W11 ⟨rfl, hb⟩
    clear h_b
    have S11 := Lib.hid (S10.out.call hb)
    clear hb
    have h_c := (S11.out.at 4 rfl)
    go_wp2_with (first | (refine wpList_load_row rfl 25 _ rfl _ rfl 25 _ (0, 0) _ h_c Try.underlying25 rfl (by kernel_rfl) ?_) | (refine wpList_load_rowG rfl 25 _ rfl _ rfl 25 _ (0, 0) _ h_c Try.underlying25 rfl (by kernel_rfl) ?_))
    refine (stays_c _ tc _ _ _ _ _ S11.out.oldX (S11.out.g 3 rfl) (by rw [Htc.out]; exact size_T (size_close HFB.out.1 p fd) (by decide)) (by rw [Htc.out]; exact right_close HFB.out.2 p fd)).mono ?_
    rintro e W12 ⟨rfl, hb⟩
    clear h_c
    have S12 := Lib.hid (S11.out.call hb)
    clear hb
    have h_d := (S12.out.at 0 rfl)
    have h_x := (S12.out.at 1 rfl)
    go_wp2_with (first | (refine wpList_load_row rfl 25 _ rfl _ rfl 25 _ (0, 0) _ h_d Try.underlying25 rfl (by kernel_rfl) ?_) | (refine wpList_load_rowG rfl 25 _ rfl _ rfl 25 _ (0, 0) _ h_d Try.underlying25 rfl (by kernel_rfl) ?_) | (refine wpList_load_row rfl 27 _ rfl _ rfl 27 _ (0, 0) _ h_x Try.underlying27 rfl (by kernel_rfl) ?_) | (refine wpList_load_rowG rfl 27 _ rfl _ rfl 27 _ (0, 0) _ h_x Try.underlying27 rfl (by kernel_rfl) ?_))
    refine (pc.set _ t fd x _ _ _ _ W12 S12.out.oldX (S12.out.g 0 rfl) HSZ.out HFB.out.2).mono ?_
    rintro e W13 ⟨vd13, vf13, rfl, hT13, hb⟩
    obtain ⟨ad13, cap13, af13, capf13, rfl, rfl⟩ := hT13.form
    clear h_d h_x
    obtain ⟨te, hte⟩ : ∃ te, te = setT t fd x := ⟨_, rfl⟩
    rw [← hte] at hT13 ⊢
    have Hte := Lib.hid hte
    have S13 := Lib.hid ((S12.out.call hb).more (TabX.firm _ _ _) hT13)
    clear hte hb hT13
    go_wp2_with fail
    refine (stays_c _ te _ _ _ _ _ S13.out.oldX (S13.out.g 4 rfl) (by rw [Hte.out]; exact size_T (size_setT HFB.out.1 fd x) (by decide)) (by rw [Hte.out]; exact right_set HFB.out.2 fd x)).mono ?_
    rintro e W14 ⟨rfl, hb⟩
    have S14 := Lib.hid (S13.out.call hb)
    clear hb
    go_wp2_with fail
    go_ret
    exact ⟨rfl, S14.out.bel⟩
end Go.Proofs.Ytbcmhjgjcknfmaa
