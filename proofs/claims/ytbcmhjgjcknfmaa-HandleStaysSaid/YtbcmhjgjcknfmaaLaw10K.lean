/-
  The example of the statements: shown.
-/
import Derived.Test.YtbcmhjgjcknfmaaLaw10D
namespace Go.Proofs.Ytbcmhjgjcknfmaa
open Go.RowKit Go.Shelf
attribute [local go_sem ↓] Go.wp_at_zero Go.wp_at_succ

structure PH0 : Prop where
  new : ∀ (X : Nat → Prop) (n : Int) (w : World), Old X w → Calls Try.prog 29 #[.int .i64 n] w fun e w' => TabIs X (newT n) e w w'
  opn : ∀ (X : Nat → Prop) (t : TabL) (p : Int) (x : DescL) (ad af : Option Addr) (cap capf : Nat) (w : World), Old X w → TabX t (.slice ad t.ds.length cap) (.slice af t.fs.length capf) X w → SizeT t → RightT t →
    Calls Try.prog 13 #[tabV ad t.ds.length cap af t.fs.length capf, .int .i64 p, dvalD x] w fun e w' => TabIs2 X (openT t p x).1 (.int .i64 (openT t p x).2.1) (openT t p x).2.2 e w w'
  get : ∀ (X : Nat → Prop) (t : TabL) (p fd : Int) (ad af : Option Addr) (cap capf : Nat) (w : World), Old X w → TabX t (.slice ad t.ds.length cap) (.slice af t.fs.length capf) X w → SizeT t → RightT t →
    Calls Try.prog 20 #[tabV ad t.ds.length cap af t.fs.length capf, .int .i64 p, .int .i64 fd] w fun e w' => GotIs t p fd e ∧ Below w.heap.size w w'
  set : ∀ (X : Nat → Prop) (t : TabL) (i : Int) (x : DescL) (ad af : Option Addr) (cap capf : Nat) (w : World), Old X w → TabX t (.slice ad t.ds.length cap) (.slice af t.fs.length capf) X w → SizeT t → RightT t →
    Calls Try.prog 24 #[tabV ad t.ds.length cap af t.fs.length capf, .int .i64 i, dvalD x] w fun e w' => TabIs X (setT t i x) e w w'
  dup : ∀ (X : Nat → Prop) (t : TabL) (p fd : Int) (ad af : Option Addr) (cap capf : Nat) (w : World), Old X w → TabX t (.slice ad t.ds.length cap) (.slice af t.fs.length capf) X w → SizeT t → RightT t →
    Calls Try.prog 15 #[tabV ad t.ds.length cap af t.fs.length capf, .int .i64 p, .int .i64 fd] w fun e w' => TabIs2 X (dupT t p fd).1 (.int .i64 (dupT t p fd).2.1) (dupT t p fd).2.2 e w w'
  close : ∀ (X : Nat → Prop) (t : TabL) (p fd : Int) (ad af : Option Addr) (cap capf : Nat) (w : World), Old X w → TabX t (.slice ad t.ds.length cap) (.slice af t.fs.length capf) X w → SizeT t → RightT t →
    Calls Try.prog 17 #[tabV ad t.ds.length cap af t.fs.length capf, .int .i64 p, .int .i64 fd] w fun e w' => TabIs2 X (closeT t p fd).1 (dvalD (closeT t p fd).2.1) (closeT t p fd).2.2 e w w'
  count : ∀ (X : Nat → Prop) (t : TabL) (p : Int) (ad af : Option Addr) (cap capf : Nat) (w : World), Old X w → TabX t (.slice ad t.ds.length cap) (.slice af t.fs.length capf) X w → SizeT t → RightT t →
    Calls Try.prog 22 #[tabV ad t.ds.length cap af t.fs.length capf, .int .i64 p] w fun e w' => e = .returned (.int .i64 (countT t p)) ∧ Below w.heap.size w w'
  right : ∀ (X : Nat → Prop) (t : TabL)  (ad af : Option Addr) (cap capf : Nat) (w : World), Old X w → TabX t (.slice ad t.ds.length cap) (.slice af t.fs.length capf) X w → SizeT t →
    Calls Try.prog 27 #[tabV ad t.ds.length cap af t.fs.length capf] w fun e w' => e = .returned (.bool (rightB t)) ∧ Below w.heap.size w w'
set_option maxHeartbeats 8000000 in
set_option maxRecDepth 100000 in
theorem shown_w (pc : PH0) (w : World) : Calls Try.prog 11 #[] w fun e w' => e = .returned (.bool true) ∧ Below w.heap.size w w' := by
  have S0 := Lib.hid (Sf.start (X := fun _ => False) (w := w) (G := []) (fun _ h => h.elim) th0)
  go_enter Try.func11, Try.ntmps11
  go_wp2_with fail
  refine (pc.new _ 2 w S0.out.oldX).mono ?_
  rintro e W1 ⟨vd1, vf1, rfl, hT1, hb⟩
  obtain ⟨ad1, cap1, af1, capf1, rfl, rfl⟩ := hT1.form
  obtain ⟨tn, htn⟩ : ∃ tn, tn = newT 2 := ⟨_, rfl⟩
  rw [← htn] at hT1 ⊢
  have HN := Lib.hid htn
  have S1 := Lib.hid ((S0.out.call hb).more (TabX.firm _ _ _) hT1)
  clear htn hb hT1
  have HM0 := Lib.hid (show SizeM 0 tn by rw [HN.out]; exact ⟨by decide, by decide, by decide⟩)
  have HR0 := Lib.hid (show RightT tn by rw [HN.out]; exact right_new 2)
  go_upto_region 2 with (fail)
  refine code_fresh1 ?_
  intro W2 hb hA0 hs
  have S2 := Lib.hid (S1.out.new1 hb hA0)
  clear hb hA0 hs
  have h_t := (S2.out.at 0 rfl)
  go_wp2_with (first | (refine wpList_load_row rfl 25 _ rfl _ rfl 25 _ (0, 0) _ h_t Try.underlying25 rfl (by kernel_rfl) ?_) | (refine wpList_load_rowG rfl 25 _ rfl _ rfl 25 _ (0, 0) _ h_t Try.underlying25 rfl (by kernel_rfl) ?_))
  refine (pc.opn _ tn 1 ⟨5, 0, true, false, 0, 0⟩ _ _ _ _ W2 S2.out.oldX (S2.out.g 0 rfl) (size_T HM0.out (by decide)) HR0.out).mono ?_
  rintro e W3 ⟨vd3, vf3, rfl, hT3, hb⟩
  obtain ⟨ad3, cap3, af3, capf3, rfl, rfl⟩ := hT3.form
  clear h_t
  obtain ⟨ta, hta⟩ : ∃ ta, ta = (openT tn 1 ⟨5, 0, true, false, 0, 0⟩).1 := ⟨_, rfl⟩
  rw [← hta] at hT3 ⊢
  obtain ⟨ta1, hta1⟩ : ∃ ta1, ta1 = (openT tn 1 ⟨5, 0, true, false, 0, 0⟩).2.1 := ⟨_, rfl⟩
  obtain ⟨ta2, hta2⟩ : ∃ ta2, ta2 = (openT tn 1 ⟨5, 0, true, false, 0, 0⟩).2.2 := ⟨_, rfl⟩
  rw [← hta1, ← hta2]
  have Hta1 := Lib.hid hta1
  have Hta2 := Lib.hid hta2
  clear hta1 hta2
  have Hta := Lib.hid hta
  have S3 := Lib.hid ((S2.out.call hb).more (TabX.firm _ _ _) hT3)
  clear hta hb hT3
  have hv : ta1 = 0 := by rw [Hta1.out, HN.out]; first | done | kernel_rfl
  subst hv
  have hv : ta2 = 0 := by rw [Hta2.out, HN.out]; first | done | kernel_rfl
  subst hv
  have HM1 := Lib.hid (show SizeM 1 ta by rw [Hta.out]; exact size_open HM0.out _ _)
  have HR1 := Lib.hid (show RightT ta by rw [Hta.out]; exact right_open HR0.out _ _)
  go_upto_region 3 with (fail)
  refine code_fresh1 ?_
  intro W4 hb hA0 hs
  have S4 := Lib.hid (S3.out.new1 hb hA0)
  clear hb hA0 hs
  have h_a := (S4.out.at 1 rfl)
  go_wp2_with (first | (refine wpList_load_row rfl 25 _ rfl _ rfl 25 _ (0, 0) _ h_a Try.underlying25 rfl (by kernel_rfl) ?_) | (refine wpList_load_rowG rfl 25 _ rfl _ rfl 25 _ (0, 0) _ h_a Try.underlying25 rfl (by kernel_rfl) ?_))
  refine (pc.opn _ ta 1 ⟨6, 0, false, false, 0, 0⟩ _ _ _ _ W4 S4.out.oldX (S4.out.g 1 rfl) (size_T HM1.out (by decide)) HR1.out).mono ?_
  rintro e W5 ⟨vd5, vf5, rfl, hT5, hb⟩
  obtain ⟨ad5, cap5, af5, capf5, rfl, rfl⟩ := hT5.form
  clear h_a
  obtain ⟨tb, htb⟩ : ∃ tb, tb = (openT ta 1 ⟨6, 0, false, false, 0, 0⟩).1 := ⟨_, rfl⟩
  rw [← htb] at hT5 ⊢
  obtain ⟨tb1, htb1⟩ : ∃ tb1, tb1 = (openT ta 1 ⟨6, 0, false, false, 0, 0⟩).2.1 := ⟨_, rfl⟩
  obtain ⟨tb2, htb2⟩ : ∃ tb2, tb2 = (openT ta 1 ⟨6, 0, false, false, 0, 0⟩).2.2 := ⟨_, rfl⟩
  rw [← htb1, ← htb2]
  have Htb1 := Lib.hid htb1
  have Htb2 := Lib.hid htb2
  clear htb1 htb2
  have Htb := Lib.hid htb
  have S5 := Lib.hid ((S4.out.call hb).more (TabX.firm _ _ _) hT5)
  clear htb hb hT5
  have hv : tb1 = 1 := by rw [Htb1.out, Hta.out, HN.out]; first | done | kernel_rfl
  subst hv
  have hv : tb2 = 0 := by rw [Htb2.out, Hta.out, HN.out]; first | done | kernel_rfl
  subst hv
  have HM2 := Lib.hid (show SizeM 2 tb by rw [Htb.out]; exact size_open HM1.out _ _)
  have HR2 := Lib.hid (show RightT tb by rw [Htb.out]; exact right_open HR1.out _ _)
  go_upto_region 4 with (fail)
  refine code_fresh1 ?_
  intro W6 hb hA0 hs
  have S6 := Lib.hid (S5.out.new1 hb hA0)
  clear hb hA0 hs
  have h_b := (S6.out.at 2 rfl)
  go_wp2_with (first | (refine wpList_load_row rfl 25 _ rfl _ rfl 25 _ (0, 0) _ h_b Try.underlying25 rfl (by kernel_rfl) ?_) | (refine wpList_load_rowG rfl 25 _ rfl _ rfl 25 _ (0, 0) _ h_b Try.underlying25 rfl (by kernel_rfl) ?_))
  refine (pc.close _ tb 1 0 _ _ _ _ W6 S6.out.oldX (S6.out.g 2 rfl) (size_T HM2.out (by decide)) HR2.out).mono ?_
  rintro e W7 ⟨vd7, vf7, rfl, hT7, hb⟩
  obtain ⟨ad7, cap7, af7, capf7, rfl, rfl⟩ := hT7.form
  clear h_b
  obtain ⟨tc, htc⟩ : ∃ tc, tc = (closeT tb 1 0).1 := ⟨_, rfl⟩
  rw [← htc] at hT7 ⊢
  obtain ⟨tc1, htc1⟩ : ∃ tc1, tc1 = (closeT tb 1 0).2.1 := ⟨_, rfl⟩
  obtain ⟨tc2, htc2⟩ : ∃ tc2, tc2 = (closeT tb 1 0).2.2 := ⟨_, rfl⟩
  rw [← htc1, ← htc2]
  have Htc1 := Lib.hid htc1
  have Htc2 := Lib.hid htc2
  clear htc1 htc2
  have Htc := Lib.hid htc
  have S7 := Lib.hid ((S6.out.call hb).more (TabX.firm _ _ _) hT7)
  clear htc hb hT7
  have HC0 := Lib.hid (show tc1.ino = 5 by rw [Htc1.out, Htb.out, Hta.out, HN.out]; first | done | kernel_rfl)
  have HC4 := Lib.hid (show tc1.refs = 0 by rw [Htc1.out, Htb.out, Hta.out, HN.out]; first | done | kernel_rfl)
  have hv : tc2 = 0 := by rw [Htc2.out, Htb.out, Hta.out, HN.out]; first | done | kernel_rfl
  subst hv
  have HM3 := Lib.hid (show SizeM 2 tc by rw [Htc.out]; exact size_close HM2.out _ _)
  have HR3 := Lib.hid (show RightT tc by rw [Htc.out]; exact right_close HR2.out _ _)
  go_upto_region 5 with (fail)
  refine code_fresh2 ?_
  intro W8 hb hA0 hA1 hs
  have S8 := Lib.hid (S7.out.new2 hb hA0 hA1)
  clear hb hA0 hA1 hs
  have h_c := (S8.out.at 3 rfl)
  go_wp2_with (first | (refine wpList_load_row rfl 25 _ rfl _ rfl 25 _ (0, 0) _ h_c Try.underlying25 rfl (by kernel_rfl) ?_) | (refine wpList_load_rowG rfl 25 _ rfl _ rfl 25 _ (0, 0) _ h_c Try.underlying25 rfl (by kernel_rfl) ?_))
  refine (pc.dup _ tc 1 1 _ _ _ _ W8 S8.out.oldX (S8.out.g 3 rfl) (size_T HM3.out (by decide)) HR3.out).mono ?_
  rintro e W9 ⟨vd9, vf9, rfl, hT9, hb⟩
  obtain ⟨ad9, cap9, af9, capf9, rfl, rfl⟩ := hT9.form
  clear h_c
  obtain ⟨td, htd⟩ : ∃ td, td = (dupT tc 1 1).1 := ⟨_, rfl⟩
  rw [← htd] at hT9 ⊢
  obtain ⟨td1, htd1⟩ : ∃ td1, td1 = (dupT tc 1 1).2.1 := ⟨_, rfl⟩
  obtain ⟨td2, htd2⟩ : ∃ td2, td2 = (dupT tc 1 1).2.2 := ⟨_, rfl⟩
  rw [← htd1, ← htd2]
  have Htd1 := Lib.hid htd1
  have Htd2 := Lib.hid htd2
  clear htd1 htd2
  have Htd := Lib.hid htd
  have S9 := Lib.hid ((S8.out.call hb).more (TabX.firm _ _ _) hT9)
  clear htd hb hT9
  have hv : td1 = 0 := by rw [Htd1.out, Htc.out, Htb.out, Hta.out, HN.out]; first | done | kernel_rfl
  subst hv
  have hv : td2 = 0 := by rw [Htd2.out, Htc.out, Htb.out, Hta.out, HN.out]; first | done | kernel_rfl
  subst hv
  have HM4 := Lib.hid (show SizeM 2 td by rw [Htd.out]; exact size_dup HM3.out _ _)
  have HR4 := Lib.hid (show RightT td by rw [Htd.out]; exact right_dup HR3.out _ _)
  go_upto_region 6 with (fail)
  refine code_fresh1 ?_
  intro W10 hb hA0 hs
  have S10 := Lib.hid (S9.out.new1 hb hA0)
  clear hb hA0 hs
  have HP := Lib.hid (show placeT td 1 0 = 1 by rw [Htd.out, Htc.out, Htb.out, Hta.out, HN.out]; first | done | kernel_rfl)
  have HH := Lib.hid (show hasT td 1 0 = true by rw [Htd.out, Htc.out, Htb.out, Hta.out, HN.out]; first | done | kernel_rfl)
  have HY0 := Lib.hid (show (foundT td 1 0).ino = 6 by rw [Htd.out, Htc.out, Htb.out, Hta.out, HN.out]; first | done | kernel_rfl)
  have HY4 := Lib.hid (show (foundT td 1 0).refs = 2 by rw [Htd.out, Htc.out, Htb.out, Hta.out, HN.out]; first | done | kernel_rfl)
  have HCT := Lib.hid (show countT td 1 = 2 by rw [Htd.out, Htc.out, Htb.out, Hta.out, HN.out]; first | done | kernel_rfl)
  have HRB := Lib.hid (right_B.2 HR4.out)
  have h_d := (S10.out.at 5 rfl)
  go_wp2_with (first | (refine wpList_load_row rfl 25 _ rfl _ rfl 25 _ (0, 0) _ h_d Try.underlying25 rfl (by kernel_rfl) ?_) | (refine wpList_load_rowG rfl 25 _ rfl _ rfl 25 _ (0, 0) _ h_d Try.underlying25 rfl (by kernel_rfl) ?_))
  refine (pc.get _ td 1 0 _ _ _ _ W10 S10.out.oldX (S10.out.g 4 rfl) (size_T HM4.out (by decide)) HR4.out).mono ?_
  rintro e W11 ⟨hgot, hb⟩
  clear h_d
  have S11 := Lib.hid (S10.out.call hb)
  unfold GotIs at hgot
  subst hgot
  rw [HP.out, HH.out]
  obtain ⟨y, hy⟩ : ∃ y, y = foundT td 1 0 := ⟨_, rfl⟩
  rw [← hy] at HY0 HY4
  rw [← hy]
  clear hy
  clear hb
  go_upto_region 7 with (fail)
  refine code_fresh1 ?_
  intro W12 hb hA0 hs
  have S12 := Lib.hid (S11.out.new1 hb hA0)
  clear hb hA0 hs
  have h_t := (S12.out.at 0 rfl)
  go_wp2_with (first | (refine wpList_load_row rfl 25 _ rfl _ rfl 25 _ (0, 0) _ h_t Try.underlying25 rfl (by kernel_rfl) ?_) | (refine wpList_load_rowG rfl 25 _ rfl _ rfl 25 _ (0, 0) _ h_t Try.underlying25 rfl (by kernel_rfl) ?_))
  refine (pc.opn _ tn 2 zeroD _ _ _ _ W12 S12.out.oldX (S12.out.g 0 rfl) (size_T HM0.out (by decide)) HR0.out).mono ?_
  rintro e W13 ⟨vd13, vf13, rfl, hT13, hb⟩
  obtain ⟨ad13, cap13, af13, capf13, rfl, rfl⟩ := hT13.form
  clear h_t
  obtain ⟨te, hte⟩ : ∃ te, te = (openT tn 2 zeroD).1 := ⟨_, rfl⟩
  rw [← hte] at hT13 ⊢
  obtain ⟨te1, hte1⟩ : ∃ te1, te1 = (openT tn 2 zeroD).2.1 := ⟨_, rfl⟩
  obtain ⟨te2, hte2⟩ : ∃ te2, te2 = (openT tn 2 zeroD).2.2 := ⟨_, rfl⟩
  rw [← hte1, ← hte2]
  have Hte1 := Lib.hid hte1
  have Hte2 := Lib.hid hte2
  clear hte1 hte2
  have Hte := Lib.hid hte
  have S13 := Lib.hid ((S12.out.call hb).more (TabX.firm _ _ _) hT13)
  clear hte hb hT13
  have hv : te2 = 1 := by rw [Hte2.out, HN.out]; first | done | kernel_rfl
  subst hv
  go_upto_region 8 with (fail)
  refine code_fresh1 ?_
  intro W14 hb hA0 hs
  have S14 := Lib.hid (S13.out.new1 hb hA0)
  clear hb hA0 hs
  obtain ⟨x0, -, -, -, x4, -⟩ := cells6 (S14.out.at 4 rfl)
  obtain ⟨y0, -, -, -, y4, -⟩ := cells6 (S14.out.at 6 rfl)
  rw [HC0.out] at x0
  rw [HC4.out] at x4
  rw [HY0.out] at y0
  rw [HY4.out] at y4
  have h_d := (S14.out.at 5 rfl)
  go_wp2_with (first | (refine wpList_load_row rfl 25 _ rfl _ rfl 25 _ (0, 0) _ h_d Try.underlying25 rfl (by kernel_rfl) ?_) | (refine wpList_load_rowG rfl 25 _ rfl _ rfl 25 _ (0, 0) _ h_d Try.underlying25 rfl (by kernel_rfl) ?_))
  refine (pc.right _ td _ _ _ _ W14 S14.out.oldX (S14.out.g 4 rfl) (size_T HM4.out (by decide))).mono ?_
  rintro e W15 ⟨rfl, hb⟩
  clear x0 x4 y0 y4 h_d
  have S15 := Lib.hid (S14.out.call hb)
  rw [HRB.out]
  clear hb
  have h_d := (S15.out.at 5 rfl)
  go_wp2_with (first | (refine wpList_load_row rfl 25 _ rfl _ rfl 25 _ (0, 0) _ h_d Try.underlying25 rfl (by kernel_rfl) ?_) | (refine wpList_load_rowG rfl 25 _ rfl _ rfl 25 _ (0, 0) _ h_d Try.underlying25 rfl (by kernel_rfl) ?_))
  refine (pc.count _ td 1 _ _ _ _ W15 S15.out.oldX (S15.out.g 4 rfl) (size_T HM4.out (by decide)) HR4.out).mono ?_
  rintro e W16 ⟨rfl, hb⟩
  clear h_d
  have S16 := Lib.hid (S15.out.call hb)
  rw [HCT.out]
  clear hb
  go_wp2_with fail
  go_ret
  exact ⟨rfl, S16.out.bel⟩
theorem PH0.pc (h : PH0) : PH := ⟨h.new, h.opn, h.get, h.set, h.dup, h.close, h.count, h.right, shown_w h⟩
end Go.Proofs.Ytbcmhjgjcknfmaa
