/-
  The example of the statements of layer 11: shown.
-/
import Derived.Test.YtfcjmcenaankfaaLaw11A
namespace Go.Proofs.Ytfcjmcenaankfaa
open Go.RowKit Go.Shelf
attribute [local go_sem ↓] Go.wp_at_zero Go.wp_at_succ

/-- A table that is laid by literals. -/
theorem tab_lit {ds : List DescL} {r : List Int} {g1 g2 g3 : Nat} {tD tI tS : TypeId} {f1 f2 f3 : Nat × Nat} {W : World} (h1 : W.heap[g1]? = some (.cells (cellsD ds).toArray tD f1)) (h2 : W.heap[g2]? = some (.cells (intC r).toArray tI f2)) (h3 : W.heap[g3]? = some (.cells #[.slice (some ⟨g2, 0, none⟩) r.length r.length] tS f3)) (hd : ds.length ≤ maxLen) (hr : r.length ≤ maxLen) :
    TabX ⟨ds, [r]⟩ (.slice (some ⟨g1, 0, none⟩) ds.length ds.length) (.slice (some ⟨g3, 0, none⟩) 1 1) (fun _ => False) W := by
  refine ⟨[(r, .slice (some ⟨g2, 0, none⟩) r.length r.length)], rfl, RdX.ofNo (rd_block h1 (cellsD_len ds) hd (Array.getElem?_eq_some_iff.1 h1).1), RdX.ofNo (rd_block (xs := [.slice (some ⟨g2, 0, none⟩) r.length r.length]) h3 rfl (by decide) (Array.getElem?_eq_some_iff.1 h3).1), fun m hm => ?_⟩
  rw [List.mem_singleton] at hm
  subst hm
  exact RdX.ofNo (rd_block h2 (by rw [intC_len, Nat.mul_one]) hr (Array.getElem?_eq_some_iff.1 h2).1)
def exD : List DescL := [⟨5, 0, false, false, 1, 1⟩, ⟨5, 0, false, false, 1, 0⟩]
def exR : List Int := [0, 1, -1, -1, -1, -1, -1, -1]
def exT : TabL := ⟨exD, [exR]⟩
set_option maxHeartbeats 8000000 in
set_option maxRecDepth 100000 in
theorem shown11 (pc : PF0) (w : World) : Calls Try.prog 10 #[] w fun e w' => e = .returned (.bool true) ∧ Below w.heap.size w w' := by
  have S0 := Lib.hid (Sf.start (X := fun _ => False) (w := w) (G := []) (fun _ h => h.elim) th0)
  go_enter Try.func10, Try.ntmps10
  go_upto_region 1 with (fail)
  go_upto_region 2 with (first | (refine wpList_fresh1 ?_; intro W1 hb hA hs; have HA1 := Lib.hid (show W1.heap[w.heap.size]? = some (.cells (cellsD exD).toArray 44 (0, 0)) from hA); have HB1 := Lib.hid hb; clear hb hA hs) | (refine wpList_fresh1 ?_; intro W2 hb hA hs; have HA2 := Lib.hid (show W2.heap[W1.heap.size]? = some (.cells (intC exR).toArray 3 (0, 0)) from hA); have HB2 := Lib.hid hb; clear hb hA hs) | (refine wpList_fresh1 ?_; intro W3 hb hA hs; have HA3 := Lib.hid (show W3.heap[W2.heap.size]? = some (.cells #[.slice (some ⟨W1.heap.size, 0, none⟩) 8 8] 48 (0, 0)) from hA); have hT3 := tab_lit (ds := exD) (r := exR) ((hb.block _ (Nat.lt_of_lt_of_le (Array.getElem?_eq_some_iff.1 HA1.out).1 HB2.out.size)).trans ((HB2.out.block _ (Array.getElem?_eq_some_iff.1 HA1.out).1).trans HA1.out)) ((hb.block _ (Array.getElem?_eq_some_iff.1 HA2.out).1).trans HA2.out) HA3.out (by decide) (by decide); have S3 := Lib.hid ((((S0.out.call HB1.out).call HB2.out).call hb).more (TabX.firm exT (.slice (some ⟨w.heap.size, 0, none⟩) 2 2) (.slice (some ⟨W2.heap.size, 0, none⟩) 1 1)) (((TabX.firm _ _ _).sub hT3 fun _ h => h.elim id fun h => by cases h))); clear hb hA hs hT3) | (refine wpList_fresh1 ?_; intro W4 hb hn hs; have S4 := Lib.hid (S3.out.new1 hb hn); have h_t := S4.out.at 0 rfl; clear hb hn hs) | (refine wpList_store_row rfl 25 _ _ rfl _ rfl rfl h_t rfl (by kernel_rfl) rfl ?_; intro W5 hb hg hs hn; have S5 := Lib.hid (S4.out.set 0 rfl hb hg hs hn); clear hb hg hs hn))
  clear h_t S3 S4 HA1 HA2 HA3 HB1 HB2
  obtain ⟨g1, hg1⟩ : ∃ g1, g1 = w.heap.size := ⟨_, rfl⟩
  obtain ⟨g3, hg3⟩ : ∃ g3, g3 = W2.heap.size := ⟨_, rfl⟩
  obtain ⟨bt, hbt⟩ : ∃ bt, bt = W3.heap.size := ⟨_, rfl⟩
  obtain ⟨tn, htn⟩ : ∃ tn, tn = exT := ⟨_, rfl⟩
  have S6 : Hid (Sf (fun _ => False) w [(bt, #[.slice (some ⟨g1, 0, none⟩) tn.ds.length 2, .slice (some ⟨g3, 0, none⟩) tn.fs.length 1], 25)] [TabX tn (.slice (some ⟨g1, 0, none⟩) tn.ds.length 2) (.slice (some ⟨g3, 0, none⟩) tn.fs.length 1)] W5) := by rw [htn, hg1, hg3, hbt]; exact S5
  clear S5
  rw [← hbt]
  have HN := Lib.hid htn
  clear htn hg1 hg3 hbt
  have HM0 := Lib.hid (show SizeM 100 tn by rw [HN.out]; exact ⟨by decide, by decide, by decide⟩)
  have HZ0 := Lib.hid (size_T HM0.out (by decide))
  have HR0 := Lib.hid (show RightT tn by rw [HN.out]; exact right_B.1 (by kernel_rfl))
  have h_t := (S6.out.at 0 rfl)
  go_wp2_with (first | (refine wpList_load_row rfl 25 _ rfl _ rfl 25 _ (0, 0) _ h_t Try.underlying25 rfl (by kernel_rfl) ?_) | (refine wpList_load_rowG rfl 25 _ rfl _ rfl 25 _ (0, 0) _ h_t Try.underlying25 rfl (by kernel_rfl) ?_))
  refine (pc.lock _ tn 1 2 _ _ _ _ W5 S6.out.oldX (S6.out.g 0 rfl) HZ0.out HR0.out).mono ?_
  rintro e W7 ⟨vd7, vf7, rfl, hT7, hb⟩
  obtain ⟨ad7, cap7, af7, capf7, rfl, rfl⟩ := hT7.form
  clear h_t
  obtain ⟨te, hte⟩ : ∃ te, te = (lockT tn 1 2).1 := ⟨_, rfl⟩
  rw [← hte] at hT7 ⊢
  obtain ⟨te1, hte1⟩ : ∃ te1, te1 = (lockT tn 1 2).2 := ⟨_, rfl⟩
  rw [← hte1]
  have Hte1 := Lib.hid hte1
  clear hte1
  have Hte := Lib.hid hte
  have S7 := Lib.hid ((S6.out.call hb).more (TabX.firm _ _ _) hT7)
  clear hte hb hT7
  have hv : te1 = 14 := by rw [Hte1.out, HN.out]; kernel_rfl
  subst hv
  go_upto_region 3 with (fail)
  refine code_fresh1 ?_
  intro W8 hb hA0 hs
  have S8 := Lib.hid (S7.out.new1 hb hA0)
  clear hb hA0 hs
  have h_t := (S8.out.at 0 rfl)
  go_wp2_with (first | (refine wpList_load_row rfl 25 _ rfl _ rfl 25 _ (0, 0) _ h_t Try.underlying25 rfl (by kernel_rfl) ?_) | (refine wpList_load_rowG rfl 25 _ rfl _ rfl 25 _ (0, 0) _ h_t Try.underlying25 rfl (by kernel_rfl) ?_))
  refine (pc.lock _ tn 1 1 _ _ _ _ W8 S8.out.oldX (S8.out.g 0 rfl) HZ0.out HR0.out).mono ?_
  rintro e W9 ⟨vd9, vf9, rfl, hT9, hb⟩
  obtain ⟨ad9, cap9, af9, capf9, rfl, rfl⟩ := hT9.form
  clear h_t
  obtain ⟨ta, hta⟩ : ∃ ta, ta = (lockT tn 1 1).1 := ⟨_, rfl⟩
  rw [← hta] at hT9 ⊢
  obtain ⟨ta1, hta1⟩ : ∃ ta1, ta1 = (lockT tn 1 1).2 := ⟨_, rfl⟩
  rw [← hta1]
  have Hta1 := Lib.hid hta1
  clear hta1
  have Hta := Lib.hid hta
  have S9 := Lib.hid ((S8.out.call hb).more (TabX.firm _ _ _) hT9)
  clear hta hb hT9
  have hv : ta1 = 0 := by rw [Hta1.out, HN.out]; kernel_rfl
  subst hv
  go_upto_region 4 with (fail)
  refine code_fresh1 ?_
  intro W10 hb hA0 hs
  have S10 := Lib.hid (S9.out.new1 hb hA0)
  clear hb hA0 hs
  have HMA := Lib.hid (show SizeM 100 ta by rw [Hta.out]; exact size_lock HM0.out 1 1)
  have HRA := Lib.hid (show RightT ta by rw [Hta.out]; exact right_lock HR0.out 1 1)
  have HZA := Lib.hid (size_T HMA.out (by decide))
  have h_t := (S10.out.at 0 rfl)
  go_wp2_with (first | (refine wpList_load_row rfl 25 _ rfl _ rfl 25 _ (0, 0) _ h_t Try.underlying25 rfl (by kernel_rfl) ?_) | (refine wpList_load_rowG rfl 25 _ rfl _ rfl 25 _ (0, 0) _ h_t Try.underlying25 rfl (by kernel_rfl) ?_))
  refine (pc.lock _ tn 0 0 _ _ _ _ W10 S10.out.oldX (S10.out.g 0 rfl) HZ0.out HR0.out).mono ?_
  rintro e W11 ⟨vd11, vf11, rfl, hT11, hb⟩
  obtain ⟨ad11, cap11, af11, capf11, rfl, rfl⟩ := hT11.form
  clear h_t
  obtain ⟨tb, htb⟩ : ∃ tb, tb = (lockT tn 0 0).1 := ⟨_, rfl⟩
  rw [← htb] at hT11 ⊢
  obtain ⟨tb1, htb1⟩ : ∃ tb1, tb1 = (lockT tn 0 0).2 := ⟨_, rfl⟩
  rw [← htb1]
  have Htb1 := Lib.hid htb1
  clear htb1
  have Htb := Lib.hid htb
  have S11 := Lib.hid ((S10.out.call hb).more (TabX.firm _ _ _) hT11)
  clear htb hb hT11
  have hv : tb1 = 0 := by rw [Htb1.out, HN.out]; kernel_rfl
  subst hv
  go_upto_region 5 with (fail)
  refine code_fresh1 ?_
  intro W12 hb hA0 hs
  have S12 := Lib.hid (S11.out.new1 hb hA0)
  clear hb hA0 hs
  have HMB := Lib.hid (show SizeM 100 tb by rw [Htb.out]; exact size_lock HM0.out 0 0)
  have HRB := Lib.hid (show RightT tb by rw [Htb.out]; exact right_lock HR0.out 0 0)
  have HZB := Lib.hid (size_T HMB.out (by decide))
  have h_b := (S12.out.at 3 rfl)
  go_wp2_with (first | (refine wpList_load_row rfl 25 _ rfl _ rfl 25 _ (0, 0) _ h_b Try.underlying25 rfl (by kernel_rfl) ?_) | (refine wpList_load_rowG rfl 25 _ rfl _ rfl 25 _ (0, 0) _ h_b Try.underlying25 rfl (by kernel_rfl) ?_))
  refine (pc.lock _ tb 1 2 _ _ _ _ W12 S12.out.oldX (S12.out.g 3 rfl) HZB.out HRB.out).mono ?_
  rintro e W13 ⟨vd13, vf13, rfl, hT13, hb⟩
  obtain ⟨ad13, cap13, af13, capf13, rfl, rfl⟩ := hT13.form
  clear h_b
  obtain ⟨tc, htc⟩ : ∃ tc, tc = (lockT tb 1 2).1 := ⟨_, rfl⟩
  rw [← htc] at hT13 ⊢
  obtain ⟨tc1, htc1⟩ : ∃ tc1, tc1 = (lockT tb 1 2).2 := ⟨_, rfl⟩
  rw [← htc1]
  have Htc1 := Lib.hid htc1
  clear htc1
  have Htc := Lib.hid htc
  have S13 := Lib.hid ((S12.out.call hb).more (TabX.firm _ _ _) hT13)
  clear htc hb hT13
  have hv : tc1 = 0 := by rw [Htc1.out, Htb.out, HN.out]; kernel_rfl
  subst hv
  go_upto_region 6 with (fail)
  refine code_fresh1 ?_
  intro W14 hb hA0 hs
  have S14 := Lib.hid (S13.out.new1 hb hA0)
  clear hb hA0 hs
  have HMC := Lib.hid (show SizeM 100 tc by rw [Htc.out]; exact size_lock HMB.out 1 2)
  have HRC := Lib.hid (show RightT tc by rw [Htc.out]; exact right_lock HRB.out 1 2)
  have HZC := Lib.hid (size_T HMC.out (by decide))
  have H1 := Lib.hid (show heldN ta.ds 5 1 = 2 by rw [Hta.out, HN.out]; kernel_rfl)
  have H2 := Lib.hid (show heldN ta.ds 5 2 = 0 by rw [Hta.out, HN.out]; kernel_rfl)
  have HFA := Lib.hid (show fairB ta = true by rw [Hta.out, HN.out]; kernel_rfl)
  have HFC := Lib.hid (show fairB tc = true by rw [Htc.out, Htb.out, HN.out]; kernel_rfl)
  have HL := Lib.hid (show tc.ds.length = 2 by rw [Htc.out, Htb.out, HN.out]; kernel_rfl)
  have HK := Lib.hid (show (tc.ds.getD 1 zeroD).lock = 2 by rw [Htc.out, Htb.out, HN.out]; kernel_rfl)
  have h_a := (S14.out.at 2 rfl)
  go_wp2_with (first | (refine wpList_load_row rfl 25 _ rfl _ rfl 25 _ (0, 0) _ h_a Try.underlying25 rfl (by kernel_rfl) ?_) | (refine wpList_load_rowG rfl 25 _ rfl _ rfl 25 _ (0, 0) _ h_a Try.underlying25 rfl (by kernel_rfl) ?_))
  refine (pc.holders _ ta 5 _ _ _ _ W14 S14.out.oldX (S14.out.g 2 rfl) HZA.out HRA.out).mono ?_
  rintro e W15 ⟨rfl, hb⟩
  clear h_a
  have S15 := Lib.hid (S14.out.call hb)
  rw [H1.out, H2.out]
  clear hb
  have hl := HL.out
  have hl1 : 1 < tc.ds.length := by omega
  obtain ⟨b, off, ead, -, -, -, -, -, c5⟩ := TabX.desc (S15.out.g 4 rfl) 1 hl1
  subst ead
  have hk : (tc.ds[1]).lock = 2 := by rw [← getD_at (d := zeroD) hl1]; exact HK.out
  rw [hk] at c5
  have x1 : decide ((tc.ds.length : Int) = 2) = true := decide_eq_true (by omega)
  have x2 : ((tc.ds.length : Int) == 2) = true := by simp; omega
  have x3 : decide (tc.ds.length = 2) = true := decide_eq_true (by omega)
  have x4 : (tc.ds.length == 2) = true := by simp; omega
  have x5 : (1 : Int) < (tc.ds.length : Int) := by omega
  clear hl hk
  obtain ⟨c0, c1⟩ := cells2 (S15.out.at 4 rfl)
  go_upto_region 7 with (fail)
  have h_c := (S15.out.at 4 rfl)
  go_wp2_with (first | (refine wpList_load_row rfl 25 _ rfl _ rfl 25 _ (0, 0) _ h_c Try.underlying25 rfl (by kernel_rfl) ?_) | (refine wpList_load_rowG rfl 25 _ rfl _ rfl 25 _ (0, 0) _ h_c Try.underlying25 rfl (by kernel_rfl) ?_))
  refine (pc.fair _ tc _ _ _ _ W15 S15.out.oldX (S15.out.g 4 rfl) HZC.out HRC.out).mono ?_
  rintro e W16 ⟨rfl, hb⟩
  clear c0 c1 h_c
  have S16 := Lib.hid (S15.out.call hb)
  rw [HFC.out]
  clear hb
  have h_a := (S16.out.at 2 rfl)
  go_wp2_with (first | (refine wpList_load_row rfl 25 _ rfl _ rfl 25 _ (0, 0) _ h_a Try.underlying25 rfl (by kernel_rfl) ?_) | (refine wpList_load_rowG rfl 25 _ rfl _ rfl 25 _ (0, 0) _ h_a Try.underlying25 rfl (by kernel_rfl) ?_))
  refine (pc.fair _ ta _ _ _ _ W16 S16.out.oldX (S16.out.g 2 rfl) HZA.out HRA.out).mono ?_
  rintro e W17 ⟨rfl, hb⟩
  clear h_a
  have S17 := Lib.hid (S16.out.call hb)
  rw [HFA.out]
  clear hb
  go_wp2_with fail
  go_ret
  exact ⟨rfl, S17.out.bel⟩
theorem PF0.pc (h : PF0) : PF := { h with shown := shown11 h }
end Go.Proofs.Ytfcjmcenaankfaa
