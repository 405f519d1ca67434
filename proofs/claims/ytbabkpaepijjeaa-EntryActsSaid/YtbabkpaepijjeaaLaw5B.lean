/-
  The walks of EntryActs, EntryCounts.
-/
import Derived.Test.YtbabkpaepijjeaaLaw5A
namespace Go.Proofs.Ytbabkpaepijjeaa
open Go.RowKit Go.Shelf
attribute [local go_sem ↓] Go.wp_at_zero Go.wp_at_succ

set_option maxRecDepth 100000 in
set_option maxHeartbeats 8000000 in
theorem acts_walk (v : Value) (l : List EntL) (s : ByteArray) (hs : s.size ≤ maxLen) (z : Int) (w : World) (hv : Rd w.heap.size 2 v l.length (ents l) w) (hn : Fit l) :
    Calls Try.prog 4 #[v, .string s, .int .i64 z] w fun e W' => e = .returned (.bool true) ∧ Below w.heap.size w W' := by
  obtain ⟨ao, cap, rfl, _, _⟩ := hv.form
  obtain ⟨n, rfl⟩ : ∃ n : Nm, s = bs n := ⟨_, bs_of s⟩
  rw [bs_size] at hs
  have HV := Lib.hid hv
  have HN := Lib.hid hn
  clear hv hn
  cases hfi : fineB l with
  | false =>
    have HF := Lib.hid hfi
    clear hfi
    go_enter Try.func4, Try.ntmps4
    go_wp2_with fail
    refine (fine_any _ l _ HV.out HN.out).mono ?_
    rintro e w0 ⟨rfl, hb0⟩
    rw [HF.out]
    go_wp2_with fail
    refine (shown_any _).mono ?_
    rintro e w1 ⟨rfl, hb1⟩
    go_wp2_with fail
    go_ret
    exact ⟨rfl, ret_tr hb0 hb1⟩
  | true =>
    obtain ⟨hl100, hso⟩ := fine_of hfi
    have HF := Lib.hid hfi
    have HU := Lib.hid hso.2
    have hl : l.length ≤ 10000 := by omega
    clear hfi hso
    by_cases h1 : 100 < n.length
    · have hI : decide ((100 : Int) < (n.length : Int)) = true := by simp; omega
      clear h1
      go_enter Try.func4, Try.ntmps4
      go_wp2_with fail
      refine (fine_any _ l _ HV.out HN.out).mono ?_
      rintro e w0 ⟨rfl, hb0⟩
      rw [HF.out]
      go_wp2_with fail
      refine (shown_any _).mono ?_
      rintro e w1 ⟨rfl, hb1⟩
      go_wp2_with fail
      go_ret
      exact ⟨rfl, ret_tr hb0 hb1⟩
    have hI : decide ((100 : Int) < (n.length : Int)) = false := by simp; omega
    clear h1
    go_enter Try.func4, Try.ntmps4
    go_wp2_with fail
    refine (fine_any _ l _ HV.out HN.out).mono ?_
    rintro e w0 ⟨rfl, hb0⟩
    rw [HF.out]
    have HV0 := Lib.hid (rd_keep HV.out hb0)
    have HB0 := Lib.hid hb0
    clear hb0
    go_wp2_with fail
    refine (shown_any _).mono ?_
    rintro e w1 ⟨rfl, hb1⟩
    have HV1 := Lib.hid (rd_keep HV0.out hb1)
    have HB1 := Lib.hid (ret_tr HB0.out hb1)
    clear hb1 hI
    go_wp2_with fail
    refine (its_any _ _ l _ HV1.out (Nat.le_refl _) (by omega)).mono ?_
    rintro e w2 ⟨vm, rfl, hm2, hb2⟩
    have HV2 := Lib.hid (rd_keep HV1.out hb2)
    have HB2 := Lib.hid (ret_tr HB1.out hb2)
    have HM2 := Lib.hid hm2
    obtain ⟨aom, capm, rfl, _, _⟩ := hm2.form
    clear hb2 hm2
    go_wp2_with fail
    refine (find_any _ _ l n _ HV2.out (Nat.le_refl _) hl HU.out).mono ?_
    rintro e w3 ⟨rfl, hb3⟩
    have HV3 := Lib.hid (rd_keep HV2.out hb3)
    have HM3 := Lib.hid (rd_keep HM2.out hb3)
    have HB3 := Lib.hid (ret_tr HB2.out hb3)
    clear hb3
    go_wp2_with fail
    refine (rfind_any _ _ l n _ HM3.out hl).mono ?_
    rintro e w4 ⟨rfl, rfl⟩
    generalize vint (findL l n) = fi at *
    generalize (findL l n).isSome = fb at *
    go_wp2_with fail
    refine (drop_any _ _ l n _ HV3.out (Nat.le_refl _) hl HU.out).mono ?_
    rintro e w5 ⟨vd, rfl, hd5, hb5⟩
    have HV5 := Lib.hid (rd_keep HV3.out hb5)
    have HM5 := Lib.hid (rd_keep HM3.out hb5)
    have HB5 := Lib.hid (ret_tr HB3.out hb5)
    have hdl := drop_len l n
    have HD5 := Lib.hid hd5
    clear hb5 hd5
    generalize hD : dropL l n = D at *
    go_wp2_with fail
    refine (its_any _ _ D _ HD5.out (Nat.le_refl _) (by omega)).mono ?_
    rintro e w6 ⟨vi, rfl, hi6, hb6⟩
    have HV6 := Lib.hid (rd_keep HV5.out hb6)
    have HM6 := Lib.hid (rd_keep HM5.out hb6)
    have HB6 := Lib.hid (ret_tr HB5.out hb6)
    have HI6 := Lib.hid hi6
    clear hb6 hi6
    go_wp2_with fail
    refine (rdrop_any _ _ l n _ HM6.out (Nat.le_refl _) hl).mono ?_
    rintro e w7 ⟨vr, rfl, hr7, hb7⟩
    rw [hD] at hr7
    have HV7 := Lib.hid (rd_keep HV6.out hb7)
    have HM7 := Lib.hid (rd_keep HM6.out hb7)
    have HI7 := Lib.hid (rd_keep HI6.out hb7)
    have HB7 := Lib.hid (ret_tr HB6.out hb7)
    have HR7 := Lib.hid hr7
    clear hb7 hr7
    go_wp2_with fail
    refine (same_any _ _ _ D D _ HI7.out HR7.out (by omega) (by omega)).mono ?_
    rintro e w8 ⟨rfl, n8, rfl⟩
    rw [dec_refl]
    have HV8 := Lib.hid (rd_drew HV7.out n8)
    have HM8 := Lib.hid (rd_drew HM7.out n8)
    have HB8 := Lib.hid (below_drewN HB7.out n8)
    generalize w7.drewN n8 = W8 at *
    go_wp2_with fail
    refine (names_any _ _ l _ HV8.out (Nat.le_refl _) hl).mono ?_
    rintro e w9 ⟨vn, rfl, hn9, hb9⟩
    have HV9 := Lib.hid (rd_keep HV8.out hb9)
    have HM9 := Lib.hid (rd_keep HM8.out hb9)
    have HB9 := Lib.hid (ret_tr HB8.out hb9)
    have HN9 := Lib.hid hn9
    clear hb9 hn9
    go_wp2_with fail
    refine (rnames_any _ _ l _ HM9.out (Nat.le_refl _) hl).mono ?_
    rintro e w10 ⟨vk, rfl, hk10, hb10⟩
    have HV10 := Lib.hid (rd_keep HV9.out hb10)
    have HM10 := Lib.hid (rd_keep HM9.out hb10)
    have HN10 := Lib.hid (rd_keep HN9.out hb10)
    have HB10 := Lib.hid (ret_tr HB9.out hb10)
    have HK10 := Lib.hid hk10
    have hnl := names_len l
    clear hb10 hk10
    go_wp2_with fail
    refine (texts_any _ _ _ (namesL l) (namesL l) _ HN10.out HK10.out (by omega) (by omega)).mono ?_
    rintro e w11 ⟨rfl, n11, rfl⟩
    rw [dec_refl]
    have HV11 := Lib.hid (rd_drew HV10.out n11)
    have HM11 := Lib.hid (rd_drew HM10.out n11)
    have HB11 := Lib.hid (below_drewN HB10.out n11)
    generalize w10.drewN n11 = W11 at *
    go_wp2_with fail
    refine (rlegal_any n hs _).mono ?_
    rintro e w12 ⟨rfl, rfl⟩
    by_cases hq : legalL n = 0
    · rw [hq]
      clear hq
      go_wp2_with fail
      refine (put_any _ _ l n z _ HV11.out (Nat.le_refl _) hl HU.out).mono ?_
      rintro e w13 ⟨vp, rfl, hp13, hb13⟩
      have hpl := put_len_up HU.out (n, z)
      have HV13 := Lib.hid (rd_keep HV11.out hb13)
      have HM13 := Lib.hid (rd_keep HM11.out hb13)
      have HB13 := Lib.hid (ret_tr HB11.out hb13)
      have HP13 := Lib.hid hp13
      clear hb13 hp13
      generalize hP : putL l (n, z) = Q at *
      go_wp2_with fail
      refine (its_any _ _ Q _ HP13.out (Nat.le_refl _) (by omega)).mono ?_
      rintro e w14 ⟨vj, rfl, hj14, hb14⟩
      have HV14 := Lib.hid (rd_keep HV13.out hb14)
      have HM14 := Lib.hid (rd_keep HM13.out hb14)
      have HB14 := Lib.hid (ret_tr HB13.out hb14)
      have HJ14 := Lib.hid hj14
      clear hb14 hj14
      go_wp2_with fail
      refine (rput_any _ _ l n z _ HM14.out (Nat.le_refl _) hl).mono ?_
      rintro e w15 ⟨vt, rfl, ht15, hb15⟩
      rw [hP] at ht15
      have HV15 := Lib.hid (rd_keep HV14.out hb15)
      have HM15 := Lib.hid (rd_keep HM14.out hb15)
      have HJ15 := Lib.hid (rd_keep HJ14.out hb15)
      have HB15 := Lib.hid (ret_tr HB14.out hb15)
      have HT15 := Lib.hid ht15
      clear hb15 ht15
      go_wp2_with fail
      refine (same_any _ _ _ Q Q _ HJ15.out HT15.out (by omega) (by omega)).mono ?_
      rintro e w16 ⟨rfl, n16, rfl⟩
      rw [dec_refl]
      have HV16 := Lib.hid (rd_drew HV15.out n16)
      have HM16 := Lib.hid (rd_drew HM15.out n16)
      have HB16 := Lib.hid (below_drewN HB15.out n16)
      generalize w15.drewN n16 = W16 at *
      go_wp2_with fail
      refine (its_any _ _ l _ HV16.out (Nat.le_refl _) (by omega)).mono ?_
      rintro e w17 ⟨vu, rfl, hu17, hb17⟩
      have HM17 := Lib.hid (rd_keep HM16.out hb17)
      have HB17 := Lib.hid (ret_tr HB16.out hb17)
      clear hb17
      go_wp2_with fail
      refine (same_any _ _ _ l l _ hu17 HM17.out (by omega) (by omega)).mono ?_
      rintro e w18 ⟨rfl, n18, rfl⟩
      rw [dec_refl]
      clear hu17
      go_wp2_with fail
      go_ret
      exact ⟨rfl, below_drewN HB17.out n18⟩
    · have hq2 : (legalL n != 0) = true := by rw [bne_iff_ne]; exact hq
      generalize legalL n = q at *
      clear hq
      go_wp2_with fail
      go_ret
      exact ⟨rfl, HB11.out⟩

set_option maxRecDepth 100000 in
set_option maxHeartbeats 8000000 in
theorem counts_walk (v : Value) (l : List EntL) (s : ByteArray) (hs : s.size ≤ maxLen) (w : World) (hv : Rd w.heap.size 2 v l.length (ents l) w) (hn : Fit l) :
    Calls Try.prog 7 #[v, .string s] w fun e W' => e = .returned (.bool true) ∧ Below w.heap.size w W' := by
  obtain ⟨ao, cap, rfl, _, _⟩ := hv.form
  obtain ⟨n, rfl⟩ : ∃ n : Nm, s = bs n := ⟨_, bs_of s⟩
  rw [bs_size] at hs
  have HV := Lib.hid hv
  have HN := Lib.hid hn
  clear hv hn
  cases hfi : fineB l with
  | false =>
    have HF := Lib.hid hfi
    clear hfi
    go_enter Try.func7, Try.ntmps7
    go_wp2_with fail
    refine (fine_any _ l _ HV.out HN.out).mono ?_
    rintro e w0 ⟨rfl, hb0⟩
    rw [HF.out]
    go_wp2_with fail
    refine (shown_any _).mono ?_
    rintro e w1 ⟨rfl, hb1⟩
    go_wp2_with fail
    go_ret
    exact ⟨rfl, ret_tr hb0 hb1⟩
  | true =>
    obtain ⟨hl100, hso⟩ := fine_of hfi
    have HF := Lib.hid hfi
    have HU := Lib.hid hso.2
    have hl : l.length ≤ 10000 := by omega
    clear hfi hso
    by_cases hq : legalL n = 0
    · have HQ := Lib.hid hq
      have hlp := len_put HU.out (n, 0)
      have hld := len_drop HU.out n
      generalize hD : dropL l n = D at *
      generalize hP : putL l (n, 0) = Q at *
      have HD := Lib.hid hD
      have HP := Lib.hid hP
      have e1 : (Q.length : Int) = (D.length : Int) + 1 := by
        have : Q.length = D.length + 1 := by rw [hlp]
        omega
      clear hq hlp hD hP
      cases hfn : findL l n with
      | none =>
        have e2 : (D.length : Int) = (l.length : Int) := by rw [hfn] at hld; simp at hld; omega
        have hp1 : ((Q.length : Int) == (l.length : Int) + 1) = true := by rw [beq_iff_eq]; omega
        have hd1 : ((D.length : Int) == (l.length : Int)) = true := by rw [beq_iff_eq]; omega
        have HE := Lib.hid hfn
        clear hfn hld e1 e2
        go_enter Try.func7, Try.ntmps7
        go_wp2_with fail
        refine (fine_any _ l _ HV.out HN.out).mono ?_
        rintro e w0 ⟨rfl, hb0⟩
        rw [HF.out]
        have HV0 := Lib.hid (rd_keep HV.out hb0)
        have HB0 := Lib.hid hb0
        clear hb0
        go_wp2_with fail
        refine (rlegal_any n hs _).mono ?_
        rintro e w0' ⟨rfl, rfl⟩
        rw [HQ.out]
        go_wp2_with fail
        refine (shown_any _).mono ?_
        rintro e w1 ⟨rfl, hb1⟩
        have HV1 := Lib.hid (rd_keep HV0.out hb1)
        have HB1 := Lib.hid (ret_tr HB0.out hb1)
        clear hb1
        go_wp2_with fail
        refine (its_any _ _ l _ HV1.out (Nat.le_refl _) (by omega)).mono ?_
        rintro e w2 ⟨vm, rfl, hm2, hb2⟩
        have HV2 := Lib.hid (rd_keep HV1.out hb2)
        have HB2 := Lib.hid (ret_tr HB1.out hb2)
        clear hb2
        go_wp2_with fail
        refine (rfind_any _ _ l n _ hm2 hl).mono ?_
        rintro e w4 ⟨rfl, rfl⟩
        rw [HE.out]
        clear hm2
        go_wp2_with fail
        refine (put_any _ _ l n 0 _ HV2.out (Nat.le_refl _) hl HU.out).mono ?_
        rintro e w5 ⟨vp, rfl, hp5, hb5⟩
        rw [HP.out] at hp5
        have HV5 := Lib.hid (rd_keep HV2.out hb5)
        have HB5 := Lib.hid (ret_tr HB2.out hb5)
        obtain ⟨aop, capp, rfl, _, _⟩ := hp5.form
        clear hb5 hp5
        go_wp2_with fail
        refine (drop_any _ _ l n _ HV5.out (Nat.le_refl _) hl HU.out).mono ?_
        rintro e w6 ⟨vd, rfl, hd6, hb6⟩
        rw [HD.out] at hd6
        have HV6 := Lib.hid (rd_keep HV5.out hb6)
        have HB6 := Lib.hid (ret_tr HB5.out hb6)
        obtain ⟨aod, capd, rfl, _, _⟩ := hd6.form
        clear hb6 hd6
        go_wp2_with fail
        refine (names_any _ _ l _ HV6.out (Nat.le_refl _) hl).mono ?_
        rintro e w7 ⟨vn, rfl, hn7, hb7⟩
        rw [names_len] at hn7
        have HB7 := Lib.hid (ret_tr HB6.out hb7)
        obtain ⟨aon, capn, rfl, _, _⟩ := hn7.form
        clear hb7 hn7
        go_wp2_with fail
        go_ret
        exact ⟨ret_bool (by simp), HB7.out⟩
      | some i =>
        have e2 : (l.length : Int) - 1 = (D.length : Int) := by rw [hfn] at hld; simp at hld; omega
        have hp1 : ((Q.length : Int) == (D.length : Int) + 1) = true := by rw [beq_iff_eq]; omega
        have hl1 : 1 ≤ l.length := by omega
        have HE := Lib.hid hfn
        clear hfn hld e1
        go_enter Try.func7, Try.ntmps7
        go_wp2_with fail
        refine (fine_any _ l _ HV.out HN.out).mono ?_
        rintro e w0 ⟨rfl, hb0⟩
        rw [HF.out]
        have HV0 := Lib.hid (rd_keep HV.out hb0)
        have HB0 := Lib.hid hb0
        clear hb0
        go_wp2_with fail
        refine (rlegal_any n hs _).mono ?_
        rintro e w0' ⟨rfl, rfl⟩
        rw [HQ.out]
        go_wp2_with fail
        refine (shown_any _).mono ?_
        rintro e w1 ⟨rfl, hb1⟩
        have HV1 := Lib.hid (rd_keep HV0.out hb1)
        have HB1 := Lib.hid (ret_tr HB0.out hb1)
        clear hb1
        go_wp2_with fail
        refine (its_any _ _ l _ HV1.out (Nat.le_refl _) (by omega)).mono ?_
        rintro e w2 ⟨vm, rfl, hm2, hb2⟩
        have HV2 := Lib.hid (rd_keep HV1.out hb2)
        have HB2 := Lib.hid (ret_tr HB1.out hb2)
        clear hb2
        go_wp2_with fail
        refine (rfind_any _ _ l n _ hm2 hl).mono ?_
        rintro e w4 ⟨rfl, rfl⟩
        rw [HE.out]
        clear hm2
        go_wp2_with fail
        refine (put_any _ _ l n 0 _ HV2.out (Nat.le_refl _) hl HU.out).mono ?_
        rintro e w5 ⟨vp, rfl, hp5, hb5⟩
        rw [HP.out] at hp5
        have HV5 := Lib.hid (rd_keep HV2.out hb5)
        have HB5 := Lib.hid (ret_tr HB2.out hb5)
        obtain ⟨aop, capp, rfl, _, _⟩ := hp5.form
        clear hb5 hp5
        go_wp2_with fail
        refine (drop_any _ _ l n _ HV5.out (Nat.le_refl _) hl HU.out).mono ?_
        rintro e w6 ⟨vd, rfl, hd6, hb6⟩
        rw [HD.out] at hd6
        have HV6 := Lib.hid (rd_keep HV5.out hb6)
        have HB6 := Lib.hid (ret_tr HB5.out hb6)
        obtain ⟨aod, capd, rfl, _, _⟩ := hd6.form
        clear hb6 hd6
        go_wp2_with fail
        refine (names_any _ _ l _ HV6.out (Nat.le_refl _) hl).mono ?_
        rintro e w7 ⟨vn, rfl, hn7, hb7⟩
        rw [names_len] at hn7
        have HB7 := Lib.hid (ret_tr HB6.out hb7)
        obtain ⟨aon, capn, rfl, _, _⟩ := hn7.form
        clear hb7 hn7
        go_wp2_with fail
        go_ret
        exact ⟨ret_bool (by simp), HB7.out⟩
    · have hq2 : (legalL n != 0) = true := by rw [bne_iff_ne]; exact hq
      have HR := fun w => rlegal_any n hs w
      generalize legalL n = q at *
      clear hq
      go_enter Try.func7, Try.ntmps7
      go_wp2_with fail
      refine (fine_any _ l _ HV.out HN.out).mono ?_
      rintro e w0 ⟨rfl, hb0⟩
      rw [HF.out]
      go_wp2_with fail
      refine (HR _).mono ?_
      rintro e w0' ⟨rfl, rfl⟩
      go_wp2_with fail
      refine (shown_any _).mono ?_
      rintro e w1 ⟨rfl, hb1⟩
      go_wp2_with fail
      go_ret
      exact ⟨rfl, ret_tr hb0 hb1⟩
end Go.Proofs.Ytbabkpaepijjeaa
