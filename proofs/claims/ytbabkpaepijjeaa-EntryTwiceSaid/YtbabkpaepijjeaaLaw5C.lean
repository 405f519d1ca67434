/-
  The walk of EntryKeeps.
-/
import Derived.Test.YtbabkpaepijjeaaLaw5A
namespace Go.Proofs.Ytbabkpaepijjeaa
open Go.RowKit Go.Shelf
attribute [local go_sem ↓] Go.wp_at_zero Go.wp_at_succ

theorem fit_sorted {l : List EntL} (h : SortedP l) : Fit l := fun e he => by
  have := legal_len (h.1 e he)
  unfold maxLen
  omega
set_option maxRecDepth 100000 in
set_option maxHeartbeats 8000000 in
theorem keeps_walk (v : Value) (l : List EntL) (s t : ByteArray) (hs : s.size ≤ maxLen) (ht : t.size ≤ maxLen) (z : Int) (w : World) (hv : Rd w.heap.size 2 v l.length (ents l) w) (hn : Fit l) :
    Calls Try.prog 5 #[v, .string s, .string t, .int .i64 z] w fun e W' => e = .returned (.bool true) ∧ Below w.heap.size w W' := by
  obtain ⟨ao, cap, rfl, _, _⟩ := hv.form
  obtain ⟨n, rfl⟩ : ∃ n : Nm, s = bs n := ⟨_, bs_of s⟩
  obtain ⟨o, rfl⟩ : ∃ o : Nm, t = bs o := ⟨_, bs_of t⟩
  rw [bs_size] at hs ht
  have HV := Lib.hid hv
  have HN := Lib.hid hn
  clear hv hn
  cases hfi : fineB l with
  | false =>
    have HF := Lib.hid hfi
    clear hfi
    go_enter Try.func5, Try.ntmps5
    go_wp2_with fail
    refine (fine_any _ l _ HV.out HN.out).mono ?_
    rintro e w0 ⟨rfl, hb0⟩
    rw [HF.out]
    go_wp2_with fail
    refine (shown_any _).mono ?_
    rintro e w1 ⟨rfl, hb1⟩
    go_wp2_with fail
    go_ret
    exact ⟨rfl, ret_tr hb0 hb1⟩
  | true =>
    obtain ⟨hl100, hso⟩ := fine_of hfi
    have HF := Lib.hid hfi
    have HS := Lib.hid hso
    have HU := Lib.hid hso.2
    have hl : l.length ≤ 10000 := by omega
    clear hfi hso
    by_cases hq : legalL n = 0
    · have HQ := Lib.hid hq
      clear hq
      by_cases h1 : 100 < o.length
      · have hI : decide ((100 : Int) < (o.length : Int)) = true := by simp; omega
        clear h1
        go_enter Try.func5, Try.ntmps5
        go_wp2_with fail
        refine (fine_any _ l _ HV.out HN.out).mono ?_
        rintro e w0 ⟨rfl, hb0⟩
        rw [HF.out]
        go_wp2_with fail
        refine (rlegal_any n hs _).mono ?_
        rintro e w0' ⟨rfl, rfl⟩
        rw [HQ.out]
        go_wp2_with fail
        refine (shown_any _).mono ?_
        rintro e w1 ⟨rfl, hb1⟩
        go_wp2_with fail
        go_ret
        exact ⟨rfl, ret_tr hb0 hb1⟩
      have hI : decide ((100 : Int) < (o.length : Int)) = false := by simp; omega
      clear h1
      have HPS := Lib.hid (sorted_put HS.out (n, z) HQ.out)
      have HFP := Lib.hid (find_put l n z)
      have HFO := Lib.hid (fun h => find_put_other HU.out n o z h)
      have HDP := Lib.hid (drop_put HU.out n z)
      have HDS := Lib.hid (sorted_drop HS.out n)
      have HFD := Lib.hid (find_drop l n)
      have hpl := put_len_up HU.out (n, z)
      have hdl := drop_len l n
      generalize hQ : putL l (n, z) = Q at *
      generalize hD : dropL l n = D at *
      have HQQ := Lib.hid hQ
      have HDD := Lib.hid hD
      clear hQ hD
      go_enter Try.func5, Try.ntmps5
      go_wp2_with fail
      refine (fine_any _ l _ HV.out HN.out).mono ?_
      rintro e w0 ⟨rfl, hb0⟩
      rw [HF.out]
      have HV0 := Lib.hid (rd_keep HV.out hb0)
      have HB0 := Lib.hid hb0
      clear hb0
      go_wp2_with fail
      refine (rlegal_any n hs _).mono ?_
      rintro e w0' ⟨rfl, rfl⟩
      rw [HQ.out]
      go_wp2_with fail
      refine (shown_any _).mono ?_
      rintro e w1 ⟨rfl, hb1⟩
      have HV1 := Lib.hid (rd_keep HV0.out hb1)
      have HB1 := Lib.hid (ret_tr HB0.out hb1)
      clear hb1 hI
      go_wp2_with fail
      refine (put_any _ _ l n z _ HV1.out (Nat.le_refl _) hl HU.out).mono ?_
      rintro e w2 ⟨vp, rfl, hp2, hb2⟩
      rw [HQQ.out] at hp2
      have HV2 := Lib.hid (rd_keep HV1.out hb2)
      have HB2 := Lib.hid (ret_tr HB1.out hb2)
      have HP2 := Lib.hid hp2
      obtain ⟨aop, capp, rfl, _, _⟩ := hp2.form
      clear hb2 hp2
      go_wp2_with fail
      refine (find_any _ _ Q n _ HP2.out (Nat.le_refl _) (by omega) HPS.out.2).mono ?_
      rintro e w3 ⟨rfl, hb3⟩
      rw [HFP.out, show vint (some z) = z from rfl]
      have HV3 := Lib.hid (rd_keep HV2.out hb3)
      have HP3 := Lib.hid (rd_keep HP2.out hb3)
      have HB3 := Lib.hid (ret_tr HB2.out hb3)
      clear hb3
      go_wp2_with fail
      refine (find_any _ _ l o _ HV3.out (Nat.le_refl _) hl HU.out).mono ?_
      rintro e w4 ⟨rfl, hb4⟩
      have HV4 := Lib.hid (rd_keep HV3.out hb4)
      have HP4 := Lib.hid (rd_keep HP3.out hb4)
      have HB4 := Lib.hid (ret_tr HB3.out hb4)
      clear hb4
      obtain ⟨f1, hf1⟩ : ∃ f, f = findL l o := ⟨_, rfl⟩
      rw [← hf1]
      have HF1 := Lib.hid hf1
      clear hf1
      go_wp2_with fail
      refine (find_any _ _ Q o _ HP4.out (Nat.le_refl _) (by omega) HPS.out.2).mono ?_
      rintro e w5 ⟨rfl, hb5⟩
      have HV5 := Lib.hid (rd_keep HV4.out hb5)
      have HP5 := Lib.hid (rd_keep HP4.out hb5)
      have HB5 := Lib.hid (ret_tr HB4.out hb5)
      clear hb5
      obtain ⟨f2, hf2⟩ : ∃ f, f = findL Q o := ⟨_, rfl⟩
      rw [← hf2]
      have HF2 := Lib.hid hf2
      clear hf2
      go_wp2_with fail
      refine (drop_any _ _ Q n _ HP5.out (Nat.le_refl _) (by omega) HPS.out.2).mono ?_
      rintro e w6 ⟨vd, rfl, hd6, hb6⟩
      rw [HDP.out] at hd6
      have HV6 := Lib.hid (rd_keep HV5.out hb6)
      have HP6 := Lib.hid (rd_keep HP5.out hb6)
      have HB6 := Lib.hid (ret_tr HB5.out hb6)
      have HD6 := Lib.hid hd6
      obtain ⟨aod, capd, rfl, _, _⟩ := hd6.form
      clear hb6 hd6
      go_wp2_with fail
      refine (find_any _ _ D n _ HD6.out (Nat.le_refl _) (by omega) HDS.out.2).mono ?_
      rintro e w7 ⟨rfl, hb7⟩
      rw [HFD.out, show vint none = -1 from rfl]
      have HV7 := Lib.hid (rd_keep HV6.out hb7)
      have HP7 := Lib.hid (rd_keep HP6.out hb7)
      have HD7 := Lib.hid (rd_keep HD6.out hb7)
      have HB7 := Lib.hid (ret_tr HB6.out hb7)
      clear hb7
      by_cases hon : o = n
      · have hO : (o == n) = true := by rw [beq_iff_eq]; exact hon
        generalize vint f1 = i1 at *
        generalize vint f2 = i2 at *
        clear hon
        go_wp2_with fail
        refine (sorted_any _ _ Q _ HP7.out (Nat.le_refl _) (by omega) (fit_sorted HPS.out)).mono ?_
        rintro e w8 ⟨rfl, hb8⟩
        rw [show decide (SortedP Q) = true by simpa using HPS.out]
        have HV8 := Lib.hid (rd_keep HV7.out hb8)
        have HD8 := Lib.hid (rd_keep HD7.out hb8)
        have HB8 := Lib.hid (ret_tr HB7.out hb8)
        clear hb8
        go_wp2_with fail
        refine (sorted_any _ _ D _ HD8.out (Nat.le_refl _) (by omega) (fit_sorted HDS.out)).mono ?_
        rintro e w9 ⟨rfl, hb9⟩
        rw [show decide (SortedP D) = true by simpa using HDS.out]
        have HV9 := Lib.hid (rd_keep HV8.out hb9)
        have HD9 := Lib.hid (rd_keep HD8.out hb9)
        have HB9 := Lib.hid (ret_tr HB8.out hb9)
        clear hb9
        go_wp2_with fail
        refine (its_any _ _ D _ HD9.out (Nat.le_refl _) (by omega)).mono ?_
        rintro e w10 ⟨vi, rfl, hi10, hb10⟩
        have HV10 := Lib.hid (rd_keep HV9.out hb10)
        have HI10 := Lib.hid hi10
        have HB10 := Lib.hid (ret_tr HB9.out hb10)
        clear hb10 hi10
        go_wp2_with fail
        refine (drop_any _ _ l n _ HV10.out (Nat.le_refl _) hl HU.out).mono ?_
        rintro e w11 ⟨vd2, rfl, hd11, hb11⟩
        rw [HDD.out] at hd11
        have HI11 := Lib.hid (rd_keep HI10.out hb11)
        have HD11 := Lib.hid hd11
        have HB11 := Lib.hid (ret_tr HB10.out hb11)
        clear hb11 hd11
        go_wp2_with fail
        refine (its_any _ _ D _ HD11.out (Nat.le_refl _) (by omega)).mono ?_
        rintro e w12 ⟨vj, rfl, hj12, hb12⟩
        have HI12 := Lib.hid (rd_keep HI11.out hb12)
        have HB12 := Lib.hid (ret_tr HB11.out hb12)
        clear hb12
        go_wp2_with fail
        refine (same_any _ _ _ D D _ HI12.out hj12 (by omega) (by omega)).mono ?_
        rintro e w13 ⟨rfl, n13, rfl⟩
        rw [dec_refl]
        clear hj12
        go_wp2_with fail
        go_ret
        exact ⟨rfl, below_drewN HB12.out n13⟩
      · have hO := beq_list_false hon
        have hf : f2 = f1 := by rw [HF1.out, HF2.out]; exact HFO.out hon
        subst hf
        generalize vint f2 = i2 at *
        generalize f2.isSome = b2 at *
        clear hon
        go_wp2_with fail
        refine (sorted_any _ _ Q _ HP7.out (Nat.le_refl _) (by omega) (fit_sorted HPS.out)).mono ?_
        rintro e w8 ⟨rfl, hb8⟩
        rw [show decide (SortedP Q) = true by simpa using HPS.out]
        have HV8 := Lib.hid (rd_keep HV7.out hb8)
        have HD8 := Lib.hid (rd_keep HD7.out hb8)
        have HB8 := Lib.hid (ret_tr HB7.out hb8)
        clear hb8
        go_wp2_with fail
        refine (sorted_any _ _ D _ HD8.out (Nat.le_refl _) (by omega) (fit_sorted HDS.out)).mono ?_
        rintro e w9 ⟨rfl, hb9⟩
        rw [show decide (SortedP D) = true by simpa using HDS.out]
        have HV9 := Lib.hid (rd_keep HV8.out hb9)
        have HD9 := Lib.hid (rd_keep HD8.out hb9)
        have HB9 := Lib.hid (ret_tr HB8.out hb9)
        clear hb9
        go_wp2_with fail
        refine (its_any _ _ D _ HD9.out (Nat.le_refl _) (by omega)).mono ?_
        rintro e w10 ⟨vi, rfl, hi10, hb10⟩
        have HV10 := Lib.hid (rd_keep HV9.out hb10)
        have HI10 := Lib.hid hi10
        have HB10 := Lib.hid (ret_tr HB9.out hb10)
        clear hb10 hi10
        go_wp2_with fail
        refine (drop_any _ _ l n _ HV10.out (Nat.le_refl _) hl HU.out).mono ?_
        rintro e w11 ⟨vd2, rfl, hd11, hb11⟩
        rw [HDD.out] at hd11
        have HI11 := Lib.hid (rd_keep HI10.out hb11)
        have HD11 := Lib.hid hd11
        have HB11 := Lib.hid (ret_tr HB10.out hb11)
        clear hb11 hd11
        go_wp2_with fail
        refine (its_any _ _ D _ HD11.out (Nat.le_refl _) (by omega)).mono ?_
        rintro e w12 ⟨vj, rfl, hj12, hb12⟩
        have HI12 := Lib.hid (rd_keep HI11.out hb12)
        have HB12 := Lib.hid (ret_tr HB11.out hb12)
        clear hb12
        go_wp2_with fail
        refine (same_any _ _ _ D D _ HI12.out hj12 (by omega) (by omega)).mono ?_
        rintro e w13 ⟨rfl, n13, rfl⟩
        rw [dec_refl]
        clear hj12
        go_wp2_with fail
        go_ret
        exact ⟨rfl, below_drewN HB12.out n13⟩
    · have hq2 : (legalL n != 0) = true := by rw [bne_iff_ne]; exact hq
      have HR := fun w => rlegal_any n hs w
      generalize legalL n = q at *
      clear hq
      go_enter Try.func5, Try.ntmps5
      go_wp2_with fail
      refine (fine_any _ l _ HV.out HN.out).mono ?_
      rintro e w0 ⟨rfl, hb0⟩
      rw [HF.out]
      go_wp2_with fail
      refine (HR _).mono ?_
      rintro e w0' ⟨rfl, rfl⟩
      go_wp2_with fail
      refine (shown_any _).mono ?_
      rintro e w1 ⟨rfl, hb1⟩
      go_wp2_with fail
      go_ret
      exact ⟨rfl, ret_tr hb0 hb1⟩
end Go.Proofs.Ytbabkpaepijjeaa
