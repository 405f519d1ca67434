/-
  The walk of EntryFinds.
-/
import Derived.Test.YtbabkpaepijjeaaLaw5A
namespace Go.Proofs.Ytbabkpaepijjeaa
open Go.RowKit Go.Shelf
attribute [local go_sem ↓] Go.wp_at_zero Go.wp_at_succ

theorem names_at (l : List EntL) (k : Nat) (h : k < l.length) : (strs (namesL l))[k]? = some (.string (bs l[k].1)) := by
  rw [strs_at (namesL l) k (by rw [names_len]; exact h)]
  simp [namesL]
set_option maxRecDepth 100000 in
set_option maxHeartbeats 8000000 in
theorem finds_walk (v : Value) (l : List EntL) (s : ByteArray) (w : World) (hv : Rd w.heap.size 2 v l.length (ents l) w) (hn : Fit l) :
    Calls Try.prog 8 #[v, .string s] w fun e W' => e = .returned (.bool true) ∧ Below w.heap.size w W' := by
  obtain ⟨ao, cap, rfl, _, _⟩ := hv.form
  obtain ⟨n, rfl⟩ : ∃ n : Nm, s = bs n := ⟨_, bs_of s⟩
  have HV := Lib.hid hv
  have HN := Lib.hid hn
  clear hv hn
  cases hfi : fineB l with
  | false =>
    have HF := Lib.hid hfi
    clear hfi
    go_enter Try.func8, Try.ntmps8
    go_wp2_with fail
    refine (fine_any _ l _ HV.out HN.out).mono ?_
    rintro e w0 ⟨rfl, hb0⟩
    rw [HF.out]
    go_wp2_with fail
    refine (shown_any _).mono ?_
    rintro e w1 ⟨rfl, hb1⟩
    go_wp2_with fail
    go_ret
    exact ⟨rfl, ret_tr hb0 hb1⟩
  | true =>
    obtain ⟨hl100, hso⟩ := fine_of hfi
    have HF := Lib.hid hfi
    have HS := Lib.hid hso
    have HU := Lib.hid hso.2
    have hl : l.length ≤ 10000 := by omega
    clear hfi hso
    by_cases h1 : 100 < n.length
    · have hI : decide ((100 : Int) < (n.length : Int)) = true := by simp; omega
      clear h1
      go_enter Try.func8, Try.ntmps8
      go_wp2_with fail
      refine (fine_any _ l _ HV.out HN.out).mono ?_
      rintro e w0 ⟨rfl, hb0⟩
      rw [HF.out]
      go_wp2_with fail
      refine (shown_any _).mono ?_
      rintro e w1 ⟨rfl, hb1⟩
      go_wp2_with fail
      go_ret
      exact ⟨rfl, ret_tr hb0 hb1⟩
    have hI : decide ((100 : Int) < (n.length : Int)) = false := by simp; omega
    clear h1
    go_enter Try.func8, Try.ntmps8
    go_wp2_with fail
    refine (fine_any _ l _ HV.out HN.out).mono ?_
    rintro e w0 ⟨rfl, hb0⟩
    rw [HF.out]
    have HV0 := Lib.hid (rd_keep HV.out hb0)
    have HB0 := Lib.hid hb0
    clear hb0
    go_wp2_with fail
    refine (shown_any _).mono ?_
    rintro e w1 ⟨rfl, hb1⟩
    have HV1 := Lib.hid (rd_keep HV0.out hb1)
    have HB1 := Lib.hid (ret_tr HB0.out hb1)
    clear hb1 hI
    go_wp2_with fail
    refine (names_any _ _ l _ HV1.out (Nat.le_refl _) hl).mono ?_
    rintro e W0 ⟨vn, rfl, hn2, hb2⟩
    rw [names_len] at hn2
    have HV2 := Lib.hid (rd_keep HV1.out hb2)
    have HB2 := Lib.hid (ret_tr HB1.out hb2)
    have HM2 := Lib.hid hn2
    obtain ⟨aon, capn, rfl, _, _⟩ := hn2.form
    clear hb2 hn2 HV HV0 HV1 HB0 HB1
    go_wp2_with fail
    go_loopw [6, 7] (fun f i wr => ∃ k : Nat, i = .int .i64 k ∧ k ≤ l.length ∧ f = .bool ((l.take k).any fun e => e.1 == n) ∧ Below W0.heap.size W0 wr) (fun _ i _ => l.length - (intOf i).toNat)
    case atStart => exact ⟨0, rfl, Nat.zero_le _, rfl, Below.refl _ _⟩
    case round =>
      obtain ⟨k, rfl, hk, rfl, hBr⟩ := hrel
      have sB := hBr.size
      by_cases hlt : k < l.length
      · have HVr := Lib.hid ((HV2.out.below hBr).mono sB)
        obtain ⟨b, off, cap', e, _, _, hb, _, hc⟩ := HV2.out.at (by omega)
        injection e with e1 _ e2
        subst e1
        subst e2
        obtain ⟨bn, offn, cap2, e, _, _, hbn, _, hcn⟩ := HM2.out.at (by omega)
        injection e with e1 _ e2
        subst e1
        subst e2
        have hft := Lib.hid (any_take_succ l (fun e => e.1 == n) k hlt)
        have hfa := Lib.hid (find_at HU.out k hlt)
        have hord := Lib.hid (fun j (h : k = j + 1) => sorted_order (j := j) HS.out hlt h)
        have HC := Lib.hid fun (W : World) (hW : Below W0.heap.size W0 W) (j : Nat) (hj : j < l.length) => (show W.cell? ⟨b, off + j * 2, none⟩ = some (.string (bs (l[j]).1)) ∧ W.cell? ⟨b, off + j * 2 + 1, none⟩ = some (.int .i64 (l[j]).2) ∧ W.cell? ⟨bn, offn + j, none⟩ = some (.string (bs (l[j]).1)) from
          ⟨(hW.cell (p := ⟨b, off + j * 2, none⟩) hb).trans (hc _ _ (ents_at0 l j hj)), (hW.cell (p := ⟨b, off + j * 2 + 1, none⟩) hb).trans (hc (j * 2 + 1) _ (ents_at1 l j hj)), (hW.cell (p := ⟨bn, offn + j, none⟩) hbn).trans (hcn _ _ (names_at l j hj))⟩)
        clear hc hcn
        obtain ⟨x, hx⟩ : ∃ x, x = (l[k]).1 := ⟨_, rfl⟩
        obtain ⟨z, hz⟩ : ∃ z, z = (l[k]).2 := ⟨_, rfl⟩
        obtain ⟨r0, r1, r2⟩ := HC.out _ hBr k hlt
        rw [← hx] at hft hfa hord r0 r2
        rw [← hz] at hfa r1
        have k0 : (0 : Int) ≤ (k : Int) := by omega
        have k1 : (k : Int) < (l.length : Int) := by omega
        have HX := Lib.hid hx
        have HZ := Lib.hid hz
        clear hx hz r1 r2
        go_wp2_with fail
        refine (find_any _ _ l x _ HVr.out (Nat.le_refl _) hl HU.out).mono ?_
        rintro e w2 ⟨rfl, hb2⟩
        rw [hfa.out, show vint (some z) = z from rfl]
        have hB2 := hBr.trans (hb2.mono sB)
        obtain ⟨q0, q1, q2⟩ := HC.out _ hB2 k hlt
        rw [← HX.out] at q0 q2
        rw [← HZ.out] at q1
        have s2 := hB2.size
        clear hb2 r0
        by_cases h0 : k = 0
        · have hI : decide (0 < k) = false := by simp; omega
          clear h0
          go_wp2_with fail
          go_quiet (fail)
          cases hfk : (l.take k).any (fun e => e.1 == n) with
          | true =>
            have HT : Hid ((l.take (k + 1)).any (fun e => e.1 == n) = true) := Lib.hid (by rw [hft.out, hfk]; rfl)
            clear hfk
            go_wp2_with fail
            go_roundw
            case rel => exact ⟨k + 1, by go_num, hlt, by rw [HT.out], below_drewN hB2 nq⟩
            case measure => simp [intOf]; omega
          | false =>
            by_cases hxn : x = n
            · have hK : (x == n) = true := by rw [beq_iff_eq]; exact hxn
              have HT : Hid ((l.take (k + 1)).any (fun e => e.1 == n) = true) := Lib.hid (by rw [hft.out, hfk, hK]; rfl)
              clear hfk hxn
              go_wp2_with fail
              go_roundw
              case rel => exact ⟨k + 1, by go_num, hlt, by rw [HT.out], below_drewN hB2 nq⟩
              case measure => simp [intOf]; omega
            · have hK := beq_list_false hxn
              have HT : Hid ((l.take (k + 1)).any (fun e => e.1 == n) = false) := Lib.hid (by rw [hft.out, hfk, hK]; rfl)
              clear hfk hxn
              go_wp2_with fail
              go_roundw
              case rel => exact ⟨k + 1, by go_num, hlt, by rw [HT.out], below_drewN hB2 nq⟩
              case measure => simp [intOf]; omega
        · obtain ⟨j, hj⟩ : ∃ j, k = j + 1 := ⟨k - 1, by omega⟩
          have hI : decide (0 < k) = true := by simp; omega
          have hk1 : (k : Int) - 1 = (j : Int) := by omega
          have hjl : (j : Int) < (l.length : Int) := by omega
          have hj0 : (0 : Int) ≤ (j : Int) := by omega
          obtain ⟨p0, p1, p2⟩ := HC.out _ hB2 j (by omega)
          clear p0 p1
          have ho := hord.out j hj
          generalize (l[j]'(by omega)).1 = y at *
          have hJ := bless_no (lt_as ho)
          have hJ2 := beq_list_false (lt_ne ho).symm
          clear h0 hj ho
          go_wp2_with fail
          go_quiet (fail)
          cases hfk : (l.take k).any (fun e => e.1 == n) with
          | true =>
            have HT : Hid ((l.take (k + 1)).any (fun e => e.1 == n) = true) := Lib.hid (by rw [hft.out, hfk]; rfl)
            clear hfk
            go_wp2_with fail
            go_roundw
            case rel => exact ⟨k + 1, by go_num, hlt, by rw [HT.out], below_drewN hB2 nq⟩
            case measure => simp [intOf]; omega
          | false =>
            by_cases hxn : x = n
            · have hK : (x == n) = true := by rw [beq_iff_eq]; exact hxn
              have HT : Hid ((l.take (k + 1)).any (fun e => e.1 == n) = true) := Lib.hid (by rw [hft.out, hfk, hK]; rfl)
              clear hfk hxn
              go_wp2_with fail
              go_roundw
              case rel => exact ⟨k + 1, by go_num, hlt, by rw [HT.out], below_drewN hB2 nq⟩
              case measure => simp [intOf]; omega
            · have hK := beq_list_false hxn
              have HT : Hid ((l.take (k + 1)).any (fun e => e.1 == n) = false) := Lib.hid (by rw [hft.out, hfk, hK]; rfl)
              clear hfk hxn
              go_wp2_with fail
              go_roundw
              case rel => exact ⟨k + 1, by go_num, hlt, by rw [HT.out], below_drewN hB2 nq⟩
              case measure => simp [intOf]; omega
      · have hke : k = l.length := by omega
        have HT : Hid ((l.take k).any (fun e => e.1 == n) = (findL l n).isSome) := Lib.hid (by rw [hke, List.take_length, find_isSome])
        have HVr := Lib.hid ((HV2.out.below hBr).mono sB)
        have hI2 : decide (k < l.length) = false := by simp; omega
        rw [HT.out]
        clear hke hlt
        go_wp2_with fail
        refine (find_any _ _ l n _ HVr.out (Nat.le_refl _) hl HU.out).mono ?_
        rintro e w2 ⟨rfl, hb2⟩
        generalize (findL l n).isSome = fb at *
        generalize vint (findL l n) = fi at *
        go_wp2_with fail
        go_ret
        exact ⟨ret_bool (by simp), HB2.out.trans ((hBr.trans (hb2.mono sB)).mono HB2.out.size)⟩
end Go.Proofs.Ytbabkpaepijjeaa
