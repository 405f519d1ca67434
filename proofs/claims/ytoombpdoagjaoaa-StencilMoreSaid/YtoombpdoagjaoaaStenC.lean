/-
  The reference's functions on stencils.
-/
import Derived.Test.YtoombpdoagjaoaaStenB
namespace Go.Proofs.Ytoombpdoagjaoaa
open Go.RowKit Go.Shelf

theorem rcount_big (s : ByteArray) (hs : s.size ≤ 9223372036854775807) (w : World) :
    Calls Try.prog 11 #[.string s] w fun e W' => e = .returned (.int .i64 (xs s.data.toList)) ∧ w = W' := by
  have hx := xs_le s.data.toList
  rw [data_len] at hx
  go_enter Try.func11, Try.ntmps11
  go_wp2
  go_loop [3] (fun n => ∃ k : Nat, k ≤ xs s.data.toList ∧ n = .int .i64 k) (fun n => s.size - (intOf n).toNat)
  case atStart => exact ⟨0, Nat.zero_le _, rfl⟩
  case round =>
    obtain ⟨k, hk, rfl⟩ := hrel
    by_cases hlt : k < s.size
    · have g1 : (0 : Int) ≤ (s.size : Int) - 1 - (k : Int) := by omega
      have g2 : (s.size : Int) - 1 - (k : Int) < (s.size : Int) := by omega
      have hi : ((s.size : Int) - 1 - (k : Int)).toNat = s.size - 1 - k := by omega
      have hb : s.size - 1 - k < s.size := by omega
      have hat := xs_at s.data.toList k (by rw [data_len]; omega) (by rw [data_len]; exact hlt) hk
      have hgl : s.data.toList[s.data.toList.length - 1 - k]'(by rw [data_len]; omega) = s[s.size - 1 - k]'hb := by
        simp only [data_len]; rfl
      rw [hgl] at hat
      by_cases hc : s[s.size - 1 - k]'hb = 88
      · have hI := sign_yes (s[s.size - 1 - k]'hb) 88 (by rw [hc]; rfl)
        have hkx := hat.1 hc
        clear hat hgl hc
        go_wp2
        go_round
        case rel => exact ⟨k + 1, hkx, by go_num⟩
        case measure => simp [intOf]; omega
      · have hI := sign_no (s[s.size - 1 - k]'hb).toNat 88 (fun h => hc (UInt8.toNat_inj.1 h))
        have hkx : k = xs s.data.toList := by
          rcases Nat.lt_or_ge k (xs s.data.toList) with h | h
          · exact absurd (hat.2 h) hc
          · omega
        have HK := Lib.hid hkx
        clear hat hgl hc hkx
        go_wp2
        go_ret
        exact ⟨ret_int (by rw [HK.out]), rfl⟩
    · have hkx : k = xs s.data.toList := by omega
      have HK := Lib.hid hkx
      have hge : s.size ≤ k := by omega
      have hI : decide ((k : Int) < (s.size : Int)) = false := by simp; omega
      clear hkx hlt
      go_wp2
      go_ret
      exact ⟨ret_int (by rw [HK.out]), rfl⟩

theorem rcount_any (s : ByteArray) (hs : s.size ≤ 65000) (w : World) :
    Calls Try.prog 11 #[.string s] w fun e W' => e = .returned (.int .i64 (xs s.data.toList)) ∧ w = W' := rcount_big s (by omega) w

set_option maxHeartbeats 400000 in
theorem rcheck_any (s : ByteArray) (hs : s.size ≤ 65000) (w : World) :
    Calls Try.prog 13 #[.string s] w fun e W' => e = .returned (.int .i64 (stenE s.data.toList)) ∧ w = W' := by
  by_cases h : xs s.data.toList < 3
  · have H : Hid (stenE s.data.toList = 1) := Lib.hid (if_pos h)
    go_enter Try.func13, Try.ntmps13
    go_wp2_with fail
    refine (rcount_any s hs _).mono ?_
    rintro e w1 ⟨rfl, rfl⟩
    go_wp2
    go_ret
    exact ⟨ret_int H.out.symm, rfl⟩
  · have H : Hid (stenE s.data.toList = 0) := Lib.hid (if_neg h)
    have h' : 3 ≤ xs s.data.toList := by omega
    clear h
    go_enter Try.func13, Try.ntmps13
    go_wp2_with fail
    refine (rcount_any s hs _).mono ?_
    rintro e w1 ⟨rfl, rfl⟩
    go_wp2
    go_ret
    exact ⟨ret_int H.out.symm, rfl⟩

theorem lettS_cut : ∀ k, k < 36 → (lettS.extract k (k + 1)) = ⟨#[lettL.getD k 0]⟩ := by
  intro k hk
  apply ByteArray.ext
  rw [extract_eq]
  revert k
  decide
theorem slice_lett (n : Int) (k : Nat) (hk : k < 36) (hn : n % 36 = k) (i j : Int) (hi : i = k) (hj : j = (k : Int) + 1) (w : World) :
    (Instr.slice 9 (.string lettS) (some (.int .i64 i)) (some (.int .i64 j)) none).run Try.prog w = .ok (.string ⟨#[lett n]⟩) w := by
  subst hi
  subst hj
  have hz := lettS_size
  have hc := lettS_cut k hk
  have hl : lett n = lettL.getD k 0 := by unfold lett; rw [hn]; rfl
  rw [hl, ← hc]
  generalize lettS = s at *
  rw [run_slice_string _ _ _ _ _ _ _ Try.underlying9 (by omega) (by omega) (by omega)]
  rfl
set_option maxRecDepth 100000 in
set_option maxHeartbeats 1000000 in
theorem rletter_any (n : Int) (w : World) :
    Calls Try.prog 15 #[.int .i64 n] w fun e W' => e = .returned (.string ⟨#[lett n]⟩) ∧ w = W' := by
  obtain ⟨q1, q2, q3⟩ := quo36 n
  obtain ⟨k, hk⟩ : ∃ k : Nat, n % 36 = k := ⟨(n % 36).toNat, by omega⟩
  have hk36 : k < 36 := by omega
  by_cases hn : n.tmod 36 < 0
  · have hsl := slice_lett n k hk36 hk (n.tmod 36 + 36) (n.tmod 36 + 36 + 1) (by omega) (by omega)
    clear q3 hk
    go_enter Try.func15, Try.ntmps15
    go_wp2
    go_ret
    exact ⟨rfl, rfl⟩
  · have hn' : 0 ≤ n.tmod 36 := by omega
    have hsl := slice_lett n k hk36 hk (n.tmod 36) (n.tmod 36 + 1) (by omega) (by omega)
    clear q3 hk hn
    go_enter Try.func15, Try.ntmps15
    go_wp2
    go_ret
    exact ⟨rfl, rfl⟩

theorem cat_byte (q : List UInt8) (c : UInt8) : (⟨q.toArray⟩ : ByteArray) ++ ⟨#[c]⟩ = ⟨(q ++ [c]).toArray⟩ := by apply ByteArray.ext; simp
set_option maxRecDepth 100000 in
set_option maxHeartbeats 1000000 in
theorem rmake_any (s : ByteArray) (v : Value) (zs : List Int) (B : Nat) (w : World) (hs : s.size ≤ 65000) (hv : RdI B .i64 v zs w) (hz : zs.length ≤ 65000) :
    Calls Try.prog 19 #[.string s, v] w fun e W' => e = .returned (.string ⟨(makeL s.data.toList zs).toArray⟩) ∧ w = W' := by
  have hx := xs_le s.data.toList
  rw [data_len] at hx
  obtain ⟨ao, cap, rfl, hc⟩ := hv
  have HC := Lib.hid hc
  clear hc
  have h0 : (s.extract 0 (s.size - xs s.data.toList)) = ⟨(madeTo s.data.toList zs 0).toArray⟩ := by
    rw [extract_eq, madeTo_zero, data_len, List.drop_zero]
  have H0 := Lib.hid h0
  have hlen0 : s.data.toList.length ≤ 65000 := by rw [data_len]; exact hs
  have hsub : ((s.size : Int) - (xs s.data.toList : Int)).toNat = s.size - xs s.data.toList := by omega
  have hsub0 : 0 ≤ (s.size : Int) - (xs s.data.toList : Int) := by omega
  clear h0
  go_enter Try.func19, Try.ntmps19
  go_wp2_with fail
  refine (rcount_any s hs _).mono ?_
  rintro e w1 ⟨rfl, rfl⟩
  go_wp2
  rw [H0.out]
  go_loop [6, 7] (fun q i => ∃ k : Nat, k ≤ xs s.data.toList ∧ q = .string ⟨(madeTo s.data.toList zs k).toArray⟩ ∧ i = .int .i64 k) (fun _ i => s.size - (intOf i).toNat)
  case atStart => exact ⟨0, Nat.zero_le _, rfl, rfl⟩
  case round =>
    obtain ⟨k, hk, rfl, rfl⟩ := hrel
    have hml := madeTo_len s.data.toList zs k
    have HS := Lib.hid (madeTo_succ s.data.toList zs k)
    by_cases hlt : k < xs s.data.toList
    · have hml2 : (madeTo s.data.toList zs k).length ≤ 130000 := by omega
      obtain ⟨q, hq⟩ : ∃ q, q = madeTo s.data.toList zs k := ⟨_, rfl⟩
      rw [← hq]
      rw [← hq] at hml2
      have hroom : ¬ 9223372036854775807 < q.length + 1 := by omega
      have HQ := Lib.hid hq
      clear hml hq
      by_cases hkz : k < zs.length
      · obtain ⟨b, off, rfl, _, hc⟩ := HC.out (fun e => by rw [e] at hkz; simp at hkz)
        have hcell := hc k hkz
        have hgd : Hid (zs.getD k 0 = zs[k]) := Lib.hid (by rw [List.getD_eq_getElem?_getD, List.getElem?_eq_getElem hkz]; rfl)
        have hcat := cat_byte q (lett zs[k])
        clear hc
        go_wp2_with fail
        refine (rletter_any _ _).mono ?_
        rintro e w1 ⟨rfl, rfl⟩
        go_wp2
        go_round
        case rel => exact ⟨k + 1, hlt, by rw [HS.out, ← HQ.out, hgd.out], by go_num⟩
        case measure => simp [intOf]; omega
      · have hkz' : zs.length ≤ k := by omega
        have hgd : Hid (zs.getD k 0 = 0) := Lib.hid (by rw [List.getD_eq_getElem?_getD, List.getElem?_eq_none (by omega)]; rfl)
        have hcat := cat_byte q (lett 0)
        clear hkz
        go_wp2_with fail
        refine (rletter_any _ _).mono ?_
        rintro e w1 ⟨rfl, rfl⟩
        go_wp2
        go_round
        case rel => exact ⟨k + 1, hlt, by rw [HS.out, ← HQ.out, hgd.out], by go_num⟩
        case measure => simp [intOf]; omega
    · have hkx : k = xs s.data.toList := by omega
      have HK := Lib.hid hkx
      have hge : xs s.data.toList ≤ k := by omega
      clear hkx hlt hml
      go_wp2
      go_ret
      exact ⟨ret_str (by rw [HK.out]; rfl), rfl⟩
end Go.Proofs.Ytoombpdoagjaoaa
