/-
  The reference's Fits.
-/
import Derived.Test.YtoombpdoagjaoaaStenC
namespace Go.Proofs.Ytoombpdoagjaoaa
open Go.RowKit Go.Shelf

/-- Whether c is one of the first j letters. -/
def known (c : UInt8) (j : Nat) : Bool := (lettL.take j).contains c
theorem known_zero (c : UInt8) : known c 0 = false := rfl
theorem known_succ (c : UInt8) (j : Nat) (hj : j < 36) : known c (j + 1) = (known c j || (c == lettL.getD j 0)) := by
  have hj' : j < lettL.length := hj
  unfold known
  rw [List.take_succ_eq_append_getElem hj', List.getD_eq_getElem?_getD, List.getElem?_eq_getElem hj', Bool.eq_iff_iff, List.contains_iff_mem, List.mem_append, Bool.or_eq_true, List.contains_iff_mem, beq_iff_eq, List.mem_singleton]
  rfl
theorem known_end (c : UInt8) : known c 36 = isLett c := rfl
theorem index_lett (j : Nat) (hj : j < 36) (w : World) :
    (Instr.index 9 (.string lettS) (.int .i64 (j : Int))).run Try.prog w = .ok (.int .u8 (lettL.getD j 0).toNat) w := by
  have hz := lettS_size
  have hc := lettS_at j (by rw [hz]; exact hj)
  generalize lettS = s at *
  rw [← hc, run_index_string (P := Try.prog) _ _ _ _ _ Try.underlying9]
  have hj' : j < s.size := by omega
  simp [hj']

set_option maxRecDepth 100000 in
set_option maxHeartbeats 2000000 in
theorem rfits_any (s t : ByteArray) (w : World) (hs : s.size ≤ 65000) (ht : t.size ≤ 65000) :
    Calls Try.prog 17 #[.string s, .string t] w fun e W' => e = .returned (.bool (fitsB s.data.toList t.data.toList)) ∧ ∃ n, W' = w.drewN n := by
  have hls : s.data.toList.length = s.size := data_len s
  have hlt : t.data.toList.length = t.size := data_len t
  have hx := xs_le s.data.toList
  rw [hls] at hx
  obtain ⟨k, hk⟩ : ∃ k : Nat, k = s.size - xs s.data.toList := ⟨_, rfl⟩
  have hsub : (s.size : Int) - (xs s.data.toList : Int) = (k : Int) := by omega
  have HS := Lib.hid hsub
  clear hsub
  by_cases h2 : t.size = s.size
  · have h2I : ((t.size : Int) != (s.size : Int)) = false := by rw [h2]; simp
    have hks : k ≤ s.size := by omega
    have hkt : k ≤ t.size := by omega
    have hkl : k = s.data.toList.length - xs s.data.toList := by rw [hls]; exact hk
    by_cases h3 : t.data.toList.take k = s.data.toList.take k
    · have h3I : (!(t.extract 0 k).toList == (s.extract 0 k).toList) = false := by rw [Lib.toList_data, Lib.toList_data, extract_eq, extract_eq, List.drop_zero, List.drop_zero, h3]; simp
      have h4 := fits_all (l := s.data.toList) (m := t.data.toList) (by rw [hls, hlt, h2]) (by rw [← hkl]; exact h3)
      rw [← hkl] at h4
      have H4 := Lib.hid h4
      clear h2 hk hkl h4 h3 hls hlt
      go_enter Try.func17, Try.ntmps17
      go_wp2_with fail
      refine (rcount_any s hs _).mono ?_
      rintro e w1 ⟨rfl, rfl⟩
      go_wp2
      rw [HS.out]
      go_quiet (fail)
      go_wp2
      go_loopw [7] (fun i wr => ∃ (n m : Nat), i = .int .i64 n ∧ k ≤ n ∧ n ≤ t.size ∧ ((t.data.toList.take n).drop k).all isLett = true ∧ wr = w.drewN m) (fun i _ => t.size - (intOf i).toNat)
      case atStart => exact ⟨k, _, rfl, Nat.le_refl _, hkt, by rw [List.drop_take_self]; rfl, rfl⟩
      case round =>
        obtain ⟨n, m, rfl, hkn, hn, hal, rfl⟩ := hrel
        have HA := Lib.hid hal
        clear hal
        by_cases hlt : n < t.size
        · have hln : n < t.data.toList.length := by rw [data_len]; exact hlt
          have hgl : t.data.toList[n]'hln = t[n]'hlt := rfl
          have hnx : ((t.data.toList.take (n + 1)).drop k).all isLett = isLett (t[n]'hlt) := by
            rw [List.take_succ_eq_append_getElem hln, List.drop_append_of_le_length (by rw [List.length_take]; omega), List.all_append, HA.out, hgl]; simp
          have HNX := Lib.hid hnx
          have hbd : Hid (isLett (t[n]'hlt) = false → fitsB s.data.toList t.data.toList = false) := Lib.hid (fun hb => by
            rw [H4.out, List.all_eq_false]
            refine ⟨t[n]'hlt, ?_, by simp [hb]⟩
            rw [← hgl]
            refine List.mem_drop_iff_getElem.2 ⟨n - k, by rw [data_len]; omega, ?_⟩
            simp only [show k + (n - k) = n from by omega])
          obtain ⟨c, hc⟩ : ∃ c, c = t[n]'hlt := ⟨_, rfl⟩
          have HC := Lib.hid hc
          rw [← hc] at HNX hbd
          clear hnx hgl hln hc
          go_wp2
          go_loopw [8, 9] (fun b i wr => ∃ (j m2 : Nat) (q : Bool), b = .bool q ∧ Hid (q = known c j) ∧ i = .int .i64 j ∧ j ≤ 36 ∧ wr = w.drewN m2) (fun _ i _ => 36 - (intOf i).toNat)
          case atStart => exact ⟨0, _, _, rfl, Lib.hid rfl, rfl, Nat.zero_le _, rfl⟩
          case round =>
            obtain ⟨j, m2, q, rfl, hq, rfl, hj, rfl⟩ := hrel
            by_cases hjl : j < 36
            · have hix := index_lett j hjl
              have hks2 := known_succ c j hjl
              obtain ⟨d, hd⟩ : ∃ d, d = lettL.getD j 0 := ⟨_, rfl⟩
              rw [← hd] at hix hks2
              have HK2 := Lib.hid hks2
              clear hks2 hd
              cases q with
              | true =>
                have hkn2 : Hid (true = known c (j + 1)) := Lib.hid (by rw [HK2.out, ← hq.out]; rfl)
                go_wp2
                go_quiet (fail)
                go_wp2
                go_roundw
                case rel => exact ⟨j + 1, _, _, rfl, hkn2, by go_num, hjl, rfl⟩
                case measure => simp [intOf]; omega
              | false =>
                have hkn2 : Hid ((c == d) = known c (j + 1)) := Lib.hid (by rw [HK2.out, ← hq.out]; rfl)
                by_cases hcd : c = d
                · have hI : (((t[n]'hlt).toNat : Int) == (d.toNat : Int)) = true := by rw [← HC.out, hcd, beq_iff_eq]
                  have hkn3 : Hid (true = known c (j + 1)) := Lib.hid (by rw [← hkn2.out, hcd]; simp)
                  clear hcd
                  go_wp2
                  go_quiet (fail)
                  go_wp2
                  go_roundw
                  case rel => exact ⟨j + 1, _, _, rfl, hkn3, by go_num, hjl, rfl⟩
                  case measure => simp [intOf]; omega
                · have hI : (((t[n]'hlt).toNat : Int) == (d.toNat : Int)) = false := by
                    rw [← HC.out, beq_eq_false_iff_ne]
                    exact fun e => hcd (UInt8.toNat_inj.1 (by omega))
                  have hkn3 : Hid (false = known c (j + 1)) := Lib.hid (by rw [← hkn2.out, beq_eq_false_iff_ne.2 hcd])
                  clear hcd
                  go_wp2
                  go_quiet (fail)
                  go_wp2
                  go_roundw
                  case rel => exact ⟨j + 1, _, _, rfl, hkn3, by go_num, hjl, rfl⟩
                  case measure => simp [intOf]; omega
            · obtain rfl : j = 36 := by omega
              have hqe : Hid (q = isLett c) := Lib.hid (by rw [hq.out, known_end])
              cases q with
              | true =>
                have HA2 : Hid (((t.data.toList.take (n + 1)).drop k).all isLett = true) := Lib.hid (by rw [HNX.out, ← hqe.out])
                go_wp2
                go_roundw
                case rel => exact ⟨n + 1, _, by go_num, by omega, hlt, HA2.out, rfl⟩
                case measure => simp [intOf]; omega
              | false =>
                have HN : Hid (fitsB s.data.toList t.data.toList = false) := Lib.hid (hbd.out hqe.out.symm)
                go_wp2
                go_ret
                exact ⟨ret_bool HN.out.symm, _, rfl⟩
        · have HN : Hid (fitsB s.data.toList t.data.toList = true) := Lib.hid (by
            rw [H4.out]; have := HA.out; rwa [List.take_of_length_le (by rw [data_len]; omega)] at this)
          have hge : t.size ≤ n := by omega
          clear hlt
          go_wp2
          go_ret
          exact ⟨ret_bool HN.out.symm, _, rfl⟩
    · have h3I : (!(t.extract 0 k).toList == (s.extract 0 k).toList) = true := by rw [Lib.toList_data, Lib.toList_data, extract_eq, extract_eq, List.drop_zero, List.drop_zero]; simpa using h3
      have HN : Hid (fitsB s.data.toList t.data.toList = false) := Lib.hid (by unfold fitsB; rw [← hkl]; simp [h3])
      clear h2 hk hkl h3 hls hlt
      go_enter Try.func17, Try.ntmps17
      go_wp2_with fail
      refine (rcount_any s hs _).mono ?_
      rintro e w1 ⟨rfl, rfl⟩
      go_wp2
      rw [HS.out]
      go_quiet (fail)
      go_wp2
      go_ret
      exact ⟨ret_bool HN.out.symm, _, rfl⟩
  · have h2I : ((t.size : Int) != (s.size : Int)) = true := by rw [bne_iff_ne]; omega
    have HN : Hid (fitsB s.data.toList t.data.toList = false) := Lib.hid (fits_no2 (by rw [hls, hlt]; exact h2))
    have hks : k ≤ s.size := by omega
    clear h2 hls hlt hk
    go_enter Try.func17, Try.ntmps17
    go_wp2_with fail
    refine (rcount_any s hs _).mono ?_
    rintro e w1 ⟨rfl, rfl⟩
    go_wp2
    rw [HS.out]
    go_quiet (fail)
    go_wp2
    go_ret
    exact ⟨ret_bool HN.out.symm, _, rfl⟩
end Go.Proofs.Ytoombpdoagjaoaa
