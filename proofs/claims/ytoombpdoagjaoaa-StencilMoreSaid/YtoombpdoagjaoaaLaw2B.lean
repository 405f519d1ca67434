/-
  The walk of StencilFits.
-/
import Derived.Test.YtoombpdoagjaoaaLaw2A
import Derived.Test.YtoombpdoagjaoaaStenLaws
import Derived.Lib.QuietBelow
namespace Go.Proofs.Ytoombpdoagjaoaa
open Go.RowKit Go.Shelf

set_option maxRecDepth 100000 in
set_option maxHeartbeats 2000000 in
theorem sfits_small (t : ByteArray) (v : Value) (zs : List Int) (hp' : t.size ≤ 200) (hq' : zs.length ≤ 200) (w : World) (hv : RdI w.heap.size .i64 v zs w) :
    Calls Try.prog 5 #[.string t, v] w fun e W' => e = .returned (.bool true) ∧ Below w.heap.size w W' := by
  have h1 := small2 (n := t.size) (by omega)
  have h2 := small2 (n := zs.length) (by omega)
  have hls : t.data.toList.length = t.size := data_len t
  have hx := xs_le t.data.toList
  rw [hls] at hx
  obtain ⟨m, hm⟩ : ∃ m, m = makeL t.data.toList zs := ⟨_, rfl⟩
  have hml : m.length = t.size := by rw [hm, makeL_len, hls]
  have hmx : xs t.data.toList ≠ 0 → xs m = 0 := by rw [hm]; exact makeL_xs _ _
  have hmf : fitsB t.data.toList m = true := by rw [hm]; exact makeL_fits _ _
  obtain ⟨k, hk⟩ : ∃ k : Nat, k = t.size - xs t.data.toList := ⟨_, rfl⟩
  have hmt : m.take k = t.data.toList.take k := by rw [hm, hk, ← hls]; exact makeL_take _ _
  have hsub : (t.size : Int) - (xs t.data.toList : Int) = (k : Int) := by omega
  have hks : k ≤ t.size := by omega
  have hkm : k ≤ m.length := by omega
  have HS := Lib.hid hsub
  have HM := Lib.hid hm
  have g1 : ((m.length : Int) == (t.size : Int)) = true := by rw [beq_iff_eq]; omega
  have g2 : (((⟨m.toArray⟩ : ByteArray).extract 0 k).toList == (t.extract 0 k).toList) = true := by
    rw [Lib.toList_data, Lib.toList_data, extract_eq, extract_eq, List.drop_zero, List.drop_zero, beq_iff_eq]
    exact hmt
  have hmsz : (⟨m.toArray⟩ : ByteArray).size ≤ 65000 := by rw [size_list]; omega
  obtain ⟨ao, cap, rfl, _⟩ := id hv
  have HV := Lib.hid hv
  by_cases hk0 : xs t.data.toList = 0
  · have g3 : ((k : Int) == (t.size : Int)) = true := by rw [beq_iff_eq]; omega
    clear hv hm hml hmx hmt hsub hls hk hk0
    go_enter Try.func5, Try.ntmps5
    go_wp2_with fail
    refine (shown_any _).mono ?_
    rintro e w1 ⟨rfl, hb1⟩
    have hv1 := HV.out.below hb1
    have s1 := hb1.size
    go_wp2_with fail
    refine (make_any _ _ zs _ (by omega) (hv1.mono s1) (by omega)).mono ?_
    rintro e w2 ⟨rfl, hb2⟩
    rw [← HM.out]
    go_wp2_with fail
    refine (rcount_any _ (by omega) _).mono ?_
    rintro e w3 ⟨rfl, rfl⟩
    go_wp2
    rw [HS.out]
    refine wp_region_quiet_below (by kernel_rfl) (by kernel_rfl) ?_
    repeat (go_big_quiet_step ((go_at_call 16; exact Calls.regrown_of ((fits_any _ _ _ (by omega) hmsz).mono fun e W' ⟨he, hb⟩ => ⟨by rw [he, hmf], hb⟩))))
    refine wpQuiet_nil ?_
    intro _ hw'
    obtain ⟨⟨dq, osq⟩, hw''⟩ := hw'
    subst hw''
    go_wp2
    go_ret
    refine ⟨rfl, ?_⟩
    have s2 := hb2.size
    exact hb1.trans ((hb2.mono s1).trans ((below_regrown w2 dq osq).mono (by omega)))
  · have g3 : ((k : Int) == (t.size : Int)) = false := by rw [beq_eq_false_iff_ne]; omega
    have hmx0 : Hid (xs (⟨m.toArray⟩ : ByteArray).data.toList = 0) := Lib.hid (hmx hk0)
    clear hv hm hml hmx hmt hsub hls hk hk0
    go_enter Try.func5, Try.ntmps5
    go_wp2_with fail
    refine (shown_any _).mono ?_
    rintro e w1 ⟨rfl, hb1⟩
    have hv1 := HV.out.below hb1
    have s1 := hb1.size
    go_wp2_with fail
    refine (make_any _ _ zs _ (by omega) (hv1.mono s1) (by omega)).mono ?_
    rintro e w2 ⟨rfl, hb2⟩
    rw [← HM.out]
    go_wp2_with fail
    refine (rcount_any _ (by omega) _).mono ?_
    rintro e w3 ⟨rfl, rfl⟩
    go_wp2
    rw [HS.out]
    refine wp_region_quiet_below (by kernel_rfl) (by kernel_rfl) ?_
    repeat (go_big_quiet_step ((first | (go_at_call 16; exact Calls.regrown_of ((fits_any _ _ _ (by omega) hmsz).mono fun e W' ⟨he, hb⟩ => ⟨by rw [he, hmf], hb⟩)) | (go_at_call 10; exact Calls.regrown_of ((count_any _ hmsz _).mono fun e W' ⟨he, hb⟩ => ⟨by rw [he, hmx0.out], hb⟩)))))
    refine wpQuiet_nil ?_
    intro _ hw'
    obtain ⟨⟨dq, osq⟩, hw''⟩ := hw'
    subst hw''
    go_wp2
    go_ret
    refine ⟨rfl, ?_⟩
    have s2 := hb2.size
    exact hb1.trans ((hb2.mono s1).trans ((below_regrown w2 dq osq).mono (by omega)))

theorem sfits_walk (t : ByteArray) (v : Value) (zs : List Int) (hT : t.size ≤ 9223372036854775807) (hz : zs.length ≤ 9223372036854775807) (w : World) (hv : RdI w.heap.size .i64 v zs w) (_ : ∀ z ∈ zs, (Lit.int .i64 z).wf = true) :
    Calls Try.prog 5 #[.string t, v] w fun e W' => e = .returned (.bool true) ∧ Below w.heap.size w W' := by
  by_cases hp : 200 < t.size
  · have h1 := big2 hp
    clear hp hv
    go_enter Try.func5, Try.ntmps5
    go_wp2_with (go_at_call 9; refine (shown_any _).mono ?_; rintro e w1 ⟨rfl, hb1⟩)
    go_ret
    exact ⟨rfl, hb1⟩
  · have h1 := small2 hp
    obtain ⟨ao, cap, rfl, _⟩ := id hv
    by_cases hq : 200 < zs.length
    · have h2 := big2 hq
      clear hp hq hv
      go_enter Try.func5, Try.ntmps5
      go_wp2_with (go_at_call 9; refine (shown_any _).mono ?_; rintro e w1 ⟨rfl, hb1⟩)
      go_ret
      exact ⟨rfl, hb1⟩
    · exact sfits_small t _ zs (by omega) (by omega) w hv
end Go.Proofs.Ytoombpdoagjaoaa
