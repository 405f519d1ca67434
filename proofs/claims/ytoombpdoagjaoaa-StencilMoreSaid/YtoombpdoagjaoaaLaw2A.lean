/-
  What is shown in each statement on stencils; the walks of StencilTells, StencilMakes, StencilFits.
-/
import Derived.Test.YtoombpdoagjaoaaStenD
namespace Go.Proofs.Ytoombpdoagjaoaa
open Go.RowKit Go.Shelf

theorem strSize {l : List UInt8} : (⟨l.toArray⟩ : ByteArray).data.toList = l := rfl
theorem make_ex (W : World) (v : Value) (hv : RdI W.heap.size .i64 v [0, 27, 35] W) : Calls Try.prog 18 #[.string ⟨#[97, 88, 88, 88]⟩, v] W fun e W' => e = .returned (.string ⟨#[97, 97, 49, 57]⟩) ∧ Below W.heap.size W W' :=
  (make_any ⟨#[97, 88, 88, 88]⟩ v [0, 27, 35] W (by decide) hv (by decide)).mono fun e W' ⟨he, hb⟩ => ⟨by rw [he, show makeL (⟨#[97, 88, 88, 88]⟩ : ByteArray).data.toList [0, 27, 35] = [97, 97, 49, 57] from by decide], hb⟩
theorem count_ex (W : World) : Calls Try.prog 10 #[.string ⟨#[88, 97, 88, 88]⟩] W fun e W' => e = .returned (.int .i64 2) ∧ Below W.heap.size W W' :=
  (count_any ⟨#[88, 97, 88, 88]⟩ (by decide) W).mono fun e W' ⟨he, hb⟩ => ⟨by rw [he, show xs (⟨#[88, 97, 88, 88]⟩ : ByteArray).data.toList = 2 from by decide]; rfl, hb⟩
theorem check_ex1 (W : World) : Calls Try.prog 12 #[.string ⟨#[97, 88, 88]⟩] W fun e W' => e = .returned (.int .i64 1) ∧ Below W.heap.size W W' :=
  (check_any ⟨#[97, 88, 88]⟩ (by decide) W).mono fun e W' ⟨he, hb⟩ => ⟨by rw [he, show stenE (⟨#[97, 88, 88]⟩ : ByteArray).data.toList = 1 from by decide], hb⟩
theorem check_ex2 (W : World) : Calls Try.prog 12 #[.string ⟨#[88, 88, 88]⟩] W fun e W' => e = .returned (.int .i64 0) ∧ Below W.heap.size W W' :=
  (check_any ⟨#[88, 88, 88]⟩ (by decide) W).mono fun e W' ⟨he, hb⟩ => ⟨by rw [he, show stenE (⟨#[88, 88, 88]⟩ : ByteArray).data.toList = 0 from by decide], hb⟩
theorem fits_ex1 (W : World) : Calls Try.prog 16 #[.string ⟨#[97, 88, 88, 88]⟩, .string ⟨#[97, 97, 49, 57]⟩] W fun e W' => e = .returned (.bool true) ∧ Below W.heap.size W W' :=
  (fits_any ⟨#[97, 88, 88, 88]⟩ ⟨#[97, 97, 49, 57]⟩ W (by decide) (by decide)).mono fun e W' ⟨he, hb⟩ => ⟨by rw [he, show fitsB (⟨#[97, 88, 88, 88]⟩ : ByteArray).data.toList (⟨#[97, 97, 49, 57]⟩ : ByteArray).data.toList = true from by decide], hb⟩
theorem fits_ex2 (W : World) : Calls Try.prog 16 #[.string ⟨#[97, 88, 88, 88]⟩, .string ⟨#[97, 97, 65, 57]⟩] W fun e W' => e = .returned (.bool false) ∧ Below W.heap.size W W' :=
  (fits_any ⟨#[97, 88, 88, 88]⟩ ⟨#[97, 97, 65, 57]⟩ W (by decide) (by decide)).mono fun e W' ⟨he, hb⟩ => ⟨by rw [he, show fitsB (⟨#[97, 88, 88, 88]⟩ : ByteArray).data.toList (⟨#[97, 97, 65, 57]⟩ : ByteArray).data.toList = false from by decide], hb⟩
theorem letter_ex (W : World) : Calls Try.prog 14 #[.int .i64 (-1)] W fun e W' => e = .returned (.string ⟨#[57]⟩) ∧ Below W.heap.size W W' :=
  (letter_any (-1) W).mono fun e W' ⟨he, hb⟩ => ⟨by rw [he, show lett (-1) = 57 from by decide], hb⟩
theorem RdI_new (W : World) (t : TypeId) (zs : List Int) (cap : Nat) : RdI (W.alloc (.cells (zs.map (Value.int .i64)).toArray t)).heap.size .i64 (.slice (some ⟨W.heap.size, 0, none⟩) zs.length cap) zs (W.alloc (.cells (zs.map (Value.int .i64)).toArray t)) := by
  refine ⟨_, cap, rfl, fun _ => ⟨W.heap.size, 0, rfl, by simp, fun j hj => ?_⟩⟩
  have h : (W.alloc (.cells (zs.map (Value.int .i64)).toArray t)).heap[W.heap.size]? = some (.cells (zs.map (Value.int .i64)).toArray t) := by
    show (W.heap.push _)[W.heap.size]? = _
    simp
  rw [Lib.cell_of_heap h, Nat.zero_add]
  simp [hj]

set_option maxRecDepth 100000 in
set_option maxHeartbeats 1000000 in
theorem shown_any (w : World) : Calls Try.prog 9 #[] w fun e W' => e = .returned (.bool true) ∧ Below w.heap.size w W' := by
  have hr := RdI_new w 3 [0, 27, 35] 3
  go_enter Try.func9, Try.ntmps9
  go_wp2_with fail
  refine (make_ex _ _ hr).mono ?_
  rintro e w1 ⟨rfl, hb1⟩
  have s1 : w.heap.size ≤ w1.heap.size := by have := hb1.size; simp at this; omega
  have hb1' : Below w.heap.size w w1 := ((Below.refl _ w).alloc (Nat.le_refl _) _).trans (hb1.mono (by simp))
  clear hb1
  go_wp2_with fail
  refine (count_ex _).mono ?_
  rintro e w2 ⟨rfl, hb2⟩
  go_wp2_with fail
  refine (check_ex1 _).mono ?_
  rintro e w3 ⟨rfl, hb3⟩
  go_wp2_with fail
  refine (check_ex2 _).mono ?_
  rintro e w4 ⟨rfl, hb4⟩
  go_wp2_with fail
  refine (fits_ex1 _).mono ?_
  rintro e w5 ⟨rfl, hb5⟩
  go_wp2_with fail
  refine (fits_ex2 _).mono ?_
  rintro e w6 ⟨rfl, hb6⟩
  go_wp2_with fail
  refine (letter_ex _).mono ?_
  rintro e w7 ⟨rfl, hb7⟩
  go_wp2_with fail
  go_ret
  have s2 := hb2.size; have s3 := hb3.size; have s4 := hb4.size; have s5 := hb5.size; have s6 := hb6.size
  exact ⟨rfl, hb1'.trans ((hb2.mono (by omega)).trans ((hb3.mono (by omega)).trans ((hb4.mono (by omega)).trans ((hb5.mono (by omega)).trans ((hb6.mono (by omega)).trans (hb7.mono (by omega)))))))⟩

theorem big2 {n : Nat} (h : 200 < n) : decide ((200 : Int) < (n : Int)) = true := by simp; omega
theorem small2 {n : Nat} (h : ¬ 200 < n) : decide ((200 : Int) < (n : Int)) = false := by simp; omega

set_option maxRecDepth 100000 in
set_option maxHeartbeats 1000000 in
theorem tells_walk (t nm : ByteArray) (n : Int) (hT : t.size ≤ 9223372036854775807) (hN : nm.size ≤ 9223372036854775807) (_ : (Lit.int .i64 n).wf = true) (w : World) :
    Calls Try.prog 3 #[.string t, .string nm, .int .i64 n] w fun e W' => e = .returned (.bool true) ∧ Below w.heap.size w W' := by
  by_cases hp : 200 < t.size
  · have h1 := big2 hp
    clear hp
    go_enter Try.func3, Try.ntmps3
    go_wp2_with (go_at_call 9; refine (shown_any _).mono ?_; rintro e w1 ⟨rfl, hb1⟩)
    go_ret
    exact ⟨rfl, hb1⟩
  · have h1 := small2 hp
    by_cases hq : 200 < nm.size
    · have h2 := big2 hq
      clear hp hq
      go_enter Try.func3, Try.ntmps3
      go_wp2_with (go_at_call 9; refine (shown_any _).mono ?_; rintro e w1 ⟨rfl, hb1⟩)
      go_ret
      exact ⟨rfl, hb1⟩
    · have h2 := small2 hq
      have hp' : t.size ≤ 65000 := by omega
      have hq' : nm.size ≤ 65000 := by omega
      clear hp hq
      go_enter Try.func3, Try.ntmps3
      go_wp2_with fail
      refine (shown_any _).mono ?_
      rintro e w1 ⟨rfl, hb1⟩
      go_wp2_with fail
      refine (count_any _ hp' _).mono ?_
      rintro e w2 ⟨rfl, hb2⟩
      go_wp2_with fail
      refine (rcount_any _ hp' _).mono ?_
      rintro e w3 ⟨rfl, rfl⟩
      go_wp2_with fail
      refine (check_any _ hp' _).mono ?_
      rintro e w4 ⟨rfl, hb4⟩
      go_wp2_with fail
      refine (rcheck_any _ hp' _).mono ?_
      rintro e w5 ⟨rfl, rfl⟩
      go_wp2_with fail
      refine (letter_any _ _).mono ?_
      rintro e w6 ⟨rfl, hb6⟩
      go_wp2_with fail
      refine (rletter_any _ _).mono ?_
      rintro e w7 ⟨rfl, rfl⟩
      go_wp2_with fail
      refine (fits_any _ _ _ hp' hq').mono ?_
      rintro e w8 ⟨rfl, hb8⟩
      go_wp2_with fail
      refine (rfits_any _ _ _ hp' hq').mono ?_
      rintro e w9 ⟨rfl, j, rfl⟩
      go_wp2_with fail
      go_ret
      refine ⟨by simp, below_drewN ?_ j⟩
      have s1 := hb1.size; have s2 := hb2.size; have s4 := hb4.size; have s6 := hb6.size
      exact hb1.trans ((hb2.mono (by omega)).trans ((hb4.mono (by omega)).trans ((hb6.mono (by omega)).trans (hb8.mono (by omega)))))

set_option maxRecDepth 100000 in
set_option maxHeartbeats 1000000 in
theorem makes_walk (t : ByteArray) (v : Value) (zs : List Int) (hT : t.size ≤ 9223372036854775807) (hz : zs.length ≤ 9223372036854775807) (w : World) (hv : RdI w.heap.size .i64 v zs w) (_ : ∀ z ∈ zs, (Lit.int .i64 z).wf = true) :
    Calls Try.prog 4 #[.string t, v] w fun e W' => e = .returned (.bool true) ∧ Below w.heap.size w W' := by
  by_cases hp : 200 < t.size
  · have h1 := big2 hp
    clear hp hv
    go_enter Try.func4, Try.ntmps4
    go_wp2_with (go_at_call 9; refine (shown_any _).mono ?_; rintro e w1 ⟨rfl, hb1⟩)
    go_ret
    exact ⟨rfl, hb1⟩
  · have h1 := small2 hp
    obtain ⟨ao, cap, rfl, _⟩ := id hv
    by_cases hq : 200 < zs.length
    · have h2 := big2 hq
      clear hp hq hv
      go_enter Try.func4, Try.ntmps4
      go_wp2_with (go_at_call 9; refine (shown_any _).mono ?_; rintro e w1 ⟨rfl, hb1⟩)
      go_ret
      exact ⟨rfl, hb1⟩
    · have h2 := small2 hq
      have hp' : t.size ≤ 65000 := by omega
      have hq' : zs.length ≤ 65000 := by omega
      have HV := Lib.hid hv
      clear hp hq hv
      go_enter Try.func4, Try.ntmps4
      go_wp2_with fail
      refine (shown_any _).mono ?_
      rintro e w1 ⟨rfl, hb1⟩
      have hv1 := HV.out.below hb1
      have s1 := hb1.size
      go_wp2_with fail
      refine (make_any _ _ zs _ hp' (hv1.mono s1) hq').mono ?_
      rintro e w2 ⟨rfl, hb2⟩
      have hv2 := hv1.below (hb2.mono s1)
      go_wp2_with fail
      refine (rmake_any _ _ zs _ _ hp' hv2 hq').mono ?_
      rintro e w3 ⟨rfl, rfl⟩
      go_wp2_with fail
      go_ret
      exact ⟨by simp, hb1.trans (hb2.mono s1)⟩
end Go.Proofs.Ytoombpdoagjaoaa
