/-
  The walks of RouteSplits and RouteNames.
-/
import Derived.Test.YtajleipangnfbaaDoorLaw1A
namespace Go.Proofs.YtajleipangnfbaaDoor
open Go.RowKit Go.Shelf

theorem big_of {n : Nat} (h : 300 < n) : decide ((300 : Int) < (n : Int)) = true := by simp; omega
theorem small_of {n : Nat} (h : ¬ 300 < n) : decide ((300 : Int) < (n : Int)) = false := by simp; omega
theorem ownsRow_below {w W' : World} {base : Nat} {e : TypeId} {z : Nat} {v : Value} {n : Nat} {xs : List Value} (h : w.ownsRow base e z v n xs) (hb : Below w.heap.size w W') : W'.ownsRow base e z v n xs := by
  refine ⟨h.1, h.2.imp id ?_⟩
  rintro ⟨g, cap, cur, h1, h2, h3, h4⟩
  exact ⟨g, cap, cur, h1, h2, (hb.block g (Array.getElem?_eq_some_iff.1 h3).1).trans h3, h4⟩

set_option maxRecDepth 100000 in
set_option maxHeartbeats 1000000 in
theorem names_walk (p q : ByteArray) (hP : p.size ≤ 9223372036854775807) (hQ : q.size ≤ 9223372036854775807) (w : World) : Calls Tryd.prog 4 #[.string p, .string q] w fun e W' => e = .returned (.bool true) ∧ Below w.heap.size w W' := by
  by_cases hp : 300 < p.size
  · have h1 := big_of hp
    clear hp
    go_enter Tryd.func4, Tryd.ntmps4
    go_wp2_with (go_at_call 9; refine (shown_any _).mono ?_; rintro e w1 ⟨rfl, hb1⟩)
    go_ret
    exact ⟨rfl, hb1⟩
  · have h1 := small_of hp
    by_cases hq : 300 < q.size
    · have h2 := big_of hq
      clear hp hq
      go_enter Tryd.func4, Tryd.ntmps4
      go_wp2_with (go_at_call 9; refine (shown_any _).mono ?_; rintro e w1 ⟨rfl, hb1⟩)
      go_ret
      exact ⟨rfl, hb1⟩
    · have h2 := small_of hq
      have hp' : p.size ≤ 65000 := by omega
      have hq' : q.size ≤ 65000 := by omega
      clear hp hq
      go_enter Tryd.func4, Tryd.ntmps4
      go_wp2_with fail
      refine (shown_any _).mono ?_
      rintro e w1 ⟨rfl, hb1⟩
      go_wp2_with fail
      refine (base_any _ hp' _).mono ?_
      rintro e w2 ⟨rfl, hb2⟩
      go_wp2_with fail
      refine (rbase_any _ hp' _).mono ?_
      rintro e w3 ⟨rfl, hb3⟩
      go_wp2_with fail
      refine (dir_any _ hp' _).mono ?_
      rintro e w4 ⟨rfl, hb4⟩
      go_wp2_with fail
      refine (rdir_any _ hp' _).mono ?_
      rintro e w5 ⟨rfl, rfl⟩
      go_wp2_with fail
      refine (join_any _ _ hp' hq' _).mono ?_
      rintro e w6 ⟨rfl, rfl⟩
      go_wp2_with fail
      refine (rjoin_any _ _ hp' hq' _).mono ?_
      rintro e w7 ⟨rfl, rfl⟩
      go_wp2_with fail
      go_ret
      refine ⟨rfl, ?_⟩
      have s1 := hb1.size
      have s2 := hb2.size
      have s3 := hb3.size
      exact hb1.trans ((hb2.mono s1).trans ((hb3.mono (by omega)).trans (hb4.mono (by omega))))

set_option maxRecDepth 100000 in
set_option maxHeartbeats 1000000 in
theorem splits_walk (p : ByteArray) (hP : p.size ≤ 9223372036854775807) (w : World) : Calls Tryd.prog 3 #[.string p] w fun e W' => e = .returned (.bool true) ∧ Below w.heap.size w W' := by
  by_cases hp : 300 < p.size
  · have h1 := big_of hp
    clear hp
    go_enter Tryd.func3, Tryd.ntmps3
    go_wp2_with (go_at_call 9; refine (shown_any _).mono ?_; rintro e w1 ⟨rfl, hb1⟩)
    go_ret
    exact ⟨rfl, hb1⟩
  · have h1 := small_of hp
    have hp' : p.size ≤ 65000 := by omega
    clear hp
    have hln : (parts p.data.toList).length ≤ 65000 := by have := spans_len p.data.toList; rw [data_len] at this; simp only [parts, List.length_map]; omega
    have hlu : (ups p.data.toList).length ≤ 65000 := by have := spans_len p.data.toList; rw [data_len] at this; simp only [ups, List.length_map]; omega
    go_enter Tryd.func3, Tryd.ntmps3
    go_wp2_with fail
    refine (shown_any _).mono ?_
    rintro e w1 ⟨rfl, hb1⟩
    go_wp2_with fail
    refine (split_any _ hp' _).mono ?_
    rintro e w2 ⟨v2, rfl, ho2, hb2⟩
    go_wp2_with fail
    refine (rsplit_loop _ hp' _).mono ?_
    rintro e w3 ⟨v3, rfl, ho3, hb3⟩
    have ho2' := ownsRow_below ho2 hb3
    go_wp2_with fail
    refine (texts_any _ _ hln _ _ _ _ _ ho2' ho3).mono ?_
    rintro e w4 ⟨rfl, j4, rfl⟩
    go_wp2_with fail
    refine (check_any _ hp' _).mono ?_
    rintro e w5 ⟨rfl, hb5⟩
    go_wp2_with fail
    refine (rcheck_any _ _).mono ?_
    rintro e w6 ⟨rfl, hb6⟩
    go_wp2_with fail
    refine (ups_any _ hp' _).mono ?_
    rintro e w7 ⟨v7, rfl, ho7, hb7⟩
    go_wp2_with fail
    refine (rups_any _ hp' _).mono ?_
    rintro e w8 ⟨v8, rfl, ho8, hb8⟩
    have ho7' := ownsRow_below ho7 hb8
    go_wp2_with fail
    refine (texts_any _ _ hlu _ _ _ _ _ ho7' ho8).mono ?_
    rintro e w9 ⟨rfl, j9, rfl⟩
    go_wp2_with fail
    go_ret
    refine ⟨by simp, ?_⟩
    have s1 := hb1.size
    have s2 := hb2.size
    have s3 := hb3.size
    have s5 : w3.heap.size ≤ w5.heap.size := hb5.size
    have s6 := hb6.size
    have s7 := hb7.size
    exact hb1.trans ((hb2.mono s1).trans ((hb3.mono (by omega)).trans ((below_drewN (Below.refl _ w3) j4).trans ((hb5.mono (by show w.heap.size ≤ w3.heap.size; omega)).trans ((hb6.mono (by omega)).trans ((hb7.mono (by omega)).trans (below_drewN (hb8.mono (by omega)) j9)))))))
end Go.Proofs.YtajleipangnfbaaDoor
