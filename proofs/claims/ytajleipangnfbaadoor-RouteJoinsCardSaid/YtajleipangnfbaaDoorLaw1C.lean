/-
  The walk of RouteBack.
-/
import Derived.Test.YtajleipangnfbaaDoorLaw1B
import Derived.Test.YtajleipangnfbaaDoorPathLaws
import Derived.Lib.QuietBelow
namespace Go.Proofs.YtajleipangnfbaaDoor
open Go.RowKit Go.Shelf

theorem trim_len (m : List UInt8) : (Lib.trimRightB m 47).length ≤ m.length := by
  obtain ⟨t, ht⟩ := trim_prefix m
  have := congrArg List.length ht
  simp at this; omega
theorem dirL_len (l : List UInt8) : (dirL l).length ≤ l.length + 1 := by
  unfold dirL
  split
  · simp
  · split
    · simp
    · unfold dirAt
      split
      · have := trim_len (l.take (lastOf (spans l)).1); simp at this; omega
      · split <;> simp
theorem baseL_len (l : List UInt8) : (baseL l).length ≤ l.length + 1 := by
  unfold baseL
  split
  · simp
  · split
    · simp
    · simp [cutS]; omega
theorem joinL_len (a b : List UInt8) : (joinL a b).length ≤ a.length + b.length + 1 := by
  unfold joinL
  split
  · omega
  · split
    · omega
    · split <;> simp <;> omega
theorem base_keeps (p : ByteArray) (hp : p.size ≤ 65000) (w : World) (g k : Nat) (v : Value) (hc : w.cell? ⟨g, k, none⟩ = some v) :
    Calls Tryd.prog 17 #[.string p] w fun e W' => e = .returned (.string ⟨(baseL p.data.toList).toArray⟩) ∧ W'.cell? ⟨g, k, none⟩ = some v ∧ Below w.heap.size w W' :=
  (base_any p hp w).mono fun _ _ ⟨he, hb⟩ => ⟨he, (hb.cell (p := ⟨g, k, none⟩) (lt_of_cell hc)).trans hc, hb⟩

set_option maxRecDepth 100000 in
set_option maxHeartbeats 1000000 in
theorem back1 (p : ByteArray) (hp : p.size ≤ 300) (hn : (parts p.data.toList).length = 1) (w : World) : Calls Tryd.prog 5 #[.string p] w fun e W' => e = .returned (.bool true) ∧ Below w.heap.size w W' := by
  have h1 : decide ((300 : Int) < (p.size : Int)) = false := by simp; omega
  have hp' : p.size ≤ 65000 := by omega
  obtain ⟨g1, g2⟩ := back_one hn
  obtain ⟨b, hb⟩ : ∃ b, b = baseL p.data.toList := ⟨_, rfl⟩
  rw [← hb] at g1
  have HB := Lib.hid hb
  have G1 := Lib.hid g1
  clear g1 hn hb
  cases hpre : Lib.hasPrefix p.data.toList [47] with
  | true =>
    have hd : dirL p.data.toList = [47] := by rw [g2, if_pos hpre]
    clear g2
    go_enter Tryd.func5, Tryd.ntmps5
    go_wp2_with fail
    refine (shown_any _).mono ?_
    rintro e w1 ⟨rfl, hb1⟩
    go_wp2_with fail
    refine (split_any _ hp' _).mono ?_
    rintro e w2 ⟨v2, rfl, ho2, hb2⟩
    rw [G1.out] at ho2
    obtain ⟨ao, cap, rfl, hf⟩ := ownsRow_form ho2
    obtain ⟨g, rfl⟩ := hf (Nat.succ_pos 0)
    have hc := ho2.cells (g := g) rfl 0 _ rfl
    rw [addr_add] at hc
    clear hf
    go_wp2_with fail
    refine (dir_any _ hp' _).mono ?_
    rintro e w3 ⟨rfl, hb3⟩
    have hc3 : w3.cell? ⟨g, 0, none⟩ = some (.string ⟨b.toArray⟩) := (hb3.cell (p := ⟨g, 0, none⟩) (lt_of_cell hc)).trans hc
    have hcq := cell_regrown hc3
    clear hc
    have hbs : baseL p.data.toList = b := HB.out.symm
    go_wp2_with fail
    refine wp_region_quiet_below (by kernel_rfl) (by kernel_rfl) ?_
    repeat (go_big_quiet_step ((go_at_call 17; exact Calls.regrown_of (base_any _ hp' _))))
    refine wpQuiet_nil ?_
    intro _ hw'
    obtain ⟨⟨dq, osq⟩, hw''⟩ := hw'
    subst hw''
    go_wp2
    go_ret
    refine ⟨rfl, ?_⟩
    have s1 := hb1.size
    have s2 := hb2.size
    exact hb1.trans ((hb2.mono s1).trans ((hb3.mono (by omega)).trans ((below_regrown w3 dq osq).mono (by have := hb3.size; omega))))
  | false =>
    have hd : dirL p.data.toList = [46] := by rw [g2, if_neg (by rw [hpre]; simp)]
    clear g2
    go_enter Tryd.func5, Tryd.ntmps5
    go_wp2_with fail
    refine (shown_any _).mono ?_
    rintro e w1 ⟨rfl, hb1⟩
    go_wp2_with fail
    refine (split_any _ hp' _).mono ?_
    rintro e w2 ⟨v2, rfl, ho2, hb2⟩
    rw [G1.out] at ho2
    obtain ⟨ao, cap, rfl, hf⟩ := ownsRow_form ho2
    obtain ⟨g, rfl⟩ := hf (Nat.succ_pos 0)
    have hc := ho2.cells (g := g) rfl 0 _ rfl
    rw [addr_add] at hc
    clear hf
    go_wp2_with fail
    refine (dir_any _ hp' _).mono ?_
    rintro e w3 ⟨rfl, hb3⟩
    have hc3 : w3.cell? ⟨g, 0, none⟩ = some (.string ⟨b.toArray⟩) := (hb3.cell (p := ⟨g, 0, none⟩) (lt_of_cell hc)).trans hc
    have hcq := cell_regrown hc3
    clear hc
    have hbs : baseL p.data.toList = b := HB.out.symm
    go_wp2_with fail
    refine wp_region_quiet_below (by kernel_rfl) (by kernel_rfl) ?_
    repeat (go_big_quiet_step ((go_at_call 17; exact Calls.regrown_of (base_any _ hp' _))))
    refine wpQuiet_nil ?_
    intro _ hw'
    obtain ⟨⟨dq, osq⟩, hw''⟩ := hw'
    subst hw''
    go_wp2
    go_ret
    refine ⟨rfl, ?_⟩
    have s1 := hb1.size
    have s2 := hb2.size
    exact hb1.trans ((hb2.mono s1).trans ((hb3.mono (by omega)).trans ((below_regrown w3 dq osq).mono (by have := hb3.size; omega))))

set_option maxRecDepth 100000 in
set_option maxHeartbeats 1000000 in
theorem back0 (p : ByteArray) (hp : p.size ≤ 300) (hn : parts p.data.toList = []) (w : World) : Calls Tryd.prog 5 #[.string p] w fun e W' => e = .returned (.bool true) ∧ Below w.heap.size w W' := by
  have h1 : decide ((300 : Int) < (p.size : Int)) = false := by simp; omega
  have hp' : p.size ≤ 65000 := by omega
  by_cases he : p.data.toList = []
  · have hd : dirL p.data.toList = [46] := by rw [he]; decide
    have n1 := isEmpty_yes p he
    have n2 : (!p.toList.isEmpty) = false := by rw [n1]; rfl
    clear he
    go_enter Tryd.func5, Tryd.ntmps5
    go_wp2_with fail
    refine (shown_any _).mono ?_
    rintro e w1 ⟨rfl, hb1⟩
    go_wp2_with fail
    refine (split_any _ hp' _).mono ?_
    rintro e w2 ⟨v2, rfl, ho2, hb2⟩
    rw [hn] at ho2
    obtain ⟨ao, cap, rfl, _⟩ := ownsRow_form ho2
    go_wp2_with fail
    refine (dir_any _ hp' _).mono ?_
    rintro e w3 ⟨rfl, hb3⟩
    go_wp2_with fail
    go_ret
    refine ⟨rfl, ?_⟩
    have s1 := hb1.size
    have s2 := hb2.size
    exact hb1.trans ((hb2.mono s1).trans (hb3.mono (by omega)))
  · have hs : spans p.data.toList = [] := (spans_nil_iff _).2 hn
    have hd : dirL p.data.toList = [47] := dir_none he hs
    have hbs : baseL p.data.toList = [47] := base_none he hs
    have n1 := isEmpty_no p he
    have n2 : (!p.toList.isEmpty) = true := by rw [n1]; rfl
    clear he hs
    go_enter Tryd.func5, Tryd.ntmps5
    go_wp2_with fail
    refine (shown_any _).mono ?_
    rintro e w1 ⟨rfl, hb1⟩
    go_wp2_with fail
    refine (split_any _ hp' _).mono ?_
    rintro e w2 ⟨v2, rfl, ho2, hb2⟩
    rw [hn] at ho2
    obtain ⟨ao, cap, rfl, _⟩ := ownsRow_form ho2
    go_wp2_with fail
    refine (dir_any _ hp' _).mono ?_
    rintro e w3 ⟨rfl, hb3⟩
    go_wp2_with fail
    refine (base_any _ hp' _).mono ?_
    rintro e w4 ⟨rfl, hb4⟩
    go_wp2_with fail
    go_ret
    refine ⟨by simp, ?_⟩
    have s1 := hb1.size
    have s2 := hb2.size
    have s3 := hb3.size
    exact hb1.trans ((hb2.mono s1).trans ((hb3.mono (by omega)).trans (hb4.mono (by omega))))

set_option maxRecDepth 100000 in
set_option maxHeartbeats 1000000 in
theorem back2 (p : ByteArray) (hp : p.size ≤ 300) (hn : 2 ≤ (parts p.data.toList).length) (w : World) : Calls Tryd.prog 5 #[.string p] w fun e W' => e = .returned (.bool true) ∧ Below w.heap.size w W' := by
  have h1 : decide ((300 : Int) < (p.size : Int)) = false := by simp; omega
  have hp' : p.size ≤ 65000 := by omega
  obtain ⟨g1, g2⟩ := back_more hn
  have hln : (parts p.data.toList).length ≤ 65000 := by have := spans_len p.data.toList; rw [data_len] at this; simp only [parts, List.length_map]; omega
  have z0 : (((parts p.data.toList).length : Int) == 0) = false := by rw [beq_eq_false_iff_ne]; omega
  have z1 : (((parts p.data.toList).length : Int) == 1) = false := by rw [beq_eq_false_iff_ne]; omega
  have G1 := Lib.hid g1
  have G2 := Lib.hid g2
  obtain ⟨d, hd⟩ : ∃ d, d = dirL p.data.toList := ⟨_, rfl⟩
  obtain ⟨b, hb⟩ : ∃ b, b = baseL p.data.toList := ⟨_, rfl⟩
  have hdl : d.length ≤ 400 := by have := dirL_len p.data.toList; rw [← hd, data_len] at this; omega
  have hbl : b.length ≤ 400 := by have := baseL_len p.data.toList; rw [← hb, data_len] at this; omega
  have hjl : (joinL d b).length ≤ 65000 := by have := joinL_len d b; omega
  rw [← hd, ← hb] at G1 G2
  have HD := Lib.hid hd
  have HB := Lib.hid hb
  clear g1 g2 hn hd hb
  go_enter Tryd.func5, Tryd.ntmps5
  go_wp2_with fail
  refine (shown_any _).mono ?_
  rintro e w1 ⟨rfl, hb1⟩
  go_wp2_with fail
  refine (split_any _ hp' _).mono ?_
  rintro e w2 ⟨v2, rfl, ho2, hb2⟩
  obtain ⟨ao, cap, rfl, hf⟩ := ownsRow_form ho2
  clear hf
  go_wp2_with fail
  refine (dir_any _ hp' _).mono ?_
  rintro e w3 ⟨rfl, hb3⟩
  rw [← HD.out]
  go_wp2_with fail
  refine (base_any _ hp' _).mono ?_
  rintro e w4 ⟨rfl, hb4⟩
  rw [← HB.out]
  go_wp2_with fail
  refine (join_any ⟨d.toArray⟩ ⟨b.toArray⟩ (by rw [← data_len]; show d.length ≤ 65000; omega) (by rw [← data_len]; show b.length ≤ 65000; omega) _).mono ?_
  rintro e w5 ⟨rfl, rfl⟩
  go_wp2_with fail
  refine (split_any ⟨(joinL d b).toArray⟩ (by rw [← data_len]; exact hjl) _).mono ?_
  rintro e w6 ⟨v6, rfl, ho6, hb6⟩
  simp only [G1.out, G2.out] at ho6 ⊢
  have ho2' := ownsRow_below (ownsRow_below (ownsRow_below ho2 hb3) hb4) hb6
  go_wp2_with fail
  refine (texts_any _ _ hln _ _ _ _ _ ho2' ho6).mono ?_
  rintro e w7 ⟨rfl, j7, rfl⟩
  go_wp2_with fail
  go_ret
  refine ⟨by simp, ?_⟩
  have s1 := hb1.size
  have s2 := hb2.size
  have s3 := hb3.size
  have s4 := hb4.size
  exact hb1.trans ((hb2.mono s1).trans ((hb3.mono (by omega)).trans ((hb4.mono (by omega)).trans (below_drewN (hb6.mono (by omega)) j7))))

theorem back_walk (p : ByteArray) (hP : p.size ≤ 9223372036854775807) (w : World) : Calls Tryd.prog 5 #[.string p] w fun e W' => e = .returned (.bool true) ∧ Below w.heap.size w W' := by
  by_cases hp : 300 < p.size
  · have h1 := big_of hp
    clear hp
    go_enter Tryd.func5, Tryd.ntmps5
    go_wp2_with (go_at_call 9; refine (shown_any _).mono ?_; rintro e w1 ⟨rfl, hb1⟩)
    go_ret
    exact ⟨rfl, hb1⟩
  · have hp' : p.size ≤ 300 := by omega
    by_cases h0 : parts p.data.toList = []
    · exact back0 p hp' h0 w
    · by_cases h1 : (parts p.data.toList).length = 1
      · exact back1 p hp' h1 w
      · have := List.length_pos_iff.2 h0
        exact back2 p hp' (by omega) w
end Go.Proofs.YtajleipangnfbaaDoor
