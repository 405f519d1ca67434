/-
  What is shown in each statement on entries; fine; the walk of EntryLegal.
-/
import Derived.Test.YtbabkpaepijjeaaEntK
namespace Go.Proofs.Ytbabkpaepijjeaa
open Go.RowKit Go.Shelf
attribute [local go_sem ↓] Go.wp_at_zero Go.wp_at_succ

theorem ret_tr {w w1 w2 : World} (h1 : Below w.heap.size w w1) (h2 : Below w1.heap.size w1 w2) : Below w.heap.size w w2 := h1.trans (h2.mono h1.size)
/-- What is read of blocks that lay is read in any later world. -/
theorem rd_keep {size n : Nat} {v : Value} {xs : List Value} {W W' : World} (h : Rd W.heap.size size v n xs W) (hb : Below W.heap.size W W') : Rd W'.heap.size size v n xs W' := (h.below hb).mono hb.size

theorem rd_drew {size n : Nat} {v : Value} {xs : List Value} {W : World} (h : Rd W.heap.size size v n xs W) (k : Nat) : Rd (W.drewN k).heap.size size v n xs (W.drewN k) := h
abbrev lA : List EntL := [([97], 1), ([99], 2)]
abbrev lB : List EntL := [([97], 1), ([98], 3), ([99], 2)]
theorem ex_up : Up lA := by unfold Up; decide
theorem ex_upB : Up lB := by unfold Up; decide
theorem ex_put : putL lA ([98], 3) = lB := by decide
theorem ex_find : findL lB [98] = some 3 := by decide
theorem ex_drop : dropL lB [98] = lA := by decide
theorem ex_none : findL lA [98] = none := by decide
theorem ex_sorted : decide (SortedP lB) = true := by decide
theorem ex_legal : legalL [46, 46] = 1 := by decide
theorem ex_fit : Fit lB := by
  intro e he
  simp only [List.mem_cons, List.not_mem_nil, or_false] at he
  rcases he with rfl | rfl | rfl <;> exact (by decide)
set_option maxRecDepth 100000 in
set_option maxHeartbeats 2000000 in
theorem shown_any (w : World) : Calls Try.prog 9 #[] w fun e w' => e = .returned (.bool true) ∧ Below w.heap.size w w' := by
  have hb0 : Below w.heap.size w (w.alloc (.cells #[.string ⟨#[97]⟩, .int .i64 1, .string ⟨#[99]⟩, .int .i64 2] 43)) := (Below.refl _ w).alloc (Nat.le_refl _) _
  have hr0 := Rd_newE w lA 43 #[.string ⟨#[97]⟩, .int .i64 1, .string ⟨#[99]⟩, .int .i64 2] rfl (by decide)
  go_enter Try.func9, Try.ntmps9
  go_wp2_with fail
  refine (put_any _ _ lA [98] 3 _ hr0 (Nat.le_refl _) (by decide) ex_up).mono ?_
  rintro e w1 ⟨v1, rfl, hr1, hb1⟩
  rw [ex_put] at hr1
  have hr1' : Rd w1.heap.size 2 v1 3 (ents lB) w1 := hr1
  have HR1 := Lib.hid hr1'
  have HB1 := Lib.hid (ret_tr hb0 hb1)
  obtain ⟨ao1, cap1, rfl, _, _⟩ := hr1'.form
  clear hr1 hr1' hr0 hb0 hb1
  go_wp2_with fail
  refine (find_any _ _ lB [98] _ HR1.out (Nat.le_refl _) (by decide) ex_upB).mono ?_
  rintro e w2 ⟨rfl, hb2⟩
  rw [ex_find, show vint (some 3) = 3 from rfl]
  have HR2 := Lib.hid (rd_keep HR1.out hb2)
  have HB2 := Lib.hid (ret_tr HB1.out hb2)
  clear hb2
  go_wp2_with fail
  refine (drop_any _ _ lB [98] _ HR2.out (Nat.le_refl _) (by decide) ex_upB).mono ?_
  rintro e w3 ⟨v3, rfl, hr3, hb3⟩
  rw [ex_drop] at hr3
  have HR3 := Lib.hid (rd_keep HR2.out hb3)
  have HB3 := Lib.hid (ret_tr HB2.out hb3)
  have HD3 := Lib.hid hr3
  clear hr3 hb3
  go_wp2_with fail
  refine (find_any _ _ lA [98] _ HD3.out (Nat.le_refl _) (by decide) ex_up).mono ?_
  rintro e w4 ⟨rfl, hb4⟩
  rw [ex_none, show vint none = -1 from rfl]
  have HR4 := Lib.hid (rd_keep HR3.out hb4)
  have HB4 := Lib.hid (ret_tr HB3.out hb4)
  clear hb4
  obtain ⟨b, off, cap', e, _, _, _, _, hc⟩ := HR4.out.at (by decide)
  injection e with e1 _ e2
  subst e1
  subst e2
  have hc1 : w4.cell? ⟨b, off + 2, none⟩ = some (.string ⟨#[98]⟩) := hc 2 _ rfl
  clear hc
  go_wp2_with fail
  refine (sorted_any _ _ lB _ HR4.out (Nat.le_refl _) (by decide) ex_fit).mono ?_
  rintro e w5 ⟨rfl, hb5⟩
  rw [ex_sorted]
  have HR5 := Lib.hid (rd_keep HR4.out hb5)
  have HB5 := Lib.hid (ret_tr HB4.out hb5)
  clear hb5 hc1
  go_wp2_with fail
  refine (legal_any [46, 46] (by decide) _).mono ?_
  rintro e w6 ⟨rfl, hb6⟩
  rw [ex_legal]
  have HR6 := Lib.hid (rd_keep HR5.out hb6)
  have HB6 := Lib.hid (ret_tr HB5.out hb6)
  clear hb6
  go_wp2_with fail
  refine (names_any _ _ lB _ HR6.out (Nat.le_refl _) (by decide)).mono ?_
  rintro e w7 ⟨v7, rfl, hr7, hb7⟩
  have hr7' : Rd w7.heap.size 1 v7 3 (strs (namesL lB)) w7 := hr7
  obtain ⟨ao7, cap7, rfl, _, _⟩ := hr7'.form
  have HB7 := Lib.hid (ret_tr HB6.out hb7)
  clear hr7 hr7' hb7
  go_wp2_with fail
  go_ret
  exact ⟨rfl, HB7.out⟩

def fineB (l : List EntL) : Bool := decide (l.length ≤ 100) && decide (SortedP l)
theorem fine_of {l : List EntL} (h : fineB l = true) : l.length ≤ 100 ∧ SortedP l := by
  unfold fineB at h
  rw [Bool.and_eq_true, decide_eq_true_iff, decide_eq_true_iff] at h
  exact h
set_option maxRecDepth 100000 in
set_option maxHeartbeats 1000000 in
theorem fine_any (v : Value) (l : List EntL) (w : World) (hv : Rd w.heap.size 2 v l.length (ents l) w) (hn : Fit l) :
    Calls Try.prog 15 #[v] w fun e w' => e = .returned (.bool (fineB l)) ∧ Below w.heap.size w w' := by
  obtain ⟨ao, cap, rfl, _, _⟩ := hv.form
  by_cases hl : l.length ≤ 100
  · have hI : decide ((l.length : Int) ≤ 100) = true := by simp; omega
    have HF : Hid (fineB l = decide (SortedP l)) := Lib.hid (by unfold fineB; simp [hl])
    go_enter Try.func15, Try.ntmps15
    go_wp2_with fail
    refine (its_any _ _ l _ hv (Nat.le_refl _) (by omega)).mono ?_
    rintro e w1 ⟨v1, rfl, hr1, hb1⟩
    go_wp2_with fail
    refine (rsorted_any _ _ l _ hr1 (by omega) hn).mono ?_
    rintro e w2 ⟨rfl, n2, rfl⟩
    go_wp2_with fail
    go_ret
    exact ⟨ret_bool HF.out.symm, below_drewN hb1 _⟩
  · have hI : decide ((l.length : Int) ≤ 100) = false := by simp; omega
    have HF : Hid (fineB l = false) := Lib.hid (by unfold fineB; simp [hl])
    go_enter Try.func15, Try.ntmps15
    go_wp2_with fail
    go_ret
    exact ⟨ret_bool HF.out.symm, Below.refl _ _⟩

theorem dec_refl {α : Type} [DecidableEq α] (a : α) : decide (a = a) = true := by simp
theorem beq_refl_int (a : Int) : (a == a) = true := by simp
theorem beq_refl_bool (a : Bool) : (a == a) = true := by simp
set_option maxRecDepth 100000 in
set_option maxHeartbeats 2000000 in
theorem legal_walk (s : ByteArray) (hs : s.size ≤ maxLen) (v : Value) (l : List EntL) (w : World) (hv : Rd w.heap.size 2 v l.length (ents l) w) (hn : Fit l) :
    Calls Try.prog 3 #[.string s, v] w fun e W' => e = .returned (.bool true) ∧ Below w.heap.size w W' := by
  obtain ⟨ao, cap, rfl, _, _⟩ := hv.form
  obtain ⟨n, rfl⟩ : ∃ n : Nm, s = bs n := ⟨_, bs_of s⟩
  rw [bs_size] at hs
  have HV := Lib.hid hv
  have HN := Lib.hid hn
  clear hv hn
  by_cases h1 : 100 < n.length
  · have hI : decide ((100 : Int) < (n.length : Int)) = true := by simp; omega
    clear h1
    go_enter Try.func3, Try.ntmps3
    go_wp2_with fail
    refine (shown_any _).mono ?_
    rintro e w1 ⟨rfl, hb1⟩
    go_wp2_with fail
    go_ret
    exact ⟨rfl, hb1⟩
  have hI : decide ((100 : Int) < (n.length : Int)) = false := by simp; omega
  by_cases h2 : 100 < l.length
  · have hJ : decide ((100 : Int) < (l.length : Int)) = true := by simp; omega
    clear h1 h2
    go_enter Try.func3, Try.ntmps3
    go_wp2_with fail
    refine (shown_any _).mono ?_
    rintro e w1 ⟨rfl, hb1⟩
    go_wp2_with fail
    go_ret
    exact ⟨rfl, hb1⟩
  have hJ : decide ((100 : Int) < (l.length : Int)) = false := by simp; omega
  have hl : l.length ≤ 10000 := by omega
  clear h1 h2
  go_enter Try.func3, Try.ntmps3
  go_wp2_with fail
  refine (shown_any _).mono ?_
  rintro e w1 ⟨rfl, hb1⟩
  have HV1 := Lib.hid (rd_keep HV.out hb1)
  have HB1 := Lib.hid hb1
  clear hb1
  go_wp2_with fail
  refine (legal_any n hs _).mono ?_
  rintro e w2 ⟨rfl, hb2⟩
  have HV2 := Lib.hid (rd_keep HV1.out hb2)
  have HB2 := Lib.hid (ret_tr HB1.out hb2)
  clear hb2
  go_wp2_with fail
  refine (rlegal_any n hs _).mono ?_
  rintro e w3 ⟨rfl, rfl⟩
  have hq := beq_refl_int (legalL n)
  go_wp2_with fail
  refine (sorted_any _ _ l _ HV2.out (Nat.le_refl _) hl HN.out).mono ?_
  rintro e w4 ⟨rfl, hb4⟩
  have HV4 := Lib.hid (rd_keep HV2.out hb4)
  have HB4 := Lib.hid (ret_tr HB2.out hb4)
  clear hb4
  go_wp2_with fail
  refine (its_any _ _ l _ HV4.out (Nat.le_refl _) (by omega)).mono ?_
  rintro e w5 ⟨v5, rfl, hr5, hb5⟩
  have HB5 := Lib.hid (ret_tr HB4.out hb5)
  clear hb5
  go_wp2_with fail
  refine (rsorted_any _ _ l _ hr5 hl HN.out).mono ?_
  rintro e w6 ⟨rfl, n6, rfl⟩
  have hq2 := beq_refl_bool (decide (SortedP l))
  generalize decide (SortedP l) = sb at *
  clear hr5
  go_wp2_with fail
  go_ret
  exact ⟨ret_bool (by simp), below_drewN HB5.out _⟩
end Go.Proofs.Ytbabkpaepijjeaa
