/-
  What is shown in each statement on modes; the walks of ModeTells, ModeParses, ModeBack, ModeMore, ModeOwner.
-/
import Derived.Test.YtdenbimepmefpaaModeE
namespace Go.Proofs.Ytdenbimepmefpaa
open Go.RowKit Go.Shelf

theorem parse_is (l : Str) (n : Int) (b : Bool) (hl : l.length ≤ 65000) (h1 : parseN l = n) (h2 : isMode l = b) (W : World) : Calls Try.prog 17 #[.string (bs l)] W fun e W' => e = .returned (.tuple #[.int .i64 n, .bool b]) ∧ W = W' :=
  (parse_any l hl W).mono fun e W' ⟨he, hb⟩ => ⟨by rw [he, h1, h2], hb⟩
theorem print_is (m : Int) (l : Str) (h : printL m = l) (W : World) : Calls Try.prog 8 #[.int .i64 m] W fun e W' => e = .returned (.string (bs l)) ∧ Below W.heap.size W W' :=
  (print_any m W).mono fun e W' ⟨he, hb⟩ => ⟨by rw [he, h], hb⟩
theorem text_is (m : Int) (l : Str) (h : textL m = l) (W : World) : Calls Try.prog 10 #[.int .i64 m] W fun e W' => e = .returned (.string (bs l)) ∧ Below W.heap.size W W' :=
  (text_any m W).mono fun e W' ⟨he, hb⟩ => ⟨by rw [he, h], hb⟩
theorem may_is (m owner who want : Int) (b : Bool) (h : mayB m owner who want = b) (W : World) : Calls Try.prog 12 #[.int .i64 m, .int .i64 owner, .int .i64 who, .int .i64 want] W fun e W' => e = .returned (.bool b) ∧ W = W' :=
  (may_any m owner who want W).mono fun e W' ⟨he, hb⟩ => ⟨by rw [he, h], hb⟩
theorem mask_is (m u n : Int) (h : maskI m u = n) (W : World) : Calls Try.prog 14 #[.int .i64 m, .int .i64 u] W fun e W' => e = .returned (.int .i64 n) ∧ W = W' :=
  (mask_any m u W).mono fun e W' ⟨he, hb⟩ => ⟨by rw [he, h], hb⟩

set_option maxRecDepth 100000 in
set_option maxHeartbeats 1000000 in
theorem shown_any (w : World) : Calls Try.prog 16 #[] w fun e W' => e = .returned (.bool true) ∧ Below w.heap.size w W' := by
  go_enter Try.func16, Try.ntmps16
  go_wp2_with fail
  refine (parse_is [54, 52] 52 true (by decide) (by decide +kernel) (by decide +kernel) _).mono ?_
  rintro e w1 ⟨rfl, rfl⟩
  go_wp2_with fail
  refine (parse_is [56] 0 false (by decide) (by decide +kernel) (by decide +kernel) _).mono ?_
  rintro e w1 ⟨rfl, rfl⟩
  go_wp2_with fail
  refine (print_is 52 [54, 52] (by decide +kernel) _).mono ?_
  rintro e w1 ⟨rfl, hb1⟩
  go_wp2_with fail
  refine (text_is 52 [114, 119, 45, 114, 45, 45] (by decide +kernel) _).mono ?_
  rintro e w2 ⟨rfl, hb2⟩
  go_wp2_with fail
  refine (may_is 52 3 3 2 true (by decide +kernel) _).mono ?_
  rintro e w3 ⟨rfl, rfl⟩
  go_wp2_with fail
  refine (may_is 52 3 4 2 false (by decide +kernel) _).mono ?_
  rintro e w3 ⟨rfl, rfl⟩
  go_wp2_with fail
  refine (may_is 0 3 0 7 true (by decide +kernel) _).mono ?_
  rintro e w3 ⟨rfl, rfl⟩
  go_wp2_with fail
  refine (mask_is 63 18 45 (by decide +kernel) _).mono ?_
  rintro e w3 ⟨rfl, rfl⟩
  go_wp2_with fail
  go_ret
  exact ⟨rfl, hb1.trans (hb2.mono hb1.size)⟩

set_option maxRecDepth 100000 in
set_option maxHeartbeats 1000000 in
theorem tells_walk (m owner who want u : Int) (_ : (Lit.int .i64 m).wf = true) (_ : (Lit.int .i64 owner).wf = true) (_ : (Lit.int .i64 who).wf = true) (_ : (Lit.int .i64 want).wf = true) (_ : (Lit.int .i64 u).wf = true) (w : World) :
    Calls Try.prog 3 #[.int .i64 m, .int .i64 owner, .int .i64 who, .int .i64 want, .int .i64 u] w fun e W' => e = .returned (.bool true) ∧ Below w.heap.size w W' := by
  go_enter Try.func3, Try.ntmps3
  go_wp2_with fail
  refine (print_any _ _).mono ?_
  rintro e w1 ⟨rfl, hb1⟩
  go_wp2_with fail
  refine (rprint_any _ _).mono ?_
  rintro e w2 ⟨rfl, rfl⟩
  go_wp2_with fail
  refine (text_any _ _).mono ?_
  rintro e w2 ⟨rfl, hb2⟩
  go_wp2_with fail
  refine (rtext_any _ _).mono ?_
  rintro e w3 ⟨rfl, rfl⟩
  go_wp2_with fail
  refine (may_any _ _ _ _ _).mono ?_
  rintro e w3 ⟨rfl, rfl⟩
  go_wp2_with fail
  refine (rmay_any _ _ _ _ _).mono ?_
  rintro e w3 ⟨rfl, rfl⟩
  go_wp2_with fail
  refine (mask_any _ _ _).mono ?_
  rintro e w3 ⟨rfl, rfl⟩
  go_wp2_with fail
  refine (rmask_any _ _ _).mono ?_
  rintro e w3 ⟨rfl, rfl⟩
  go_wp2_with fail
  refine (shown_any _).mono ?_
  rintro e w3 ⟨rfl, hb3⟩
  go_wp2
  go_ret
  have s1 := hb1.size; have s2 := hb2.size
  exact ⟨rfl, hb1.trans ((hb2.mono (by omega)).trans (hb3.mono (by omega)))⟩

theorem big4 {n : Nat} (h : 50 < n) : decide ((50 : Int) < (n : Int)) = true := by simp; omega
theorem small4 {n : Nat} (h : ¬ 50 < n) : decide ((50 : Int) < (n : Int)) = false := by simp; omega
set_option maxRecDepth 100000 in
set_option maxHeartbeats 1000000 in
theorem parses_walk (t : ByteArray) (_ : t.size ≤ 9223372036854775807) (w : World) :
    Calls Try.prog 4 #[.string t] w fun e W' => e = .returned (.bool true) ∧ Below w.heap.size w W' := by
  by_cases hp : 50 < t.size
  · have h1 := big4 hp
    clear hp
    go_enter Try.func4, Try.ntmps4
    go_wp2_with fail
    refine (shown_any _).mono ?_
    rintro e w1 ⟨rfl, hb1⟩
    go_wp2
    go_ret
    exact ⟨rfl, hb1⟩
  · have h1 := small4 hp
    obtain ⟨l, rfl⟩ : ∃ l, t = bs l := ⟨_, bs_of t⟩
    have hl : l.length ≤ 65000 := by rw [bs_size] at hp; omega
    have h2 : decide ((50 : Int) < (l.length : Int)) = false := small4 (by rw [bs_size] at hp; exact hp)
    have HL := Lib.hid hl
    clear hp hl h1
    go_enter Try.func4, Try.ntmps4
    go_wp2_with fail
    refine (shown_any _).mono ?_
    rintro e w1 ⟨rfl, hb1⟩
    go_wp2_with fail
    refine (parse_any _ HL.out _).mono ?_
    rintro e w2 ⟨rfl, rfl⟩
    go_wp2_with fail
    refine (rparse_any _ HL.out _).mono ?_
    rintro e w2 ⟨rfl, rfl⟩
    go_wp2
    go_ret
    exact ⟨by simp, hb1⟩

set_option maxRecDepth 100000 in
set_option maxHeartbeats 1000000 in
theorem back_walk (m : Int) (_ : (Lit.int .i64 m).wf = true) (w : World) :
    Calls Try.prog 5 #[.int .i64 m] w fun e W' => e = .returned (.bool true) ∧ Below w.heap.size w W' := by
  obtain ⟨p1, p2⟩ := parse_print m
  have P1 := Lib.hid p1
  have P2 := Lib.hid p2
  have HM := Lib.hid (i64_and63 m)
  have HT := Lib.hid (textL_mod m)
  clear p1 p2
  go_enter Try.func5, Try.ntmps5
  go_wp2_with fail
  refine (print_any _ _).mono ?_
  rintro e w1 ⟨rfl, hb1⟩
  go_wp2_with fail
  refine (parse_is _ _ _ (by simp [printL]) P2.out P1.out _).mono ?_
  rintro e w2 ⟨rfl, rfl⟩
  have h3 : (m % 64 == bits .and .i64 m 63) = true := by rw [HM.out, beq_iff_eq]
  obtain ⟨l, hl⟩ : ∃ l, l = textL m := ⟨_, rfl⟩
  have hn : l.length = 6 := by rw [hl]; rfl
  have h4 : (bs l).size = 6 := by rw [bs_size, hn]
  have H1 : Hid (textL m = l) := Lib.hid hl.symm
  have H2 : Hid (textL (m % 64) = l) := Lib.hid (by rw [HT.out, hl])
  clear hl
  go_wp2_with fail
  refine (text_is _ _ H1.out _).mono ?_
  rintro e w3 ⟨rfl, hb3⟩
  go_wp2_with fail
  refine (text_is _ _ H1.out _).mono ?_
  rintro e w4 ⟨rfl, hb4⟩
  go_wp2_with fail
  refine (text_is _ _ H2.out _).mono ?_
  rintro e w5 ⟨rfl, hb5⟩
  go_wp2_with fail
  refine (shown_any _).mono ?_
  rintro e w6 ⟨rfl, hb6⟩
  go_wp2
  go_ret
  have s1 := hb1.size; have s3 := hb3.size; have s4 := hb4.size; have s5 := hb5.size
  exact ⟨rfl, hb1.trans ((hb3.mono (by omega)).trans ((hb4.mono (by omega)).trans ((hb5.mono (by omega)).trans (hb6.mono (by omega)))))⟩

theorem wf_range (n : Int) (h : (Lit.int .i64 n).wf = true) : -9223372036854775808 ≤ n ∧ n ≤ 9223372036854775807 := by
  simpa [Lit.wf, IntKind.min, IntKind.max, IntKind.signed, IntKind.bits] using h
set_option maxRecDepth 100000 in
set_option maxHeartbeats 1000000 in
theorem more_walk (m more owner who want less : Int) (hm : (Lit.int .i64 m).wf = true) (hr : (Lit.int .i64 more).wf = true) (_ : (Lit.int .i64 owner).wf = true) (_ : (Lit.int .i64 who).wf = true) (_ : (Lit.int .i64 want).wf = true) (_ : (Lit.int .i64 less).wf = true) (w : World) :
    Calls Try.prog 6 #[.int .i64 m, .int .i64 more, .int .i64 owner, .int .i64 who, .int .i64 want, .int .i64 less] w fun e W' => e = .returned (.bool true) ∧ Below w.heap.size w W' := by
  obtain ⟨m1, m2⟩ := wf_range m hm
  obtain ⟨r1, r2⟩ := wf_range more hr
  have h1 : (bits .and .i64 (maskI m more) more == 0) = true := by rw [beq_iff_eq]; exact mask_none m more
  have h2 : (bits .or .i64 (maskI m more) (bits .and .i64 (bits .and .i64 m more) 63) == bits .and .i64 m 63) = true := by
    rw [beq_iff_eq, i64_and63, i64_and63]; exact mask_keeps m more
  by_cases hmay : mayB m owner who want = true
  · have A := Lib.hid hmay
    have B := Lib.hid (may_more m more owner who want m1 m2 r1 r2 hmay)
    have C := Lib.hid (may_less m owner who want less hmay)
    have D := Lib.hid (may_zero m owner want)
    clear hmay m1 m2 r1 r2 hm hr
    go_enter Try.func6, Try.ntmps6
    go_wp2_with fail
    refine (may_is _ _ _ _ _ A.out _).mono ?_
    rintro e w2 ⟨rfl, rfl⟩
    go_wp2_with fail
    refine (mask_any _ _ _).mono ?_
    rintro e w2 ⟨rfl, rfl⟩
    go_wp2_with fail
    refine (may_is _ _ _ _ _ B.out _).mono ?_
    rintro e w2 ⟨rfl, rfl⟩
    go_wp2_with fail
    refine (may_is _ _ _ _ _ C.out _).mono ?_
    rintro e w2 ⟨rfl, rfl⟩
    go_wp2_with fail
    refine (may_is _ _ _ _ _ D.out _).mono ?_
    rintro e w2 ⟨rfl, rfl⟩
    go_wp2_with fail
    refine (shown_any _).mono ?_
    rintro e w2 ⟨rfl, hb⟩
    go_wp2
    go_ret
    exact ⟨rfl, hb⟩
  · have A := Lib.hid (show mayB m owner who want = false by simpa using hmay)
    have D := Lib.hid (may_zero m owner want)
    clear hmay m1 m2 r1 r2 hm hr
    go_enter Try.func6, Try.ntmps6
    go_wp2_with fail
    refine (may_is _ _ _ _ _ A.out _).mono ?_
    rintro e w2 ⟨rfl, rfl⟩
    go_wp2_with fail
    refine (mask_any _ _ _).mono ?_
    rintro e w2 ⟨rfl, rfl⟩
    go_wp2_with fail
    refine (may_is _ _ _ _ _ D.out _).mono ?_
    rintro e w2 ⟨rfl, rfl⟩
    go_wp2_with fail
    refine (shown_any _).mono ?_
    rintro e w2 ⟨rfl, hb⟩
    go_wp2
    go_ret
    exact ⟨rfl, hb⟩

theorem owner_hi (m owner want : Int) (h0 : ¬ owner = 0) : mayB m owner owner want = (bits .and .i64 (bits .and .i64 want 7) (m / 8) == bits .and .i64 want 7) := by
  unfold mayB
  rw [if_neg h0, if_pos rfl, i64_and7, Bool.eq_iff_iff, beq_iff_eq]
  exact (sub_and _ _).symm
theorem other_lo (m owner who want : Int) (h0 : ¬ who = 0) (ho : ¬ who = owner) : mayB m owner who want = (bits .and .i64 (bits .and .i64 want 7) m == bits .and .i64 want 7) := by
  unfold mayB
  rw [if_neg h0, if_neg (fun e => ho e.symm), i64_and7, Bool.eq_iff_iff, beq_iff_eq]
  exact (sub_and _ _).symm
set_option maxRecDepth 100000 in
set_option maxHeartbeats 1000000 in
theorem owner_walk (m owner who want : Int) (_ : (Lit.int .i64 m).wf = true) (_ : (Lit.int .i64 owner).wf = true) (_ : (Lit.int .i64 who).wf = true) (_ : (Lit.int .i64 want).wf = true) (w : World) :
    Calls Try.prog 7 #[.int .i64 m, .int .i64 owner, .int .i64 who, .int .i64 want] w fun e W' => e = .returned (.bool true) ∧ Below w.heap.size w W' := by
  by_cases h0 : owner = 0
  · have h0I : (owner == 0) = true := by rw [beq_iff_eq]; exact h0
    clear h0
    go_enter Try.func7, Try.ntmps7
    go_wp2_with fail
    refine (shown_any _).mono ?_
    rintro e w1 ⟨rfl, hb⟩
    go_wp2
    go_ret
    exact ⟨rfl, hb⟩
  · have h0I : (owner == 0) = false := by rw [beq_eq_false_iff_ne]; exact h0
    by_cases h1 : who = 0
    · have h1I : (who == 0) = true := by rw [beq_iff_eq]; exact h1
      clear h0 h1
      go_enter Try.func7, Try.ntmps7
      go_wp2_with fail
      refine (shown_any _).mono ?_
      rintro e w1 ⟨rfl, hb⟩
      go_wp2
      go_ret
      exact ⟨rfl, hb⟩
    · have h1I : (who == 0) = false := by rw [beq_eq_false_iff_ne]; exact h1
      obtain ⟨b1, hb1⟩ : ∃ b, b = (bits .and .i64 (bits .and .i64 want 7) (m / 8) == bits .and .i64 want 7) := ⟨_, rfl⟩
      have A : Hid (mayB m owner owner want = b1) := Lib.hid (by rw [hb1]; exact owner_hi m owner want h0)
      by_cases ho : who = owner
      · subst ho
        have hoI : (who == who) = true := by rw [beq_iff_eq]
        have HB := Lib.hid hb1
        clear h0 h1 hb1
        go_enter Try.func7, Try.ntmps7
        go_wp2_with fail
        refine (shown_any _).mono ?_
        rintro e w1 ⟨rfl, hb⟩
        go_wp2_with fail
        refine (may_is _ _ _ _ _ A.out _).mono ?_
        rintro e w2 ⟨rfl, rfl⟩
        go_wp2_with fail
        refine (may_is _ _ _ _ _ A.out _).mono ?_
        rintro e w2 ⟨rfl, rfl⟩
        have hbb := HB.out
        have hcc : (b1 == (bits .and .i64 (bits .and .i64 want 7) (m / 8) == bits .and .i64 want 7)) = true := by rw [← hbb]; cases b1 <;> rfl
        clear hbb
        go_wp2
        go_ret
        exact ⟨rfl, hb⟩
      · have hoI : (who == owner) = false := by rw [beq_eq_false_iff_ne]; exact ho
        have hoN : (who != owner) = true := by rw [bne_iff_ne]; exact ho
        obtain ⟨b2, hb2⟩ : ∃ b, b = (bits .and .i64 (bits .and .i64 want 7) m == bits .and .i64 want 7) := ⟨_, rfl⟩
        have C : Hid (mayB m owner who want = b2) := Lib.hid (by rw [hb2]; exact other_lo m owner who want h1 ho)
        have HB := Lib.hid hb1
        have HC := Lib.hid hb2
        clear h0 h1 hb1 hb2 ho
        go_enter Try.func7, Try.ntmps7
        go_wp2_with fail
        refine (shown_any _).mono ?_
        rintro e w1 ⟨rfl, hb⟩
        go_wp2_with fail
        refine (may_is _ _ _ _ _ A.out _).mono ?_
        rintro e w2 ⟨rfl, rfl⟩
        go_wp2_with fail
        refine (may_is _ _ _ _ _ C.out _).mono ?_
        rintro e w2 ⟨rfl, rfl⟩
        have hbb := HB.out
        have hcc := HC.out
        have hc1 : (b1 == (bits .and .i64 (bits .and .i64 want 7) (m / 8) == bits .and .i64 want 7)) = true := by rw [← hbb]; cases b1 <;> rfl
        have hc2 : (b2 == (bits .and .i64 (bits .and .i64 want 7) m == bits .and .i64 want 7)) = true := by rw [← hcc]; cases b2 <;> rfl
        clear hbb hcc
        go_wp2
        go_ret
        exact ⟨rfl, hb⟩
end Go.Proofs.Ytdenbimepmefpaa
