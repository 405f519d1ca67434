/-
  long; the walks of OptionParses, OptionValues.
-/
import Derived.Test.YtjgadmodhkdllaaDoorLaw3A
namespace Go.Proofs.YtjgadmodhkdllaaDoor
open Go.RowKit Go.Shelf

def longB (l : List Str) : Bool := (l.take 60).any (fun a => decide (100 < a.length)) || decide (50 < l.length)
theorem long_no {l : List Str} (h : longB l = false) : l.length ≤ 50 ∧ ∀ a ∈ l, a.length ≤ 100 := by
  unfold longB at h
  simp only [Bool.or_eq_false_iff, decide_eq_false_iff_not, List.any_eq_false] at h
  refine ⟨by omega, fun a ha => ?_⟩
  have := h.1 a (by rw [List.take_of_length_le (by omega)]; exact ha)
  simpa using this
set_option maxRecDepth 100000 in
set_option maxHeartbeats 1000000 in
theorem long_any (B : Nat) (v : Value) (l : List Str) (w : World) (hv : Rd B 1 v l.length (strs l) w) :
    Calls Tryd.prog 9 #[v] w fun e w' => e = .returned (.bool (longB l)) ∧ w = w' := by
  obtain ⟨ao, cap, rfl, hn0, hm0⟩ := hv.form
  unfold maxLen at hm0
  have HV := Lib.hid hv
  clear hv
  go_enter Tryd.func9, Tryd.ntmps9
  go_wp2_with fail
  go_loop [3] (fun i => ∃ k : Nat, i = .int .i64 k ∧ k ≤ l.length ∧ k ≤ 60 ∧ Hid (∀ a ∈ l.take k, a.length ≤ 100)) (fun i => 60 - (intOf i).toNat)
  case atStart => exact ⟨0, rfl, Nat.zero_le _, Nat.zero_le _, Lib.hid (fun a h => by simp at h)⟩
  case round =>
    obtain ⟨k, rfl, hk, hk6, hs⟩ := hrel
    by_cases hlt : k < l.length
    · by_cases hl6 : k < 60
      · obtain ⟨b, off, cap', e, hn, hm, hb, hlen, hc⟩ := HV.out.at (by omega)
        injection e with e1 _ e2
        subst e1
        subst e2
        have hc0 := hc _ _ (strs_at l k hlt)
        obtain ⟨a, ha⟩ : ∃ a, a = l[k] := ⟨_, rfl⟩
        rw [← ha] at hc0
        have ht : Hid (l.take (k + 1) = l.take k ++ [a]) := Lib.hid (by rw [ha]; exact List.take_succ_eq_append_getElem hlt)
        have hma : Hid (a ∈ l.take 60) := Lib.hid (by rw [ha]; exact List.mem_take_iff_getElem.2 ⟨k, by omega, rfl⟩)
        have hI1 : decide (k < l.length) = true := by simpa using hlt
        have hI2 : decide ((k : Int) < 60) = true := by simp; omega
        clear hc ha
        by_cases hq : 100 < a.length
        · have H : Hid (longB l = true) := Lib.hid (by
            unfold longB
            rw [Bool.or_eq_true]
            exact .inl (List.any_eq_true.2 ⟨a, hma.out, by simpa using hq⟩))
          have hI3 : decide ((100 : Int) < (a.length : Int)) = true := by simp; omega
          go_wp2_with fail
          go_ret
          exact ⟨ret_bool H.out.symm, rfl⟩
        · have hs' : Hid (∀ x ∈ l.take (k + 1), x.length ≤ 100) := Lib.hid (by
            rw [ht.out]
            intro x hx
            rcases List.mem_append.1 hx with h | h
            · exact hs.out x h
            · simp at h; subst h; omega)
          have hI3 : decide ((100 : Int) < (a.length : Int)) = false := by simp; omega
          go_wp2_with fail
          go_round
          case rel => exact ⟨k + 1, by go_num, hlt, hl6, hs'⟩
          case measure => simp [intOf]; omega
      · have hke : k = 60 := by omega
        have H : Hid (longB l = true) := Lib.hid (by unfold longB; rw [Bool.or_eq_true]; right; simp; omega)
        have hI3 : decide ((50 : Int) < (l.length : Int)) = true := by simp; omega
        have hI1 : decide (k < l.length) = true := by simpa using hlt
        have hI2 : decide ((k : Int) < 60) = false := by simp; omega
        clear hke
        go_wp2_with fail
        go_ret
        exact ⟨ret_bool H.out.symm, rfl⟩
    · have hke : k = l.length := by omega
      have H : Hid (longB l = decide (50 < l.length)) := Lib.hid (by
        unfold longB
        have : (l.take 60).any (fun a => decide (100 < a.length)) = false := by
          rw [List.any_eq_false]
          intro x hx
          have := hs.out x (by rw [hke, List.take_length]; exact List.mem_of_mem_take hx)
          simpa using this
        rw [this, Bool.false_or])
      have hI1 : decide (k < l.length) = false := by simp; omega
      clear hke
      go_wp2_with fail
      go_ret
      exact ⟨ret_bool (by rw [H.out, Bool.eq_iff_iff]; simp; omega), rfl⟩

theorem big50 {n : Nat} (h : 50 < n) : decide ((50 : Int) < (n : Int)) = true := by simp; omega
theorem small50 {n : Nat} (h : ¬ 50 < n) : decide ((50 : Int) < (n : Int)) = false := by simp; omega

set_option maxRecDepth 100000 in
set_option maxHeartbeats 2000000 in
theorem parses_walk (t : ByteArray) (v : Value) (l : List Str) (_ : t.size ≤ 9223372036854775807) (w : World) (a0 a1 : Addr) (m : Int) (hg : Gl w.heap.size a0 a1 m w) (hv : Rd w.heap.size 1 v l.length (strs l) w) :
    Calls Tryd.prog 3 #[.string t, v] w fun e W' => e = .returned (.bool true) ∧ Below w.heap.size w W' := by
  obtain ⟨s, rfl⟩ : ∃ s, t = bs s := ⟨_, bs_of t⟩
  rename_i hsz
  rw [bs_size] at hsz
  have HG := Lib.hid hg
  have HV := Lib.hid hv
  by_cases hp : 50 < s.length
  · have h1 := big50 hp
    clear hg hv
    go_enter Tryd.func3, Tryd.ntmps3
    go_wp2_with fail
    refine (shown_any _ a0 a1 m _ HG.out (Nat.le_refl _)).mono ?_
    rintro e w1 ⟨rfl, hb1⟩
    go_wp2_with fail
    go_ret
    exact ⟨rfl, hb1⟩
  have h1 := small50 hp
  by_cases hl : longB l = true
  · have HL := Lib.hid hl
    clear hg hv hl
    go_enter Tryd.func3, Tryd.ntmps3
    go_wp2_with fail
    refine (long_any _ v l _ HV.out).mono ?_
    rintro e w0 ⟨rfl, rfl⟩
    rw [HL.out]
    go_wp2_with fail
    refine (shown_any _ a0 a1 m _ HG.out (Nat.le_refl _)).mono ?_
    rintro e w1 ⟨rfl, hb1⟩
    go_wp2_with fail
    go_ret
    exact ⟨rfl, hb1⟩
  have hl' : longB l = false := by simpa using hl
  obtain ⟨hl5, hla⟩ := long_no hl'
  have HL := Lib.hid hl'
  have HLA : Hid (∀ a ∈ l, a.length ≤ 65000) := Lib.hid (fun a h => by have := hla a h; omega)
  have HLB : Hid (∀ a ∈ l, a.length ≤ 100) := Lib.hid hla
  clear hg hv hl hl' hla
  go_enter Tryd.func3, Tryd.ntmps3
  go_wp2_with fail
  refine (long_any _ v l _ HV.out).mono ?_
  rintro e w0 ⟨rfl, rfl⟩
  rw [HL.out]
  go_wp2_with fail
  refine (shown_any _ a0 a1 m _ HG.out (Nat.le_refl _)).mono ?_
  rintro e w1 ⟨rfl, hb1⟩
  have s1 := hb1.size
  have hv1 := HV.out.below hb1
  have HG1 := Lib.hid (HG.out.below hb1 (Nat.le_refl _))
  have HV1 := Lib.hid hv1
  clear hv1
  go_wp2_with fail
  cases hR : parseL s l with
  | error k =>
    have HR := Lib.hid hR
    clear hR
    refine (parse_err _ a0 a1 m s _ l _ HG1.out s1 (HV1.out.mono s1) (by omega) (by omega) HLA.out k HR.out).mono ?_
    rintro e w2 ⟨rfl, hb2⟩
    have b2 := ret_tr hb1 hb2
    have HV2 := Lib.hid (HV1.out.below (hb2.mono s1))
    have s2 := b2.size
    go_wp2_with fail
    refine (rparse_err s _ l _ (HV2.out.mono s2) (by omega) (by omega) HLA.out k HR.out).mono ?_
    rintro e w3 ⟨rfl, hb3⟩
    have b3 := ret_tr b2 hb3
    go_wp2_with fail
    refine (its_any w3.heap.size _ [] _ (Rd.none0 _ _ _) (Nat.le_refl _) (by simp)).mono ?_
    rintro e w4 ⟨v4, rfl, hr4, hb4⟩
    have b4 := ret_tr b3 hb4
    go_wp2_with fail
    refine (same_any w4.heap.size _ _ [] [] _ hr4 (Rd.none0 _ _ _) (by simp) (by simp)).mono ?_
    rintro e w5 ⟨rfl, n5, rfl⟩
    go_wp2_with fail
    refine (texts_any w4.heap.size _ _ [] [] _ (Rd.none0 _ _ _) (Rd.none0 _ _ _) (by simp) (by simp)).mono ?_
    rintro e w6 ⟨rfl, n6, rfl⟩
    go_wp2_with fail
    go_ret
    exact ⟨ret_bool (by simp), below_drewN b4 _⟩
  | ok p =>
    obtain ⟨fl, rs⟩ := p
    have hbd := parseL_bound s l fl rs HLA.out hR
    have hf1 : fl.length ≤ 10000000 := by have := hbd.1; omega
    have hr1 : rs.length ≤ 10000000 := by have := hbd.2.1; omega
    have HR := Lib.hid hR
    clear hR hbd
    refine (parse_ok _ a0 a1 m s _ l _ HG1.out s1 (HV1.out.mono s1) (by omega) (by omega) HLA.out fl rs HR.out).mono ?_
    rintro e w2 ⟨vf, vo, rfl, hf2, ho2, hb2⟩
    have b2 := ret_tr hb1 hb2
    have HV2 := Lib.hid (HV1.out.below (hb2.mono s1))
    have s2 := b2.size
    go_wp2_with fail
    refine (rparse_ok s _ l _ (HV2.out.mono s2) (by omega) (by omega) HLA.out fl rs HR.out).mono ?_
    rintro e w3 ⟨vg, vp, rfl, hg3, hp3, hb3⟩
    have b3 := ret_tr b2 hb3
    have HF3 := Lib.hid (hf2.below hb3)
    have HO3 := Lib.hid (ho2.below hb3)
    have s3 := hb3.size
    clear hf2 ho2 hb2
    have HG3 := Lib.hid hg3
    have HP3 := Lib.hid hp3
    clear hg3 hp3
    go_wp2_with fail
    refine (its_any w2.heap.size vf fl _ HF3.out s3 hf1).mono ?_
    rintro e w4 ⟨v4, rfl, hr4, hb4⟩
    have b4 := ret_tr b3 hb4
    have s4 := hb4.size
    have hg4 := (HG3.out.below hb4).mono s4
    have ho4 := (HO3.out.below (hb4.mono s3)).mono (Nat.le_trans s3 s4)
    have hp4 := (HP3.out.below hb4).mono s4
    have HO4 := Lib.hid ho4
    have HP4 := Lib.hid hp4
    clear ho4 hp4 hb4
    go_wp2_with fail
    refine (same_any w4.heap.size _ _ fl fl _ hr4 hg4 hf1 hf1).mono ?_
    rintro e w5 ⟨rfl, n5, rfl⟩
    go_wp2_with fail
    refine (texts_any w4.heap.size _ _ rs rs _ (HO4.out.drewN n5) (HP4.out.drewN n5) hr1 hr1).mono ?_
    rintro e w6 ⟨rfl, n6, rfl⟩
    go_wp2_with fail
    go_ret
    exact ⟨ret_bool (by simp), below_drewN b4 _⟩

theorem big100 {n : Nat} (h : 100 < n) : decide ((100 : Int) < (n : Int)) = true := by simp; omega
theorem small100 {n : Nat} (h : ¬ 100 < n) : decide ((100 : Int) < (n : Int)) = false := by simp; omega
set_option maxRecDepth 100000 in
set_option maxHeartbeats 2000000 in
theorem values_walk (v : Value) (l : List FlagL) (c : UInt8) (w : World) (a0 a1 : Addr) (m : Int) (hg : Gl w.heap.size a0 a1 m w) (hv : Rd w.heap.size 2 v l.length (flags l) w) :
    Calls Tryd.prog 4 #[v, .int .u8 c.toNat] w fun e W' => e = .returned (.bool true) ∧ Below w.heap.size w W' := by
  have HG := Lib.hid hg
  have HV := Lib.hid hv
  obtain ⟨ao, cap, rfl, _, _⟩ := hv.form
  clear hg hv
  by_cases hp : 100 < l.length
  · have h1 := big100 hp
    go_enter Tryd.func4, Tryd.ntmps4
    go_wp2_with fail
    refine (shown_any _ a0 a1 m _ HG.out (Nat.le_refl _)).mono ?_
    rintro e w1 ⟨rfl, hb1⟩
    go_wp2_with fail
    go_ret
    exact ⟨rfl, hb1⟩
  have h1 := small100 hp
  have hl : l.length ≤ 10000000 := by omega
  go_enter Tryd.func4, Tryd.ntmps4
  go_wp2_with fail
  refine (shown_any _ a0 a1 m _ HG.out (Nat.le_refl _)).mono ?_
  rintro e w1 ⟨rfl, hb1⟩
  have s1 := hb1.size
  have HV1 := Lib.hid (HV.out.below hb1)
  go_wp2_with fail
  refine (valueF_any _ _ l c _ HV1.out s1 hl).mono ?_
  rintro e w2 ⟨rfl, hb2⟩
  have b2 := ret_tr hb1 hb2
  have s2 := b2.size
  have HV2 := Lib.hid (HV1.out.below (hb2.mono s1))
  clear hb2
  go_wp2_with fail
  refine (its_any _ _ l _ HV2.out s2 hl).mono ?_
  rintro e w3 ⟨v3, rfl, hr3, hb3⟩
  have b3 := ret_tr b2 hb3
  have s3 := b3.size
  have HV3 := Lib.hid (HV2.out.below (hb3.mono s2))
  clear hb3
  go_wp2_with fail
  refine (rvalue_any _ _ l c _ hr3 hl).mono ?_
  rintro e w4 ⟨rfl, rfl⟩
  go_wp2_with fail
  refine (hasF_any _ _ l c _ HV3.out s3 hl).mono ?_
  rintro e w5 ⟨rfl, hb5⟩
  have b5 := ret_tr b3 hb5
  have s5 := b5.size
  have HV5 := Lib.hid (HV3.out.below (hb5.mono s3))
  clear hb5
  go_wp2_with fail
  refine (its_any _ _ l _ HV5.out s5 hl).mono ?_
  rintro e w6 ⟨v6, rfl, hr6, hb6⟩
  have b6 := ret_tr b5 hb6
  go_wp2_with fail
  refine (rhas_any _ _ l c _ hr6 hl).mono ?_
  rintro e w7 ⟨rfl, rfl⟩
  go_wp2_with fail
  go_ret
  exact ⟨ret_bool (by simp), b6⟩
end Go.Proofs.YtjgadmodhkdllaaDoor
