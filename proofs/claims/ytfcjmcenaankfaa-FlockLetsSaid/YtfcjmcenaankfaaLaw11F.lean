/-
  Who asks in vain is let in when all others have let go: FlockLets.
-/
import Derived.Test.YtfcjmcenaankfaaLaw11A
import Derived.Test.YtfcjmcenaankfaaFlkLaws2
namespace Go.Proofs.Ytfcjmcenaankfaa
open Go.RowKit Go.Shelf
attribute [local go_sem ↓] Go.wp_at_zero Go.wp_at_succ

set_option maxRecDepth 100000 in
set_option maxHeartbeats 4000000 in
theorem lets_l (pc : PF) (t : TabL) (i kind : Int) (ad af : Option Addr) (cap capf : Nat) (w : World) (hT : TabX t (.slice ad t.ds.length cap) (.slice af t.fs.length capf) (fun _ => False) w) :
    Calls Try.prog 5 #[tabV ad t.ds.length cap af t.fs.length capf, .int .i64 i, .int .i64 kind] w fun e w' => e = .returned (.bool true) ∧ Below w.heap.size w w' := by
  have S0 := Lib.hid (Sf.start (G := [TabX t (.slice ad t.ds.length cap) (.slice af t.fs.length capf)]) (fun _ h => h.elim) (th1 (TabX.firm _ _ _) hT))
  clear hT
  go_enter Try.func5, Try.ntmps5
  go_upto_region 1 with (fail)
  refine code_fresh1 ?_
  intro W1 hb hA0 hs
  have S1 := Lib.hid (S0.out.new1 hb hA0)
  clear hb hA0 hs
  have h_d := (S1.out.at 0 rfl)
  go_wp2_with (first | (refine wpList_load_row rfl 25 _ rfl _ rfl 25 _ (0, 0) _ h_d Try.underlying25 rfl (by kernel_rfl) ?_) | (refine wpList_load_rowG rfl 25 _ rfl _ rfl 25 _ (0, 0) _ h_d Try.underlying25 rfl (by kernel_rfl) ?_))
  refine (fine_c _ t _ _ _ _ _ S1.out.oldX (S1.out.g 0 rfl)).mono ?_
  rintro e W2 ⟨rfl, hb⟩
  clear h_d
  have S2 := Lib.hid (S1.out.call hb)
  clear hb
  cases hfb : fineB t with
  | false =>
    clear hfb
    go_wp2_with fail
    refine (pc.shown W2).mono ?_
    rintro e W3 ⟨rfl, hb⟩
    have S3 := Lib.hid (S2.out.call hb)
    clear hb
    go_wp2_with fail
    go_ret
    exact ⟨rfl, S3.out.bel⟩
  | true =>
    have HFB := Lib.hid (fine_B.1 hfb)
    have HSZ := Lib.hid (size_T HFB.out.1 (by decide))
    clear hfb
    go_wp2_with fail
    refine (pc.shown W2).mono ?_
    rintro e W3 ⟨rfl, hb⟩
    have S3 := Lib.hid (S2.out.call hb)
    clear hb
    go_upto_region 3 with (fail)
    have h_d := (S3.out.at 0 rfl)
    go_wp2_with (first | (refine wpList_load_row rfl 25 _ rfl _ rfl 25 _ (0, 0) _ h_d Try.underlying25 rfl (by kernel_rfl) ?_) | (refine wpList_load_rowG rfl 25 _ rfl _ rfl 25 _ (0, 0) _ h_d Try.underlying25 rfl (by kernel_rfl) ?_))
    refine (pc.lock _ t i kind _ _ _ _ W3 S3.out.oldX (S3.out.g 0 rfl) HSZ.out HFB.out.2).mono ?_
    rintro e W4 ⟨vd4, vf4, rfl, hT4, hb⟩
    obtain ⟨ad4, cap4, af4, capf4, rfl, rfl⟩ := hT4.form
    clear h_d
    obtain ⟨ta, hta⟩ : ∃ ta, ta = (lockT t i kind).1 := ⟨_, rfl⟩
    rw [← hta] at hT4 ⊢
    obtain ⟨ta1, hta1⟩ : ∃ ta1, ta1 = (lockT t i kind).2 := ⟨_, rfl⟩
    rw [← hta1]
    have Hta1 := Lib.hid hta1
    clear hta1
    have Hta := Lib.hid hta
    have S4 := Lib.hid ((S3.out.call hb).more (TabX.firm _ _ _) hT4)
    clear hta hb hT4
    go_upto_region 4 with (fail)
    refine code_fresh1 ?_
    intro W5 hb hA0 hs
    have S5 := Lib.hid (S4.out.new1 hb hA0)
    clear hb hA0 hs
    by_cases he : ta1 = 14
    · have e1 : (ta1 == 14) = true := by simpa using he
      have e2 : decide (ta1 = 14) = true := decide_eq_true he
      have e3 : (ta1 != 14) = false := by simpa using he
      have HE := Lib.hid (show (lockT t i kind).2 = 14 by rw [← Hta1.out]; exact he)
      clear he
      go_wp2_with fail
      go_loopw [9] (fun j wr => ∃ (k : Nat) (tk : TabL) (adk afk : Option Addr) (capk capfk : Nat), j = .int .i64 k ∧ k ≤ t.ds.length ∧ Hid (MapT (letQ i) 0 t k tk ∧ RightT tk ∧ SizeM 100 tk) ∧ Hid (Sf (fun _ => False) w [(w.heap.size, #[.slice adk tk.ds.length capk, .slice afk tk.fs.length capfk], 25)] [TabX tk (.slice adk tk.ds.length capk) (.slice afk tk.fs.length capfk)] wr)) (fun j _ => t.ds.length - (RowKit.intOf j).toNat)
      case atStart => exact ⟨0, t, ad, af, cap, capf, rfl, Nat.zero_le _, Lib.hid ⟨map_zero _ _ _, HFB.out.2, HFB.out.1⟩, Lib.hid ((S5.out.leave (B' := [(w.heap.size, #[.slice ad t.ds.length cap, .slice af t.fs.length capf], 25)]) (by simp)).less (by simp))⟩
      case round =>
        clear S5
        obtain ⟨k, tk, adk, afk, capk, capfk, rfl, hk, HM, S9⟩ := hrel
        have hl1 : t.ds.length ≤ 1000 := HSZ.out.1
        have HLK := Lib.hid (HM.out.1.len)
        have HZK := Lib.hid (size_T HM.out.2.2 (by decide))
        by_cases hlt : k < t.ds.length
        · have hkt : k < tk.ds.length := by rw [HLK.out]; exact hlt
          have iL7 : decide (k < tk.ds.length) = true := decide_eq_true (by omega)
          have iM7 : decide ((k : Int) < (tk.ds.length : Int)) = true := decide_eq_true (by omega)
          have k0 : (0 : Int) ≤ (k : Int) := by omega
          have k1 : (k : Int) < (tk.ds.length : Int) := by omega
          have wk : IntKind.i64.wrap ((k : Int) + 1) = (k : Int) + 1 := Go.IntWalk.i64_in _ (by omega)
          obtain ⟨b, off, ead, -, -, -, -, c4, -⟩ := TabX.desc (S9.out.g 0 rfl) k hkt
          subst ead
          have HNOW := Lib.hid (HM.out.1.now hlt hkt)
          obtain ⟨y, hy⟩ : ∃ y, y = tk.ds[k] := ⟨_, rfl⟩
          rw [← hy] at c4 HNOW
          have HY := Lib.hid hy
          clear hy
          obtain ⟨d0, d1⟩ := cells2 (S9.out.at 0 rfl)
          by_cases h1 : (k : Int) = i
          · have HM2 : Hid (MapT (letQ i) 0 t (k + 1) tk ∧ RightT tk ∧ SizeM 100 tk) := Lib.hid ⟨HM.out.1.skip hlt (let_skip1 h1), HM.out.2⟩
            subst h1
            go_wp2_with fail
            go_roundw
            case rel => exact ⟨k + 1, tk, (some ⟨b, off, none⟩), afk, capk, capfk, by go_num, hlt, HM2, S9⟩
            case measure => simp [RowKit.intOf]; omega
          · have j1 : ((k : Int) == i) = false := by simpa using h1
            have j2 : decide ((k : Int) = i) = false := decide_eq_false h1
            have j3 : ((k : Int) != i) = true := by simpa using h1
            by_cases h2 : y.refs < 1
            · have i5 : decide (y.refs < 1) = true := decide_eq_true h2
              have HM2 : Hid (MapT (letQ i) 0 t (k + 1) tk ∧ RightT tk ∧ SizeM 100 tk) := Lib.hid ⟨HM.out.1.skip hlt (let_skip2 (by rw [← HNOW.out]; exact h2)), HM.out.2⟩
              clear h1 h2
              go_wp2_with fail
              go_roundw
              case rel => exact ⟨k + 1, tk, (some ⟨b, off, none⟩), afk, capk, capfk, by go_num, hlt, HM2, S9⟩
              case measure => simp [RowKit.intOf]; omega
            · have i5 : decide (y.refs < 1) = false := decide_eq_false h2
              have HQ := Lib.hid (show letQ i k t.ds[k] = true from let_yes h1 (by rw [← HNOW.out]; exact h2))
              have HRY := Lib.hid (show 1 ≤ (tk.ds[k]).refs by rw [← HY.out]; omega)
              clear h1 h2
              go_upto_region 10 with (fail)
              clear c4
              clear d0 d1
              have h_d := (S9.out.at 0 rfl)
              go_wp2_with (first | (refine wpList_load_row rfl 25 _ rfl _ rfl 25 _ (0, 0) _ h_d Try.underlying25 rfl (by kernel_rfl) ?_) | (refine wpList_load_rowG rfl 25 _ rfl _ rfl 25 _ (0, 0) _ h_d Try.underlying25 rfl (by kernel_rfl) ?_))
              refine (pc.lock _ tk (k : Int) 0 _ _ _ _ wr S9.out.oldX (S9.out.g 0 rfl) HZK.out HM.out.2.1).mono ?_
              rintro e W11 ⟨vd11, vf11, rfl, hT11, hb⟩
              obtain ⟨ad11, cap11, af11, capf11, rfl, rfl⟩ := hT11.form
              clear h_d
              obtain ⟨tb, htb⟩ : ∃ tb, tb = (lockT tk (k : Int) 0).1 := ⟨_, rfl⟩
              rw [← htb] at hT11 ⊢
              obtain ⟨tb1, htb1⟩ : ∃ tb1, tb1 = (lockT tk (k : Int) 0).2 := ⟨_, rfl⟩
              rw [← htb1]
              have Htb1 := Lib.hid htb1
              clear htb1
              have Htb := Lib.hid htb
              have S11 := Lib.hid ((S9.out.call hb).more (TabX.firm _ _ _) hT11)
              clear htb hb hT11
              go_upto_region 11 with (fail)
              refine code_fresh1 ?_
              intro W12 hb hA0 hs
              have S12 := Lib.hid (S11.out.new1 hb hA0)
              clear hb hA0 hs
              have hn := lock_none hkt HRY.out
              have HTB : Hid (tb = ⟨tk.ds.set k (withL tk.ds[k] 0), tk.fs⟩) := Lib.hid (by rw [Htb.out, hn])
              have HB1 : Hid (tb1 = 0) := Lib.hid (by rw [Htb1.out, hn])
              have HM2 : Hid (MapT (letQ i) 0 t (k + 1) tb ∧ RightT tb ∧ SizeM 100 tb) := Lib.hid ⟨by rw [HTB.out]; exact HM.out.1.step hlt hkt HQ.out, by rw [Htb.out]; exact right_lock HM.out.2.1 _ _, by rw [Htb.out]; exact size_lock HM.out.2.2 _ _⟩
              have hlb : tb.ds.length = tk.ds.length := by rw [HTB.out]; exact List.length_set ..
              have z1 : ((tb.ds.length : Int) != (tk.ds.length : Int)) = false := by simp; omega
              have z2 : ((tb.ds.length : Int) == (tk.ds.length : Int)) = true := by simp; omega
              have z3 : decide ((tb.ds.length : Int) = (tk.ds.length : Int)) = true := decide_eq_true (by omega)
              have z4 : decide (tb.ds.length = tk.ds.length) = true := decide_eq_true (by omega)
              have z5 : (tb.ds.length == tk.ds.length) = true := by simp; omega
              clear hn hlb
              have e1 : (tb1 == 0) = true := by simpa using HB1.out
              have e2 : decide (tb1 = 0) = true := decide_eq_true HB1.out
              have e3 : (tb1 != 0) = false := by simpa using HB1.out
              obtain ⟨a0, a1⟩ := cells2 (S12.out.at 1 rfl)
              obtain ⟨d0, d1⟩ := cells2 (S12.out.at 0 rfl)
              go_upto_region 13 with (fail)
              clear z1 z2 z3 z4 z5 e1 e2 e3
              clear a0 a1 d0 d1
              have h_a := (S12.out.at 1 rfl)
              have h_d := (S12.out.at 0 rfl)
              go_wp2_with (first | (refine wpList_load_row rfl 25 _ rfl _ rfl 25 _ (0, 0) _ h_a Try.underlying25 rfl (by kernel_rfl) ?_) | (refine wpList_store_row rfl 25 _ _ rfl _ rfl rfl h_d rfl (by kernel_rfl) rfl ?_; intro W13 hb hg hs hn; have S13 := Lib.hid (S12.out.set 0 rfl hb hg hs hn); clear hb hg hs hn))
              go_roundw
              case rel => exact ⟨k + 1, tb, ad11, af11, cap11, capf11, by go_num, hlt, HM2, Lib.hid ((S13.out.leave (B' := [(w.heap.size, #[.slice ad11 tb.ds.length cap11, .slice af11 tb.fs.length capf11], 25)]) (by simp)).less (by simp))⟩
              case measure => simp [RowKit.intOf]; omega
        · have hke : k = t.ds.length := by omega
          subst hke
          have hlk := HLK.out
          have iL7 : decide (t.ds.length < tk.ds.length) = false := decide_eq_false (by omega)
          have iM7 : decide ((t.ds.length : Int) < (tk.ds.length : Int)) = false := decide_eq_false (by omega)
          clear hlk hlt
          obtain ⟨d0, d1⟩ := cells2 (S9.out.at 0 rfl)
          go_upto_region 14 with (fail)
          clear d0 d1
          have h_d := (S9.out.at 0 rfl)
          go_wp2_with (first | (refine wpList_load_row rfl 25 _ rfl _ rfl 25 _ (0, 0) _ h_d Try.underlying25 rfl (by kernel_rfl) ?_) | (refine wpList_load_rowG rfl 25 _ rfl _ rfl 25 _ (0, 0) _ h_d Try.underlying25 rfl (by kernel_rfl) ?_))
          obtain ⟨a, ha, hia, hz1, hz2, hz3⟩ := lets_in HM.out.1 HE.out
          subst hia
          have HZ1 := Lib.hid hz1
          have HZ2 := Lib.hid hz2
          have HZ3 := Lib.hid hz3
          clear hz1 hz2 hz3
          refine (pc.lock _ tk (a : Int) kind _ _ _ _ wr S9.out.oldX (S9.out.g 0 rfl) HZK.out HM.out.2.1).mono ?_
          rintro e W46 ⟨vd46, vf46, rfl, hT46, hb⟩
          obtain ⟨ad46, cap46, af46, capf46, rfl, rfl⟩ := hT46.form
          clear h_d
          obtain ⟨tz, htz⟩ : ∃ tz, tz = (lockT tk (a : Int) kind).1 := ⟨_, rfl⟩
          rw [← htz] at hT46 ⊢
          obtain ⟨tz1, htz1⟩ : ∃ tz1, tz1 = (lockT tk (a : Int) kind).2 := ⟨_, rfl⟩
          rw [← htz1]
          have Htz1 := Lib.hid htz1
          clear htz1
          have Htz := Lib.hid htz
          have S46 := Lib.hid ((S9.out.call hb).more (TabX.firm _ _ _) hT46)
          clear htz hb hT46
          go_upto_region 15 with (fail)
          refine code_fresh1 ?_
          intro W47 hb hA0 hs
          have S47 := Lib.hid (S46.out.new1 hb hA0)
          clear hb hA0 hs
          have HB1 : Hid (tz1 = 0) := Lib.hid (by rw [Htz1.out]; exact HZ1.out)
          have e1 : (tz1 == 0) = true := by simpa using HB1.out
          have e2 : decide (tz1 = 0) = true := decide_eq_true HB1.out
          have e3 : (tz1 != 0) = false := by simpa using HB1.out
          have hlz : a < tz.ds.length := by rw [Htz.out, HZ2.out]; exact ha
          have hlk : (tz.ds[a]).lock = kind := by rw [← desc_at hlz, Htz.out]; exact HZ3.out
          obtain ⟨b, off, ead, -, -, -, -, -, c5⟩ := TabX.desc (S47.out.g 1 rfl) a hlz
          rw [hlk] at c5
          have a0 : (0 : Int) ≤ (a : Int) := by omega
          have a1 : (a : Int) < (tz.ds.length : Int) := by omega
          have iL8 : decide (a < tz.ds.length) = true := decide_eq_true (by omega)
          have iM8 : decide ((a : Int) < (tz.ds.length : Int)) = true := decide_eq_true (by omega)
          clear hlk
          subst ead
          obtain ⟨z0, z1⟩ := cells2 (S47.out.at 1 rfl)
          go_wp2_with fail
          go_ret
          exact ⟨rfl, S47.out.bel⟩
    · have e1 : (ta1 == 14) = false := by simpa using he
      have e2 : decide (ta1 = 14) = false := decide_eq_false he
      have e3 : (ta1 != 14) = true := by simpa using he
      clear he
      go_wp2_with fail
      go_ret
      exact ⟨rfl, S5.out.bel⟩
end Go.Proofs.Ytfcjmcenaankfaa
