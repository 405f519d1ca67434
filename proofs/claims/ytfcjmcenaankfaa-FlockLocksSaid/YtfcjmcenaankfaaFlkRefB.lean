/-
  The document's Lock.
-/
import Derived.Test.YtfcjmcenaankfaaFlkPlain
import Derived.Test.YtfcjmcenaankfaaHdlRefC
namespace Go.Proofs.Ytfcjmcenaankfaa
open Go.RowKit Go.Shelf
attribute [local go_sem ↓] Go.wp_at_zero Go.wp_at_succ

/-- A table, told with an error. -/
def TabIs1 (X : Nat → Prop) (t : TabL) (n : Int) (e : Ending) (w w' : World) : Prop := ∃ vd vf, e = .returned (.tuple #[.agg #[vd, vf], .int .i64 n]) ∧ TabX t vd vf X w' ∧ Below w.heap.size w w'
theorem open_no1 {t : TabL} {i : Int} (h : i < 0) : openB t i = false := by unfold openB; rw [decide_eq_false (show ¬ 0 ≤ i by omega)]; rfl
theorem open_no2 {t : TabL} {i : Int} (h : (t.ds.length : Int) ≤ i) : openB t i = false := by unfold openB; rw [decide_eq_false (show ¬ i < (t.ds.length : Int) by omega)]; simp
theorem open_no3 {t : TabL} {a : Nat} (ha : a < t.ds.length) (h : (t.ds[a]).refs < 1) : openB t (a : Int) = false := by unfold openB; rw [desc_at ha, decide_eq_false (show ¬ 1 ≤ (t.ds[a]).refs by omega)]; simp
theorem kind_no1 {kind : Int} (h : kind < 0) : kindB kind = false := by unfold kindB; rw [decide_eq_false (show ¬ 0 ≤ kind by omega)]; rfl
theorem kind_no2 {kind : Int} (h : 2 < kind) : kindB kind = false := by unfold kindB; rw [decide_eq_false (show ¬ kind ≤ 2 by omega)]; simp
theorem kind_yes {kind : Int} (h : ¬ kind < 0) (h2 : ¬ 2 < kind) : kindB kind = true := by unfold kindB; rw [decide_eq_true (show 0 ≤ kind by omega), decide_eq_true (show kind ≤ 2 by omega)]; rfl
set_option maxRecDepth 100000 in
set_option maxHeartbeats 4000000 in
theorem rlock_c (X : Nat → Prop) (t : TabL) (i kind : Int) (ad af : Option Addr) (cap capf : Nat) (w : World) (hX : Old X w) (hT : TabX t (.slice ad t.ds.length cap) (.slice af t.fs.length capf) X w) (hz : SizeT t) :
    Calls Try.prog 12 #[tabV ad t.ds.length cap af t.fs.length capf, .int .i64 i, .int .i64 kind] w fun e w' => TabIs1 X (lockT t i kind).1 (lockT t i kind).2 e w w' := by
  have S0 := Lib.hid (Sf.start (G := [TabX t (.slice ad t.ds.length cap) (.slice af t.fs.length capf)]) hX (th1 (TabX.firm _ _ _) hT))
  have HRET : Hid (∀ (W : World) (cs : Array Value) (fr), W.heap[w.heap.size + 1]? = some (.cells cs 33 fr) → cs.size = 2 → ∀ tmps : Array Value, tmps.getD 6 undef = .pointer (some ⟨w.heap.size + 1, 0, none⟩) → (results Try.f12 tmps).run Try.prog W = .ok (.tuple #[.agg cs, tmps.getD 7 undef]) W) := Lib.hid fun W cs fr h hs tmps ht =>
  results_ct (p := 6) (u := 7) (ty := 33) rfl tmps W (w.heap.size + 1) _ cs fr _ ht h Try.underlying33 rfl (by rw [hs]; kernel_rfl)
  have HZ := Lib.hid hz
  clear hX hT hz
  go_enter Try.func12, Try.ntmps12
  go_upto_region 1 with (fail)
  refine code_fresh2 ?_
  intro W1 hb hA0 hA1 hs
  have S1 := Lib.hid (S0.out.new2 hb hA0 hA1)
  clear hb hA0 hA1 hs
  obtain ⟨d0, d1⟩ := cells2 (S1.out.at 0 rfl)
  by_cases h1 : kind < 0
  · have i1 : decide (kind < 0) = true := decide_eq_true h1
    have HR := Lib.hid (lock_kind (t := t) (i := i) (kind_no1 h1))
    go_upto_region 2 with (fail)
    clear d0 d1
    have h_r := (S1.out.at 1 rfl)
    have h_d := (S1.out.at 0 rfl)
    go_wp2_with (first | (refine wpList_load_row rfl 33 _ rfl _ rfl 33 _ (0, 0) _ h_d Try.underlying33 rfl (by kernel_rfl) ?_) | (refine wpList_store_row rfl 33 _ _ rfl _ rfl rfl h_r rfl (by kernel_rfl) rfl ?_; intro W2 hb hg hs hn; have S2 := Lib.hid (S1.out.set 1 rfl hb hg hs hn); clear hb hg hs hn))
    refine bodyPost_ret (HRET.out _ _ _ (S2.out.at 1 rfl) rfl _ rfl) rfl ?_
    rw [HR.out]
    exact ⟨_, _, rfl, S2.out.gX 0 rfl, S2.out.bel⟩
  · have i1 : decide (kind < 0) = false := decide_eq_false h1
    by_cases h2 : 2 < kind
    · have i2 : decide (2 < kind) = true := decide_eq_true h2
      have HR := Lib.hid (lock_kind (t := t) (i := i) (kind_no2 h2))
      go_upto_region 2 with (fail)
      clear d0 d1
      have h_r := (S1.out.at 1 rfl)
      have h_d := (S1.out.at 0 rfl)
      go_wp2_with (first | (refine wpList_load_row rfl 33 _ rfl _ rfl 33 _ (0, 0) _ h_d Try.underlying33 rfl (by kernel_rfl) ?_) | (refine wpList_store_row rfl 33 _ _ rfl _ rfl rfl h_r rfl (by kernel_rfl) rfl ?_; intro W2 hb hg hs hn; have S2 := Lib.hid (S1.out.set 1 rfl hb hg hs hn); clear hb hg hs hn))
      refine bodyPost_ret (HRET.out _ _ _ (S2.out.at 1 rfl) rfl _ rfl) rfl ?_
      rw [HR.out]
      exact ⟨_, _, rfl, S2.out.gX 0 rfl, S2.out.bel⟩
    · have i2 : decide (2 < kind) = false := decide_eq_false h2
      have HK := Lib.hid (kind_yes h1 h2)
      clear h1 h2
      by_cases h3 : i < 0
      · have i3 : decide (i < 0) = true := decide_eq_true h3
        have HR := Lib.hid (lock_bad (t := t) HK.out (open_no1 h3))
        go_upto_region 4 with (fail)
        clear d0 d1
        have h_r := (S1.out.at 1 rfl)
        have h_d := (S1.out.at 0 rfl)
        go_wp2_with (first | (refine wpList_load_row rfl 33 _ rfl _ rfl 33 _ (0, 0) _ h_d Try.underlying33 rfl (by kernel_rfl) ?_) | (refine wpList_store_row rfl 33 _ _ rfl _ rfl rfl h_r rfl (by kernel_rfl) rfl ?_; intro W2 hb hg hs hn; have S2 := Lib.hid (S1.out.set 1 rfl hb hg hs hn); clear hb hg hs hn))
        refine bodyPost_ret (HRET.out _ _ _ (S2.out.at 1 rfl) rfl _ rfl) rfl ?_
        rw [HR.out]
        exact ⟨_, _, rfl, S2.out.gX 0 rfl, S2.out.bel⟩
      · have i3 : decide (i < 0) = false := decide_eq_false h3
        obtain ⟨a, rfl⟩ := Int.eq_ofNat_of_zero_le (show 0 ≤ i by omega)
        have a0 : (0 : Int) ≤ (a : Int) := by omega
        clear h3
        by_cases h4 : t.ds.length ≤ a
        · have i4 : decide (t.ds.length ≤ a) = true := decide_eq_true h4
          have i5 : decide ((t.ds.length : Int) ≤ (a : Int)) = true := decide_eq_true (by omega)
          have HR := Lib.hid (lock_bad (t := t) HK.out (open_no2 (t := t) (i := (a : Int)) (by omega)))
          go_upto_region 4 with (fail)
          clear d0 d1
          have h_r := (S1.out.at 1 rfl)
          have h_d := (S1.out.at 0 rfl)
          go_wp2_with (first | (refine wpList_load_row rfl 33 _ rfl _ rfl 33 _ (0, 0) _ h_d Try.underlying33 rfl (by kernel_rfl) ?_) | (refine wpList_store_row rfl 33 _ _ rfl _ rfl rfl h_r rfl (by kernel_rfl) rfl ?_; intro W2 hb hg hs hn; have S2 := Lib.hid (S1.out.set 1 rfl hb hg hs hn); clear hb hg hs hn))
          refine bodyPost_ret (HRET.out _ _ _ (S2.out.at 1 rfl) rfl _ rfl) rfl ?_
          rw [HR.out]
          exact ⟨_, _, rfl, S2.out.gX 0 rfl, S2.out.bel⟩
        · have i4 : decide (t.ds.length ≤ a) = false := decide_eq_false h4
          have i5 : decide ((t.ds.length : Int) ≤ (a : Int)) = false := decide_eq_false (by omega)
          have ha : a < t.ds.length := by omega
          have a1 : (a : Int) < (t.ds.length : Int) := by omega
          clear h4
          obtain ⟨b, off, ead, -, -, -, -, c4, -⟩ := TabX.desc (S1.out.g 0 rfl) a ha
          subst ead
          obtain ⟨x, hx⟩ : ∃ x, x = t.ds[a] := ⟨_, rfl⟩
          rw [← hx] at c4
          have HX := Lib.hid hx
          clear hx
          by_cases h5 : x.refs < 1
          · have i6 : decide (x.refs < 1) = true := decide_eq_true h5
            have HR := Lib.hid (lock_bad (t := t) HK.out (open_no3 ha (by rw [← HX.out]; exact h5)))
            go_upto_region 4 with (fail)
            clear d0 d1 c4
            have h_r := (S1.out.at 1 rfl)
            have h_d := (S1.out.at 0 rfl)
            go_wp2_with (first | (refine wpList_load_row rfl 33 _ rfl _ rfl 33 _ (0, 0) _ h_d Try.underlying33 rfl (by kernel_rfl) ?_) | (refine wpList_store_row rfl 33 _ _ rfl _ rfl rfl h_r rfl (by kernel_rfl) rfl ?_; intro W2 hb hg hs hn; have S2 := Lib.hid (S1.out.set 1 rfl hb hg hs hn); clear hb hg hs hn))
            refine bodyPost_ret (HRET.out _ _ _ (S2.out.at 1 rfl) rfl _ rfl) rfl ?_
            rw [HR.out]
            exact ⟨_, _, rfl, S2.out.gX 0 rfl, S2.out.bel⟩
          · have i6 : decide (x.refs < 1) = false := decide_eq_false h5
            have HO := Lib.hid (open_at ha (show 1 ≤ (t.ds[a]).refs by rw [← HX.out]; omega))
            have HD := Lib.hid (show descT t (a : Int) = x by rw [HX.out]; exact desc_at ha)
            clear h5
            go_upto_region 5 with (fail)
            clear c4
            obtain ⟨b2, off2, ead, cX⟩ := TabX.range (S1.out.g 0 rfl) a ha
            injection ead with ead
            injection ead with eb eo _
            subst eb
            subst eo
            rw [← HX.out] at cX
            go_upto_region 6 with (first | (refine wpList_load_mid rfl 55 _ rfl _ (off + a * 6) rfl _ _ cX Try.underlying55 rfl (by kernel_rfl) ?_) | (refine wpList_fresh1 ?_; intro W2 hb hn hs; have S2 := Lib.hid (S1.out.new1 hb hn); have h_x := S2.out.at 2 rfl; clear hb hn hs) | (refine wpList_store_row rfl 55 _ _ rfl _ rfl rfl h_x rfl (by kernel_rfl) rfl ?_; intro W3 hb hg hs hn; have S3 := Lib.hid (S2.out.set 2 rfl hb hg hs hn); clear hb hg hs hn))
            clear cX
            clear d0 d1 h_x
            obtain ⟨bx, hbx⟩ : ∃ bx, bx = W1.heap.size := ⟨_, rfl⟩
            rw [← hbx] at S3 ⊢
            clear hbx
            go_wp2_with fail
            go_loopw [9] (fun j wr => ∃ k : Nat, j = .int .i64 k ∧ k ≤ t.ds.length ∧ Hid (clashP t.ds a kind x.ino k = false) ∧ Hid (Sf X w [(w.heap.size, #[.slice (some ⟨b, off, none⟩) t.ds.length cap, .slice af t.fs.length capf], 33), (w.heap.size + 1, #[.slice none 0 0, .slice none 0 0], 33), (bx, #[.int .i64 x.ino, .int .i64 x.pos, .bool x.rd, .bool x.wr, .int .i64 x.refs, .int .i64 x.lock], 55)] [TabX t (.slice (some ⟨b, off, none⟩) t.ds.length cap) (.slice af t.fs.length capf)] wr)) (fun j _ => t.ds.length - (RowKit.intOf j).toNat)
            case atStart => exact ⟨0, rfl, Nat.zero_le _, Lib.hid rfl, S3⟩
            case round =>
              clear S3
              obtain ⟨k, rfl, hk, HC, S9⟩ := hrel
              have hl1 : t.ds.length ≤ 1000 := HZ.out.1
              obtain ⟨d0, -⟩ := cells2 (S9.out.at 0 rfl)
              by_cases hlt : k < t.ds.length
              · have iL7 : decide (k < t.ds.length) = true := decide_eq_true (by omega)
                have iM7 : decide ((k : Int) < (t.ds.length : Int)) = true := decide_eq_true (by omega)
                have k0 : (0 : Int) ≤ (k : Int) := by omega
                have k1 : (k : Int) < (t.ds.length : Int) := by omega
                have wk : IntKind.i64.wrap ((k : Int) + 1) = (k : Int) + 1 := Go.IntWalk.i64_in _ (by omega)
                obtain ⟨b2, off2, ead, cY⟩ := TabX.range (S9.out.g 0 rfl) k hlt
                injection ead with ead
                injection ead with eb eo _
                subst eb
                subst eo
                have HN := Lib.hid (clash_next (i := a) (kind := kind) (ino := x.ino) hlt)
                obtain ⟨y, hy⟩ : ∃ y, y = t.ds[k] := ⟨_, rfl⟩
                rw [← hy] at cY HN
                have HY := Lib.hid hy
                clear hy
                go_upto_region 10 with (first | (refine wpList_load_mid rfl 55 _ rfl _ (off + k * 6) rfl _ _ cY Try.underlying55 rfl (by kernel_rfl) ?_) | (refine wpList_fresh1 ?_; intro W9 hb hn hs; have S9 := Lib.hid (S9.out.new1 hb hn); have h_y := S9.out.at 3 rfl; clear hb hn hs) | (refine wpList_store_row rfl 55 _ _ rfl _ rfl rfl h_y rfl (by kernel_rfl) rfl ?_; intro W10 hb hg hs hn; have S10 := Lib.hid (S9.out.set 3 rfl hb hg hs hn); clear hb hg hs hn))
                clear cY d0
                clear h_y
                obtain ⟨y0, -, -, -, y4, y5⟩ := cells6 (S10.out.at 3 rfl)
                obtain ⟨x0, -, -, -, -, -⟩ := cells6 (S10.out.at 2 rfl)
                obtain ⟨d0, d1⟩ := cells2 (S10.out.at 0 rfl)
                by_cases h1 : k = a
                · have j1 : decide (k = a) = true := decide_eq_true h1
                  have j2 : decide ((k : Int) = (a : Int)) = true := decide_eq_true (by omega)
                  have j3 : ((k : Int) == (a : Int)) = true := by rw [h1]; simp
                  have j4 : (k == a) = true := by rw [h1]; simp
                  have HC2 : Hid (clashP t.ds a kind x.ino (k + 1) = false) := Lib.hid (by rw [HN.out, HC.out, (show (mateB a x.ino k y && barsB kind y) = false by unfold mateB; rw [decide_eq_false (show ¬ k ≠ a by omega)]; simp)]; rfl)
                  go_wp2_with fail
                  go_roundw
                  case rel => exact ⟨k + 1, by go_num, hlt, HC2, Lib.hid (S10.out.leave (by simp))⟩
                  case measure => simp [RowKit.intOf]; omega
                · have j1 : decide (k = a) = false := decide_eq_false h1
                  have j2 : decide ((k : Int) = (a : Int)) = false := decide_eq_false (by omega)
                  have j3 : ((k : Int) == (a : Int)) = false := by rw [beq_eq_false_iff_ne]; omega
                  have j4 : (k == a) = false := by rw [beq_eq_false_iff_ne]; exact h1
                  by_cases h2 : y.refs < 1
                  · have j5 : decide (y.refs < 1) = true := decide_eq_true h2
                    have HC2 : Hid (clashP t.ds a kind x.ino (k + 1) = false) := Lib.hid (by rw [HN.out, HC.out, (show (mateB a x.ino k y && barsB kind y) = false by unfold mateB; rw [decide_eq_false (show ¬ 1 ≤ y.refs by omega)]; simp)]; rfl)
                    go_wp2_with fail
                    go_roundw
                    case rel => exact ⟨k + 1, by go_num, hlt, HC2, Lib.hid (S10.out.leave (by simp))⟩
                    case measure => simp [RowKit.intOf]; omega
                  · have j5 : decide (y.refs < 1) = false := decide_eq_false h2
                    by_cases h3 : y.ino = x.ino
                    · have j61 : (y.ino == x.ino) = true := by simpa using h3
                      have j62 : decide (y.ino = x.ino) = true := decide_eq_true h3
                      have j63 : (y.ino != x.ino) = false := by simpa using h3
                      have HM : Hid (mateB a x.ino k y = true) := Lib.hid (by unfold mateB; rw [decide_eq_true h1, decide_eq_true (show 1 ≤ y.refs by omega), decide_eq_true h3]; rfl)
                      clear h1 h2
                      skip
                      clear h3
                      by_cases h4 : kind = 2
                      · have j71 : (kind == 2) = true := by simpa using h4
                        have j72 : decide (kind = 2) = true := decide_eq_true h4
                        have j73 : (kind != 2) = false := by simpa using h4
                        have h41 : ¬ kind = 1 := by omega
                        have j81 : (kind == 1) = false := by simpa using h41
                        have j82 : decide (kind = 1) = false := decide_eq_false h41
                        have j83 : (kind != 1) = true := by simpa using h41
                        by_cases h5 : y.lock = 0
                        · have j91 : (y.lock == 0) = true := by simpa using h5
                          have j92 : decide (y.lock = 0) = true := decide_eq_true h5
                          have j93 : (y.lock != 0) = false := by simpa using h5
                          have HC2 : Hid (clashP t.ds a kind x.ino (k + 1) = false) := Lib.hid (by rw [HN.out, HC.out, (show (mateB a x.ino k y && barsB kind y) = false by rw [show barsB kind y = false by unfold barsB; rw [decide_eq_false (show ¬ y.lock ≠ 0 by omega), decide_eq_false h41]; simp]; simp)]; rfl)
                          clear h4 h41 h5
                          go_wp2_with fail
                          go_roundw
                          case rel => exact ⟨k + 1, by go_num, hlt, HC2, Lib.hid (S10.out.leave (by simp))⟩
                          case measure => simp [RowKit.intOf]; omega
                        · have j91 : (y.lock == 0) = false := by simpa using h5
                          have j92 : decide (y.lock = 0) = false := decide_eq_false h5
                          have j93 : (y.lock != 0) = true := by simpa using h5
                          have HR := Lib.hid (lock_again (t := t) (i := (a : Int)) HK.out HO.out (by rw [HD.out, Int.toNat_natCast]; exact clash_now hlt (by rw [← HY.out]; exact HM.out) (by rw [← HY.out]; unfold barsB; rw [decide_eq_true h4, decide_eq_true (show y.lock ≠ 0 from h5)]; rfl)))
                          clear h4 h41 h5
                          go_upto_region 12 with (fail)
                          clear y0 y4 y5 x0 d0 d1
                          have h_r := (S10.out.at 1 rfl)
                          have h_d := (S10.out.at 0 rfl)
                          go_wp2_with (first | (refine wpList_load_row rfl 33 _ rfl _ rfl 33 _ (0, 0) _ h_d Try.underlying33 rfl (by kernel_rfl) ?_) | (refine wpList_store_row rfl 33 _ _ rfl _ rfl rfl h_r rfl (by kernel_rfl) rfl ?_; intro W11 hb hg hs hn; have S11 := Lib.hid (S10.out.set 1 rfl hb hg hs hn); clear hb hg hs hn))
                          refine bodyPost_ret (HRET.out _ _ _ (S11.out.at 1 rfl) rfl _ rfl) rfl ?_
                          rw [HR.out]
                          exact ⟨_, _, rfl, S11.out.gX 0 rfl, S11.out.bel⟩
                      · have j71 : (kind == 2) = false := by simpa using h4
                        have j72 : decide (kind = 2) = false := decide_eq_false h4
                        have j73 : (kind != 2) = true := by simpa using h4
                        by_cases h5 : kind = 1
                        · have j81 : (kind == 1) = true := by simpa using h5
                          have j82 : decide (kind = 1) = true := decide_eq_true h5
                          have j83 : (kind != 1) = false := by simpa using h5
                          by_cases h6 : y.lock = 2
                          · have j91 : (y.lock == 2) = true := by simpa using h6
                            have j92 : decide (y.lock = 2) = true := decide_eq_true h6
                            have j93 : (y.lock != 2) = false := by simpa using h6
                            have HR := Lib.hid (lock_again (t := t) (i := (a : Int)) HK.out HO.out (by rw [HD.out, Int.toNat_natCast]; exact clash_now hlt (by rw [← HY.out]; exact HM.out) (by rw [← HY.out]; unfold barsB; rw [decide_eq_true h5, decide_eq_true h6]; simp)))
                            clear h4 h5 h6
                            go_upto_region 12 with (fail)
                            clear y0 y4 y5 x0 d0 d1
                            have h_r := (S10.out.at 1 rfl)
                            have h_d := (S10.out.at 0 rfl)
                            go_wp2_with (first | (refine wpList_load_row rfl 33 _ rfl _ rfl 33 _ (0, 0) _ h_d Try.underlying33 rfl (by kernel_rfl) ?_) | (refine wpList_store_row rfl 33 _ _ rfl _ rfl rfl h_r rfl (by kernel_rfl) rfl ?_; intro W11 hb hg hs hn; have S11 := Lib.hid (S10.out.set 1 rfl hb hg hs hn); clear hb hg hs hn))
                            refine bodyPost_ret (HRET.out _ _ _ (S11.out.at 1 rfl) rfl _ rfl) rfl ?_
                            rw [HR.out]
                            exact ⟨_, _, rfl, S11.out.gX 0 rfl, S11.out.bel⟩
                          · have j91 : (y.lock == 2) = false := by simpa using h6
                            have j92 : decide (y.lock = 2) = false := decide_eq_false h6
                            have j93 : (y.lock != 2) = true := by simpa using h6
                            have HC2 : Hid (clashP t.ds a kind x.ino (k + 1) = false) := Lib.hid (by rw [HN.out, HC.out, (show (mateB a x.ino k y && barsB kind y) = false by rw [show barsB kind y = false by unfold barsB; rw [decide_eq_false h4, decide_eq_false h6]; simp]; simp)]; rfl)
                            clear h4 h5 h6
                            go_wp2_with fail
                            go_roundw
                            case rel => exact ⟨k + 1, by go_num, hlt, HC2, Lib.hid (S10.out.leave (by simp))⟩
                            case measure => simp [RowKit.intOf]; omega
                        · have j81 : (kind == 1) = false := by simpa using h5
                          have j82 : decide (kind = 1) = false := decide_eq_false h5
                          have j83 : (kind != 1) = true := by simpa using h5
                          have HC2 : Hid (clashP t.ds a kind x.ino (k + 1) = false) := Lib.hid (by rw [HN.out, HC.out, (show (mateB a x.ino k y && barsB kind y) = false by rw [show barsB kind y = false by unfold barsB; rw [decide_eq_false h4, decide_eq_false h5]; simp]; simp)]; rfl)
                          clear h4 h5
                          go_wp2_with fail
                          go_roundw
                          case rel => exact ⟨k + 1, by go_num, hlt, HC2, Lib.hid (S10.out.leave (by simp))⟩
                          case measure => simp [RowKit.intOf]; omega
                    · have j61 : (y.ino == x.ino) = false := by simpa using h3
                      have j62 : decide (y.ino = x.ino) = false := decide_eq_false h3
                      have j63 : (y.ino != x.ino) = true := by simpa using h3
                      have HC2 : Hid (clashP t.ds a kind x.ino (k + 1) = false) := Lib.hid (by rw [HN.out, HC.out, (show (mateB a x.ino k y && barsB kind y) = false by unfold mateB; rw [decide_eq_false h3]; simp)]; rfl)
                      go_wp2_with fail
                      go_roundw
                      case rel => exact ⟨k + 1, by go_num, hlt, HC2, Lib.hid (S10.out.leave (by simp))⟩
                      case measure => simp [RowKit.intOf]; omega
              · have iL7 : decide (k < t.ds.length) = false := decide_eq_false (by omega)
                have iM7 : decide ((k : Int) < (t.ds.length : Int)) = false := decide_eq_false (by omega)
                have hke : k = t.ds.length := by omega
                subst hke
                have HR := Lib.hid (lock_goes (t := t) (i := (a : Int)) HK.out HO.out (by rw [HD.out, Int.toNat_natCast]; exact clash_all HC.out))
                rw [HD.out] at HR
                obtain ⟨-, -, -, -, -, x5⟩ := cells6 (S9.out.at 2 rfl)
                have fx := fun j => Lib.frozen_of_heap (S9.out.at 2 rfl) j
                go_upto_region 14 with (fail)
                clear d0
                clear x5 fx
                refine code_set1 (S9.out.at 2 rfl) ?_
                intro W44 hb hg hs hn
                have S44 := Lib.hid (S9.out.set 2 rfl hb hg hs hn)
                clear hb hg hs hn
                have h_x : W44.heap[bx]? = some (.cells #[.int .i64 x.ino, .int .i64 x.pos, .bool x.rd, .bool x.wr, .int .i64 x.refs, .int .i64 kind] 55 (0, 0)) := S44.out.at 2 rfl
                have h_d := (S44.out.at 0 rfl)
                go_wp2_with (first | (refine wpList_load_row rfl 33 _ rfl _ rfl 33 _ (0, 0) _ h_d Try.underlying33 rfl (by kernel_rfl) ?_) | (refine wpList_load_row rfl 55 _ rfl _ rfl 55 _ (0, 0) _ h_x Try.underlying55 rfl (by kernel_rfl) ?_))
                refine (rsetH_c _ t (a : Int) (withL x kind) _ _ _ _ W44 S44.out.oldX (S44.out.g 0 rfl) HZ.out).mono ?_
                rintro e W45 ⟨vd, vf, rfl, hT, hb⟩
                obtain ⟨ad3, cap3, af3, capf3, rfl, rfl⟩ := hT.form
                clear h_x h_d
                obtain ⟨tn, htn⟩ : ∃ tn : TabL, tn = setT t (a : Int) (withL x kind) := ⟨_, rfl⟩
                rw [← htn] at hT ⊢
                rw [← htn] at HR
                have S45 := Lib.hid ((S44.out.call hb).more (TabX.firm _ _ _) hT)
                clear htn hb hT
                have h_r := (S45.out.at 1 rfl)
                go_wp2_with (first | (refine wpList_store_row rfl 33 _ _ rfl _ rfl rfl h_r rfl (by kernel_rfl) rfl ?_; intro W46 hb hg hs hn; have S46 := Lib.hid (S45.out.set 1 rfl hb hg hs hn); clear hb hg hs hn))
                refine bodyPost_ret (HRET.out _ _ _ (S46.out.at 1 rfl) rfl _ rfl) rfl ?_
                rw [HR.out]
                exact ⟨_, _, rfl, S46.out.gX 1 rfl, S46.out.bel⟩
end Go.Proofs.Ytfcjmcenaankfaa
