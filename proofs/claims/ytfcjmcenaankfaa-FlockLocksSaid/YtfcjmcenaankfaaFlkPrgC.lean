/-
  The program's Fair and Lock; all its calls.
-/
import Derived.Test.YtfcjmcenaankfaaFlkPrgB
import Derived.Test.YtfcjmcenaankfaaHdlPrgF
import Derived.Test.YtfcjmcenaankfaaLaw11H
namespace Go.Proofs.Ytfcjmcenaankfaa
open Go.RowKit Go.Shelf
attribute [local go_sem ↓] Go.wp_at_zero Go.wp_at_succ

theorem wpList_load_midG {P : Program} {ops : Array Oper} {rest : List Oper} {op : Oper} {a : Act} {w : World} {Q : Exit → Act → World → Prop} (hw : Region.wanted op (yielded ops a.tmps) = true) (ty : TypeId) (x : Operand) (ho : op.op = .load ty x)
    (b o : Nat) (hx : a.eval x = .pointer (some ⟨b, o, none⟩)) (cs : List Value) (d : TypeDesc) (hc : w.rangeAt b o cs)
    (hu : P.underlying ty = some d) (hd : d.isRow = true) (hi : (P.info? ty).map (·.size) = some cs.length)
    (h : wpList P ops Q rest (a.put op.dst (.agg cs.toArray)) w) : wpList P ops Q (op :: rest) a w :=
  wpList_step fun _ hK => by rw [if_pos hw]; exact wp_load_mid ty x ho b o hx cs d hc hu hd hi (hK _ _ h)
theorem fair1_kind {ds : List DescL} {d : DescL} (h : kindB d.lock = false) : fair1 ds d = false := by
  unfold fair1
  rw [show (decide (0 ≤ d.lock) && decide (d.lock ≤ 2)) = false from h]
  rfl
theorem kind_in {kind : Int} (h : kindB kind = true) : 0 ≤ kind ∧ kind ≤ 2 := by unfold kindB at h; simpa using h
set_option maxRecDepth 100000 in
set_option maxHeartbeats 4000000 in
theorem pfair_c {X : Nat → Prop} (t : TabL) (ad af : Option Addr) (cap capf : Nat) (w : World) (hT : TabX t (.slice ad t.ds.length cap) (.slice af t.fs.length capf) X w) (hz : SizeT t) :
    Calls Try.prog 17 #[tabV ad t.ds.length cap af t.fs.length capf] w fun e w' => e = .returned (.bool (fairB t)) ∧ Below w.heap.size w w' := by
  have S0 := Lib.hid (Sf.start (w := w) (X := fun _ => False) (G := [TabX t (.slice ad t.ds.length cap) (.slice af t.fs.length capf)]) (fun _ h => h.elim) (th1 (TabX.firm _ _ _) ((TabX.firm _ _ _).sub hT fun _ h => h.elim)))
  have HZ := Lib.hid hz
  clear hT hz
  go_enter Try.func17, Try.ntmps17
  go_upto_region 1 with (fail)
  refine code_fresh1 ?_
  intro W1 hb hA0 hs
  have S1 := Lib.hid (S0.out.new1 hb hA0)
  clear hb hA0 hs
  obtain ⟨d0, d1⟩ := cells2 (S1.out.at 0 rfl)
  go_wp2_with fail
  go_loopw [10] (fun i wr => ∃ k : Nat, i = .int .i64 k ∧ k ≤ t.ds.length ∧ Hid (fairP t k) ∧ Hid (Sf (fun _ => False) w [(w.heap.size, #[.slice ad t.ds.length cap, .slice af t.fs.length capf], 25)] [TabX t (.slice ad t.ds.length cap) (.slice af t.fs.length capf)] wr)) (fun i _ => t.ds.length - (RowKit.intOf i).toNat)
  case atStart => exact ⟨0, rfl, Nat.zero_le _, Lib.hid (fun j _ h => by cases h), S1⟩
  case round =>
    clear S1 d0 d1
    obtain ⟨k, rfl, hk, HF, S9⟩ := hrel
    have hl1 : t.ds.length ≤ 1000 := HZ.out.1
    by_cases hlt : k < t.ds.length
    · have iL1 : decide (k < t.ds.length) = true := decide_eq_true (by omega)
      have iM1 : decide ((k : Int) < (t.ds.length : Int)) = true := decide_eq_true (by omega)
      have k0 : (0 : Int) ≤ (k : Int) := by omega
      have k1 : (k : Int) < (t.ds.length : Int) := by omega
      have wk : IntKind.i64.wrap ((k : Int) + 1) = (k : Int) + 1 := Go.IntWalk.i64_in _ (by omega)
      obtain ⟨b, off, ead, cY⟩ := TabX.range (S9.out.g 0 rfl) k hlt
      subst ead
      obtain ⟨y, hy⟩ : ∃ y, y = t.ds[k] := ⟨_, rfl⟩
      rw [← hy] at cY
      have HY := Lib.hid hy
      clear hy
      go_upto_region 4 with (first | (refine wpList_load_mid rfl 44 _ rfl _ (off + k * 6) rfl _ _ cY Try.underlying44 rfl (by kernel_rfl) ?_) | (refine wpList_fresh1 ?_; intro W10 hb hn hs; have S10 := Lib.hid (S9.out.new1 hb hn); have h_x := S10.out.at 1 rfl; clear hb hn hs) | (refine wpList_store_row rfl 44 _ _ rfl _ rfl rfl h_x rfl (by kernel_rfl) rfl ?_; intro W11 hb hg hs hn; have S11 := Lib.hid (S10.out.set 1 rfl hb hg hs hn); clear hb hg hs hn))
      clear cY
      clear h_x
      obtain ⟨x0, -, -, -, -, -⟩ := cells6 (S11.out.at 1 rfl)
      have h_d := (S11.out.at 0 rfl)
      go_wp2_with (first | (refine wpList_load_row rfl 25 _ rfl _ rfl 25 _ (0, 0) _ h_d Try.underlying25 rfl (by kernel_rfl) ?_))
      refine (pholders_c t _ _ _ _ W11 (S11.out.g 0 rfl) y.ino HZ.out).mono ?_
      rintro e W12 ⟨rfl, hb⟩
      clear x0 h_d
      have S12 := Lib.hid (S11.out.call hb)
      clear hb
      obtain ⟨n, hn⟩ : ∃ n, n = heldN t.ds y.ino 1 := ⟨_, rfl⟩
      obtain ⟨m, hm⟩ : ∃ m, m = heldN t.ds y.ino 2 := ⟨_, rfl⟩
      rw [← hn, ← hm]
      have HN1 := Lib.hid (show heldN t.ds (t.ds[k]).ino 1 = n by rw [← HY.out, hn])
      have HM1 := Lib.hid (show heldN t.ds (t.ds[k]).ino 2 = m by rw [← HY.out, hm])
      clear hn hm
      obtain ⟨-, -, -, -, -, x5⟩ := cells6 (S12.out.at 1 rfl)
      go_wp2_with fail
      refine (pkind_c y.lock _).mono ?_
      rintro e W13 ⟨rfl, hb⟩
      clear x5
      have S13 := Lib.hid (S12.out.call hb)
      clear hb
      obtain ⟨c, hc⟩ : ∃ c, c = kindB y.lock := ⟨_, rfl⟩
      rw [← hc]
      have HC := Lib.hid hc.symm
      clear hc
      cases c with
      | false =>
        have HN := Lib.hid (fair_no hlt (fair1_kind (by rw [← HY.out]; exact HC.out)))
        go_wp2_with fail
        go_ret
        exact ⟨by rw [HN.out]; rfl, S13.out.bel⟩
      | true =>
        have HKI := Lib.hid (kind_in HC.out)
        by_cases h3 : 1 < m
        · have i3 : decide (1 < m) = true := decide_eq_true h3
          have i31 : decide ((1 : Int) < (m : Int)) = true := decide_eq_true (by omega)
          have HN := Lib.hid (fair_no3 hlt (by rw [HM1.out]; exact h3))
          clear h3
          go_wp2_with fail
          go_ret
          exact ⟨by rw [HN.out]; rfl, S13.out.bel⟩
        · have i3 : decide (1 < m) = false := decide_eq_false h3
          have i31 : decide ((1 : Int) < (m : Int)) = false := decide_eq_false (by omega)
          by_cases h4 : m = 1
          · have i4 : decide ((m : Int) = 1) = true := decide_eq_true (by omega)
            have i5 : ((m : Int) == 1) = true := by rw [h4]; rfl
            have i51 : decide (m = 1) = true := decide_eq_true (by omega)
            have i52 : (m == 1) = true := by rw [h4]; rfl
            by_cases h5 : 0 < n
            · have i6 : decide (0 < n) = true := decide_eq_true h5
              have i61 : decide ((0 : Int) < (n : Int)) = true := decide_eq_true (by omega)
              have HN := Lib.hid (fair_no4 hlt (by rw [HM1.out]; exact h4) (by rw [HN1.out]; exact h5))
              clear h4 h5 h3
              go_wp2_with fail
              go_ret
              exact ⟨by rw [HN.out]; rfl, S13.out.bel⟩
            · have i6 : decide (0 < n) = false := decide_eq_false h5
              have i61 : decide ((0 : Int) < (n : Int)) = false := decide_eq_false (by omega)
              have HF2 := Lib.hid (fair_next HF.out hlt (fair_1.2 ⟨⟨by rw [← HY.out]; exact HKI.out.1, by rw [← HY.out]; exact HKI.out.2⟩, by rw [HM1.out]; omega, fun h => by rw [HM1.out] at h; rw [HN1.out]; omega⟩))
              clear h3 h4 h5
              go_wp2_with fail
              go_roundw
              case rel => exact ⟨k + 1, by go_num, hlt, HF2, Lib.hid (S13.out.leave (by simp))⟩
              case measure => simp [RowKit.intOf]; omega
          · have i4 : decide ((m : Int) = 1) = false := decide_eq_false (by omega)
            have i5 : ((m : Int) == 1) = false := by rw [beq_eq_false_iff_ne]; omega
            have i51 : decide (m = 1) = false := decide_eq_false (by omega)
            have i52 : (m == 1) = false := by rw [beq_eq_false_iff_ne]; exact h4
            have HF2 := Lib.hid (fair_next HF.out hlt (fair_1.2 ⟨⟨by rw [← HY.out]; exact HKI.out.1, by rw [← HY.out]; exact HKI.out.2⟩, by rw [HM1.out]; omega, fun h => by rw [HM1.out] at h; rw [HN1.out]; omega⟩))
            clear h3 h4
            go_wp2_with fail
            go_roundw
            case rel => exact ⟨k + 1, by go_num, hlt, HF2, Lib.hid (S13.out.leave (by simp))⟩
            case measure => simp [RowKit.intOf]; omega
    · have iL1 : decide (k < t.ds.length) = false := decide_eq_false (by omega)
      have iM1 : decide ((k : Int) < (t.ds.length : Int)) = false := decide_eq_false (by omega)
      have hke : k = t.ds.length := by omega
      subst hke
      have HN := Lib.hid (fair_all HF.out)
      clear hlt
      go_wp2_with fail
      go_ret
      exact ⟨by rw [HN.out]; rfl, S9.out.bel⟩
set_option maxRecDepth 100000 in
set_option maxHeartbeats 4000000 in
theorem plock_c (X : Nat → Prop) (t : TabL) (i kind : Int) (ad af : Option Addr) (cap capf : Nat) (w : World) (hX : Old X w) (hT : TabX t (.slice ad t.ds.length cap) (.slice af t.fs.length capf) X w) (hz : SizeT t) (hr : RightT t) :
    Calls Try.prog 11 #[tabV ad t.ds.length cap af t.fs.length capf, .int .i64 i, .int .i64 kind] w fun e w' => TabIs1 X (lockT t i kind).1 (lockT t i kind).2 e w w' := by
  have S0 := Lib.hid (Sf.start (G := [TabX t (.slice ad t.ds.length cap) (.slice af t.fs.length capf)]) hX (th1 (TabX.firm _ _ _) hT))
  have HRET : Hid (∀ (W : World) (cs : Array Value) (fr), W.heap[w.heap.size + 3]? = some (.cells cs 25 fr) → cs.size = 2 → ∀ tmps : Array Value, tmps.getD 6 undef = .pointer (some ⟨w.heap.size + 3, 0, none⟩) → (results Try.f11 tmps).run Try.prog W = .ok (.tuple #[.agg cs, tmps.getD 7 undef]) W) := Lib.hid fun W cs fr h hs tmps ht =>
  results_ct (p := 6) (u := 7) (ty := 25) rfl tmps W (w.heap.size + 3) _ cs fr _ ht h Try.underlying25 rfl (by rw [hs]; kernel_rfl)
  have hmf : ∀ (fn : Fn) (first cap : Array Value) (w : World), (Instr.makeFunc fn first cap).run Try.prog w = .ok (.func fn first cap) w := fun _ _ _ _ => rfl
  have HZ := Lib.hid hz
  have HRT := Lib.hid hr
  clear hX hT hz hr
  go_enter Try.func11, Try.ntmps11
  go_upto_region 1 with (fail)
  refine code_fresh4 ?_
  intro W1 hb hA0 hA1 hA2 hA3 hs
  have S1 := Lib.hid (S0.out.new4 hb hA0 hA1 hA2 hA3)
  clear hb hA0 hA1 hA2 hA3 hs
  have c_k := one_cell (S1.out.at 2 rfl)
  go_wp2_with fail
  refine (pkind_c kind _).mono ?_
  rintro e W2 ⟨rfl, hb⟩
  clear c_k
  have S2 := Lib.hid (S1.out.call hb)
  clear hb
  obtain ⟨c, hc⟩ : ∃ c, c = kindB kind := ⟨_, rfl⟩
  rw [← hc]
  have HK := Lib.hid hc.symm
  clear hc
  cases c with
  | false =>
    have HR := Lib.hid (lock_kind (t := t) (i := i) HK.out)
    go_upto_region 2 with (fail)
    have h_r := (S2.out.at 3 rfl)
    have h_d := (S2.out.at 0 rfl)
    go_wp2_with (first | (refine wpList_load_row rfl 25 _ rfl _ rfl 25 _ (0, 0) _ h_d Try.underlying25 rfl (by kernel_rfl) ?_) | (refine wpList_store_row rfl 25 _ _ rfl _ rfl rfl h_r rfl (by kernel_rfl) rfl ?_; intro W3 hb hg hs hn; have S3 := Lib.hid (S2.out.set 3 rfl hb hg hs hn); clear hb hg hs hn))
    refine bodyPost_ret (HRET.out _ _ _ (S3.out.at 3 rfl) rfl _ rfl) rfl ?_
    rw [HR.out]
    exact ⟨_, _, rfl, S3.out.gX 0 rfl, S3.out.bel⟩
  | true =>
    by_cases h3 : i < 0
    · have i3 : decide (i < 0) = true := decide_eq_true h3
      have HR := Lib.hid (lock_bad (t := t) HK.out (open_no1 h3))
      obtain ⟨d0, d1⟩ := cells2 (S2.out.at 0 rfl)
      have c_i := one_cell (S2.out.at 1 rfl)
      go_upto_region 4 with (fail)
      clear d0 d1 c_i
      have h_r := (S2.out.at 3 rfl)
      have h_d := (S2.out.at 0 rfl)
      go_wp2_with (first | (refine wpList_load_row rfl 25 _ rfl _ rfl 25 _ (0, 0) _ h_d Try.underlying25 rfl (by kernel_rfl) ?_) | (refine wpList_store_row rfl 25 _ _ rfl _ rfl rfl h_r rfl (by kernel_rfl) rfl ?_; intro W3 hb hg hs hn; have S3 := Lib.hid (S2.out.set 3 rfl hb hg hs hn); clear hb hg hs hn))
      refine bodyPost_ret (HRET.out _ _ _ (S3.out.at 3 rfl) rfl _ rfl) rfl ?_
      rw [HR.out]
      exact ⟨_, _, rfl, S3.out.gX 0 rfl, S3.out.bel⟩
    · have i3 : decide (i < 0) = false := decide_eq_false h3
      obtain ⟨a, rfl⟩ := Int.eq_ofNat_of_zero_le (show 0 ≤ i by omega)
      have a0 : (0 : Int) ≤ (a : Int) := by omega
      clear h3
      by_cases h4 : t.ds.length ≤ a
      · have i4 : decide (t.ds.length ≤ a) = true := decide_eq_true h4
        have i5 : decide ((t.ds.length : Int) ≤ (a : Int)) = true := decide_eq_true (by omega)
        have HR := Lib.hid (lock_bad (t := t) HK.out (open_no2 (t := t) (i := (a : Int)) (by omega)))
        obtain ⟨d0, d1⟩ := cells2 (S2.out.at 0 rfl)
        have c_i := one_cell (S2.out.at 1 rfl)
        go_upto_region 4 with (fail)
        clear d0 d1 c_i
        have h_r := (S2.out.at 3 rfl)
        have h_d := (S2.out.at 0 rfl)
        go_wp2_with (first | (refine wpList_load_row rfl 25 _ rfl _ rfl 25 _ (0, 0) _ h_d Try.underlying25 rfl (by kernel_rfl) ?_) | (refine wpList_store_row rfl 25 _ _ rfl _ rfl rfl h_r rfl (by kernel_rfl) rfl ?_; intro W3 hb hg hs hn; have S3 := Lib.hid (S2.out.set 3 rfl hb hg hs hn); clear hb hg hs hn))
        refine bodyPost_ret (HRET.out _ _ _ (S3.out.at 3 rfl) rfl _ rfl) rfl ?_
        rw [HR.out]
        exact ⟨_, _, rfl, S3.out.gX 0 rfl, S3.out.bel⟩
      · have i4 : decide (t.ds.length ≤ a) = false := decide_eq_false h4
        have i5 : decide ((t.ds.length : Int) ≤ (a : Int)) = false := decide_eq_false (by omega)
        have ha : a < t.ds.length := by omega
        have a1 : (a : Int) < (t.ds.length : Int) := by omega
        clear h4
        obtain ⟨b, off, ead, cX⟩ := TabX.range (S2.out.g 0 rfl) a ha
        subst ead
        obtain ⟨x, hx⟩ : ∃ x, x = t.ds[a] := ⟨_, rfl⟩
        rw [← hx] at cX
        have HX := Lib.hid hx
        clear hx
        obtain ⟨d0, d1⟩ := cells2 (S2.out.at 0 rfl)
        have c_i := one_cell (S2.out.at 1 rfl)
        go_wp2_with (first | (refine wpList_load_mid rfl 44 _ rfl _ (off + a * 6) rfl _ _ cX Try.underlying44 rfl (by kernel_rfl) ?_) | (refine wpList_load_midG rfl 44 _ rfl _ (off + a * 6) rfl _ _ cX Try.underlying44 rfl (by kernel_rfl) ?_))
        refine (popen1_c x _).mono ?_
        rintro e W3 ⟨rfl, hb⟩
        clear d0 d1 c_i cX
        have S3 := Lib.hid (S2.out.call hb)
        clear hb
        by_cases h5 : 0 < x.refs
        · have i6 : decide (0 < x.refs) = true := decide_eq_true h5
          have HO := Lib.hid (open_at ha (show 1 ≤ (t.ds[a]).refs by rw [← HX.out]; omega))
          have HD := Lib.hid (show descT t (a : Int) = x by rw [HX.out]; exact desc_at ha)
          clear h5
          go_upto_region 5 with (fail)
          obtain ⟨b2, off2, ead, cX⟩ := TabX.range (S3.out.g 0 rfl) a ha
          injection ead with ead
          injection ead with eb eo _
          subst eb
          subst eo
          rw [← HX.out] at cX
          obtain ⟨d0, d1⟩ := cells2 (S3.out.at 0 rfl)
          have c_i := one_cell (S3.out.at 1 rfl)
          go_upto_region 6 with (first | (refine wpList_load_mid rfl 44 _ rfl _ (off + a * 6) rfl _ _ cX Try.underlying44 rfl (by kernel_rfl) ?_) | (refine wpList_fresh1 ?_; intro W4 hb hn hs; have S4 := Lib.hid (S3.out.new1 hb hn); have h_x := S4.out.at 4 rfl; clear hb hn hs) | (refine wpList_store_row rfl 44 _ _ rfl _ rfl rfl h_x rfl (by kernel_rfl) rfl ?_; intro W5 hb hg hs hn; have S5 := Lib.hid (S4.out.set 4 rfl hb hg hs hn); clear hb hg hs hn))
          clear cX
          clear d0 d1 c_i h_x
          obtain ⟨bx, hbx⟩ : ∃ bx, bx = W3.heap.size := ⟨_, rfl⟩
          rw [← hbx] at S5 ⊢
          clear hbx
          have h_d := (S5.out.at 0 rfl)
          go_wp2_with (first | (refine wpList_load_row rfl 25 _ rfl _ rfl 25 _ (0, 0) _ h_d Try.underlying25 rfl (by kernel_rfl) ?_))
          have hI := one_cell (S5.out.at 1 rfl)
          have hXI := (cells6 (S5.out.at 4 rfl)).1
          have hKI := one_cell (S5.out.at 2 rfl)
          refine (pcount_l t _ _ _ _ W5 (S5.out.g 0 rfl) (w.heap.size + 1) bx (w.heap.size + 2) (wayB a x.ino kind) HZ.out (fun k hk W hb => pway_c k a t.ds[k] x kind _ _ _ W (Lib.Below.cellOf hb hI (Nat.le_refl _)) (Lib.Below.cellOf hb hXI (Nat.le_refl _)) (Lib.Below.cellOf hb hKI (Nat.le_refl _)))).mono ?_
          rintro e W6 ⟨rfl, hb⟩
          clear h_d
          have S6 := Lib.hid (S5.out.call hb)
          clear hb
          clear hI hXI hKI
          have HCL := cnt_way t.ds a x.ino kind
          obtain ⟨n, hn⟩ : ∃ n, n = cntP t.ds (wayB a x.ino kind) t.ds.length := ⟨_, rfl⟩
          rw [← hn] at HCL ⊢
          clear hn
          replace HCL := Lib.hid HCL
          by_cases h6 : 0 < n
          · have j1 : decide (0 < n) = true := decide_eq_true h6
            have j2 : decide ((0 : Int) < (n : Int)) = true := decide_eq_true (by omega)
            have HR := Lib.hid (lock_again (t := t) (i := (a : Int)) HK.out HO.out (by rw [HD.out, Int.toNat_natCast, ← HCL.out]; exact j1))
            clear h6
            go_upto_region 8 with (fail)
            have h_r := (S6.out.at 3 rfl)
            have h_d := (S6.out.at 0 rfl)
            go_wp2_with (first | (refine wpList_load_row rfl 25 _ rfl _ rfl 25 _ (0, 0) _ h_d Try.underlying25 rfl (by kernel_rfl) ?_) | (refine wpList_store_row rfl 25 _ _ rfl _ rfl rfl h_r rfl (by kernel_rfl) rfl ?_; intro W7 hb hg hs hn; have S7 := Lib.hid (S6.out.set 3 rfl hb hg hs hn); clear hb hg hs hn))
            refine bodyPost_ret (HRET.out _ _ _ (S7.out.at 3 rfl) rfl _ rfl) rfl ?_
            rw [HR.out]
            exact ⟨_, _, rfl, S7.out.gX 0 rfl, S7.out.bel⟩
          · have j1 : decide (0 < n) = false := decide_eq_false h6
            have j2 : decide ((0 : Int) < (n : Int)) = false := decide_eq_false (by omega)
            have HR := Lib.hid (lock_goes (t := t) (i := (a : Int)) HK.out HO.out (by rw [HD.out, Int.toNat_natCast, ← HCL.out]; exact j1))
            rw [HD.out] at HR
            clear h6
            obtain ⟨-, -, -, -, -, x5⟩ := cells6 (S6.out.at 4 rfl)
            have fx := fun j => Lib.frozen_of_heap (S6.out.at 4 rfl) j
            have c_k := one_cell (S6.out.at 2 rfl)
            go_upto_region 10 with (fail)
            clear x5 fx c_k
            refine code_set1 (S6.out.at 4 rfl) ?_
            intro W7 hb hg hs hn
            have S7 := Lib.hid (S6.out.set 4 rfl hb hg hs hn)
            clear hb hg hs hn
            have h_x : W7.heap[bx]? = some (.cells #[.int .i64 x.ino, .int .i64 x.pos, .bool x.rd, .bool x.wr, .int .i64 x.refs, .int .i64 kind] 44 (0, 0)) := S7.out.at 4 rfl
            have h_d := (S7.out.at 0 rfl)
            have c_i := one_cell (S7.out.at 1 rfl)
            go_wp2_with (first | (refine wpList_load_row rfl 25 _ rfl _ rfl 25 _ (0, 0) _ h_d Try.underlying25 rfl (by kernel_rfl) ?_) | (refine wpList_load_row rfl 44 _ rfl _ rfl 44 _ (0, 0) _ h_x Try.underlying44 rfl (by kernel_rfl) ?_))
            refine (pset_c _ t (a : Int) (withL x kind) _ _ _ _ W7 S7.out.oldX (S7.out.g 0 rfl) HZ.out HRT.out).mono ?_
            rintro e W8 ⟨vd, vf, rfl, hT, hb⟩
            obtain ⟨ad3, cap3, af3, capf3, rfl, rfl⟩ := hT.form
            clear h_x h_d c_i
            obtain ⟨tn, htn⟩ : ∃ tn : TabL, tn = setT t (a : Int) (withL x kind) := ⟨_, rfl⟩
            rw [← htn] at hT ⊢
            rw [← htn] at HR
            have S8 := Lib.hid ((S7.out.call hb).more (TabX.firm _ _ _) hT)
            clear htn hb hT
            have h_r := (S8.out.at 3 rfl)
            go_wp2_with (first | (refine wpList_store_row rfl 25 _ _ rfl _ rfl rfl h_r rfl (by kernel_rfl) rfl ?_; intro W9 hb hg hs hn; have S9 := Lib.hid (S8.out.set 3 rfl hb hg hs hn); clear hb hg hs hn))
            refine bodyPost_ret (HRET.out _ _ _ (S9.out.at 3 rfl) rfl _ rfl) rfl ?_
            rw [HR.out]
            exact ⟨_, _, rfl, S9.out.gX 1 rfl, S9.out.bel⟩
        · have i6 : decide (0 < x.refs) = false := decide_eq_false h5
          have HR := Lib.hid (lock_bad (t := t) HK.out (open_no3 ha (by rw [← HX.out]; omega)))
          clear h5
          go_upto_region 4 with (fail)
          have h_r := (S3.out.at 3 rfl)
          have h_d := (S3.out.at 0 rfl)
          go_wp2_with (first | (refine wpList_load_row rfl 25 _ rfl _ rfl 25 _ (0, 0) _ h_d Try.underlying25 rfl (by kernel_rfl) ?_) | (refine wpList_store_row rfl 25 _ _ rfl _ rfl rfl h_r rfl (by kernel_rfl) rfl ?_; intro W4 hb hg hs hn; have S4 := Lib.hid (S3.out.set 3 rfl hb hg hs hn); clear hb hg hs hn))
          refine bodyPost_ret (HRET.out _ _ _ (S4.out.at 3 rfl) rfl _ rfl) rfl ?_
          rw [HR.out]
          exact ⟨_, _, rfl, S4.out.gX 0 rfl, S4.out.bel⟩
/-- The program's calls, as the statements take them. -/
theorem pc : PF := PF0.pc { lock := fun X t i kind ad af cap capf w hX hT hz hr => plock_c X t i kind ad af cap capf w hX hT hz hr, holders := fun _ t ino ad af cap capf w _ hT hz _ => pholders_c t ad af cap capf w hT ino hz, fair := fun _ t ad af cap capf w _ hT hz _ => pfair_c t ad af cap capf w hT hz }
end Go.Proofs.Ytfcjmcenaankfaa
