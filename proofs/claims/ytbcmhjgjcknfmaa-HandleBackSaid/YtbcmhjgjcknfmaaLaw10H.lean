/-
  A process opens as many as it may: HandleFull.
-/
import Derived.Test.YtbcmhjgjcknfmaaLaw10F
namespace Go.Proofs.Ytbcmhjgjcknfmaa
open Go.RowKit Go.Shelf
attribute [local go_sem ↓] Go.wp_at_zero Go.wp_at_succ

theorem count_eight {t : TabL} (hr : RightT t) {a : Nat} (ha : a < t.fs.length) : countT t a ≤ 8 := by
  have h8 := (row_right hr ha).1
  have hc : countT t a = countR (rowT t a) := by unfold countT; rw [in_nat ha]; rfl
  rw [hc]
  have := count_le (rowT t a)
  omega
set_option maxRecDepth 100000 in
set_option maxHeartbeats 4000000 in
theorem full_l (pc : PH) (t : TabL) (p : UInt8) (x : DescL) (ad af : Option Addr) (cap capf : Nat) (w : World) (hT : TabX t (.slice ad t.ds.length cap) (.slice af t.fs.length capf) (fun _ => False) w) :
    Calls Try.prog 7 #[tabV ad t.ds.length cap af t.fs.length capf, .int .u8 p.toNat, dvalD x] w fun e w' => e = .returned (.bool true) ∧ Below w.heap.size w w' := by
  have S0 := Lib.hid (Sf.start (G := [TabX t (.slice ad t.ds.length cap) (.slice af t.fs.length capf)]) (fun _ h => h.elim) (th1 (TabX.firm _ _ _) hT))
  clear hT
  go_enter Try.func7, Try.ntmps7
  go_upto_region 1 with (fail)
  refine code_fresh2 ?_
  intro W1 hb hA0 hA1 hs
  have S1 := Lib.hid (S0.out.new2 hb hA0 hA1)
  clear hb hA0 hA1 hs
  have h_d := (S1.out.at 0 rfl)
  obtain ⟨d0, d1⟩ := cells2 (S1.out.at 0 rfl)
  go_wp2_with (first | (refine wpList_load_row rfl 25 _ rfl _ rfl 25 _ (0, 0) _ h_d Try.underlying25 rfl (by kernel_rfl) ?_) | (refine wpList_load_rowG rfl 25 _ rfl _ rfl 25 _ (0, 0) _ h_d Try.underlying25 rfl (by kernel_rfl) ?_))
  refine (fine_c _ t _ _ _ _ _ S1.out.oldX (S1.out.g 0 rfl)).mono ?_
  rintro e W2 ⟨rfl, hb⟩
  clear h_d d0 d1
  have S2 := Lib.hid (S1.out.call hb)
  clear hb
  cases hfb : fineB t with
  | false =>
    clear hfb
    go_wp2_with fail
    refine (pc.shown W2).mono ?_
    rintro e W3 ⟨rfl, hb⟩
    have S3 := Lib.hid (S2.out.call hb)
    clear hb
    go_wp2_with fail
    go_ret
    exact ⟨rfl, S3.out.bel⟩
  | true =>
    have HFB := Lib.hid (fine_B.1 hfb)
    have HSZ := Lib.hid (size_T HFB.out.1 (by decide))
    clear hfb
    by_cases hpq : t.fs.length = 0
    · have q1 : ((t.fs.length : Int) == 0) = true := beq_iff_eq.2 (by omega)
      have q2 : decide ((t.fs.length : Int) = 0) = true := decide_eq_true (by omega)
      have q3 : decide (t.fs.length = 0) = true := decide_eq_true hpq
      have q4 : (t.fs.length == 0) = true := beq_iff_eq.2 (by omega)
      clear hpq
      obtain ⟨d0, d1⟩ := cells2 (S2.out.at 0 rfl)
      go_wp2_with fail
      refine (pc.shown W2).mono ?_
      rintro e W3 ⟨rfl, hb⟩
      clear d0 d1
      have S3 := Lib.hid (S2.out.call hb)
      clear hb
      go_wp2_with fail
      go_ret
      exact ⟨rfl, S3.out.bel⟩
    · have q1 : ((t.fs.length : Int) == 0) = false := beq_eq_false_iff_ne.2 (by omega)
      have q2 : decide ((t.fs.length : Int) = 0) = false := decide_eq_false (by omega)
      have q3 : decide (t.fs.length = 0) = false := decide_eq_false hpq
      have q4 : (t.fs.length == 0) = false := beq_eq_false_iff_ne.2 (by omega)
      have HPQ := Lib.hid hpq
      clear hpq
      obtain ⟨d0, d1⟩ := cells2 (S2.out.at 0 rfl)
      go_wp2_with fail
      refine (pc.shown W2).mono ?_
      rintro e W3 ⟨rfl, hb⟩
      clear d0 d1
      have S3 := Lib.hid (S2.out.call hb)
      clear hb
      go_upto_region 3 with (fail)
      obtain ⟨a, hka⟩ : ∃ a, a = p.toNat % t.fs.length := ⟨_, rfl⟩
      have ha : a < t.fs.length := by rw [hka]; exact Nat.mod_lt _ (by have := HPQ.out; omega)
      have hp0 : (0 : Int) ≤ (p.toNat : Int) := by omega
      have hp1 : (p.toNat : Int) ≤ 255 := by have := p.toNat_lt; omega
      have hmod : Int.tmod (p.toNat : Int) (t.fs.length : Int) = (a : Int) := by rw [hka]; rfl
      have hne : ¬ (t.fs.length : Int) = 0 := by have := HPQ.out; omega
      have hne2 : ¬ t.fs.length = 0 := HPQ.out
      have HKA := Lib.hid hka
      clear hka
      obtain ⟨d0, d1⟩ := cells2 (S3.out.at 0 rfl)
      go_upto_region 4 with (fail)
      clear hne hne2 hmod hp0 hp1 q1 q2 q3 q4
      clear d0 d1
      have h_d := (S3.out.at 0 rfl)
      go_wp2_with (first | (refine wpList_load_row rfl 25 _ rfl _ rfl 25 _ (0, 0) _ h_d Try.underlying25 rfl (by kernel_rfl) ?_) | (refine wpList_load_rowG rfl 25 _ rfl _ rfl 25 _ (0, 0) _ h_d Try.underlying25 rfl (by kernel_rfl) ?_))
      refine (pc.count _ t a _ _ _ _ W3 S3.out.oldX (S3.out.g 0 rfl) HSZ.out HFB.out.2).mono ?_
      rintro e W4 ⟨rfl, hb⟩
      clear h_d
      have S4 := Lib.hid (S3.out.call hb)
      clear hb
      go_wp2_with fail
      have hstart : RightT t ∧ SizeM (100 + 0) t ∧ a < t.fs.length ∧ 0 ≤ countT t a ∧ (-1 : Int) < (firstR (rowT t a) : Nat) := ⟨HFB.out.2, HFB.out.1, ha, Nat.zero_le _, by omega⟩
      have HST := Lib.hid hstart
      clear hstart
      go_loopw [8, 9, 10] (fun n l i wr => ∃ (m : Nat) (tt : TabL) (la : Int) (ad9 af9 : Option Addr) (cap9 capf9 : Nat), n = .int .i64 (countT tt a : Nat) ∧ l = .int .i64 la ∧ i = .int .i64 m ∧ Hid (RightT tt ∧ SizeM (100 + m) tt ∧ a < tt.fs.length ∧ m ≤ countT tt a ∧ la < (firstR (rowT tt a) : Nat)) ∧ Hid (Sf (fun _ => False) w [(w.heap.size, #[.slice ad9 tt.ds.length cap9, .slice af9 tt.fs.length capf9], 25), (w.heap.size + 1, #[.int .i64 x.ino, .int .i64 x.pos, .bool x.rd, .bool x.wr, .int .i64 x.refs, .int .i64 x.lock], 27)] [TabX tt (.slice ad9 tt.ds.length cap9) (.slice af9 tt.fs.length capf9)] wr)) (fun _ _ i _ => 10 - (RowKit.intOf i).toNat)
      case atStart => exact ⟨0, t, -1, _, _, _, _, rfl, rfl, rfl, HST, S4⟩
      case round =>
        clear S4 HST
        obtain ⟨m, tt, la, ad9, af9, cap9, capf9, rfl, rfl, rfl, HT, S30⟩ := hrel
        have hc8 := count_eight HT.out.1 HT.out.2.2.1
        have hm8 : m ≤ 8 := Nat.le_trans HT.out.2.2.2.1 hc8
        have HSZ2 := Lib.hid (size_T HT.out.2.1 (by omega))
        have iL : decide (m < 10) = true := decide_eq_true (by omega)
        have iM : decide ((m : Int) < 10) = true := decide_eq_true (by omega)
        have wm : IntKind.i64.wrap ((m : Int) + 1) = (m : Int) + 1 := Go.IntWalk.i64_in _ (by omega)
        obtain ⟨c, hc⟩ : ∃ c, c = countT tt a := ⟨_, rfl⟩
        rw [← hc] at hc8
        have HFO := Lib.hid (full_open HT.out.1 HT.out.2.2.1 x hc HT.out.2.2.2.2)
        have HMC := Lib.hid (show m ≤ c by rw [hc]; exact HT.out.2.2.2.1)
        rw [← hc]
        have wc : IntKind.i64.wrap ((c : Int) + 1) = (c : Int) + 1 := Go.IntWalk.i64_in _ (by omega)
        have HC := Lib.hid hc
        have HC8 := Lib.hid hc8
        clear hc hc8 hm8
        go_upto_region 9 with (fail)
        have h_d := (S30.out.at 0 rfl)
        have h_x := (S30.out.at 1 rfl)
        go_wp2_with (first | (refine wpList_load_row rfl 25 _ rfl _ rfl 25 _ (0, 0) _ h_d Try.underlying25 rfl (by kernel_rfl) ?_) | (refine wpList_load_rowG rfl 25 _ rfl _ rfl 25 _ (0, 0) _ h_d Try.underlying25 rfl (by kernel_rfl) ?_) | (refine wpList_load_row rfl 27 _ rfl _ rfl 27 _ (0, 0) _ h_x Try.underlying27 rfl (by kernel_rfl) ?_) | (refine wpList_load_rowG rfl 27 _ rfl _ rfl 27 _ (0, 0) _ h_x Try.underlying27 rfl (by kernel_rfl) ?_))
        refine (pc.opn _ tt a x _ _ _ _ wr S30.out.oldX (S30.out.g 0 rfl) HSZ2.out HT.out.1).mono ?_
        rintro e W25 ⟨vd25, vf25, rfl, hT25, hb⟩
        obtain ⟨ad25, cap25, af25, capf25, rfl, rfl⟩ := hT25.form
        clear h_d h_x
        obtain ⟨ta, hta⟩ : ∃ ta, ta = (openT tt a x).1 := ⟨_, rfl⟩
        rw [← hta] at hT25 ⊢
        obtain ⟨ta1, hta1⟩ : ∃ ta1, ta1 = (openT tt a x).2.1 := ⟨_, rfl⟩
        obtain ⟨ta2, hta2⟩ : ∃ ta2, ta2 = (openT tt a x).2.2 := ⟨_, rfl⟩
        rw [← hta1, ← hta2]
        have Hta1 := Lib.hid hta1
        have Hta2 := Lib.hid hta2
        clear hta1 hta2
        have Hta := Lib.hid hta
        have S25 := Lib.hid ((S30.out.call hb).more (TabX.firm _ _ _) hT25)
        clear hta hb hT25
        go_upto_region 10 with (fail)
        refine code_fresh1 ?_
        intro W26 hb hA0 hs
        have S26 := Lib.hid (S25.out.new1 hb hA0)
        clear hb hA0 hs
        rw [← Hta1.out, ← Hta2.out, ← Hta.out] at HFO
        by_cases he : ta2 = 0
        · have e1 : (ta2 == 0) = true := by simpa using he
          have e2 : decide (ta2 = 0) = true := decide_eq_true he
          have e3 : (ta2 != 0) = false := by simpa using he
          obtain ⟨f, hf1, hf2, hf3, hf4, hf5, hf6, hf7, hf8, hf9, hf10⟩ := HFO.out.2 he
          have HF1 := Lib.hid hf1
          have HF20 := Lib.hid (show f ≤ 20 by omega)
          have HF := Lib.hid (And.intro hf3 (And.intro hf7 (And.intro hf8 (And.intro hf9 hf10))))
          rw [hf1]
          clear HFO he hf1 hf3 hf7 hf8 hf9 hf10
          go_upto_region 12 with (fail)
          have l1 : decide ((f : Int) ≤ la) = false := decide_eq_false (by omega)
          have l2 : decide ((7 : Int) < (f : Int)) = false := decide_eq_false (by omega)
          have l3 : decide (7 < f) = false := decide_eq_false (by omega)
          have l4 : decide ((8 : Int) ≤ (c : Int)) = false := decide_eq_false (by omega)
          have l5 : decide (8 ≤ c) = false := decide_eq_false (by omega)
          clear hf2 hf4 hf5 hf6 e1 e2 e3
          have h_d := (S26.out.at 0 rfl)
          go_wp2_with (first | (refine wpList_load_row rfl 25 _ rfl _ rfl 25 _ (0, 0) _ h_d Try.underlying25 rfl (by kernel_rfl) ?_) | (refine wpList_load_rowG rfl 25 _ rfl _ rfl 25 _ (0, 0) _ h_d Try.underlying25 rfl (by kernel_rfl) ?_))
          refine (pc.get _ tt a f _ _ _ _ W26 S26.out.oldX (S26.out.g 0 rfl) HSZ2.out HT.out.1).mono ?_
          rintro e W27 ⟨hgot, hb⟩
          clear h_d
          have S27 := Lib.hid (S26.out.call hb)
          unfold GotIs at hgot
          subst hgot
          clear hb
          rw [HF.out.1]
          obtain ⟨yy, hyy⟩ : ∃ yy, yy = foundT tt a f := ⟨_, rfl⟩
          rw [← hyy]
          clear hyy
          go_upto_region 13 with (fail)
          refine code_fresh1 ?_
          intro W28 hb hA0 hs
          have S28 := Lib.hid (S27.out.new1 hb hA0)
          clear hb hA0 hs
          go_wp2_with fail
          go_loopw [17] (fun i wr => ∃ j : Nat, i = .int .i64 j ∧ j ≤ f ∧ Hid (Sf (fun _ => False) w [(w.heap.size, #[.slice ad9 tt.ds.length cap9, .slice af9 tt.fs.length capf9], 25), (w.heap.size + 1, #[.int .i64 x.ino, .int .i64 x.pos, .bool x.rd, .bool x.wr, .int .i64 x.refs, .int .i64 x.lock], 27), (W25.heap.size, #[.slice ad25 ta.ds.length cap25, .slice af25 ta.fs.length capf25], 25), (W27.heap.size, #[.int .i64 yy.ino, .int .i64 yy.pos, .bool yy.rd, .bool yy.wr, .int .i64 yy.refs, .int .i64 yy.lock], 27)] [TabX tt (.slice ad9 tt.ds.length cap9) (.slice af9 tt.fs.length capf9), TabX ta (.slice ad25 ta.ds.length cap25) (.slice af25 ta.fs.length capf25)] wr)) (fun i _ => f - (RowKit.intOf i).toNat)
          case atStart => exact ⟨0, rfl, Nat.zero_le _, S28⟩
          case round =>
            clear S28 l1 l2 l3 l4 l5
            obtain ⟨j, rfl, hj, S60⟩ := hrel
            by_cases hlt : j < f
            · have jL : decide (j < f) = true := decide_eq_true hlt
              have jM : decide ((j : Int) < (f : Int)) = true := decide_eq_true (by omega)
              have hf20 : f ≤ 20 := HF20.out
              have wj : IntKind.i64.wrap ((j : Int) + 1) = (j : Int) + 1 := Go.IntWalk.i64_in _ (by omega)
              go_upto_region 18 with (fail)
              have h_d := (S60.out.at 0 rfl)
              go_wp2_with (first | (refine wpList_load_row rfl 25 _ rfl _ rfl 25 _ (0, 0) _ h_d Try.underlying25 rfl (by kernel_rfl) ?_) | (refine wpList_load_rowG rfl 25 _ rfl _ rfl 25 _ (0, 0) _ h_d Try.underlying25 rfl (by kernel_rfl) ?_))
              refine (pc.get _ tt a j _ _ _ _ wr S60.out.oldX (S60.out.g 0 rfl) HSZ2.out HT.out.1).mono ?_
              rintro e W59 ⟨hgot, hb⟩
              clear h_d
              have S59 := Lib.hid (S60.out.call hb)
              unfold GotIs at hgot
              subst hgot
              clear hb
              rw [HF.out.2.1 j hlt]
              obtain ⟨zz, hzz⟩ : ∃ zz, zz = foundT tt a j := ⟨_, rfl⟩
              rw [← hzz]
              clear hzz
              go_upto_region 19 with (fail)
              refine code_fresh1 ?_
              intro W60 hb hA0 hs
              have S60 := Lib.hid (S59.out.new1 hb hA0)
              clear hb hA0 hs
              go_wp2_with fail
              go_roundw
              case rel => exact ⟨j + 1, by go_num, hlt, S60.out.left⟩
              case measure => simp [RowKit.intOf]; omega
            · have jL : decide (j < f) = false := decide_eq_false hlt
              have jM : decide ((j : Int) < (f : Int)) = false := decide_eq_false (by omega)
              clear hlt
              go_upto_region 23 with (fail)
              have h_b := (S60.out.at 2 rfl)
              have h_d := (S60.out.at 0 rfl)
              go_wp2_with (first | (refine wpList_load_row rfl 25 _ rfl _ rfl 25 _ (0, 0) _ h_b Try.underlying25 rfl (by kernel_rfl) ?_) | (refine wpList_store_row rfl 25 _ _ rfl _ rfl rfl h_d rfl (by kernel_rfl) rfl ?_; intro W62 hb hg hs hn; have S62 := Lib.hid (S60.out.set 0 rfl hb hg hs hn); clear hb hg hs hn))
              have HT2 := Lib.hid (show RightT ta ∧ SizeM (100 + (m + 1)) ta ∧ a < ta.fs.length ∧ m + 1 ≤ countT ta a ∧ (f : Int) < (firstR (rowT ta a) : Nat) from ⟨by rw [Hta.out]; exact right_open HT.out.1 a x, by rw [Hta.out]; exact size_open HT.out.2.1 a x, by rw [HF.out.2.2.2.2]; exact HT.out.2.2.1, by rw [← HF.out.2.2.1]; have := HMC.out; omega, HF.out.2.2.2.1⟩)
              have S63 := Lib.hid ((S62.out.leave (B' := [(w.heap.size, #[.slice ad25 ta.ds.length cap25, .slice af25 ta.fs.length capf25], 25), (w.heap.size + 1, #[.int .i64 x.ino, .int .i64 x.pos, .bool x.rd, .bool x.wr, .int .i64 x.refs, .int .i64 x.lock], 27)]) (by first | exact List.take_sublist 2 _ | exact List.sublist_append_left _ _ | simp)).less (G' := [TabX ta (.slice ad25 ta.ds.length cap25) (.slice af25 ta.fs.length capf25)]) (fun P hP => by rw [List.mem_singleton] at hP; subst hP; simp))
              go_roundw
              case rel => exact ⟨m + 1, ta, (f : Int), _, _, _, _, by rw [← HF.out.2.2.1]; go_num, rfl, by go_num, HT2, S63⟩
              case measure => have h1 := HMC.out; have h2 := HC8.out; simp [RowKit.intOf]; omega
        · have e1 : (ta2 == 0) = false := by simpa using he
          have e2 : decide (ta2 = 0) = false := decide_eq_false he
          have e3 : (ta2 != 0) = true := by simpa using he
          obtain ⟨g1, g2⟩ := HFO.out.1 he
          have HG1 := Lib.hid g1
          have HG2 := Lib.hid g2
          clear g1 g2 he HFO
          skip
          go_upto_region 11 with (fail)
          have c1 : ((c : Int) == 8) = true := beq_iff_eq.2 (by have := HG2.out; omega)
          have c2 : decide ((c : Int) = 8) = true := decide_eq_true (by have := HG2.out; omega)
          have c3 : decide (c = 8) = true := decide_eq_true HG2.out
          have c4 : (c == 8) = true := beq_iff_eq.2 HG2.out
          have f1 : (ta2 == 13) = true := beq_iff_eq.2 HG1.out
          have f2 : decide (ta2 = 13) = true := decide_eq_true HG1.out
          clear e1 e2 e3
          go_wp2_with fail
          go_ret
          exact ⟨rfl, S26.out.bel⟩
end Go.Proofs.Ytbcmhjgjcknfmaa
