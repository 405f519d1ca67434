/-
  What is set is had by all that refer to it: HandleSets.
-/
import Derived.Test.YtbcmhjgjcknfmaaLaw10E
namespace Go.Proofs.Ytbcmhjgjcknfmaa
open Go.RowKit Go.Shelf
attribute [local go_sem ↓] Go.wp_at_zero Go.wp_at_succ

set_option maxRecDepth 100000 in
set_option maxHeartbeats 4000000 in
theorem sets_l (pc : PH) (t : TabL) (i : Int) (x : DescL) (ad af : Option Addr) (cap capf : Nat) (w : World) (hT : TabX t (.slice ad t.ds.length cap) (.slice af t.fs.length capf) (fun _ => False) w) :
    Calls Try.prog 9 #[tabV ad t.ds.length cap af t.fs.length capf, .int .i64 i, dvalD x] w fun e w' => e = .returned (.bool true) ∧ Below w.heap.size w w' := by
  have S0 := Lib.hid (Sf.start (G := [TabX t (.slice ad t.ds.length cap) (.slice af t.fs.length capf)]) (fun _ h => h.elim) (th1 (TabX.firm _ _ _) hT))
  clear hT
  have hgd := eqDescHG
  go_enter Try.func9, Try.ntmps9
  go_upto_region 1 with (fail)
  refine code_fresh2 ?_
  intro W1 hb hA0 hA1 hs
  have S1 := Lib.hid (S0.out.new2 hb hA0 hA1)
  clear hb hA0 hA1 hs
  have h_d := (S1.out.at 0 rfl)
  go_wp2_with (first | (refine wpList_load_row rfl 25 _ rfl _ rfl 25 _ (0, 0) _ h_d Try.underlying25 rfl (by kernel_rfl) ?_) | (refine wpList_load_rowG rfl 25 _ rfl _ rfl 25 _ (0, 0) _ h_d Try.underlying25 rfl (by kernel_rfl) ?_))
  refine (fine_c _ t _ _ _ _ _ S1.out.oldX (S1.out.g 0 rfl)).mono ?_
  rintro e W2 ⟨rfl, hb⟩
  clear h_d
  have S2 := Lib.hid (S1.out.call hb)
  clear hb
  cases hfb : fineB t with
  | false =>
    clear hfb
    go_wp2_with fail
    refine (pc.shown W2).mono ?_
    rintro e W3 ⟨rfl, hb⟩
    have S3 := Lib.hid (S2.out.call hb)
    clear hb
    go_wp2_with fail
    go_ret
    exact ⟨rfl, S3.out.bel⟩
  | true =>
    have HFB := Lib.hid (fine_B.1 hfb)
    have HSZ := Lib.hid (size_T HFB.out.1 (by decide))
    clear hfb
    go_wp2_with fail
    refine (pc.shown W2).mono ?_
    rintro e W3 ⟨rfl, hb⟩
    have S3 := Lib.hid (S2.out.call hb)
    clear hb
    go_upto_region 3 with (fail)
    have h_d := (S3.out.at 0 rfl)
    have h_x := (S3.out.at 1 rfl)
    go_wp2_with (first | (refine wpList_load_row rfl 25 _ rfl _ rfl 25 _ (0, 0) _ h_d Try.underlying25 rfl (by kernel_rfl) ?_) | (refine wpList_load_rowG rfl 25 _ rfl _ rfl 25 _ (0, 0) _ h_d Try.underlying25 rfl (by kernel_rfl) ?_) | (refine wpList_load_row rfl 27 _ rfl _ rfl 27 _ (0, 0) _ h_x Try.underlying27 rfl (by kernel_rfl) ?_) | (refine wpList_load_rowG rfl 27 _ rfl _ rfl 27 _ (0, 0) _ h_x Try.underlying27 rfl (by kernel_rfl) ?_))
    refine (pc.set _ t i x _ _ _ _ W3 S3.out.oldX (S3.out.g 0 rfl) HSZ.out HFB.out.2).mono ?_
    rintro e W4 ⟨vd4, vf4, rfl, hT4, hb⟩
    obtain ⟨ad4, cap4, af4, capf4, rfl, rfl⟩ := hT4.form
    clear h_d h_x
    obtain ⟨ta, hta⟩ : ∃ ta, ta = setT t i x := ⟨_, rfl⟩
    rw [← hta] at hT4 ⊢
    have Hta := Lib.hid hta
    have S4 := Lib.hid ((S3.out.call hb).more (TabX.firm _ _ _) hT4)
    clear hta hb hT4
    go_upto_region 4 with (fail)
    refine code_fresh1 ?_
    intro W5 hb hA0 hs
    have S5 := Lib.hid (S4.out.new1 hb hA0)
    clear hb hA0 hs
    have HA := Lib.hid (show SizeT ta ∧ RightT ta ∧ ∀ p m, hasT ta p m = hasT t p m ∧ placeT ta p m = placeT t p m ∧ foundT ta p m = (if hasT t p m = true ∧ placeT t p m = i then { x with refs := (foundT t p m).refs } else foundT t p m) ∧ ta.ds.length = t.ds.length by rw [Hta.out]; exact ⟨size_T (size_setT HFB.out.1 i x) (by decide), right_set HFB.out.2 i x, fun p m => sets_get HFB.out.2 i x p m⟩)
    go_wp2_with fail
    go_loopw [8, 9] (fun i _ wr => ∃ k : Nat, i = .int .i64 k ∧ k ≤ t.fs.length ∧ Hid (Sf (fun _ => False) w [(w.heap.size, #[.slice ad t.ds.length cap, .slice af t.fs.length capf], 25), (w.heap.size + 1, #[.int .i64 x.ino, .int .i64 x.pos, .bool x.rd, .bool x.wr, .int .i64 x.refs, .int .i64 x.lock], 27), (W4.heap.size, #[.slice ad4 ta.ds.length cap4, .slice af4 ta.fs.length capf4], 25)] [TabX t (.slice ad t.ds.length cap) (.slice af t.fs.length capf), TabX ta (.slice ad4 ta.ds.length cap4) (.slice af4 ta.fs.length capf4)] wr)) (fun i _ _ => t.fs.length - (RowKit.intOf i).toNat)
    case atStart => exact ⟨0, rfl, Nat.zero_le _, S5⟩
    case round =>
      clear S5
      obtain ⟨k, rfl, hk, S30⟩ := hrel
      have hl2 : t.fs.length ≤ 20 := HSZ.out.2.1
      obtain ⟨d0, d1⟩ := cells2 (S30.out.at 0 rfl)
      by_cases hlt : k < t.fs.length
      · have iL1 : decide (k < t.fs.length) = true := decide_eq_true (by omega)
        have iM1 : decide ((k : Int) < (t.fs.length : Int)) = true := decide_eq_true (by omega)
        have wk : IntKind.i64.wrap ((k : Int) + 1) = (k : Int) + 1 := Go.IntWalk.i64_in _ (by omega)
        go_wp2_with fail
        go_loopw [9] (fun i wr => ∃ m : Nat, i = .int .i64 m ∧ m ≤ 8 ∧ Hid (Sf (fun _ => False) w [(w.heap.size, #[.slice ad t.ds.length cap, .slice af t.fs.length capf], 25), (w.heap.size + 1, #[.int .i64 x.ino, .int .i64 x.pos, .bool x.rd, .bool x.wr, .int .i64 x.refs, .int .i64 x.lock], 27), (W4.heap.size, #[.slice ad4 ta.ds.length cap4, .slice af4 ta.fs.length capf4], 25)] [TabX t (.slice ad t.ds.length cap) (.slice af t.fs.length capf), TabX ta (.slice ad4 ta.ds.length cap4) (.slice af4 ta.fs.length capf4)] wr)) (fun i _ => 8 - (RowKit.intOf i).toNat)
        case atStart => exact ⟨0, rfl, by decide, S30⟩
        case round =>
          clear S30 d0 d1 iL1 iM1
          obtain ⟨m, rfl, hm, S40⟩ := hrel
          by_cases hltm : m < 8
          · have iL2 : decide (m < 8) = true := decide_eq_true (by omega)
            have iM2 : decide ((m : Int) < (8 : Int)) = true := decide_eq_true (by omega)
            have wm : IntKind.i64.wrap ((m : Int) + 1) = (m : Int) + 1 := Go.IntWalk.i64_in _ (by omega)
            obtain ⟨pl, hpl⟩ : ∃ pl, pl = placeT t k m := ⟨_, rfl⟩
            obtain ⟨y, hy⟩ : ∃ y, y = foundT t k m := ⟨_, rfl⟩
            obtain ⟨hs, hhs⟩ : ∃ hs, hs = hasT t k m := ⟨_, rfl⟩
            have A1 := HA.out.2.2 k m
            rw [← hpl, ← hy, ← hhs] at A1
            have HA1 := Lib.hid A1
            have HPL := Lib.hid hpl
            have HY := Lib.hid hy
            have HHS := Lib.hid hhs
            clear A1 hpl hy hhs
            go_upto_region 10 with (fail)
            have h_d := (S40.out.at 0 rfl)
            go_wp2_with (first | (refine wpList_load_row rfl 25 _ rfl _ rfl 25 _ (0, 0) _ h_d Try.underlying25 rfl (by kernel_rfl) ?_) | (refine wpList_load_rowG rfl 25 _ rfl _ rfl 25 _ (0, 0) _ h_d Try.underlying25 rfl (by kernel_rfl) ?_))
            refine (pc.get _ t k m _ _ _ _ wr S40.out.oldX (S40.out.g 0 rfl) HSZ.out HFB.out.2).mono ?_
            rintro e W36 ⟨hgot, hb⟩
            clear h_d
            have S36 := Lib.hid (S40.out.call hb)
            unfold GotIs at hgot
            subst hgot
            clear hb
            rw [← HPL.out, ← HY.out, ← HHS.out]
            go_upto_region 11 with (fail)
            refine code_fresh1 ?_
            intro W37 hb hA0 hs
            have S37 := Lib.hid (S36.out.new1 hb hA0)
            clear hb hA0 hs
            have h_a := (S37.out.at 2 rfl)
            go_wp2_with (first | (refine wpList_load_row rfl 25 _ rfl _ rfl 25 _ (0, 0) _ h_a Try.underlying25 rfl (by kernel_rfl) ?_) | (refine wpList_load_rowG rfl 25 _ rfl _ rfl 25 _ (0, 0) _ h_a Try.underlying25 rfl (by kernel_rfl) ?_))
            refine (pc.get _ ta k m _ _ _ _ W37 S37.out.oldX (S37.out.g 1 rfl) HA.out.1 HA.out.2.1).mono ?_
            rintro e W38 ⟨hgot, hb⟩
            clear h_a
            have S38 := Lib.hid (S37.out.call hb)
            unfold GotIs at hgot
            subst hgot
            clear hb
            rw [HA1.out.1, HA1.out.2.1]
            obtain ⟨q, hq⟩ : ∃ q, q = foundT ta k m := ⟨_, rfl⟩
            have HQ := Lib.hid (hq.trans HA1.out.2.2.1)
            rw [← hq]
            clear hq
            go_upto_region 12 with (fail)
            refine code_fresh1 ?_
            intro W39 hb hA0 hs
            have S39 := Lib.hid (S38.out.new1 hb hA0)
            clear hb hA0 hs
            have h_y := (S39.out.at 3 rfl)
            go_upto_region 13 with (first | (refine wpList_load_row rfl 27 _ rfl _ rfl 27 _ (0, 0) _ h_y Try.underlying27 rfl (by kernel_rfl) ?_) | (refine wpList_load_rowG rfl 27 _ rfl _ rfl 27 _ (0, 0) _ h_y Try.underlying27 rfl (by kernel_rfl) ?_))
            clear h_y
            refine code_fresh1 ?_
            intro W40 hb hA0 hs
            have S40 := Lib.hid (S39.out.new1 hb hA0)
            clear hb hA0 hs
            cases hs with
            | false =>
              have hqy : q = y := HQ.out.trans (if_neg (fun h => by cases h.1))
              subst hqy
              have heq : ∀ w, (Op.equalIn 10000 27 (.agg #[.int .i64 q.ino, .int .i64 q.pos, .bool q.rd, .bool q.wr, .int .i64 q.refs, .int .i64 q.lock]) (.agg #[.int .i64 q.ino, .int .i64 q.pos, .bool q.rd, .bool q.wr, .int .i64 q.refs, .int .i64 q.lock])).run Try.prog w = .ok (decide (q = q)) w := fun w => eqDescH q q w
              have hyy : decide (q = q) = true := decide_eq_true rfl
              have h_z := (S40.out.at 4 rfl)
              have h_u := (S40.out.at 5 rfl)
              go_wp2_with (first | (refine wpList_load_row rfl 27 _ rfl _ rfl 27 _ (0, 0) _ h_z Try.underlying27 rfl (by kernel_rfl) ?_) | (refine wpList_load_rowG rfl 27 _ rfl _ rfl 27 _ (0, 0) _ h_z Try.underlying27 rfl (by kernel_rfl) ?_) | (refine wpList_load_row rfl 27 _ rfl _ rfl 27 _ (0, 0) _ h_u Try.underlying27 rfl (by kernel_rfl) ?_) | (refine wpList_load_rowG rfl 27 _ rfl _ rfl 27 _ (0, 0) _ h_u Try.underlying27 rfl (by kernel_rfl) ?_))
              go_roundw
              case rel => exact ⟨m + 1, by go_num, hltm, S40.out.left.left.left⟩
              case measure => simp [RowKit.intOf]; omega
            | true =>
              by_cases hi : pl = i
              · have i1 : (pl == i) = true := by simpa using hi
                have i2 : decide (pl = i) = true := decide_eq_true hi
                have HQX : Hid (q = { x with refs := y.refs }) := Lib.hid (HQ.out.trans (if_pos ⟨rfl, hi⟩))
                clear hi
                go_upto_region 14 with (fail)
                have h_x := (S40.out.at 1 rfl)
                have h_u := (S40.out.at 5 rfl)
                go_upto_region 15 with (first | (refine wpList_load_row rfl 27 _ rfl _ rfl 27 _ (0, 0) _ h_x Try.underlying27 rfl (by kernel_rfl) ?_) | (refine wpList_store_row rfl 27 _ _ rfl _ rfl rfl h_u rfl (by kernel_rfl) rfl ?_; intro W41 hb hg hs hn; have S41 := Lib.hid (S40.out.set 5 rfl hb hg hs hn); clear hb hg hs hn))
                clear h_x h_u
                obtain ⟨-, -, -, -, y4, -⟩ := cells6 (S41.out.at 3 rfl)
                obtain ⟨-, -, -, -, u4, -⟩ := cells6 (S41.out.at 5 rfl)
                have fu := fun j => Lib.frozen_of_heap (S41.out.at 5 rfl) j
                go_upto_region 16 with (fail)
                refine code_set1 (S41.out.at 5 rfl) ?_
                intro W42 hb hg hs hn
                clear y4 u4 fu
                have hn2 : W42.heap[W39.heap.size]? = some (.cells #[.int .i64 q.ino, .int .i64 q.pos, .bool q.rd, .bool q.wr, .int .i64 q.refs, .int .i64 q.lock] 27 (0, 0)) := by rw [HQX.out]; exact hn
                have S42 := Lib.hid (S41.out.set 5 rfl hb hg hs hn2)
                clear hb hg hs hn hn2
                have heq : ∀ w, (Op.equalIn 10000 27 (.agg #[.int .i64 q.ino, .int .i64 q.pos, .bool q.rd, .bool q.wr, .int .i64 q.refs, .int .i64 q.lock]) (.agg #[.int .i64 q.ino, .int .i64 q.pos, .bool q.rd, .bool q.wr, .int .i64 q.refs, .int .i64 q.lock])).run Try.prog w = .ok (decide (q = q)) w := fun w => eqDescH q q w
                have hyy : decide (q = q) = true := decide_eq_true rfl
                have h_z := (S42.out.at 4 rfl)
                have h_u := (S42.out.at 5 rfl)
                go_wp2_with (first | (refine wpList_load_row rfl 27 _ rfl _ rfl 27 _ (0, 0) _ h_z Try.underlying27 rfl (by kernel_rfl) ?_) | (refine wpList_load_rowG rfl 27 _ rfl _ rfl 27 _ (0, 0) _ h_z Try.underlying27 rfl (by kernel_rfl) ?_) | (refine wpList_load_row rfl 27 _ rfl _ rfl 27 _ (0, 0) _ h_u Try.underlying27 rfl (by kernel_rfl) ?_) | (refine wpList_load_rowG rfl 27 _ rfl _ rfl 27 _ (0, 0) _ h_u Try.underlying27 rfl (by kernel_rfl) ?_))
                go_roundw
                case rel => exact ⟨m + 1, by go_num, hltm, S42.out.leave (by first | exact List.take_sublist 3 _ | exact List.sublist_append_left _ _ | simp)⟩
                case measure => simp [RowKit.intOf]; omega
              · have i1 : (pl == i) = false := by simpa using hi
                have i2 : decide (pl = i) = false := decide_eq_false hi
                have hqy : q = y := HQ.out.trans (if_neg (fun h => hi h.2))
                subst hqy
                clear hi
                have heq : ∀ w, (Op.equalIn 10000 27 (.agg #[.int .i64 q.ino, .int .i64 q.pos, .bool q.rd, .bool q.wr, .int .i64 q.refs, .int .i64 q.lock]) (.agg #[.int .i64 q.ino, .int .i64 q.pos, .bool q.rd, .bool q.wr, .int .i64 q.refs, .int .i64 q.lock])).run Try.prog w = .ok (decide (q = q)) w := fun w => eqDescH q q w
                have hyy : decide (q = q) = true := decide_eq_true rfl
                have h_z := (S40.out.at 4 rfl)
                have h_u := (S40.out.at 5 rfl)
                go_wp2_with (first | (refine wpList_load_row rfl 27 _ rfl _ rfl 27 _ (0, 0) _ h_z Try.underlying27 rfl (by kernel_rfl) ?_) | (refine wpList_load_rowG rfl 27 _ rfl _ rfl 27 _ (0, 0) _ h_z Try.underlying27 rfl (by kernel_rfl) ?_) | (refine wpList_load_row rfl 27 _ rfl _ rfl 27 _ (0, 0) _ h_u Try.underlying27 rfl (by kernel_rfl) ?_) | (refine wpList_load_rowG rfl 27 _ rfl _ rfl 27 _ (0, 0) _ h_u Try.underlying27 rfl (by kernel_rfl) ?_))
                go_roundw
                case rel => exact ⟨m + 1, by go_num, hltm, S40.out.left.left.left⟩
                case measure => simp [RowKit.intOf]; omega
          · have iL2 : decide (m < 8) = false := decide_eq_false (by omega)
            have iM2 : decide ((m : Int) < (8 : Int)) = false := decide_eq_false (by omega)
            clear hltm
            go_wp2_with fail
            go_roundw
            case rel => exact ⟨k + 1, by go_num, hlt, S40⟩
            case measure => simp [RowKit.intOf]; omega
      · have iL1 : decide (k < t.fs.length) = false := decide_eq_false (by omega)
        have iM1 : decide ((k : Int) < (t.fs.length : Int)) = false := decide_eq_false (by omega)
        have hll := (HA.out.2.2 0 0).2.2.2
        have HLL := Lib.hid hll
        clear hlt hll
        obtain ⟨a0, a1⟩ := cells2 (S30.out.at 2 rfl)
        rw [HLL.out] at a0
        go_wp2_with fail
        go_ret
        exact ⟨rfl, S30.out.bel⟩
end Go.Proofs.Ytbcmhjgjcknfmaa
