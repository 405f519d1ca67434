/-
  Opening, doubling, closing and all else are the document's: HandleActs.
-/
import Derived.Test.YtbcmhjgjcknfmaaLaw10F
import Derived.Test.YtbcmhjgjcknfmaaHdlRefD
import Derived.Test.YtbcmhjgjcknfmaaHdlRefE
namespace Go.Proofs.Ytbcmhjgjcknfmaa
open Go.RowKit Go.Shelf
attribute [local go_sem ↓] Go.wp_at_zero Go.wp_at_succ

set_option maxRecDepth 100000 in
set_option maxHeartbeats 4000000 in
theorem acts_l (pc : PH) (t : TabL) (p fd : Int) (x : DescL) (ad af : Option Addr) (cap capf : Nat) (w : World) (hT : TabX t (.slice ad t.ds.length cap) (.slice af t.fs.length capf) (fun _ => False) w) :
    Calls Try.prog 3 #[tabV ad t.ds.length cap af t.fs.length capf, .int .i64 p, .int .i64 fd, dvalD x] w fun e w' => e = .returned (.bool true) ∧ Below w.heap.size w w' := by
  have S0 := Lib.hid (Sf.start (G := [TabX t (.slice ad t.ds.length cap) (.slice af t.fs.length capf)]) (fun _ h => h.elim) (th1 (TabX.firm _ _ _) hT))
  clear hT
  have hgd := eqDescRG
  go_enter Try.func3, Try.ntmps3
  go_upto_region 1 with (fail)
  refine code_fresh2 ?_
  intro W1 hb hA0 hA1 hs
  have S1 := Lib.hid (S0.out.new2 hb hA0 hA1)
  clear hb hA0 hA1 hs
  have h_d := (S1.out.at 0 rfl)
  go_wp2_with (first | (refine wpList_load_row rfl 25 _ rfl _ rfl 25 _ (0, 0) _ h_d Try.underlying25 rfl (by kernel_rfl) ?_) | (refine wpList_load_rowG rfl 25 _ rfl _ rfl 25 _ (0, 0) _ h_d Try.underlying25 rfl (by kernel_rfl) ?_))
  refine (fine_c _ t _ _ _ _ _ S1.out.oldX (S1.out.g 0 rfl)).mono ?_
  rintro e W2 ⟨rfl, hb⟩
  clear h_d
  have S2 := Lib.hid (S1.out.call hb)
  clear hb
  cases hfb : fineB t with
  | false =>
    clear hfb
    go_wp2_with fail
    refine (pc.shown W2).mono ?_
    rintro e W3 ⟨rfl, hb⟩
    have S3 := Lib.hid (S2.out.call hb)
    clear hb
    go_wp2_with fail
    go_ret
    exact ⟨rfl, S3.out.bel⟩
  | true =>
    have HFB := Lib.hid (fine_B.1 hfb)
    have HSZ := Lib.hid (size_T HFB.out.1 (by decide))
    clear hfb
    go_wp2_with fail
    refine (pc.shown W2).mono ?_
    rintro e W3 ⟨rfl, hb⟩
    have S3 := Lib.hid (S2.out.call hb)
    clear hb
    go_upto_region 3 with (fail)
    have h_d := (S3.out.at 0 rfl)
    go_wp2_with (first | (refine wpList_load_row rfl 25 _ rfl _ rfl 25 _ (0, 0) _ h_d Try.underlying25 rfl (by kernel_rfl) ?_) | (refine wpList_load_rowG rfl 25 _ rfl _ rfl 25 _ (0, 0) _ h_d Try.underlying25 rfl (by kernel_rfl) ?_))
    refine (its_c _ t _ _ _ _ W3 S3.out.oldX (S3.out.g 0 rfl) HSZ.out).mono ?_
    rintro e W4 ⟨adi4, capi4, rfl, hT, hb⟩
    clear h_d
    have S4 := Lib.hid ((S3.out.call hb).more (TabX.firm _ _ _) hT)
    clear hb hT
    go_upto_region 4 with (fail)
    refine code_fresh1 ?_
    intro W5 hb hA0 hs
    have S5 := Lib.hid (S4.out.new1 hb hA0)
    clear hb hA0 hs
    have h_d := (S5.out.at 0 rfl)
    have h_x := (S5.out.at 1 rfl)
    go_wp2_with (first | (refine wpList_load_row rfl 25 _ rfl _ rfl 25 _ (0, 0) _ h_d Try.underlying25 rfl (by kernel_rfl) ?_) | (refine wpList_load_rowG rfl 25 _ rfl _ rfl 25 _ (0, 0) _ h_d Try.underlying25 rfl (by kernel_rfl) ?_) | (refine wpList_load_row rfl 27 _ rfl _ rfl 27 _ (0, 0) _ h_x Try.underlying27 rfl (by kernel_rfl) ?_) | (refine wpList_load_rowG rfl 27 _ rfl _ rfl 27 _ (0, 0) _ h_x Try.underlying27 rfl (by kernel_rfl) ?_))
    refine (pc.opn _ t p x _ _ _ _ W5 S5.out.oldX (S5.out.g 0 rfl) HSZ.out HFB.out.2).mono ?_
    rintro e W6 ⟨vd6, vf6, rfl, hT6, hb⟩
    obtain ⟨ad6, cap6, af6, capf6, rfl, rfl⟩ := hT6.form
    clear h_d h_x
    obtain ⟨ta, hta⟩ : ∃ ta, ta = (openT t p x).1 := ⟨_, rfl⟩
    rw [← hta] at hT6 ⊢
    obtain ⟨ta1, hta1⟩ : ∃ ta1, ta1 = (openT t p x).2.1 := ⟨_, rfl⟩
    obtain ⟨ta2, hta2⟩ : ∃ ta2, ta2 = (openT t p x).2.2 := ⟨_, rfl⟩
    rw [← hta1, ← hta2]
    have Hta1 := Lib.hid hta1
    have Hta2 := Lib.hid hta2
    clear hta1 hta2
    have Hta := Lib.hid hta
    have S6 := Lib.hid ((S5.out.call hb).more (TabX.firm _ _ _) hT6)
    clear hta hb hT6
    go_upto_region 5 with (fail)
    refine code_fresh1 ?_
    intro W7 hb hA0 hs
    have S7 := Lib.hid (S6.out.new1 hb hA0)
    clear hb hA0 hs
    have h_u := (S7.out.at 2 rfl)
    have h_x := (S7.out.at 1 rfl)
    go_wp2_with (first | (refine wpList_load_row rfl 32 _ rfl _ rfl 32 _ (0, 0) _ h_u Try.underlying32 rfl (by kernel_rfl) ?_) | (refine wpList_load_rowG rfl 32 _ rfl _ rfl 32 _ (0, 0) _ h_u Try.underlying32 rfl (by kernel_rfl) ?_) | (refine wpList_load_row rfl 27 _ rfl _ rfl 27 _ (0, 0) _ h_x Try.underlying27 rfl (by kernel_rfl) ?_) | (refine wpList_load_rowG rfl 27 _ rfl _ rfl 27 _ (0, 0) _ h_x Try.underlying27 rfl (by kernel_rfl) ?_))
    refine (ropenH_c _ t p x _ _ _ _ W7 S7.out.oldX (S7.out.g 1 rfl) HSZ.out).mono ?_
    rintro e W8 ⟨vd8, vf8, rfl, hT8, hb⟩
    clear h_u h_x
    rw [← Hta.out] at hT8
    obtain ⟨ad8, cap8, af8, capf8, rfl, rfl⟩ := hT8.form
    rw [← Hta1.out, ← Hta2.out]
    have S8 := Lib.hid ((S7.out.call hb).more (TabX.firm _ _ _) hT8)
    clear hb hT8
    go_upto_region 6 with (fail)
    refine code_fresh1 ?_
    intro W9 hb hA0 hs
    have S9 := Lib.hid (S8.out.new1 hb hA0)
    clear hb hA0 hs
    have h_d := (S9.out.at 0 rfl)
    go_wp2_with (first | (refine wpList_load_row rfl 25 _ rfl _ rfl 25 _ (0, 0) _ h_d Try.underlying25 rfl (by kernel_rfl) ?_) | (refine wpList_load_rowG rfl 25 _ rfl _ rfl 25 _ (0, 0) _ h_d Try.underlying25 rfl (by kernel_rfl) ?_))
    refine (pc.dup _ t p fd _ _ _ _ W9 S9.out.oldX (S9.out.g 0 rfl) HSZ.out HFB.out.2).mono ?_
    rintro e W10 ⟨vd10, vf10, rfl, hT10, hb⟩
    obtain ⟨ad10, cap10, af10, capf10, rfl, rfl⟩ := hT10.form
    clear h_d
    obtain ⟨tb, htb⟩ : ∃ tb, tb = (dupT t p fd).1 := ⟨_, rfl⟩
    rw [← htb] at hT10 ⊢
    obtain ⟨tb1, htb1⟩ : ∃ tb1, tb1 = (dupT t p fd).2.1 := ⟨_, rfl⟩
    obtain ⟨tb2, htb2⟩ : ∃ tb2, tb2 = (dupT t p fd).2.2 := ⟨_, rfl⟩
    rw [← htb1, ← htb2]
    have Htb1 := Lib.hid htb1
    have Htb2 := Lib.hid htb2
    clear htb1 htb2
    have Htb := Lib.hid htb
    have S10 := Lib.hid ((S9.out.call hb).more (TabX.firm _ _ _) hT10)
    clear htb hb hT10
    go_upto_region 7 with (fail)
    refine code_fresh1 ?_
    intro W11 hb hA0 hs
    have S11 := Lib.hid (S10.out.new1 hb hA0)
    clear hb hA0 hs
    have h_u := (S11.out.at 2 rfl)
    go_wp2_with (first | (refine wpList_load_row rfl 32 _ rfl _ rfl 32 _ (0, 0) _ h_u Try.underlying32 rfl (by kernel_rfl) ?_) | (refine wpList_load_rowG rfl 32 _ rfl _ rfl 32 _ (0, 0) _ h_u Try.underlying32 rfl (by kernel_rfl) ?_))
    refine (rdupH_c _ t p fd _ _ _ _ W11 S11.out.oldX (S11.out.g 1 rfl) HSZ.out HFB.out.2).mono ?_
    rintro e W12 ⟨vd12, vf12, rfl, hT12, hb⟩
    clear h_u
    rw [← Htb.out] at hT12
    obtain ⟨ad12, cap12, af12, capf12, rfl, rfl⟩ := hT12.form
    rw [← Htb1.out, ← Htb2.out]
    have S12 := Lib.hid ((S11.out.call hb).more (TabX.firm _ _ _) hT12)
    clear hb hT12
    go_upto_region 8 with (fail)
    refine code_fresh1 ?_
    intro W13 hb hA0 hs
    have S13 := Lib.hid (S12.out.new1 hb hA0)
    clear hb hA0 hs
    have h_d := (S13.out.at 0 rfl)
    go_wp2_with (first | (refine wpList_load_row rfl 25 _ rfl _ rfl 25 _ (0, 0) _ h_d Try.underlying25 rfl (by kernel_rfl) ?_) | (refine wpList_load_rowG rfl 25 _ rfl _ rfl 25 _ (0, 0) _ h_d Try.underlying25 rfl (by kernel_rfl) ?_))
    refine (pc.close _ t p fd _ _ _ _ W13 S13.out.oldX (S13.out.g 0 rfl) HSZ.out HFB.out.2).mono ?_
    rintro e W14 ⟨vd14, vf14, rfl, hT14, hb⟩
    obtain ⟨ad14, cap14, af14, capf14, rfl, rfl⟩ := hT14.form
    clear h_d
    obtain ⟨tc, htc⟩ : ∃ tc, tc = (closeT t p fd).1 := ⟨_, rfl⟩
    rw [← htc] at hT14 ⊢
    obtain ⟨tc1, htc1⟩ : ∃ tc1, tc1 = (closeT t p fd).2.1 := ⟨_, rfl⟩
    obtain ⟨tc2, htc2⟩ : ∃ tc2, tc2 = (closeT t p fd).2.2 := ⟨_, rfl⟩
    rw [← htc1, ← htc2]
    have Htc1 := Lib.hid htc1
    have Htc2 := Lib.hid htc2
    clear htc1 htc2
    have Htc := Lib.hid htc
    have S14 := Lib.hid ((S13.out.call hb).more (TabX.firm _ _ _) hT14)
    clear htc hb hT14
    go_upto_region 9 with (fail)
    refine code_fresh2 ?_
    intro W15 hb hA0 hA1 hs
    have S15 := Lib.hid (S14.out.new2 hb hA0 hA1)
    clear hb hA0 hA1 hs
    have h_u := (S15.out.at 2 rfl)
    go_wp2_with (first | (refine wpList_load_row rfl 32 _ rfl _ rfl 32 _ (0, 0) _ h_u Try.underlying32 rfl (by kernel_rfl) ?_) | (refine wpList_load_rowG rfl 32 _ rfl _ rfl 32 _ (0, 0) _ h_u Try.underlying32 rfl (by kernel_rfl) ?_))
    refine (rcloseH_c _ t p fd _ _ _ _ W15 S15.out.oldX (S15.out.g 1 rfl) HSZ.out HFB.out.2).mono ?_
    rintro e W16 ⟨vd16, vf16, rfl, hT16, hb⟩
    clear h_u
    rw [← Htc.out] at hT16
    obtain ⟨ad16, cap16, af16, capf16, rfl, rfl⟩ := hT16.form
    rw [← Htc1.out, ← Htc2.out]
    have S16 := Lib.hid ((S15.out.call hb).more (TabX.firm _ _ _) hT16)
    clear hb hT16
    go_upto_region 10 with (fail)
    refine code_fresh2 ?_
    intro W17 hb hA0 hA1 hs
    have S17 := Lib.hid (S16.out.new2 hb hA0 hA1)
    clear hb hA0 hA1 hs
    have HZA := Lib.hid (show SizeT ta by rw [Hta.out]; exact size_T (size_open HFB.out.1 p x) (by decide))
    have HZB := Lib.hid (show SizeT tb by rw [Htb.out]; exact size_T (size_dup HFB.out.1 p fd) (by decide))
    have HZC := Lib.hid (show SizeT tc by rw [Htc.out]; exact size_T (size_close HFB.out.1 p fd) (by decide))
    have heq : ∀ w, (Op.equalIn 10000 39 (.agg #[.int .i64 tc1.ino, .int .i64 tc1.pos, .bool tc1.rd, .bool tc1.wr, .int .i64 tc1.refs, .int .i64 tc1.lock]) (.agg #[.int .i64 tc1.ino, .int .i64 tc1.pos, .bool tc1.rd, .bool tc1.wr, .int .i64 tc1.refs, .int .i64 tc1.lock])).run Try.prog w = .ok (decide (tc1 = tc1)) w := fun w => eqDescR tc1 tc1 w
    have hyy : decide (tc1 = tc1) = true := decide_eq_true rfl
    go_upto_region 10 with (fail)
    have h_a := (S17.out.at 3 rfl)
    have h_b := (S17.out.at 4 rfl)
    have h_c := (S17.out.at 5 rfl)
    have h_e := (S17.out.at 6 rfl)
    have h_m := (S17.out.at 7 rfl)
    have h_y := (S17.out.at 8 rfl)
    have h_o := (S17.out.at 9 rfl)
    have h_z := (S17.out.at 10 rfl)
    refine wp_region_held_drew (S := fun W => W.heap[W6.heap.size]? = some (.cells #[.slice ad6 ta.ds.length cap6, .slice af6 ta.fs.length capf6] 25 (0, 0)) ∧ W.heap[W8.heap.size]? = some (.cells #[.slice ad8 ta.ds.length cap8, .slice af8 ta.fs.length capf8] 32 (0, 0)) ∧ W.heap[W10.heap.size]? = some (.cells #[.slice ad10 tb.ds.length cap10, .slice af10 tb.fs.length capf10] 25 (0, 0)) ∧ W.heap[W12.heap.size]? = some (.cells #[.slice ad12 tb.ds.length cap12, .slice af12 tb.fs.length capf12] 32 (0, 0)) ∧ W.heap[W14.heap.size]? = some (.cells #[.slice ad14 tc.ds.length cap14, .slice af14 tc.fs.length capf14] 25 (0, 0)) ∧ W.heap[W14.heap.size + 1]? = some (.cells #[.int .i64 tc1.ino, .int .i64 tc1.pos, .bool tc1.rd, .bool tc1.wr, .int .i64 tc1.refs, .int .i64 tc1.lock] 27 (0, 0)) ∧ W.heap[W16.heap.size]? = some (.cells #[.slice ad16 tc.ds.length cap16, .slice af16 tc.fs.length capf16] 32 (0, 0)) ∧ W.heap[W16.heap.size + 1]? = some (.cells #[.int .i64 tc1.ino, .int .i64 tc1.pos, .bool tc1.rd, .bool tc1.wr, .int .i64 tc1.refs, .int .i64 tc1.lock] 39 (0, 0)) ∧ True) (by kernel_rfl) ⟨(S17.out.at 3 rfl), (S17.out.at 4 rfl), (S17.out.at 5 rfl), (S17.out.at 6 rfl), (S17.out.at 7 rfl), (S17.out.at 8 rfl), (S17.out.at 9 rfl), (S17.out.at 10 rfl), trivial⟩ (fun hHeld => ?_)
    clear h_a h_b h_c h_e h_m h_y h_o h_z
    have S18 := Lib.hid (S17.out.call (Below.refl W17.heap.size W17).drew)
    generalize W17.drew = W18 at *
    refine wpAnyH_take (i := 0) rfl (by kernel_rfl) (by kernel_rfl) (by kernel_rfl) (fun _ _ _ h => h) (yieldsIf_load_row (by rfl) 25 _ rfl _ rfl 25 _ (0, 0) _ (fun _ h => h.1) Try.underlying25 rfl (by kernel_rfl)) hHeld ?_
    (try simp only [List.getElem_toArray]); (try simp only [List.getElem_cons_succ]); (try simp only [List.getElem_cons_zero]); (try simp only [Act.put]); (try simp only [List.setIfInBounds_toArray]); (try simp only [List.set_cons_succ]); (try simp only [List.set_cons_zero])
    refine wpAnyH_take (i := 2) rfl (by kernel_rfl) (by kernel_rfl) (by kernel_rfl) (fun _ _ _ h => h) (yieldsIf_load_row (by rfl) 32 _ rfl _ rfl 32 _ (0, 0) _ (fun _ h => h.2.1) Try.underlying32 rfl (by kernel_rfl)) hHeld ?_
    (try simp only [List.getElem_toArray]); (try simp only [List.getElem_cons_succ]); (try simp only [List.getElem_cons_zero]); (try simp only [Act.put]); (try simp only [List.setIfInBounds_toArray]); (try simp only [List.set_cons_succ]); (try simp only [List.set_cons_zero])
    refine wpAnyH_ready (rs := [1]) (by kernel_rfl) (by simp) ?_
    refine AllReadyH.cons rfl (fun K hK => ?_) AllReadyH.nil
    go_simp
    refine (its_c _ ta _ _ _ _ W18 S18.out.oldX (S18.out.g 2 rfl) HZA.out).mono ?_
    rintro e W19 ⟨adi19, capi19, rfl, hT, hb⟩
    have S19 := Lib.hid ((S18.out.call hb).more (TabX.firm _ _ _) hT)
    clear hb hT hHeld
    go_wp2_with fail
    refine hK.out _ _ ⟨(S19.out.at 3 rfl), (S19.out.at 4 rfl), (S19.out.at 5 rfl), (S19.out.at 6 rfl), (S19.out.at 7 rfl), (S19.out.at 8 rfl), (S19.out.at 9 rfl), (S19.out.at 10 rfl), trivial⟩ (fun hHeld => ?_)
    clear hK K
    (try simp only [List.getElem_toArray]); (try simp only [List.getElem_cons_succ]); (try simp only [List.getElem_cons_zero]); (try simp only [Act.put]); (try simp only [List.setIfInBounds_toArray]); (try simp only [List.set_cons_succ]); (try simp only [List.set_cons_zero])
    refine wpAnyH_ready (rs := [3]) (by kernel_rfl) (by simp) ?_
    refine AllReadyH.cons rfl (fun K hK => ?_) AllReadyH.nil
    go_simp
    refine (rsameH_c ta _ _ _ _ _ _ _ _ W19 (S19.out.g 8 rfl) (S19.out.g 3 rfl) HZA.out).mono ?_
    rintro e W20 ⟨rfl, hb⟩
    have S20 := Lib.hid (S19.out.call hb)
    clear hb hHeld
    go_wp2_with fail
    refine hK.out _ _ ⟨(S20.out.at 3 rfl), (S20.out.at 4 rfl), (S20.out.at 5 rfl), (S20.out.at 6 rfl), (S20.out.at 7 rfl), (S20.out.at 8 rfl), (S20.out.at 9 rfl), (S20.out.at 10 rfl), trivial⟩ (fun hHeld => ?_)
    clear hK K
    (try simp only [List.getElem_toArray]); (try simp only [List.getElem_cons_succ]); (try simp only [List.getElem_cons_zero]); (try simp only [Act.put]); (try simp only [List.setIfInBounds_toArray]); (try simp only [List.set_cons_succ]); (try simp only [List.set_cons_zero])
    refine wpAnyH_take (i := 4) (v := ?v1) rfl (by kernel_rfl) (by kernel_rfl) (by kernel_rfl) (fun _ _ _ h => h) (Or.inl ⟨by rfl, ?hy1⟩) hHeld ?rest1
    case hy1 => (intro w hSw; (try dsimp only at hSw); (try go_split_ands); go_simp; first | done | with_reducible rfl)
    (try simp only [List.getElem_toArray]); (try simp only [List.getElem_cons_succ]); (try simp only [List.getElem_cons_zero]); (try simp only [Act.put]); (try simp only [List.setIfInBounds_toArray]); (try simp only [List.set_cons_succ]); (try simp only [List.set_cons_zero])
    refine wpAnyH_take (i := 5) (v := ?v2) rfl (by kernel_rfl) (by kernel_rfl) (by kernel_rfl) (fun _ _ _ h => h) (Or.inl ⟨by rfl, ?hy2⟩) hHeld ?rest2
    case hy2 => (intro w hSw; (try dsimp only at hSw); (try go_split_ands); go_simp; first | done | with_reducible rfl)
    (try simp only [List.getElem_toArray]); (try simp only [List.getElem_cons_succ]); (try simp only [List.getElem_cons_zero]); (try simp only [Act.put]); (try simp only [List.setIfInBounds_toArray]); (try simp only [List.set_cons_succ]); (try simp only [List.set_cons_zero])
    refine wpAnyH_take (i := 6) (v := ?v3) rfl (by kernel_rfl) (by kernel_rfl) (by kernel_rfl) (fun _ _ _ h => h) (Or.inl ⟨by rfl, ?hy3⟩) hHeld ?rest3
    case hy3 => (intro w hSw; (try dsimp only at hSw); (try go_split_ands); go_simp; first | done | with_reducible rfl)
    (try simp only [List.getElem_toArray]); (try simp only [List.getElem_cons_succ]); (try simp only [List.getElem_cons_zero]); (try simp only [Act.put]); (try simp only [List.setIfInBounds_toArray]); (try simp only [List.set_cons_succ]); (try simp only [List.set_cons_zero])
    refine wpAnyH_take (i := 7) (v := ?v4) rfl (by kernel_rfl) (by kernel_rfl) (by kernel_rfl) (fun _ _ _ h => h) (Or.inl ⟨by rfl, ?hy4⟩) hHeld ?rest4
    case hy4 => (intro w hSw; (try dsimp only at hSw); (try go_split_ands); go_simp; first | done | with_reducible rfl)
    (try simp only [List.getElem_toArray]); (try simp only [List.getElem_cons_succ]); (try simp only [List.getElem_cons_zero]); (try simp only [Act.put]); (try simp only [List.setIfInBounds_toArray]); (try simp only [List.set_cons_succ]); (try simp only [List.set_cons_zero])
    refine wpAnyH_take (i := 8) (v := ?v5) rfl (by kernel_rfl) (by kernel_rfl) (by kernel_rfl) (fun _ _ _ h => h) (Or.inl ⟨by rfl, ?hy5⟩) hHeld ?rest5
    case hy5 => (intro w hSw; (try dsimp only at hSw); (try go_split_ands); go_simp; first | done | with_reducible rfl)
    (try simp only [List.getElem_toArray]); (try simp only [List.getElem_cons_succ]); (try simp only [List.getElem_cons_zero]); (try simp only [Act.put]); (try simp only [List.setIfInBounds_toArray]); (try simp only [List.set_cons_succ]); (try simp only [List.set_cons_zero])
    refine wpAnyH_take (i := 9) (v := ?v6) rfl (by kernel_rfl) (by kernel_rfl) (by kernel_rfl) (fun _ _ _ h => h) (Or.inl ⟨by rfl, ?hy6⟩) hHeld ?rest6
    case hy6 => (intro w hSw; (try dsimp only at hSw); (try go_split_ands); go_simp; first | done | with_reducible rfl)
    (try simp only [List.getElem_toArray]); (try simp only [List.getElem_cons_succ]); (try simp only [List.getElem_cons_zero]); (try simp only [Act.put]); (try simp only [List.setIfInBounds_toArray]); (try simp only [List.set_cons_succ]); (try simp only [List.set_cons_zero])
    refine wpAnyH_take (i := 10) (v := ?v7) rfl (by kernel_rfl) (by kernel_rfl) (by kernel_rfl) (fun _ _ _ h => h) (Or.inl ⟨by rfl, ?hy7⟩) hHeld ?rest7
    case hy7 => (intro w hSw; (try dsimp only at hSw); (try go_split_ands); go_simp; first | done | with_reducible rfl)
    (try simp only [List.getElem_toArray]); (try simp only [List.getElem_cons_succ]); (try simp only [List.getElem_cons_zero]); (try simp only [Act.put]); (try simp only [List.setIfInBounds_toArray]); (try simp only [List.set_cons_succ]); (try simp only [List.set_cons_zero])
    refine wpAnyH_take (i := 11) (v := ?v8) rfl (by kernel_rfl) (by kernel_rfl) (by kernel_rfl) (fun _ _ _ h => h) (Or.inl ⟨by rfl, ?hy8⟩) hHeld ?rest8
    case hy8 => (intro w hSw; (try dsimp only at hSw); (try go_split_ands); go_simp; first | done | with_reducible rfl)
    (try simp only [List.getElem_toArray]); (try simp only [List.getElem_cons_succ]); (try simp only [List.getElem_cons_zero]); (try simp only [Act.put]); (try simp only [List.setIfInBounds_toArray]); (try simp only [List.set_cons_succ]); (try simp only [List.set_cons_zero])
    refine wpAnyH_take (i := 12) (v := ?v9) rfl (by kernel_rfl) (by kernel_rfl) (by kernel_rfl) (fun _ _ _ h => h) (Or.inl ⟨by rfl, ?hy9⟩) hHeld ?rest9
    case hy9 => (intro w hSw; (try dsimp only at hSw); (try go_split_ands); go_simp; first | done | with_reducible rfl)
    (try simp only [List.getElem_toArray]); (try simp only [List.getElem_cons_succ]); (try simp only [List.getElem_cons_zero]); (try simp only [Act.put]); (try simp only [List.setIfInBounds_toArray]); (try simp only [List.set_cons_succ]); (try simp only [List.set_cons_zero])
    refine wpAnyH_take (i := 13) (v := ?v10) rfl (by kernel_rfl) (by kernel_rfl) (by kernel_rfl) (fun _ _ _ h => h) (Or.inl ⟨by rfl, ?hy10⟩) hHeld ?rest10
    case hy10 => (intro w hSw; (try dsimp only at hSw); (try go_split_ands); go_simp; first | done | with_reducible rfl)
    (try simp only [List.getElem_toArray]); (try simp only [List.getElem_cons_succ]); (try simp only [List.getElem_cons_zero]); (try simp only [Act.put]); (try simp only [List.setIfInBounds_toArray]); (try simp only [List.set_cons_succ]); (try simp only [List.set_cons_zero])
    refine wpAnyH_take (i := 14) (v := ?v11) rfl (by kernel_rfl) (by kernel_rfl) (by kernel_rfl) (fun _ _ _ h => h) (Or.inl ⟨by rfl, ?hy11⟩) hHeld ?rest11
    case hy11 => (intro w hSw; (try dsimp only at hSw); (try go_split_ands); go_simp; first | done | with_reducible rfl)
    (try simp only [List.getElem_toArray]); (try simp only [List.getElem_cons_succ]); (try simp only [List.getElem_cons_zero]); (try simp only [Act.put]); (try simp only [List.setIfInBounds_toArray]); (try simp only [List.set_cons_succ]); (try simp only [List.set_cons_zero])
    refine wpAnyH_take (i := 15) (v := ?v12) rfl (by kernel_rfl) (by kernel_rfl) (by kernel_rfl) (fun _ _ _ h => h) (Or.inl ⟨by rfl, ?hy12⟩) hHeld ?rest12
    case hy12 => (intro w hSw; (try dsimp only at hSw); (try go_split_ands); go_simp; first | done | with_reducible rfl)
    (try simp only [List.getElem_toArray]); (try simp only [List.getElem_cons_succ]); (try simp only [List.getElem_cons_zero]); (try simp only [Act.put]); (try simp only [List.setIfInBounds_toArray]); (try simp only [List.set_cons_succ]); (try simp only [List.set_cons_zero])
    refine wpAnyH_take (i := 16) rfl (by kernel_rfl) (by kernel_rfl) (by kernel_rfl) (fun _ _ _ h => h) (yieldsIf_load_row (by rfl) 25 _ rfl _ rfl 25 _ (0, 0) _ (fun _ h => h.2.2.1) Try.underlying25 rfl (by kernel_rfl)) hHeld ?_
    (try simp only [List.getElem_toArray]); (try simp only [List.getElem_cons_succ]); (try simp only [List.getElem_cons_zero]); (try simp only [Act.put]); (try simp only [List.setIfInBounds_toArray]); (try simp only [List.set_cons_succ]); (try simp only [List.set_cons_zero])
    refine wpAnyH_take (i := 18) rfl (by kernel_rfl) (by kernel_rfl) (by kernel_rfl) (fun _ _ _ h => h) (yieldsIf_load_row (by rfl) 32 _ rfl _ rfl 32 _ (0, 0) _ (fun _ h => h.2.2.2.1) Try.underlying32 rfl (by kernel_rfl)) hHeld ?_
    (try simp only [List.getElem_toArray]); (try simp only [List.getElem_cons_succ]); (try simp only [List.getElem_cons_zero]); (try simp only [Act.put]); (try simp only [List.setIfInBounds_toArray]); (try simp only [List.set_cons_succ]); (try simp only [List.set_cons_zero])
    refine wpAnyH_ready (rs := [17]) (by kernel_rfl) (by simp) ?_
    refine AllReadyH.cons rfl (fun K hK => ?_) AllReadyH.nil
    go_simp
    refine (its_c _ tb _ _ _ _ W20 S20.out.oldX (S20.out.g 4 rfl) HZB.out).mono ?_
    rintro e W21 ⟨adi21, capi21, rfl, hT, hb⟩
    have S21 := Lib.hid ((S20.out.call hb).more (TabX.firm _ _ _) hT)
    clear hb hT hHeld
    go_wp2_with fail
    refine hK.out _ _ ⟨(S21.out.at 3 rfl), (S21.out.at 4 rfl), (S21.out.at 5 rfl), (S21.out.at 6 rfl), (S21.out.at 7 rfl), (S21.out.at 8 rfl), (S21.out.at 9 rfl), (S21.out.at 10 rfl), trivial⟩ (fun hHeld => ?_)
    clear hK K
    (try simp only [List.getElem_toArray]); (try simp only [List.getElem_cons_succ]); (try simp only [List.getElem_cons_zero]); (try simp only [Act.put]); (try simp only [List.setIfInBounds_toArray]); (try simp only [List.set_cons_succ]); (try simp only [List.set_cons_zero])
    refine wpAnyH_ready (rs := [19]) (by kernel_rfl) (by simp) ?_
    refine AllReadyH.cons rfl (fun K hK => ?_) AllReadyH.nil
    go_simp
    refine (rsameH_c tb _ _ _ _ _ _ _ _ W21 (S21.out.g 9 rfl) (S21.out.g 5 rfl) HZB.out).mono ?_
    rintro e W22 ⟨rfl, hb⟩
    have S22 := Lib.hid (S21.out.call hb)
    clear hb hHeld
    go_wp2_with fail
    refine hK.out _ _ ⟨(S22.out.at 3 rfl), (S22.out.at 4 rfl), (S22.out.at 5 rfl), (S22.out.at 6 rfl), (S22.out.at 7 rfl), (S22.out.at 8 rfl), (S22.out.at 9 rfl), (S22.out.at 10 rfl), trivial⟩ (fun hHeld => ?_)
    clear hK K
    (try simp only [List.getElem_toArray]); (try simp only [List.getElem_cons_succ]); (try simp only [List.getElem_cons_zero]); (try simp only [Act.put]); (try simp only [List.setIfInBounds_toArray]); (try simp only [List.set_cons_succ]); (try simp only [List.set_cons_zero])
    refine wpAnyH_take (i := 20) (v := ?v13) rfl (by kernel_rfl) (by kernel_rfl) (by kernel_rfl) (fun _ _ _ h => h) (Or.inl ⟨by rfl, ?hy13⟩) hHeld ?rest13
    case hy13 => (intro w hSw; (try dsimp only at hSw); (try go_split_ands); go_simp; first | done | with_reducible rfl)
    (try simp only [List.getElem_toArray]); (try simp only [List.getElem_cons_succ]); (try simp only [List.getElem_cons_zero]); (try simp only [Act.put]); (try simp only [List.setIfInBounds_toArray]); (try simp only [List.set_cons_succ]); (try simp only [List.set_cons_zero])
    refine wpAnyH_take (i := 21) (v := ?v14) rfl (by kernel_rfl) (by kernel_rfl) (by kernel_rfl) (fun _ _ _ h => h) (Or.inl ⟨by rfl, ?hy14⟩) hHeld ?rest14
    case hy14 => (intro w hSw; (try dsimp only at hSw); (try go_split_ands); go_simp; first | done | with_reducible rfl)
    (try simp only [List.getElem_toArray]); (try simp only [List.getElem_cons_succ]); (try simp only [List.getElem_cons_zero]); (try simp only [Act.put]); (try simp only [List.setIfInBounds_toArray]); (try simp only [List.set_cons_succ]); (try simp only [List.set_cons_zero])
    refine wpAnyH_take (i := 22) (v := ?v15) rfl (by kernel_rfl) (by kernel_rfl) (by kernel_rfl) (fun _ _ _ h => h) (Or.inl ⟨by rfl, ?hy15⟩) hHeld ?rest15
    case hy15 => (intro w hSw; (try dsimp only at hSw); (try go_split_ands); go_simp; first | done | with_reducible rfl)
    (try simp only [List.getElem_toArray]); (try simp only [List.getElem_cons_succ]); (try simp only [List.getElem_cons_zero]); (try simp only [Act.put]); (try simp only [List.setIfInBounds_toArray]); (try simp only [List.set_cons_succ]); (try simp only [List.set_cons_zero])
    refine wpAnyH_take (i := 23) (v := ?v16) rfl (by kernel_rfl) (by kernel_rfl) (by kernel_rfl) (fun _ _ _ h => h) (Or.inl ⟨by rfl, ?hy16⟩) hHeld ?rest16
    case hy16 => (intro w hSw; (try dsimp only at hSw); (try go_split_ands); go_simp; first | done | with_reducible rfl)
    (try simp only [List.getElem_toArray]); (try simp only [List.getElem_cons_succ]); (try simp only [List.getElem_cons_zero]); (try simp only [Act.put]); (try simp only [List.setIfInBounds_toArray]); (try simp only [List.set_cons_succ]); (try simp only [List.set_cons_zero])
    refine wpAnyH_take (i := 24) (v := ?v17) rfl (by kernel_rfl) (by kernel_rfl) (by kernel_rfl) (fun _ _ _ h => h) (Or.inl ⟨by rfl, ?hy17⟩) hHeld ?rest17
    case hy17 => (intro w hSw; (try dsimp only at hSw); (try go_split_ands); go_simp; first | done | with_reducible rfl)
    (try simp only [List.getElem_toArray]); (try simp only [List.getElem_cons_succ]); (try simp only [List.getElem_cons_zero]); (try simp only [Act.put]); (try simp only [List.setIfInBounds_toArray]); (try simp only [List.set_cons_succ]); (try simp only [List.set_cons_zero])
    refine wpAnyH_take (i := 25) (v := ?v18) rfl (by kernel_rfl) (by kernel_rfl) (by kernel_rfl) (fun _ _ _ h => h) (Or.inl ⟨by rfl, ?hy18⟩) hHeld ?rest18
    case hy18 => (intro w hSw; (try dsimp only at hSw); (try go_split_ands); go_simp; first | done | with_reducible rfl)
    (try simp only [List.getElem_toArray]); (try simp only [List.getElem_cons_succ]); (try simp only [List.getElem_cons_zero]); (try simp only [Act.put]); (try simp only [List.setIfInBounds_toArray]); (try simp only [List.set_cons_succ]); (try simp only [List.set_cons_zero])
    refine wpAnyH_take (i := 26) (v := ?v19) rfl (by kernel_rfl) (by kernel_rfl) (by kernel_rfl) (fun _ _ _ h => h) (Or.inl ⟨by rfl, ?hy19⟩) hHeld ?rest19
    case hy19 => (intro w hSw; (try dsimp only at hSw); (try go_split_ands); go_simp; first | done | with_reducible rfl)
    (try simp only [List.getElem_toArray]); (try simp only [List.getElem_cons_succ]); (try simp only [List.getElem_cons_zero]); (try simp only [Act.put]); (try simp only [List.setIfInBounds_toArray]); (try simp only [List.set_cons_succ]); (try simp only [List.set_cons_zero])
    refine wpAnyH_take (i := 27) (v := ?v20) rfl (by kernel_rfl) (by kernel_rfl) (by kernel_rfl) (fun _ _ _ h => h) (Or.inl ⟨by rfl, ?hy20⟩) hHeld ?rest20
    case hy20 => (intro w hSw; (try dsimp only at hSw); (try go_split_ands); go_simp; first | done | with_reducible rfl)
    (try simp only [List.getElem_toArray]); (try simp only [List.getElem_cons_succ]); (try simp only [List.getElem_cons_zero]); (try simp only [Act.put]); (try simp only [List.setIfInBounds_toArray]); (try simp only [List.set_cons_succ]); (try simp only [List.set_cons_zero])
    refine wpAnyH_take (i := 28) (v := ?v21) rfl (by kernel_rfl) (by kernel_rfl) (by kernel_rfl) (fun _ _ _ h => h) (Or.inl ⟨by rfl, ?hy21⟩) hHeld ?rest21
    case hy21 => (intro w hSw; (try dsimp only at hSw); (try go_split_ands); go_simp; first | done | with_reducible rfl)
    (try simp only [List.getElem_toArray]); (try simp only [List.getElem_cons_succ]); (try simp only [List.getElem_cons_zero]); (try simp only [Act.put]); (try simp only [List.setIfInBounds_toArray]); (try simp only [List.set_cons_succ]); (try simp only [List.set_cons_zero])
    refine wpAnyH_take (i := 29) (v := ?v22) rfl (by kernel_rfl) (by kernel_rfl) (by kernel_rfl) (fun _ _ _ h => h) (Or.inl ⟨by rfl, ?hy22⟩) hHeld ?rest22
    case hy22 => (intro w hSw; (try dsimp only at hSw); (try go_split_ands); go_simp; first | done | with_reducible rfl)
    (try simp only [List.getElem_toArray]); (try simp only [List.getElem_cons_succ]); (try simp only [List.getElem_cons_zero]); (try simp only [Act.put]); (try simp only [List.setIfInBounds_toArray]); (try simp only [List.set_cons_succ]); (try simp only [List.set_cons_zero])
    refine wpAnyH_take (i := 30) (v := ?v23) rfl (by kernel_rfl) (by kernel_rfl) (by kernel_rfl) (fun _ _ _ h => h) (Or.inl ⟨by rfl, ?hy23⟩) hHeld ?rest23
    case hy23 => (intro w hSw; (try dsimp only at hSw); (try go_split_ands); go_simp; first | done | with_reducible rfl)
    (try simp only [List.getElem_toArray]); (try simp only [List.getElem_cons_succ]); (try simp only [List.getElem_cons_zero]); (try simp only [Act.put]); (try simp only [List.setIfInBounds_toArray]); (try simp only [List.set_cons_succ]); (try simp only [List.set_cons_zero])
    refine wpAnyH_take (i := 31) (v := ?v24) rfl (by kernel_rfl) (by kernel_rfl) (by kernel_rfl) (fun _ _ _ h => h) (Or.inl ⟨by rfl, ?hy24⟩) hHeld ?rest24
    case hy24 => (intro w hSw; (try dsimp only at hSw); (try go_split_ands); go_simp; first | done | with_reducible rfl)
    (try simp only [List.getElem_toArray]); (try simp only [List.getElem_cons_succ]); (try simp only [List.getElem_cons_zero]); (try simp only [Act.put]); (try simp only [List.setIfInBounds_toArray]); (try simp only [List.set_cons_succ]); (try simp only [List.set_cons_zero])
    refine wpAnyH_take (i := 32) (v := ?v25) rfl (by kernel_rfl) (by kernel_rfl) (by kernel_rfl) (fun _ _ _ h => h) (Or.inl ⟨by rfl, ?hy25⟩) hHeld ?rest25
    case hy25 => (intro w hSw; (try dsimp only at hSw); (try go_split_ands); go_simp; first | done | with_reducible rfl)
    (try simp only [List.getElem_toArray]); (try simp only [List.getElem_cons_succ]); (try simp only [List.getElem_cons_zero]); (try simp only [Act.put]); (try simp only [List.setIfInBounds_toArray]); (try simp only [List.set_cons_succ]); (try simp only [List.set_cons_zero])
    refine wpAnyH_take (i := 33) rfl (by kernel_rfl) (by kernel_rfl) (by kernel_rfl) (fun _ _ _ h => h) (yieldsIf_load_row (by rfl) 25 _ rfl _ rfl 25 _ (0, 0) _ (fun _ h => h.2.2.2.2.1) Try.underlying25 rfl (by kernel_rfl)) hHeld ?_
    (try simp only [List.getElem_toArray]); (try simp only [List.getElem_cons_succ]); (try simp only [List.getElem_cons_zero]); (try simp only [Act.put]); (try simp only [List.setIfInBounds_toArray]); (try simp only [List.set_cons_succ]); (try simp only [List.set_cons_zero])
    refine wpAnyH_take (i := 35) rfl (by kernel_rfl) (by kernel_rfl) (by kernel_rfl) (fun _ _ _ h => h) (yieldsIf_load_row (by rfl) 32 _ rfl _ rfl 32 _ (0, 0) _ (fun _ h => h.2.2.2.2.2.2.1) Try.underlying32 rfl (by kernel_rfl)) hHeld ?_
    (try simp only [List.getElem_toArray]); (try simp only [List.getElem_cons_succ]); (try simp only [List.getElem_cons_zero]); (try simp only [Act.put]); (try simp only [List.setIfInBounds_toArray]); (try simp only [List.set_cons_succ]); (try simp only [List.set_cons_zero])
    refine wpAnyH_ready (rs := [34]) (by kernel_rfl) (by simp) ?_
    refine AllReadyH.cons rfl (fun K hK => ?_) AllReadyH.nil
    go_simp
    refine (its_c _ tc _ _ _ _ W22 S22.out.oldX (S22.out.g 6 rfl) HZC.out).mono ?_
    rintro e W23 ⟨adi23, capi23, rfl, hT, hb⟩
    have S23 := Lib.hid ((S22.out.call hb).more (TabX.firm _ _ _) hT)
    clear hb hT hHeld
    go_wp2_with fail
    refine hK.out _ _ ⟨(S23.out.at 3 rfl), (S23.out.at 4 rfl), (S23.out.at 5 rfl), (S23.out.at 6 rfl), (S23.out.at 7 rfl), (S23.out.at 8 rfl), (S23.out.at 9 rfl), (S23.out.at 10 rfl), trivial⟩ (fun hHeld => ?_)
    clear hK K
    (try simp only [List.getElem_toArray]); (try simp only [List.getElem_cons_succ]); (try simp only [List.getElem_cons_zero]); (try simp only [Act.put]); (try simp only [List.setIfInBounds_toArray]); (try simp only [List.set_cons_succ]); (try simp only [List.set_cons_zero])
    refine wpAnyH_ready (rs := [36]) (by kernel_rfl) (by simp) ?_
    refine AllReadyH.cons rfl (fun K hK => ?_) AllReadyH.nil
    go_simp
    refine (rsameH_c tc _ _ _ _ _ _ _ _ W23 (S23.out.g 10 rfl) (S23.out.g 7 rfl) HZC.out).mono ?_
    rintro e W24 ⟨rfl, hb⟩
    have S24 := Lib.hid (S23.out.call hb)
    clear hb hHeld
    go_wp2_with fail
    refine hK.out _ _ ⟨(S24.out.at 3 rfl), (S24.out.at 4 rfl), (S24.out.at 5 rfl), (S24.out.at 6 rfl), (S24.out.at 7 rfl), (S24.out.at 8 rfl), (S24.out.at 9 rfl), (S24.out.at 10 rfl), trivial⟩ (fun hHeld => ?_)
    clear hK K
    (try simp only [List.getElem_toArray]); (try simp only [List.getElem_cons_succ]); (try simp only [List.getElem_cons_zero]); (try simp only [Act.put]); (try simp only [List.setIfInBounds_toArray]); (try simp only [List.set_cons_succ]); (try simp only [List.set_cons_zero])
    refine wpAnyH_take (i := 37) (v := ?v26) rfl (by kernel_rfl) (by kernel_rfl) (by kernel_rfl) (fun _ _ _ h => h) (Or.inl ⟨by rfl, ?hy26⟩) hHeld ?rest26
    case hy26 => (intro w hSw; (try dsimp only at hSw); (try go_split_ands); go_simp; first | done | with_reducible rfl)
    (try simp only [List.getElem_toArray]); (try simp only [List.getElem_cons_succ]); (try simp only [List.getElem_cons_zero]); (try simp only [Act.put]); (try simp only [List.setIfInBounds_toArray]); (try simp only [List.set_cons_succ]); (try simp only [List.set_cons_zero])
    refine wpAnyH_take (i := 38) (v := ?v27) rfl (by kernel_rfl) (by kernel_rfl) (by kernel_rfl) (fun _ _ _ h => h) (Or.inl ⟨by rfl, ?hy27⟩) hHeld ?rest27
    case hy27 => (intro w hSw; (try dsimp only at hSw); (try go_split_ands); go_simp; first | done | with_reducible rfl)
    (try simp only [List.getElem_toArray]); (try simp only [List.getElem_cons_succ]); (try simp only [List.getElem_cons_zero]); (try simp only [Act.put]); (try simp only [List.setIfInBounds_toArray]); (try simp only [List.set_cons_succ]); (try simp only [List.set_cons_zero])
    refine wpAnyH_take (i := 39) (v := ?v28) rfl (by kernel_rfl) (by kernel_rfl) (by kernel_rfl) (fun _ _ _ h => h) (Or.inl ⟨by rfl, ?hy28⟩) hHeld ?rest28
    case hy28 => (intro w hSw; (try dsimp only at hSw); (try go_split_ands); go_simp; first | done | with_reducible rfl)
    (try simp only [List.getElem_toArray]); (try simp only [List.getElem_cons_succ]); (try simp only [List.getElem_cons_zero]); (try simp only [Act.put]); (try simp only [List.setIfInBounds_toArray]); (try simp only [List.set_cons_succ]); (try simp only [List.set_cons_zero])
    refine wpAnyH_take (i := 40) rfl (by kernel_rfl) (by kernel_rfl) (by kernel_rfl) (fun _ _ _ h => h) (yieldsIf_load_row (by rfl) 27 _ rfl _ rfl 27 _ (0, 0) _ (fun _ h => h.2.2.2.2.2.1) Try.underlying27 rfl (by kernel_rfl)) hHeld ?_
    (try simp only [List.getElem_toArray]); (try simp only [List.getElem_cons_succ]); (try simp only [List.getElem_cons_zero]); (try simp only [Act.put]); (try simp only [List.setIfInBounds_toArray]); (try simp only [List.set_cons_succ]); (try simp only [List.set_cons_zero])
    refine wpAnyH_take (i := 41) rfl (by kernel_rfl) (by kernel_rfl) (by kernel_rfl) (fun _ _ _ h => h) (yieldsIf_load_row (by rfl) 39 _ rfl _ rfl 39 _ (0, 0) _ (fun _ h => h.2.2.2.2.2.2.2.1) Try.underlying39 rfl (by kernel_rfl)) hHeld ?_
    (try simp only [List.getElem_toArray]); (try simp only [List.getElem_cons_succ]); (try simp only [List.getElem_cons_zero]); (try simp only [Act.put]); (try simp only [List.setIfInBounds_toArray]); (try simp only [List.set_cons_succ]); (try simp only [List.set_cons_zero])
    refine wpAnyH_take (i := 42) (v := ?v29) rfl (by kernel_rfl) (by kernel_rfl) (by kernel_rfl) (fun _ _ _ h => h) (Or.inl ⟨by rfl, ?hy29⟩) hHeld ?rest29
    case hy29 => (intro w hSw; (try dsimp only at hSw); (try go_split_ands); go_simp; first | done | with_reducible rfl)
    (try simp only [List.getElem_toArray]); (try simp only [List.getElem_cons_succ]); (try simp only [List.getElem_cons_zero]); (try simp only [Act.put]); (try simp only [List.setIfInBounds_toArray]); (try simp only [List.set_cons_succ]); (try simp only [List.set_cons_zero])
    refine wpAnyH_take (i := 43) (v := ?v30) rfl (by kernel_rfl) (by kernel_rfl) (by kernel_rfl) (fun _ _ _ h => h) (Or.inl ⟨by rfl, ?hy30⟩) hHeld ?rest30
    case hy30 => (intro w hSw; (try dsimp only at hSw); (try go_split_ands); go_simp; first | done | with_reducible rfl)
    (try simp only [List.getElem_toArray]); (try simp only [List.getElem_cons_succ]); (try simp only [List.getElem_cons_zero]); (try simp only [Act.put]); (try simp only [List.setIfInBounds_toArray]); (try simp only [List.set_cons_succ]); (try simp only [List.set_cons_zero])
    refine wpAnyH_take (i := 44) (v := ?v31) rfl (by kernel_rfl) (by kernel_rfl) (by kernel_rfl) (fun _ _ _ h => h) (Or.inl ⟨by rfl, ?hy31⟩) hHeld ?rest31
    case hy31 => (intro w hSw; (try dsimp only at hSw); (try go_split_ands); go_simp; first | done | with_reducible rfl)
    (try simp only [List.getElem_toArray]); (try simp only [List.getElem_cons_succ]); (try simp only [List.getElem_cons_zero]); (try simp only [Act.put]); (try simp only [List.setIfInBounds_toArray]); (try simp only [List.set_cons_succ]); (try simp only [List.set_cons_zero])
    refine wpAnyH_take (i := 45) (v := ?v32) rfl (by kernel_rfl) (by kernel_rfl) (by kernel_rfl) (fun _ _ _ h => h) (Or.inl ⟨by rfl, ?hy32⟩) hHeld ?rest32
    case hy32 => (intro w hSw; (try dsimp only at hSw); (try go_split_ands); go_simp; first | done | with_reducible rfl)
    (try simp only [List.getElem_toArray]); (try simp only [List.getElem_cons_succ]); (try simp only [List.getElem_cons_zero]); (try simp only [Act.put]); (try simp only [List.setIfInBounds_toArray]); (try simp only [List.set_cons_succ]); (try simp only [List.set_cons_zero])
    refine wpAnyH_take (i := 46) (v := ?v33) rfl (by kernel_rfl) (by kernel_rfl) (by kernel_rfl) (fun _ _ _ h => h) (Or.inl ⟨by rfl, ?hy33⟩) hHeld ?rest33
    case hy33 => (intro w hSw; (try dsimp only at hSw); (try go_split_ands); go_simp; first | done | with_reducible rfl)
    (try simp only [List.getElem_toArray]); (try simp only [List.getElem_cons_succ]); (try simp only [List.getElem_cons_zero]); (try simp only [Act.put]); (try simp only [List.setIfInBounds_toArray]); (try simp only [List.set_cons_succ]); (try simp only [List.set_cons_zero])
    refine wpAnyH_take (i := 47) (v := ?v34) rfl (by kernel_rfl) (by kernel_rfl) (by kernel_rfl) (fun _ _ _ h => h) (Or.inl ⟨by rfl, ?hy34⟩) hHeld ?rest34
    case hy34 => (intro w hSw; (try dsimp only at hSw); (try go_split_ands); go_simp; first | done | with_reducible rfl)
    (try simp only [List.getElem_toArray]); (try simp only [List.getElem_cons_succ]); (try simp only [List.getElem_cons_zero]); (try simp only [Act.put]); (try simp only [List.setIfInBounds_toArray]); (try simp only [List.set_cons_succ]); (try simp only [List.set_cons_zero])
    refine wpAnyH_take (i := 48) (v := ?v35) rfl (by kernel_rfl) (by kernel_rfl) (by kernel_rfl) (fun _ _ _ h => h) (Or.inl ⟨by rfl, ?hy35⟩) hHeld ?rest35
    case hy35 => (intro w hSw; (try dsimp only at hSw); (try go_split_ands); go_simp; first | done | with_reducible rfl)
    (try simp only [List.getElem_toArray]); (try simp only [List.getElem_cons_succ]); (try simp only [List.getElem_cons_zero]); (try simp only [Act.put]); (try simp only [List.setIfInBounds_toArray]); (try simp only [List.set_cons_succ]); (try simp only [List.set_cons_zero])
    refine wpAnyH_done (by kernel_rfl) ?_ _
    go_upto_region 12 with (fail)
    clear heq hyy
    obtain ⟨pl, hpl⟩ : ∃ pl, pl = placeT t p fd := ⟨_, rfl⟩
    obtain ⟨fy, hfy⟩ : ∃ fy, fy = foundT t p fd := ⟨_, rfl⟩
    obtain ⟨hs, hhs⟩ : ∃ hs, hs = hasT t p fd := ⟨_, rfl⟩
    have HPL := Lib.hid hpl
    have HY := Lib.hid hfy
    have HHS := Lib.hid hhs
    clear hpl hfy hhs
    have h_d := (S24.out.at 0 rfl)
    go_wp2_with (first | (refine wpList_load_row rfl 25 _ rfl _ rfl 25 _ (0, 0) _ h_d Try.underlying25 rfl (by kernel_rfl) ?_) | (refine wpList_load_rowG rfl 25 _ rfl _ rfl 25 _ (0, 0) _ h_d Try.underlying25 rfl (by kernel_rfl) ?_))
    refine (pc.get _ t p fd _ _ _ _ W24 S24.out.oldX (S24.out.g 0 rfl) HSZ.out HFB.out.2).mono ?_
    rintro e W25 ⟨hgot, hb⟩
    clear h_d
    have S25 := Lib.hid (S24.out.call hb)
    unfold GotIs at hgot
    subst hgot
    rw [← HPL.out, ← HY.out, ← HHS.out]
    clear hb
    go_upto_region 13 with (fail)
    refine code_fresh1 ?_
    intro W26 hb hA0 hs
    have S26 := Lib.hid (S25.out.new1 hb hA0)
    clear hb hA0 hs
    have h_u := (S26.out.at 2 rfl)
    go_wp2_with (first | (refine wpList_load_row rfl 32 _ rfl _ rfl 32 _ (0, 0) _ h_u Try.underlying32 rfl (by kernel_rfl) ?_) | (refine wpList_load_rowG rfl 32 _ rfl _ rfl 32 _ (0, 0) _ h_u Try.underlying32 rfl (by kernel_rfl) ?_))
    refine (rgetH_c t _ _ _ _ _ (S26.out.g 1 rfl) p fd HFB.out.2).mono ?_
    rintro e W27 ⟨hgot, hb⟩
    clear h_u
    have S27 := Lib.hid (S26.out.call hb)
    unfold GotIs at hgot
    subst hgot
    rw [← HPL.out, ← HY.out, ← HHS.out]
    clear hb
    go_upto_region 14 with (fail)
    refine code_fresh1 ?_
    intro W28 hb hA0 hs
    have S28 := Lib.hid (S27.out.new1 hb hA0)
    clear hb hA0 hs
    have heq : ∀ w, (Op.equalIn 10000 39 (.agg #[.int .i64 fy.ino, .int .i64 fy.pos, .bool fy.rd, .bool fy.wr, .int .i64 fy.refs, .int .i64 fy.lock]) (.agg #[.int .i64 fy.ino, .int .i64 fy.pos, .bool fy.rd, .bool fy.wr, .int .i64 fy.refs, .int .i64 fy.lock])).run Try.prog w = .ok (decide (fy = fy)) w := fun w => eqDescR fy fy w
    have hyy : decide (fy = fy) = true := decide_eq_true rfl
    have hss : (hs == hs) = true := beq_self_eq_true hs
    obtain ⟨cn, hcn⟩ : ∃ cn, cn = countT t p := ⟨_, rfl⟩
    have HCN := Lib.hid hcn
    clear hcn
    have HZE := Lib.hid (show SizeT (setT t fd x) from size_T (size_setT HFB.out.1 fd x) (by decide))
    go_upto_region 14 with (fail)
    have h_d := (S28.out.at 0 rfl)
    have h_u := (S28.out.at 2 rfl)
    have h_x := (S28.out.at 1 rfl)
    have h_v := (S28.out.at 11 rfl)
    have h_w := (S28.out.at 12 rfl)
    refine wp_region_held_drew (S := fun W => W.heap[w.heap.size]? = some (.cells #[.slice ad t.ds.length cap, .slice af t.fs.length capf] 25 (0, 0)) ∧ W.heap[W4.heap.size]? = some (.cells #[.slice adi4 t.ds.length capi4, .slice af t.fs.length capf] 32 (0, 0)) ∧ W.heap[w.heap.size + 1]? = some (.cells #[.int .i64 x.ino, .int .i64 x.pos, .bool x.rd, .bool x.wr, .int .i64 x.refs, .int .i64 x.lock] 27 (0, 0)) ∧ W.heap[W25.heap.size]? = some (.cells #[.int .i64 fy.ino, .int .i64 fy.pos, .bool fy.rd, .bool fy.wr, .int .i64 fy.refs, .int .i64 fy.lock] 27 (0, 0)) ∧ W.heap[W27.heap.size]? = some (.cells #[.int .i64 fy.ino, .int .i64 fy.pos, .bool fy.rd, .bool fy.wr, .int .i64 fy.refs, .int .i64 fy.lock] 39 (0, 0)) ∧ True) (by kernel_rfl) ⟨(S28.out.at 0 rfl), (S28.out.at 2 rfl), (S28.out.at 1 rfl), (S28.out.at 11 rfl), (S28.out.at 12 rfl), trivial⟩ (fun hHeld => ?_)
    clear h_d h_u h_x h_v h_w
    have S29 := Lib.hid (S28.out.call (Below.refl W28.heap.size W28).drew)
    generalize W28.drew = W29 at *
    refine wpAnyH_take (i := 0) (v := ?v36) rfl (by kernel_rfl) (by kernel_rfl) (by kernel_rfl) (fun _ _ _ h => h) (Or.inl ⟨by rfl, ?hy36⟩) hHeld ?rest36
    case hy36 => (intro w hSw; (try dsimp only at hSw); (try go_split_ands); go_simp; first | done | with_reducible rfl)
    (try simp only [List.getElem_toArray]); (try simp only [List.getElem_cons_succ]); (try simp only [List.getElem_cons_zero]); (try simp only [Act.put]); (try simp only [List.setIfInBounds_toArray]); (try simp only [List.set_cons_succ]); (try simp only [List.set_cons_zero])
    refine wpAnyH_take (i := 1) (v := ?v37) rfl (by kernel_rfl) (by kernel_rfl) (by kernel_rfl) (fun _ _ _ h => h) (Or.inl ⟨by rfl, ?hy37⟩) hHeld ?rest37
    case hy37 => (intro w hSw; (try dsimp only at hSw); (try go_split_ands); go_simp; first | done | with_reducible rfl)
    (try simp only [List.getElem_toArray]); (try simp only [List.getElem_cons_succ]); (try simp only [List.getElem_cons_zero]); (try simp only [Act.put]); (try simp only [List.setIfInBounds_toArray]); (try simp only [List.set_cons_succ]); (try simp only [List.set_cons_zero])
    refine wpAnyH_take (i := 2) (v := ?v38) rfl (by kernel_rfl) (by kernel_rfl) (by kernel_rfl) (fun _ _ _ h => h) (Or.inl ⟨by rfl, ?hy38⟩) hHeld ?rest38
    case hy38 => (intro w hSw; (try dsimp only at hSw); (try go_split_ands); go_simp; first | done | with_reducible rfl)
    (try simp only [List.getElem_toArray]); (try simp only [List.getElem_cons_succ]); (try simp only [List.getElem_cons_zero]); (try simp only [Act.put]); (try simp only [List.setIfInBounds_toArray]); (try simp only [List.set_cons_succ]); (try simp only [List.set_cons_zero])
    refine wpAnyH_take (i := 3) (v := ?v39) rfl (by kernel_rfl) (by kernel_rfl) (by kernel_rfl) (fun _ _ _ h => h) (Or.inl ⟨by rfl, ?hy39⟩) hHeld ?rest39
    case hy39 => (intro w hSw; (try dsimp only at hSw); (try go_split_ands); go_simp; first | done | with_reducible rfl)
    (try simp only [List.getElem_toArray]); (try simp only [List.getElem_cons_succ]); (try simp only [List.getElem_cons_zero]); (try simp only [Act.put]); (try simp only [List.setIfInBounds_toArray]); (try simp only [List.set_cons_succ]); (try simp only [List.set_cons_zero])
    refine wpAnyH_take (i := 4) rfl (by kernel_rfl) (by kernel_rfl) (by kernel_rfl) (fun _ _ _ h => h) (yieldsIf_load_row (by rfl) 27 _ rfl _ rfl 27 _ (0, 0) _ (fun _ h => h.2.2.2.1) Try.underlying27 rfl (by kernel_rfl)) hHeld ?_
    (try simp only [List.getElem_toArray]); (try simp only [List.getElem_cons_succ]); (try simp only [List.getElem_cons_zero]); (try simp only [Act.put]); (try simp only [List.setIfInBounds_toArray]); (try simp only [List.set_cons_succ]); (try simp only [List.set_cons_zero])
    refine wpAnyH_take (i := 5) rfl (by kernel_rfl) (by kernel_rfl) (by kernel_rfl) (fun _ _ _ h => h) (yieldsIf_load_row (by rfl) 39 _ rfl _ rfl 39 _ (0, 0) _ (fun _ h => h.2.2.2.2.1) Try.underlying39 rfl (by kernel_rfl)) hHeld ?_
    (try simp only [List.getElem_toArray]); (try simp only [List.getElem_cons_succ]); (try simp only [List.getElem_cons_zero]); (try simp only [Act.put]); (try simp only [List.setIfInBounds_toArray]); (try simp only [List.set_cons_succ]); (try simp only [List.set_cons_zero])
    refine wpAnyH_take (i := 6) (v := ?v40) rfl (by kernel_rfl) (by kernel_rfl) (by kernel_rfl) (fun _ _ _ h => h) (Or.inl ⟨by rfl, ?hy40⟩) hHeld ?rest40
    case hy40 => (intro w hSw; (try dsimp only at hSw); (try go_split_ands); go_simp; first | done | with_reducible rfl)
    (try simp only [List.getElem_toArray]); (try simp only [List.getElem_cons_succ]); (try simp only [List.getElem_cons_zero]); (try simp only [Act.put]); (try simp only [List.setIfInBounds_toArray]); (try simp only [List.set_cons_succ]); (try simp only [List.set_cons_zero])
    refine wpAnyH_take (i := 7) (v := ?v41) rfl (by kernel_rfl) (by kernel_rfl) (by kernel_rfl) (fun _ _ _ h => h) (Or.inl ⟨by rfl, ?hy41⟩) hHeld ?rest41
    case hy41 => (intro w hSw; (try dsimp only at hSw); (try go_split_ands); go_simp; first | done | with_reducible rfl)
    (try simp only [List.getElem_toArray]); (try simp only [List.getElem_cons_succ]); (try simp only [List.getElem_cons_zero]); (try simp only [Act.put]); (try simp only [List.setIfInBounds_toArray]); (try simp only [List.set_cons_succ]); (try simp only [List.set_cons_zero])
    refine wpAnyH_take (i := 8) (v := ?v42) rfl (by kernel_rfl) (by kernel_rfl) (by kernel_rfl) (fun _ _ _ h => h) (Or.inl ⟨by rfl, ?hy42⟩) hHeld ?rest42
    case hy42 => (intro w hSw; (try dsimp only at hSw); (try go_split_ands); go_simp; first | done | with_reducible rfl)
    (try simp only [List.getElem_toArray]); (try simp only [List.getElem_cons_succ]); (try simp only [List.getElem_cons_zero]); (try simp only [Act.put]); (try simp only [List.setIfInBounds_toArray]); (try simp only [List.set_cons_succ]); (try simp only [List.set_cons_zero])
    refine wpAnyH_take (i := 9) (v := ?v43) rfl (by kernel_rfl) (by kernel_rfl) (by kernel_rfl) (fun _ _ _ h => h) (Or.inl ⟨by rfl, ?hy43⟩) hHeld ?rest43
    case hy43 => (intro w hSw; (try dsimp only at hSw); (try go_split_ands); go_simp; first | done | with_reducible rfl)
    (try simp only [List.getElem_toArray]); (try simp only [List.getElem_cons_succ]); (try simp only [List.getElem_cons_zero]); (try simp only [Act.put]); (try simp only [List.setIfInBounds_toArray]); (try simp only [List.set_cons_succ]); (try simp only [List.set_cons_zero])
    refine wpAnyH_take (i := 10) (v := ?v44) rfl (by kernel_rfl) (by kernel_rfl) (by kernel_rfl) (fun _ _ _ h => h) (Or.inl ⟨by rfl, ?hy44⟩) hHeld ?rest44
    case hy44 => (intro w hSw; (try dsimp only at hSw); (try go_split_ands); go_simp; first | done | with_reducible rfl)
    (try simp only [List.getElem_toArray]); (try simp only [List.getElem_cons_succ]); (try simp only [List.getElem_cons_zero]); (try simp only [Act.put]); (try simp only [List.setIfInBounds_toArray]); (try simp only [List.set_cons_succ]); (try simp only [List.set_cons_zero])
    refine wpAnyH_take (i := 11) (v := ?v45) rfl (by kernel_rfl) (by kernel_rfl) (by kernel_rfl) (fun _ _ _ h => h) (Or.inl ⟨by rfl, ?hy45⟩) hHeld ?rest45
    case hy45 => (intro w hSw; (try dsimp only at hSw); (try go_split_ands); go_simp; first | done | with_reducible rfl)
    (try simp only [List.getElem_toArray]); (try simp only [List.getElem_cons_succ]); (try simp only [List.getElem_cons_zero]); (try simp only [Act.put]); (try simp only [List.setIfInBounds_toArray]); (try simp only [List.set_cons_succ]); (try simp only [List.set_cons_zero])
    refine wpAnyH_take (i := 12) (v := ?v46) rfl (by kernel_rfl) (by kernel_rfl) (by kernel_rfl) (fun _ _ _ h => h) (Or.inl ⟨by rfl, ?hy46⟩) hHeld ?rest46
    case hy46 => (intro w hSw; (try dsimp only at hSw); (try go_split_ands); go_simp; first | done | with_reducible rfl)
    (try simp only [List.getElem_toArray]); (try simp only [List.getElem_cons_succ]); (try simp only [List.getElem_cons_zero]); (try simp only [Act.put]); (try simp only [List.setIfInBounds_toArray]); (try simp only [List.set_cons_succ]); (try simp only [List.set_cons_zero])
    refine wpAnyH_take (i := 13) (v := ?v47) rfl (by kernel_rfl) (by kernel_rfl) (by kernel_rfl) (fun _ _ _ h => h) (Or.inl ⟨by rfl, ?hy47⟩) hHeld ?rest47
    case hy47 => (intro w hSw; (try dsimp only at hSw); (try go_split_ands); go_simp; first | done | with_reducible rfl)
    (try simp only [List.getElem_toArray]); (try simp only [List.getElem_cons_succ]); (try simp only [List.getElem_cons_zero]); (try simp only [Act.put]); (try simp only [List.setIfInBounds_toArray]); (try simp only [List.set_cons_succ]); (try simp only [List.set_cons_zero])
    refine wpAnyH_take (i := 14) rfl (by kernel_rfl) (by kernel_rfl) (by kernel_rfl) (fun _ _ _ h => h) (yieldsIf_load_row (by rfl) 25 _ rfl _ rfl 25 _ (0, 0) _ (fun _ h => h.1) Try.underlying25 rfl (by kernel_rfl)) hHeld ?_
    (try simp only [List.getElem_toArray]); (try simp only [List.getElem_cons_succ]); (try simp only [List.getElem_cons_zero]); (try simp only [Act.put]); (try simp only [List.setIfInBounds_toArray]); (try simp only [List.set_cons_succ]); (try simp only [List.set_cons_zero])
    refine wpAnyH_take (i := 15) (v := ?v48) rfl (by kernel_rfl) (by kernel_rfl) (by kernel_rfl) (fun _ _ _ h => h) (Or.inl ⟨by rfl, ?hy48⟩) hHeld ?rest48
    case hy48 => (intro w hSw; (try dsimp only at hSw); (try go_split_ands); go_simp; first | done | with_reducible rfl)
    (try simp only [List.getElem_toArray]); (try simp only [List.getElem_cons_succ]); (try simp only [List.getElem_cons_zero]); (try simp only [Act.put]); (try simp only [List.setIfInBounds_toArray]); (try simp only [List.set_cons_succ]); (try simp only [List.set_cons_zero])
    refine wpAnyH_take (i := 17) rfl (by kernel_rfl) (by kernel_rfl) (by kernel_rfl) (fun _ _ _ h => h) (yieldsIf_load_row (by rfl) 32 _ rfl _ rfl 32 _ (0, 0) _ (fun _ h => h.2.1) Try.underlying32 rfl (by kernel_rfl)) hHeld ?_
    (try simp only [List.getElem_toArray]); (try simp only [List.getElem_cons_succ]); (try simp only [List.getElem_cons_zero]); (try simp only [Act.put]); (try simp only [List.setIfInBounds_toArray]); (try simp only [List.set_cons_succ]); (try simp only [List.set_cons_zero])
    refine wpAnyH_take (i := 18) (v := ?v49) rfl (by kernel_rfl) (by kernel_rfl) (by kernel_rfl) (fun _ _ _ h => h) (Or.inl ⟨by rfl, ?hy49⟩) hHeld ?rest49
    case hy49 => (intro w hSw; (try dsimp only at hSw); (try go_split_ands); go_simp; first | done | with_reducible rfl)
    (try simp only [List.getElem_toArray]); (try simp only [List.getElem_cons_succ]); (try simp only [List.getElem_cons_zero]); (try simp only [Act.put]); (try simp only [List.setIfInBounds_toArray]); (try simp only [List.set_cons_succ]); (try simp only [List.set_cons_zero])
    refine wpAnyH_ready (rs := [16]) (by kernel_rfl) (by simp) ?_
    refine AllReadyH.cons rfl (fun K hK => ?_) AllReadyH.nil
    go_simp
    refine (pc.count _ t p _ _ _ _ W29 S29.out.oldX (S29.out.g 0 rfl) HSZ.out HFB.out.2).mono ?_
    rintro e W30 ⟨rfl, hb⟩
    rw [← HCN.out]
    have S30 := Lib.hid (S29.out.call hb)
    clear hb hHeld
    go_wp2_with fail
    refine hK.out _ _ ⟨(S30.out.at 0 rfl), (S30.out.at 2 rfl), (S30.out.at 1 rfl), (S30.out.at 11 rfl), (S30.out.at 12 rfl), trivial⟩ (fun hHeld => ?_)
    clear hK K
    (try simp only [List.getElem_toArray]); (try simp only [List.getElem_cons_succ]); (try simp only [List.getElem_cons_zero]); (try simp only [Act.put]); (try simp only [List.setIfInBounds_toArray]); (try simp only [List.set_cons_succ]); (try simp only [List.set_cons_zero])
    refine wpAnyH_ready (rs := [19]) (by kernel_rfl) (by simp) ?_
    refine AllReadyH.cons rfl (fun K hK => ?_) AllReadyH.nil
    go_simp
    refine (rcount_c t _ _ _ _ _ (S30.out.g 1 rfl) p HSZ.out).mono ?_
    rintro e W31 ⟨rfl, hb⟩
    rw [← HCN.out]
    have S31 := Lib.hid (S30.out.call hb)
    clear hb hHeld
    go_wp2_with fail
    refine hK.out _ _ ⟨(S31.out.at 0 rfl), (S31.out.at 2 rfl), (S31.out.at 1 rfl), (S31.out.at 11 rfl), (S31.out.at 12 rfl), trivial⟩ (fun hHeld => ?_)
    clear hK K
    (try simp only [List.getElem_toArray]); (try simp only [List.getElem_cons_succ]); (try simp only [List.getElem_cons_zero]); (try simp only [Act.put]); (try simp only [List.setIfInBounds_toArray]); (try simp only [List.set_cons_succ]); (try simp only [List.set_cons_zero])
    refine wpAnyH_take (i := 20) (v := ?v50) rfl (by kernel_rfl) (by kernel_rfl) (by kernel_rfl) (fun _ _ _ h => h) (Or.inl ⟨by rfl, ?hy50⟩) hHeld ?rest50
    case hy50 => (intro w hSw; (try dsimp only at hSw); (try go_split_ands); go_simp; first | done | with_reducible rfl)
    (try simp only [List.getElem_toArray]); (try simp only [List.getElem_cons_succ]); (try simp only [List.getElem_cons_zero]); (try simp only [Act.put]); (try simp only [List.setIfInBounds_toArray]); (try simp only [List.set_cons_succ]); (try simp only [List.set_cons_zero])
    refine wpAnyH_take (i := 21) (v := ?v51) rfl (by kernel_rfl) (by kernel_rfl) (by kernel_rfl) (fun _ _ _ h => h) (Or.inl ⟨by rfl, ?hy51⟩) hHeld ?rest51
    case hy51 => (intro w hSw; (try dsimp only at hSw); (try go_split_ands); go_simp; first | done | with_reducible rfl)
    (try simp only [List.getElem_toArray]); (try simp only [List.getElem_cons_succ]); (try simp only [List.getElem_cons_zero]); (try simp only [Act.put]); (try simp only [List.setIfInBounds_toArray]); (try simp only [List.set_cons_succ]); (try simp only [List.set_cons_zero])
    refine wpAnyH_take (i := 22) (v := ?v52) rfl (by kernel_rfl) (by kernel_rfl) (by kernel_rfl) (fun _ _ _ h => h) (Or.inl ⟨by rfl, ?hy52⟩) hHeld ?rest52
    case hy52 => (intro w hSw; (try dsimp only at hSw); (try go_split_ands); go_simp; first | done | with_reducible rfl)
    (try simp only [List.getElem_toArray]); (try simp only [List.getElem_cons_succ]); (try simp only [List.getElem_cons_zero]); (try simp only [Act.put]); (try simp only [List.setIfInBounds_toArray]); (try simp only [List.set_cons_succ]); (try simp only [List.set_cons_zero])
    refine wpAnyH_take (i := 23) rfl (by kernel_rfl) (by kernel_rfl) (by kernel_rfl) (fun _ _ _ h => h) (yieldsIf_load_row (by rfl) 25 _ rfl _ rfl 25 _ (0, 0) _ (fun _ h => h.1) Try.underlying25 rfl (by kernel_rfl)) hHeld ?_
    (try simp only [List.getElem_toArray]); (try simp only [List.getElem_cons_succ]); (try simp only [List.getElem_cons_zero]); (try simp only [Act.put]); (try simp only [List.setIfInBounds_toArray]); (try simp only [List.set_cons_succ]); (try simp only [List.set_cons_zero])
    refine wpAnyH_take (i := 24) (v := ?v53) rfl (by kernel_rfl) (by kernel_rfl) (by kernel_rfl) (fun _ _ _ h => h) (Or.inl ⟨by rfl, ?hy53⟩) hHeld ?rest53
    case hy53 => (intro w hSw; (try dsimp only at hSw); (try go_split_ands); go_simp; first | done | with_reducible rfl)
    (try simp only [List.getElem_toArray]); (try simp only [List.getElem_cons_succ]); (try simp only [List.getElem_cons_zero]); (try simp only [Act.put]); (try simp only [List.setIfInBounds_toArray]); (try simp only [List.set_cons_succ]); (try simp only [List.set_cons_zero])
    refine wpAnyH_take (i := 25) rfl (by kernel_rfl) (by kernel_rfl) (by kernel_rfl) (fun _ _ _ h => h) (yieldsIf_load_row (by rfl) 27 _ rfl _ rfl 27 _ (0, 0) _ (fun _ h => h.2.2.1) Try.underlying27 rfl (by kernel_rfl)) hHeld ?_
    (try simp only [List.getElem_toArray]); (try simp only [List.getElem_cons_succ]); (try simp only [List.getElem_cons_zero]); (try simp only [Act.put]); (try simp only [List.setIfInBounds_toArray]); (try simp only [List.set_cons_succ]); (try simp only [List.set_cons_zero])
    refine wpAnyH_take (i := 28) rfl (by kernel_rfl) (by kernel_rfl) (by kernel_rfl) (fun _ _ _ h => h) (yieldsIf_load_row (by rfl) 32 _ rfl _ rfl 32 _ (0, 0) _ (fun _ h => h.2.1) Try.underlying32 rfl (by kernel_rfl)) hHeld ?_
    (try simp only [List.getElem_toArray]); (try simp only [List.getElem_cons_succ]); (try simp only [List.getElem_cons_zero]); (try simp only [Act.put]); (try simp only [List.setIfInBounds_toArray]); (try simp only [List.set_cons_succ]); (try simp only [List.set_cons_zero])
    refine wpAnyH_take (i := 29) (v := ?v54) rfl (by kernel_rfl) (by kernel_rfl) (by kernel_rfl) (fun _ _ _ h => h) (Or.inl ⟨by rfl, ?hy54⟩) hHeld ?rest54
    case hy54 => (intro w hSw; (try dsimp only at hSw); (try go_split_ands); go_simp; first | done | with_reducible rfl)
    (try simp only [List.getElem_toArray]); (try simp only [List.getElem_cons_succ]); (try simp only [List.getElem_cons_zero]); (try simp only [Act.put]); (try simp only [List.setIfInBounds_toArray]); (try simp only [List.set_cons_succ]); (try simp only [List.set_cons_zero])
    refine wpAnyH_take (i := 30) rfl (by kernel_rfl) (by kernel_rfl) (by kernel_rfl) (fun _ _ _ h => h) (yieldsIf_load_row (by rfl) 27 _ rfl _ rfl 27 _ (0, 0) _ (fun _ h => h.2.2.1) Try.underlying27 rfl (by kernel_rfl)) hHeld ?_
    (try simp only [List.getElem_toArray]); (try simp only [List.getElem_cons_succ]); (try simp only [List.getElem_cons_zero]); (try simp only [Act.put]); (try simp only [List.setIfInBounds_toArray]); (try simp only [List.set_cons_succ]); (try simp only [List.set_cons_zero])
    refine wpAnyH_ready (rs := [26]) (by kernel_rfl) (by simp) ?_
    refine AllReadyH.cons rfl (fun K hK => ?_) AllReadyH.nil
    go_simp
    refine (pc.set _ t fd x _ _ _ _ W31 S31.out.oldX (S31.out.g 0 rfl) HSZ.out HFB.out.2).mono ?_
    rintro e W32 ⟨vd7, vf7, rfl, hT7, hb⟩
    obtain ⟨ad7, cap7, af7, capf7, rfl, rfl⟩ := hT7.form
    have S32 := Lib.hid ((S31.out.call hb).more (TabX.firm _ _ _) hT7)
    clear hb hHeld
    go_wp2_with fail
    refine hK.out _ _ ⟨(S32.out.at 0 rfl), (S32.out.at 2 rfl), (S32.out.at 1 rfl), (S32.out.at 11 rfl), (S32.out.at 12 rfl), trivial⟩ (fun hHeld => ?_)
    clear hK K
    (try simp only [List.getElem_toArray]); (try simp only [List.getElem_cons_succ]); (try simp only [List.getElem_cons_zero]); (try simp only [Act.put]); (try simp only [List.setIfInBounds_toArray]); (try simp only [List.set_cons_succ]); (try simp only [List.set_cons_zero])
    refine wpAnyH_ready (rs := [27]) (by kernel_rfl) (by simp) ?_
    refine AllReadyH.cons rfl (fun K hK => ?_) AllReadyH.nil
    go_simp
    refine (its_c _ (setT t fd x) _ _ _ _ W32 S32.out.oldX (S32.out.g 11 rfl) HZE.out).mono ?_
    rintro e W33 ⟨adi33, capi33, rfl, hT, hb⟩
    have S33 := Lib.hid ((S32.out.call hb).more (TabX.firm _ _ _) hT)
    clear hb hT hHeld
    go_wp2_with fail
    refine hK.out _ _ ⟨(S33.out.at 0 rfl), (S33.out.at 2 rfl), (S33.out.at 1 rfl), (S33.out.at 11 rfl), (S33.out.at 12 rfl), trivial⟩ (fun hHeld => ?_)
    clear hK K
    (try simp only [List.getElem_toArray]); (try simp only [List.getElem_cons_succ]); (try simp only [List.getElem_cons_zero]); (try simp only [Act.put]); (try simp only [List.setIfInBounds_toArray]); (try simp only [List.set_cons_succ]); (try simp only [List.set_cons_zero])
    refine wpAnyH_ready (rs := [31]) (by kernel_rfl) (by simp) ?_
    refine AllReadyH.cons rfl (fun K hK => ?_) AllReadyH.nil
    go_simp
    refine (rsetH_c _ t fd x _ _ _ _ W33 S33.out.oldX (S33.out.g 1 rfl) HSZ.out).mono ?_
    rintro e W34 ⟨vd8, vf8, rfl, hT8, hb⟩
    obtain ⟨ad8, cap8, af8, capf8, rfl, rfl⟩ := hT8.form
    have S34 := Lib.hid ((S33.out.call hb).more (TabX.firm _ _ _) hT8)
    clear hb hHeld
    go_wp2_with fail
    refine hK.out _ _ ⟨(S34.out.at 0 rfl), (S34.out.at 2 rfl), (S34.out.at 1 rfl), (S34.out.at 11 rfl), (S34.out.at 12 rfl), trivial⟩ (fun hHeld => ?_)
    clear hK K
    (try simp only [List.getElem_toArray]); (try simp only [List.getElem_cons_succ]); (try simp only [List.getElem_cons_zero]); (try simp only [Act.put]); (try simp only [List.setIfInBounds_toArray]); (try simp only [List.set_cons_succ]); (try simp only [List.set_cons_zero])
    refine wpAnyH_ready (rs := [32]) (by kernel_rfl) (by simp) ?_
    refine AllReadyH.cons rfl (fun K hK => ?_) AllReadyH.nil
    go_simp
    refine (rsameH_c (setT t fd x) _ _ _ _ _ _ _ _ W34 (S34.out.g 12 rfl) (S34.out.g 13 rfl) HZE.out).mono ?_
    rintro e W35 ⟨rfl, hb⟩
    have S35 := Lib.hid (S34.out.call hb)
    clear hb hHeld
    go_wp2_with fail
    refine hK.out _ _ ⟨(S35.out.at 0 rfl), (S35.out.at 2 rfl), (S35.out.at 1 rfl), (S35.out.at 11 rfl), (S35.out.at 12 rfl), trivial⟩ (fun hHeld => ?_)
    clear hK K
    (try simp only [List.getElem_toArray]); (try simp only [List.getElem_cons_succ]); (try simp only [List.getElem_cons_zero]); (try simp only [Act.put]); (try simp only [List.setIfInBounds_toArray]); (try simp only [List.set_cons_succ]); (try simp only [List.set_cons_zero])
    refine wpAnyH_take (i := 33) (v := ?v55) rfl (by kernel_rfl) (by kernel_rfl) (by kernel_rfl) (fun _ _ _ h => h) (Or.inl ⟨by rfl, ?hy55⟩) hHeld ?rest55
    case hy55 => (intro w hSw; (try dsimp only at hSw); (try go_split_ands); go_simp; first | done | with_reducible rfl)
    (try simp only [List.getElem_toArray]); (try simp only [List.getElem_cons_succ]); (try simp only [List.getElem_cons_zero]); (try simp only [Act.put]); (try simp only [List.setIfInBounds_toArray]); (try simp only [List.set_cons_succ]); (try simp only [List.set_cons_zero])
    refine wpAnyH_take (i := 34) (v := ?v56) rfl (by kernel_rfl) (by kernel_rfl) (by kernel_rfl) (fun _ _ _ h => h) (Or.inl ⟨by rfl, ?hy56⟩) hHeld ?rest56
    case hy56 => (intro w hSw; (try dsimp only at hSw); (try go_split_ands); go_simp; first | done | with_reducible rfl)
    (try simp only [List.getElem_toArray]); (try simp only [List.getElem_cons_succ]); (try simp only [List.getElem_cons_zero]); (try simp only [Act.put]); (try simp only [List.setIfInBounds_toArray]); (try simp only [List.set_cons_succ]); (try simp only [List.set_cons_zero])
    refine wpAnyH_take (i := 35) rfl (by kernel_rfl) (by kernel_rfl) (by kernel_rfl) (fun _ _ _ h => h) (yieldsIf_load_row (by rfl) 25 _ rfl _ rfl 25 _ (0, 0) _ (fun _ h => h.1) Try.underlying25 rfl (by kernel_rfl)) hHeld ?_
    (try simp only [List.getElem_toArray]); (try simp only [List.getElem_cons_succ]); (try simp only [List.getElem_cons_zero]); (try simp only [Act.put]); (try simp only [List.setIfInBounds_toArray]); (try simp only [List.set_cons_succ]); (try simp only [List.set_cons_zero])
    refine wpAnyH_take (i := 37) rfl (by kernel_rfl) (by kernel_rfl) (by kernel_rfl) (fun _ _ _ h => h) (yieldsIf_load_row (by rfl) 32 _ rfl _ rfl 32 _ (0, 0) _ (fun _ h => h.2.1) Try.underlying32 rfl (by kernel_rfl)) hHeld ?_
    (try simp only [List.getElem_toArray]); (try simp only [List.getElem_cons_succ]); (try simp only [List.getElem_cons_zero]); (try simp only [Act.put]); (try simp only [List.setIfInBounds_toArray]); (try simp only [List.set_cons_succ]); (try simp only [List.set_cons_zero])
    refine wpAnyH_ready (rs := [36]) (by kernel_rfl) (by simp) ?_
    refine AllReadyH.cons rfl (fun K hK => ?_) AllReadyH.nil
    go_simp
    refine (its_c _ t _ _ _ _ W35 S35.out.oldX (S35.out.g 0 rfl) HSZ.out).mono ?_
    rintro e W36 ⟨adi36, capi36, rfl, hT, hb⟩
    have S36 := Lib.hid ((S35.out.call hb).more (TabX.firm _ _ _) hT)
    clear hb hT hHeld
    go_wp2_with fail
    refine hK.out _ _ ⟨(S36.out.at 0 rfl), (S36.out.at 2 rfl), (S36.out.at 1 rfl), (S36.out.at 11 rfl), (S36.out.at 12 rfl), trivial⟩ (fun hHeld => ?_)
    clear hK K
    (try simp only [List.getElem_toArray]); (try simp only [List.getElem_cons_succ]); (try simp only [List.getElem_cons_zero]); (try simp only [Act.put]); (try simp only [List.setIfInBounds_toArray]); (try simp only [List.set_cons_succ]); (try simp only [List.set_cons_zero])
    refine wpAnyH_ready (rs := [38]) (by kernel_rfl) (by simp) ?_
    refine AllReadyH.cons rfl (fun K hK => ?_) AllReadyH.nil
    go_simp
    refine (rsameH_c t _ _ _ _ _ _ _ _ W36 (S36.out.g 14 rfl) (S36.out.g 1 rfl) HSZ.out).mono ?_
    rintro e W37 ⟨rfl, hb⟩
    have S37 := Lib.hid (S36.out.call hb)
    clear hb hHeld
    go_wp2_with fail
    refine hK.out _ _ ⟨(S37.out.at 0 rfl), (S37.out.at 2 rfl), (S37.out.at 1 rfl), (S37.out.at 11 rfl), (S37.out.at 12 rfl), trivial⟩ (fun hHeld => ?_)
    clear hK K
    (try simp only [List.getElem_toArray]); (try simp only [List.getElem_cons_succ]); (try simp only [List.getElem_cons_zero]); (try simp only [Act.put]); (try simp only [List.setIfInBounds_toArray]); (try simp only [List.set_cons_succ]); (try simp only [List.set_cons_zero])
    refine wpAnyH_take (i := 39) (v := ?v57) rfl (by kernel_rfl) (by kernel_rfl) (by kernel_rfl) (fun _ _ _ h => h) (Or.inl ⟨by rfl, ?hy57⟩) hHeld ?rest57
    case hy57 => (intro w hSw; (try dsimp only at hSw); (try go_split_ands); go_simp; first | done | with_reducible rfl)
    (try simp only [List.getElem_toArray]); (try simp only [List.getElem_cons_succ]); (try simp only [List.getElem_cons_zero]); (try simp only [Act.put]); (try simp only [List.setIfInBounds_toArray]); (try simp only [List.set_cons_succ]); (try simp only [List.set_cons_zero])
    refine wpAnyH_take (i := 40) (v := ?v58) rfl (by kernel_rfl) (by kernel_rfl) (by kernel_rfl) (fun _ _ _ h => h) (Or.inl ⟨by rfl, ?hy58⟩) hHeld ?rest58
    case hy58 => (intro w hSw; (try dsimp only at hSw); (try go_split_ands); go_simp; first | done | with_reducible rfl)
    (try simp only [List.getElem_toArray]); (try simp only [List.getElem_cons_succ]); (try simp only [List.getElem_cons_zero]); (try simp only [Act.put]); (try simp only [List.setIfInBounds_toArray]); (try simp only [List.set_cons_succ]); (try simp only [List.set_cons_zero])
    refine wpAnyH_done (by kernel_rfl) ?_ _
    go_wp2_with fail
    go_ret
    exact ⟨rfl, S37.out.bel⟩
end Go.Proofs.Ytbcmhjgjcknfmaa
