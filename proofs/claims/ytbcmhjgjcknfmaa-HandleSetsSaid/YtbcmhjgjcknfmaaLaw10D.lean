/-
  Whether a table is right: HandleRight.
-/
import Derived.Test.YtbcmhjgjcknfmaaLaw10B
import Derived.Test.YtbcmhjgjcknfmaaHdlRefE
namespace Go.Proofs.Ytbcmhjgjcknfmaa
open Go.RowKit Go.Shelf
attribute [local go_sem ↓] Go.wp_at_zero Go.wp_at_succ

theorem size_new (n : Int) : SizeT (newT n) := by
  unfold newT
  split
  · exact ⟨Nat.zero_le _, Nat.zero_le _, fun r hr => by cases hr⟩
  · refine ⟨Nat.zero_le _, ?_, fun r hr => ?_⟩
    · show (List.replicate _ _).length ≤ 20
      rw [List.length_replicate]
      omega
    · rw [(List.mem_replicate.1 hr).2, List.length_replicate]
      decide
set_option maxRecDepth 100000 in
set_option maxHeartbeats 4000000 in
theorem right_l (pc : PH) (t : TabL) (n : Int) (ad af : Option Addr) (cap capf : Nat) (w : World) (hT : TabX t (.slice ad t.ds.length cap) (.slice af t.fs.length capf) (fun _ => False) w) :
    Calls Try.prog 4 #[tabV ad t.ds.length cap af t.fs.length capf, .int .i64 n] w fun e w' => e = .returned (.bool true) ∧ Below w.heap.size w w' := by
  have S0 := Lib.hid (Sf.start (G := [TabX t (.slice ad t.ds.length cap) (.slice af t.fs.length capf)]) (fun _ h => h.elim) (th1 (TabX.firm _ _ _) hT))
  clear hT
  go_enter Try.func4, Try.ntmps4
  go_upto_region 1 with (fail)
  refine code_fresh1 ?_
  intro W1 hb hA0 hs
  have S1 := Lib.hid (S0.out.new1 hb hA0)
  clear hb hA0 hs
  have h_d := (S1.out.at 0 rfl)
  go_wp2_with (first | (refine wpList_load_row rfl 25 _ rfl _ rfl 25 _ (0, 0) _ h_d Try.underlying25 rfl (by kernel_rfl) ?_) | (refine wpList_load_rowG rfl 25 _ rfl _ rfl 25 _ (0, 0) _ h_d Try.underlying25 rfl (by kernel_rfl) ?_))
  refine (small_c t _ _ _ _ _ (S1.out.g 0 rfl)).mono ?_
  rintro e W2 ⟨rfl, hb⟩
  clear h_d
  have S2 := Lib.hid (S1.out.call hb)
  clear hb
  cases hfb : smallB t with
  | false =>
    clear hfb
    go_wp2_with fail
    refine (pc.shown W2).mono ?_
    rintro e W3 ⟨rfl, hb⟩
    have S3 := Lib.hid (S2.out.call hb)
    clear hb
    go_wp2_with fail
    go_ret
    exact ⟨rfl, S3.out.bel⟩
  | true =>
    have HSZ := Lib.hid (size_T (small_B.1 hfb) (by decide))
    clear hfb
    go_wp2_with fail
    refine (pc.shown W2).mono ?_
    rintro e W3 ⟨rfl, hb⟩
    have S3 := Lib.hid (S2.out.call hb)
    clear hb
    obtain ⟨rb, hrb⟩ : ∃ rb, rb = rightB t := ⟨_, rfl⟩
    have HRB := Lib.hid hrb
    clear hrb
    have hbb : (rb == rb) = true := beq_self_eq_true rb
    go_upto_region 3 with (fail)
    have h_d := (S3.out.at 0 rfl)
    refine wp_region_held_drew (S := fun W => W.heap[w.heap.size]? = some (.cells #[.slice ad t.ds.length cap, .slice af t.fs.length capf] 25 (0, 0)) ∧ True) (by kernel_rfl) ⟨(S3.out.at 0 rfl), trivial⟩ (fun hHeld => ?_)
    clear h_d
    have S4 := Lib.hid (S3.out.call (Below.refl W3.heap.size W3).drew)
    generalize W3.drew = W4 at *
    refine wpAnyH_take (i := 0) rfl (by kernel_rfl) (by kernel_rfl) (by kernel_rfl) (fun _ _ _ h => h) (yieldsIf_load_row (by rfl) 25 _ rfl _ rfl 25 _ (0, 0) _ (fun _ h => h.1) Try.underlying25 rfl (by kernel_rfl)) hHeld ?_
    (try simp only [List.getElem_toArray]); (try simp only [List.getElem_cons_succ]); (try simp only [List.getElem_cons_zero]); (try simp only [Act.put]); (try simp only [List.setIfInBounds_toArray]); (try simp only [List.set_cons_succ]); (try simp only [List.set_cons_zero])
    refine wpAnyH_take (i := 2) rfl (by kernel_rfl) (by kernel_rfl) (by kernel_rfl) (fun _ _ _ h => h) (yieldsIf_load_row (by rfl) 25 _ rfl _ rfl 25 _ (0, 0) _ (fun _ h => h.1) Try.underlying25 rfl (by kernel_rfl)) hHeld ?_
    (try simp only [List.getElem_toArray]); (try simp only [List.getElem_cons_succ]); (try simp only [List.getElem_cons_zero]); (try simp only [Act.put]); (try simp only [List.setIfInBounds_toArray]); (try simp only [List.set_cons_succ]); (try simp only [List.set_cons_zero])
    refine wpAnyH_ready (rs := [1]) (by kernel_rfl) (by simp) ?_
    refine AllReadyH.cons rfl (fun K hK => ?_) AllReadyH.nil
    go_simp
    refine (pc.right _ t _ _ _ _ W4 S4.out.oldX (S4.out.g 0 rfl) HSZ.out).mono ?_
    rintro e W5 ⟨rfl, hb⟩
    rw [← HRB.out]
    have S5 := Lib.hid (S4.out.call hb)
    clear hb hHeld
    go_wp2_with fail
    refine hK.out _ _ ⟨(S5.out.at 0 rfl), trivial⟩ (fun hHeld => ?_)
    clear hK K
    (try simp only [List.getElem_toArray]); (try simp only [List.getElem_cons_succ]); (try simp only [List.getElem_cons_zero]); (try simp only [Act.put]); (try simp only [List.setIfInBounds_toArray]); (try simp only [List.set_cons_succ]); (try simp only [List.set_cons_zero])
    refine wpAnyH_ready (rs := [3]) (by kernel_rfl) (by simp) ?_
    refine AllReadyH.cons rfl (fun K hK => ?_) AllReadyH.nil
    go_simp
    refine (its_c _ t _ _ _ _ W5 S5.out.oldX (S5.out.g 0 rfl) HSZ.out).mono ?_
    rintro e W6 ⟨ad2, cap2, rfl, hT2, hb⟩
    have S6 := Lib.hid ((S5.out.call hb).more (TabX.firm _ _ _) hT2)
    clear hb hHeld
    go_wp2_with fail
    refine hK.out _ _ ⟨(S6.out.at 0 rfl), trivial⟩ (fun hHeld => ?_)
    clear hK K
    (try simp only [List.getElem_toArray]); (try simp only [List.getElem_cons_succ]); (try simp only [List.getElem_cons_zero]); (try simp only [Act.put]); (try simp only [List.setIfInBounds_toArray]); (try simp only [List.set_cons_succ]); (try simp only [List.set_cons_zero])
    refine wpAnyH_ready (rs := [4]) (by kernel_rfl) (by simp) ?_
    refine AllReadyH.cons rfl (fun K hK => ?_) AllReadyH.nil
    go_simp
    refine (rrightH_c t _ _ _ _ W6 (S6.out.g 1 rfl) HSZ.out).mono ?_
    rintro e W7 ⟨rfl, hb⟩
    rw [← HRB.out]
    have S7 := Lib.hid (S6.out.call hb)
    clear hb hHeld
    go_wp2_with fail
    refine hK.out _ _ ⟨(S7.out.at 0 rfl), trivial⟩ (fun hHeld => ?_)
    clear hK K
    (try simp only [List.getElem_toArray]); (try simp only [List.getElem_cons_succ]); (try simp only [List.getElem_cons_zero]); (try simp only [Act.put]); (try simp only [List.setIfInBounds_toArray]); (try simp only [List.set_cons_succ]); (try simp only [List.set_cons_zero])
    refine wpAnyH_take (i := 5) (v := ?v1) rfl (by kernel_rfl) (by kernel_rfl) (by kernel_rfl) (fun _ _ _ h => h) (Or.inl ⟨by rfl, ?hy1⟩) hHeld ?rest1
    case hy1 => (intro w hSw; (try dsimp only at hSw); (try go_split_ands); go_simp; first | done | with_reducible rfl)
    (try simp only [List.getElem_toArray]); (try simp only [List.getElem_cons_succ]); (try simp only [List.getElem_cons_zero]); (try simp only [Act.put]); (try simp only [List.setIfInBounds_toArray]); (try simp only [List.set_cons_succ]); (try simp only [List.set_cons_zero])
    refine wpAnyH_take (i := 6) (v := ?v2) rfl (by kernel_rfl) (by kernel_rfl) (by kernel_rfl) (fun _ _ _ h => h) (Or.inl ⟨by rfl, ?hy2⟩) hHeld ?rest2
    case hy2 => (intro w hSw; (try dsimp only at hSw); (try go_split_ands); go_simp; first | done | with_reducible rfl)
    (try simp only [List.getElem_toArray]); (try simp only [List.getElem_cons_succ]); (try simp only [List.getElem_cons_zero]); (try simp only [Act.put]); (try simp only [List.setIfInBounds_toArray]); (try simp only [List.set_cons_succ]); (try simp only [List.set_cons_zero])
    refine wpAnyH_take (i := 7) (v := ?v3) rfl (by kernel_rfl) (by kernel_rfl) (by kernel_rfl) (fun _ _ _ h => h) (Or.inl ⟨by rfl, ?hy3⟩) hHeld ?rest3
    case hy3 => (intro w hSw; (try dsimp only at hSw); (try go_split_ands); go_simp; first | done | with_reducible rfl)
    (try simp only [List.getElem_toArray]); (try simp only [List.getElem_cons_succ]); (try simp only [List.getElem_cons_zero]); (try simp only [Act.put]); (try simp only [List.setIfInBounds_toArray]); (try simp only [List.set_cons_succ]); (try simp only [List.set_cons_zero])
    refine wpAnyH_take (i := 10) (v := ?v4) rfl (by kernel_rfl) (by kernel_rfl) (by kernel_rfl) (fun _ _ _ h => h) (Or.inl ⟨by rfl, ?hy4⟩) hHeld ?rest4
    case hy4 => (intro w hSw; (try dsimp only at hSw); (try go_split_ands); go_simp; first | done | with_reducible rfl)
    (try simp only [List.getElem_toArray]); (try simp only [List.getElem_cons_succ]); (try simp only [List.getElem_cons_zero]); (try simp only [Act.put]); (try simp only [List.setIfInBounds_toArray]); (try simp only [List.set_cons_succ]); (try simp only [List.set_cons_zero])
    refine wpAnyH_ready (rs := [8]) (by kernel_rfl) (by simp) ?_
    refine AllReadyH.cons rfl (fun K hK => ?_) AllReadyH.nil
    go_simp
    refine (pc.new _ n W7 S7.out.oldX).mono ?_
    rintro e W8 ⟨vd3, vf3, rfl, hT3, hb⟩
    obtain ⟨ad3, cap3, af3, capf3, rfl, rfl⟩ := hT3.form
    have S8 := Lib.hid ((S7.out.call hb).more (TabX.firm _ _ _) hT3)
    clear hb hHeld
    go_wp2_with fail
    refine hK.out _ _ ⟨(S8.out.at 0 rfl), trivial⟩ (fun hHeld => ?_)
    clear hK K
    (try simp only [List.getElem_toArray]); (try simp only [List.getElem_cons_succ]); (try simp only [List.getElem_cons_zero]); (try simp only [Act.put]); (try simp only [List.setIfInBounds_toArray]); (try simp only [List.set_cons_succ]); (try simp only [List.set_cons_zero])
    refine wpAnyH_ready (rs := [9]) (by kernel_rfl) (by simp) ?_
    refine AllReadyH.cons rfl (fun K hK => ?_) AllReadyH.nil
    go_simp
    refine (its_c _ (newT n) _ _ _ _ W8 S8.out.oldX (S8.out.g 2 rfl) (size_new n)).mono ?_
    rintro e W9 ⟨ad4, cap4, rfl, hT4, hb⟩
    have S9 := Lib.hid ((S8.out.call hb).more (TabX.firm _ _ _) hT4)
    clear hb hHeld
    go_wp2_with fail
    refine hK.out _ _ ⟨(S9.out.at 0 rfl), trivial⟩ (fun hHeld => ?_)
    clear hK K
    (try simp only [List.getElem_toArray]); (try simp only [List.getElem_cons_succ]); (try simp only [List.getElem_cons_zero]); (try simp only [Act.put]); (try simp only [List.setIfInBounds_toArray]); (try simp only [List.set_cons_succ]); (try simp only [List.set_cons_zero])
    refine wpAnyH_ready (rs := [11]) (by kernel_rfl) (by simp) ?_
    refine AllReadyH.cons rfl (fun K hK => ?_) AllReadyH.nil
    go_simp
    refine (rnewH_c _ n W9 S9.out.oldX).mono ?_
    rintro e W10 ⟨vd5, vf5, rfl, hT5, hb⟩
    obtain ⟨ad5, cap5, af5, capf5, rfl, rfl⟩ := hT5.form
    have S10 := Lib.hid ((S9.out.call hb).more (TabX.firm _ _ _) hT5)
    clear hb hHeld
    go_wp2_with fail
    refine hK.out _ _ ⟨(S10.out.at 0 rfl), trivial⟩ (fun hHeld => ?_)
    clear hK K
    (try simp only [List.getElem_toArray]); (try simp only [List.getElem_cons_succ]); (try simp only [List.getElem_cons_zero]); (try simp only [Act.put]); (try simp only [List.setIfInBounds_toArray]); (try simp only [List.set_cons_succ]); (try simp only [List.set_cons_zero])
    refine wpAnyH_ready (rs := [12]) (by kernel_rfl) (by simp) ?_
    refine AllReadyH.cons rfl (fun K hK => ?_) AllReadyH.nil
    go_simp
    refine (rsameH_c (newT n) _ _ _ _ _ _ _ _ W10 (S10.out.g 3 rfl) (S10.out.g 4 rfl) (size_new n)).mono ?_
    rintro e W11 ⟨rfl, hb⟩
    have S11 := Lib.hid (S10.out.call hb)
    clear hb hHeld
    go_wp2_with fail
    refine hK.out _ _ ⟨(S11.out.at 0 rfl), trivial⟩ (fun hHeld => ?_)
    clear hK K
    (try simp only [List.getElem_toArray]); (try simp only [List.getElem_cons_succ]); (try simp only [List.getElem_cons_zero]); (try simp only [Act.put]); (try simp only [List.setIfInBounds_toArray]); (try simp only [List.set_cons_succ]); (try simp only [List.set_cons_zero])
    refine wpAnyH_take (i := 13) (v := ?v5) rfl (by kernel_rfl) (by kernel_rfl) (by kernel_rfl) (fun _ _ _ h => h) (Or.inl ⟨by rfl, ?hy5⟩) hHeld ?rest5
    case hy5 => (intro w hSw; (try dsimp only at hSw); (try go_split_ands); go_simp; first | done | with_reducible rfl)
    (try simp only [List.getElem_toArray]); (try simp only [List.getElem_cons_succ]); (try simp only [List.getElem_cons_zero]); (try simp only [Act.put]); (try simp only [List.setIfInBounds_toArray]); (try simp only [List.set_cons_succ]); (try simp only [List.set_cons_zero])
    refine wpAnyH_take (i := 14) (v := ?v6) rfl (by kernel_rfl) (by kernel_rfl) (by kernel_rfl) (fun _ _ _ h => h) (Or.inl ⟨by rfl, ?hy6⟩) hHeld ?rest6
    case hy6 => (intro w hSw; (try dsimp only at hSw); (try go_split_ands); go_simp; first | done | with_reducible rfl)
    (try simp only [List.getElem_toArray]); (try simp only [List.getElem_cons_succ]); (try simp only [List.getElem_cons_zero]); (try simp only [Act.put]); (try simp only [List.setIfInBounds_toArray]); (try simp only [List.set_cons_succ]); (try simp only [List.set_cons_zero])
    refine wpAnyH_done (by kernel_rfl) ?_ _
    go_wp2_with fail
    go_ret
    exact ⟨rfl, S11.out.bel⟩
end Go.Proofs.Ytbcmhjgjcknfmaa
