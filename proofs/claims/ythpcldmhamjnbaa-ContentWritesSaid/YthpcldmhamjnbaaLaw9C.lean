/-
  The walks of ContentReads, ContentWrites, ContentRefuses.
-/
import Derived.Test.YthpcldmhamjnbaaLaw9B
import Derived.Deep.RegionHeld3
import Derived.Deep.DeepCutAuto
namespace Go.Proofs.Ythpcldmhamjnbaa
open Go.RowKit Go.Shelf
attribute [local go_sem ↓] Go.wp_at_zero Go.wp_at_succ

set_option maxRecDepth 100000 in
set_option maxHeartbeats 4000000 in
theorem reads_l (pc : PC) (l : List NodeL) (most room : Int) (i a n : Int) (ao : Option Addr) (cap : Nat) (w : World) (hg : GivesN l (.slice ao l.length cap) w) :
    Calls Try.prog 3 #[diskV ao l.length cap most room, .int .i64 i, .int .i64 a, .int .i64 n] w fun e w' => e = .returned (.bool true) ∧ Below w.heap.size w w' := by
  have S0 := Lib.hid (Sn.start hg)
  have HPC := Lib.hid pc
  clear hg pc
  go_enter Try.func3, Try.ntmps3
  go_upto_region 1 with (fail)
  refine code_fresh1 ?_
  intro W1 hb hA0 hs
  have S1 := Lib.hid (S0.out.new1 hb hA0)
  clear hb hA0 hs
  obtain ⟨d0, d1, d2⟩ := cells3 (S1.out.at 0 rfl)
  go_wp2_with fail
  refine (small_g l most room _ W1 (S1.out.g 0 rfl)).mono ?_
  rintro e W2 ⟨rfl, hb⟩
  clear d0 d1 d2
  have S2 := Lib.hid (S1.out.call hb)
  clear hb
  cases hq : smallQ l with
  | false =>
    clear hq
    go_wp2_with fail
    refine (HPC.out.shown W2).mono ?_
    rintro e WZ ⟨rfl, hb⟩
    go_wp2_with fail
    go_ret
    exact ⟨rfl, ret_tr S2.out.bel hb⟩
  | true =>
    have HQ := Lib.hid hq
    clear hq
    go_wp2_with fail
    refine (HPC.out.shown W2).mono ?_
    rintro e W3 ⟨rfl, hb⟩
    have S3 := Lib.hid (S2.out.call hb)
    clear hb
    obtain ⟨d0, d1, d2⟩ := cells3 (S3.out.at 0 rfl)
    go_wp2_with fail
    refine (HPC.out.read l most room i a n _ W3 (small_Q HQ.out) (S3.out.g 0 rfl)).mono ?_
    rintro e W4 ⟨rfl, hb⟩
    clear d0 d1 d2
    have S4 := Lib.hid (S3.out.call hb)
    clear hb
    obtain ⟨d0, d1, d2⟩ := cells3 (S4.out.at 0 rfl)
    go_wp2_with fail
    refine (its_f l most room (quiet_len HQ.out) (quiet_names HQ.out) _ W4 (S4.out.g 0 rfl)).mono ?_
    rintro e W5 ⟨aoe, cpe, rfl, hg1, hb⟩
    clear d0 d1 d2
    have S5 := Lib.hid ((S4.out.call hb).addG hg1)
    clear hb hg1
    go_wp2_with fail
    refine (rread_c l most room i a n _ _ W5 (gives_no (S5.out.g 1 rfl)) (quiet_len HQ.out)).mono ?_
    rintro e W6 ⟨rfl, hb⟩
    have S6 := Lib.hid (S5.out.call hb)
    clear hb
    obtain ⟨d0, d1, d2⟩ := cells3 (S6.out.at 0 rfl)
    go_wp2_with fail
    refine (HPC.out.size l most room i _ W6 (small_Q HQ.out) (S6.out.g 0 rfl)).mono ?_
    rintro e W7 ⟨rfl, hb⟩
    clear d0 d1 d2
    have S7 := Lib.hid (S6.out.call hb)
    clear hb
    obtain ⟨d0, d1, d2⟩ := cells3 (S7.out.at 0 rfl)
    go_wp2_with fail
    refine (its_f l most room (quiet_len HQ.out) (quiet_names HQ.out) _ W7 (S7.out.g 0 rfl)).mono ?_
    rintro e W8 ⟨aof, cpf, rfl, hg1, hb⟩
    clear d0 d1 d2
    have S8 := Lib.hid ((S7.out.call hb).addG hg1)
    clear hb hg1
    go_wp2_with fail
    refine (rsize_c l most room i _ _ W8 (gives_no (S8.out.g 2 rfl)) (quiet_len HQ.out)).mono ?_
    rintro e W9 ⟨rfl, hb⟩
    have S9 := Lib.hid (S8.out.call hb)
    clear hb
    go_wp2_with fail
    go_ret
    exact ⟨rfl, S9.out.bel⟩
set_option maxRecDepth 100000 in
set_option maxHeartbeats 4000000 in
theorem writes_l (pc : PC) (l : List NodeL) (most room : Int) (i a : Int) (s : Nm) (m : Int) (ao : Option Addr) (cap : Nat) (w : World) (hg : GivesN l (.slice ao l.length cap) w) :
    Calls Try.prog 4 #[diskV ao l.length cap most room, .int .i64 i, .int .i64 a, .string (bs s), .int .i64 m] w fun e w' => e = .returned (.bool true) ∧ Below w.heap.size w w' := by
  have S0 := Lib.hid (Sn.start hg)
  have HPC := Lib.hid pc
  clear hg pc
  go_enter Try.func4, Try.ntmps4
  go_upto_region 1 with (fail)
  refine code_fresh1 ?_
  intro W1 hb hA0 hs
  have S1 := Lib.hid (S0.out.new1 hb hA0)
  clear hb hA0 hs
  obtain ⟨d0, d1, d2⟩ := cells3 (S1.out.at 0 rfl)
  go_wp2_with fail
  refine (small_g l most room _ W1 (S1.out.g 0 rfl)).mono ?_
  rintro e W2 ⟨rfl, hb⟩
  clear d0 d1 d2
  have S2 := Lib.hid (S1.out.call hb)
  clear hb
  cases hq : smallQ l with
  | false =>
    clear hq
    go_wp2_with fail
    refine (HPC.out.shown W2).mono ?_
    rintro e WZ ⟨rfl, hb⟩
    go_wp2_with fail
    go_ret
    exact ⟨rfl, ret_tr S2.out.bel hb⟩
  | true =>
    have HQ := Lib.hid hq
    clear hq
    by_cases hs : 300 < s.length
    · have is : decide ((300 : Int) < (s.length : Int)) = true := decide_eq_true (by omega)
      clear hs
      go_wp2_with fail
      refine (HPC.out.shown W2).mono ?_
      rintro e WZ ⟨rfl, hb⟩
      go_wp2_with fail
      go_ret
      exact ⟨rfl, ret_tr S2.out.bel hb⟩
    · have is : decide ((300 : Int) < (s.length : Int)) = false := decide_eq_false (by omega)
      have HLs : Hid (s.length ≤ 300) := Lib.hid (by omega)
      clear hs
      go_wp2_with fail
      refine (HPC.out.shown W2).mono ?_
      rintro e W3 ⟨rfl, hb⟩
      have S3 := Lib.hid (S2.out.call hb)
      clear hb
      clear is
      have hs : s.length ≤ 1000 := Nat.le_trans HLs.out (by decide)
      have hp1 := fun ao cap W h => HPC.out.write l most room i a s ao cap W (small_Q HQ.out) hs h
      have hr1 := fun ao cap W h => wrotec (most := most) (room := room) (i := i) (a := a) HQ.out hs ao cap W h
      have hq1 := quiet_write HQ.out room i a (s := s) (Nat.le_trans HLs.out (by decide))
      have hp2 := fun ao cap W h => HPC.out.cut l most room i m ao cap W (small_Q HQ.out) h
      have hr2 := fun ao cap W h => cutc (most := most) (room := room) (i := i) (m := m) HQ.out ao cap W h
      have hq2 := quiet_cut HQ.out room i m
      generalize writeL l room i a s = R1 at hp1 hr1 hq1
      generalize cutL l room i m = R2 at hp2 hr2 hq2
      obtain ⟨L1, f1⟩ := R1
      obtain ⟨L2, f2⟩ := R2
      dsimp only at hp1 hr1 hq1 hp2 hr2 hq2
      have HP1 := Lib.hid hp1
      have HR1 := Lib.hid hr1
      have HQ1 := Lib.hid hq1
      have HP2 := Lib.hid hp2
      have HR2 := Lib.hid hr2
      have HQ2 := Lib.hid hq2
      clear hp1 hr1 hq1 hp2 hr2 hq2
      obtain ⟨d0, d1, d2⟩ := cells3 (S3.out.at 0 rfl)
      go_wp2_with fail
      refine (HP1.out _ _ W3 (S3.out.g 0 rfl)).mono ?_
      rintro e W4 ⟨aox, cpx, rfl, hg1, hb⟩
      clear d0 d1 d2
      have S4 := Lib.hid ((S3.out.call hb).addG hg1.gives)
      clear hb hg1
      go_upto_region 4 with (fail)
      refine code_fresh1 ?_
      intro W5 hb hA0 hs
      have S5 := Lib.hid (S4.out.new1 hb hA0)
      clear hb hA0 hs
      obtain ⟨d0, d1, d2⟩ := cells3 (S5.out.at 0 rfl)
      go_wp2_with fail
      refine (its_f l most room (quiet_len HQ.out) (quiet_names HQ.out) _ W5 (S5.out.g 0 rfl)).mono ?_
      rintro e W6 ⟨aoe, cpe, rfl, hg1, hb⟩
      clear d0 d1 d2
      have S6 := Lib.hid ((S5.out.call hb).addG hg1)
      clear hb hg1
      go_wp2_with fail
      refine (HR1.out _ _ W6 (S6.out.g 2 rfl)).mono ?_
      rintro e W7 ⟨aoy, cpy, rfl, hg1, hb⟩
      have S7 := Lib.hid ((S6.out.call hb).addG hg1.gives)
      clear hb hg1
      go_upto_region 5 with (fail)
      refine code_fresh1 ?_
      intro W8 hb hA0 hs
      have S8 := Lib.hid (S7.out.new1 hb hA0)
      clear hb hA0 hs
      obtain ⟨d0, d1, d2⟩ := cells3 (S8.out.at 0 rfl)
      go_wp2_with fail
      refine (HP2.out _ _ W8 (S8.out.g 0 rfl)).mono ?_
      rintro e W9 ⟨aoz, cpz, rfl, hg1, hb⟩
      clear d0 d1 d2
      have S9 := Lib.hid ((S8.out.call hb).addG hg1.gives)
      clear hb hg1
      go_upto_region 6 with (fail)
      refine code_fresh1 ?_
      intro W10 hb hA0 hs
      have S10 := Lib.hid (S9.out.new1 hb hA0)
      clear hb hA0 hs
      obtain ⟨d0, d1, d2⟩ := cells3 (S10.out.at 0 rfl)
      go_wp2_with fail
      refine (its_f l most room (quiet_len HQ.out) (quiet_names HQ.out) _ W10 (S10.out.g 0 rfl)).mono ?_
      rintro e W11 ⟨aof, cpf, rfl, hg1, hb⟩
      clear d0 d1 d2
      have S11 := Lib.hid ((S10.out.call hb).addG hg1)
      clear hb hg1
      go_wp2_with fail
      refine (HR2.out _ _ W11 (S11.out.g 5 rfl)).mono ?_
      rintro e W12 ⟨aou, cpu, rfl, hg1, hb⟩
      have S12 := Lib.hid ((S11.out.call hb).addG hg1.gives)
      clear hb hg1
      go_upto_region 7 with (fail)
      refine code_fresh1 ?_
      intro W13 hb hA0 hs
      have S13 := Lib.hid (S12.out.new1 hb hA0)
      clear hb hA0 hs
      go_upto_region 7 with (fail)
      have h_x := (S13.out.at 1 rfl)
      have h_y := (S13.out.at 2 rfl)
      have h_z := (S13.out.at 3 rfl)
      have h_u := (S13.out.at 4 rfl)
      refine wp_region_held_drew (S := fun W => W.heap[W4.heap.size]? = some (.cells #[.slice aox L1.length cpx, .int .i64 most, .int .i64 room] 24 (0, 0)) ∧ W.heap[W7.heap.size]? = some (.cells #[.slice aoy L1.length cpy, .int .i64 most, .int .i64 room] 33 (0, 0)) ∧ W.heap[W9.heap.size]? = some (.cells #[.slice aoz L2.length cpz, .int .i64 most, .int .i64 room] 24 (0, 0)) ∧ W.heap[W12.heap.size]? = some (.cells #[.slice aou L2.length cpu, .int .i64 most, .int .i64 room] 33 (0, 0)) ∧ True) (by kernel_rfl) ⟨(S13.out.at 1 rfl), (S13.out.at 2 rfl), (S13.out.at 3 rfl), (S13.out.at 4 rfl), trivial⟩ (fun hHeld => ?_)
      clear h_x h_y h_z h_u
      have S14 := Lib.hid (S13.out.call (Below.refl W13.heap.size W13).drew)
      generalize W13.drew = W14 at *
      refine wpAnyH_take (i := 0) rfl (by kernel_rfl) (by kernel_rfl) (by kernel_rfl) (fun _ _ _ h => h) (yieldsIf_load_row (by rfl) 24 _ rfl _ rfl 24 _ (0, 0) _ (fun _ h => h.1) Try.underlying24 rfl (by kernel_rfl)) hHeld ?_
      (try simp only [List.getElem_toArray]); (try simp only [List.getElem_cons_succ]); (try simp only [List.getElem_cons_zero]); (try simp only [Act.put]); (try simp only [List.setIfInBounds_toArray]); (try simp only [List.set_cons_succ]); (try simp only [List.set_cons_zero])
      refine wpAnyH_take (i := 2) rfl (by kernel_rfl) (by kernel_rfl) (by kernel_rfl) (fun _ _ _ h => h) (yieldsIf_load_row (by rfl) 33 _ rfl _ rfl 33 _ (0, 0) _ (fun _ h => h.2.1) Try.underlying33 rfl (by kernel_rfl)) hHeld ?_
      (try simp only [List.getElem_toArray]); (try simp only [List.getElem_cons_succ]); (try simp only [List.getElem_cons_zero]); (try simp only [Act.put]); (try simp only [List.setIfInBounds_toArray]); (try simp only [List.set_cons_succ]); (try simp only [List.set_cons_zero])
      refine wpAnyH_ready (rs := [1]) (by kernel_rfl) (by simp) ?_
      refine AllReadyH.cons rfl (fun K hK => ?_) AllReadyH.nil
      go_simp
      refine (its_f L1 most room (quiet_len HQ1.out) (quiet_names HQ1.out) _ W14 (S14.out.g 1 rfl)).mono ?_
      rintro e W15 ⟨aog, cpg, rfl, hgg, hb⟩
      have S15 := Lib.hid ((S14.out.call hb).addG hgg)
      clear hb hHeld hgg
      go_wp2_with fail
      refine hK.out _ _ ⟨(S15.out.at 1 rfl), (S15.out.at 2 rfl), (S15.out.at 3 rfl), (S15.out.at 4 rfl), trivial⟩ (fun hHeld => ?_)
      clear hK K
      (try simp only [List.getElem_toArray]); (try simp only [List.getElem_cons_succ]); (try simp only [List.getElem_cons_zero]); (try simp only [Act.put]); (try simp only [List.setIfInBounds_toArray]); (try simp only [List.set_cons_succ]); (try simp only [List.set_cons_zero])
      refine wpAnyH_ready (rs := [3]) (by kernel_rfl) (by simp) ?_
      refine AllReadyH.cons rfl (fun K hK => ?_) AllReadyH.nil
      go_simp
      refine (same_g L1 most room (quiet_len HQ1.out) (quiet_names HQ1.out) _ _ W15 (S15.out.g 7 rfl) (S15.out.g 3 rfl)).mono ?_
      rintro e W16 ⟨rfl, hb⟩
      have S16 := Lib.hid (S15.out.call hb)
      clear hb hHeld
      go_wp2_with fail
      refine hK.out _ _ ⟨(S16.out.at 1 rfl), (S16.out.at 2 rfl), (S16.out.at 3 rfl), (S16.out.at 4 rfl), trivial⟩ (fun hHeld => ?_)
      clear hK K
      (try simp only [List.getElem_toArray]); (try simp only [List.getElem_cons_succ]); (try simp only [List.getElem_cons_zero]); (try simp only [Act.put]); (try simp only [List.setIfInBounds_toArray]); (try simp only [List.set_cons_succ]); (try simp only [List.set_cons_zero])
      refine wpAnyH_take (i := 4) (v := ?v1) rfl (by kernel_rfl) (by kernel_rfl) (by kernel_rfl) (fun _ _ _ h => h) (Or.inl ⟨by rfl, ?hy1⟩) hHeld ?rest1
      case hy1 => (intro w hSw; (try dsimp only at hSw); (try go_split_ands); go_simp; first | done | with_reducible rfl)
      (try simp only [List.getElem_toArray]); (try simp only [List.getElem_cons_succ]); (try simp only [List.getElem_cons_zero]); (try simp only [Act.put]); (try simp only [List.setIfInBounds_toArray]); (try simp only [List.set_cons_succ]); (try simp only [List.set_cons_zero])
      refine wpAnyH_take (i := 5) (v := ?v2) rfl (by kernel_rfl) (by kernel_rfl) (by kernel_rfl) (fun _ _ _ h => h) (Or.inl ⟨by rfl, ?hy2⟩) hHeld ?rest2
      case hy2 => (intro w hSw; (try dsimp only at hSw); (try go_split_ands); go_simp; first | done | with_reducible rfl)
      (try simp only [List.getElem_toArray]); (try simp only [List.getElem_cons_succ]); (try simp only [List.getElem_cons_zero]); (try simp only [Act.put]); (try simp only [List.setIfInBounds_toArray]); (try simp only [List.set_cons_succ]); (try simp only [List.set_cons_zero])
      refine wpAnyH_take (i := 6) (v := ?v3) rfl (by kernel_rfl) (by kernel_rfl) (by kernel_rfl) (fun _ _ _ h => h) (Or.inl ⟨by rfl, ?hy3⟩) hHeld ?rest3
      case hy3 => (intro w hSw; (try dsimp only at hSw); (try go_split_ands); go_simp; first | done | with_reducible rfl)
      (try simp only [List.getElem_toArray]); (try simp only [List.getElem_cons_succ]); (try simp only [List.getElem_cons_zero]); (try simp only [Act.put]); (try simp only [List.setIfInBounds_toArray]); (try simp only [List.set_cons_succ]); (try simp only [List.set_cons_zero])
      refine wpAnyH_take (i := 7) (v := ?v4) rfl (by kernel_rfl) (by kernel_rfl) (by kernel_rfl) (fun _ _ _ h => h) (Or.inl ⟨by rfl, ?hy4⟩) hHeld ?rest4
      case hy4 => (intro w hSw; (try dsimp only at hSw); (try go_split_ands); go_simp; first | done | with_reducible rfl)
      (try simp only [List.getElem_toArray]); (try simp only [List.getElem_cons_succ]); (try simp only [List.getElem_cons_zero]); (try simp only [Act.put]); (try simp only [List.setIfInBounds_toArray]); (try simp only [List.set_cons_succ]); (try simp only [List.set_cons_zero])
      refine wpAnyH_take (i := 8) (v := ?v5) rfl (by kernel_rfl) (by kernel_rfl) (by kernel_rfl) (fun _ _ _ h => h) (Or.inl ⟨by rfl, ?hy5⟩) hHeld ?rest5
      case hy5 => (intro w hSw; (try dsimp only at hSw); (try go_split_ands); go_simp; first | done | with_reducible rfl)
      (try simp only [List.getElem_toArray]); (try simp only [List.getElem_cons_succ]); (try simp only [List.getElem_cons_zero]); (try simp only [Act.put]); (try simp only [List.setIfInBounds_toArray]); (try simp only [List.set_cons_succ]); (try simp only [List.set_cons_zero])
      refine wpAnyH_take (i := 9) (v := ?v6) rfl (by kernel_rfl) (by kernel_rfl) (by kernel_rfl) (fun _ _ _ h => h) (Or.inl ⟨by rfl, ?hy6⟩) hHeld ?rest6
      case hy6 => (intro w hSw; (try dsimp only at hSw); (try go_split_ands); go_simp; first | done | with_reducible rfl)
      (try simp only [List.getElem_toArray]); (try simp only [List.getElem_cons_succ]); (try simp only [List.getElem_cons_zero]); (try simp only [Act.put]); (try simp only [List.setIfInBounds_toArray]); (try simp only [List.set_cons_succ]); (try simp only [List.set_cons_zero])
      refine wpAnyH_take (i := 10) rfl (by kernel_rfl) (by kernel_rfl) (by kernel_rfl) (fun _ _ _ h => h) (yieldsIf_load_row (by rfl) 24 _ rfl _ rfl 24 _ (0, 0) _ (fun _ h => h.2.2.1) Try.underlying24 rfl (by kernel_rfl)) hHeld ?_
      (try simp only [List.getElem_toArray]); (try simp only [List.getElem_cons_succ]); (try simp only [List.getElem_cons_zero]); (try simp only [Act.put]); (try simp only [List.setIfInBounds_toArray]); (try simp only [List.set_cons_succ]); (try simp only [List.set_cons_zero])
      refine wpAnyH_take (i := 12) rfl (by kernel_rfl) (by kernel_rfl) (by kernel_rfl) (fun _ _ _ h => h) (yieldsIf_load_row (by rfl) 33 _ rfl _ rfl 33 _ (0, 0) _ (fun _ h => h.2.2.2.1) Try.underlying33 rfl (by kernel_rfl)) hHeld ?_
      (try simp only [List.getElem_toArray]); (try simp only [List.getElem_cons_succ]); (try simp only [List.getElem_cons_zero]); (try simp only [Act.put]); (try simp only [List.setIfInBounds_toArray]); (try simp only [List.set_cons_succ]); (try simp only [List.set_cons_zero])
      refine wpAnyH_ready (rs := [11]) (by kernel_rfl) (by simp) ?_
      refine AllReadyH.cons rfl (fun K hK => ?_) AllReadyH.nil
      go_simp
      refine (its_f L2 most room (quiet_len HQ2.out) (quiet_names HQ2.out) _ W16 (S16.out.g 4 rfl)).mono ?_
      rintro e W17 ⟨aoh, cph, rfl, hgg, hb⟩
      have S17 := Lib.hid ((S16.out.call hb).addG hgg)
      clear hb hHeld hgg
      go_wp2_with fail
      refine hK.out _ _ ⟨(S17.out.at 1 rfl), (S17.out.at 2 rfl), (S17.out.at 3 rfl), (S17.out.at 4 rfl), trivial⟩ (fun hHeld => ?_)
      clear hK K
      (try simp only [List.getElem_toArray]); (try simp only [List.getElem_cons_succ]); (try simp only [List.getElem_cons_zero]); (try simp only [Act.put]); (try simp only [List.setIfInBounds_toArray]); (try simp only [List.set_cons_succ]); (try simp only [List.set_cons_zero])
      refine wpAnyH_ready (rs := [13]) (by kernel_rfl) (by simp) ?_
      refine AllReadyH.cons rfl (fun K hK => ?_) AllReadyH.nil
      go_simp
      refine (same_g L2 most room (quiet_len HQ2.out) (quiet_names HQ2.out) _ _ W17 (S17.out.g 8 rfl) (S17.out.g 6 rfl)).mono ?_
      rintro e W18 ⟨rfl, hb⟩
      have S18 := Lib.hid (S17.out.call hb)
      clear hb hHeld
      go_wp2_with fail
      refine hK.out _ _ ⟨(S18.out.at 1 rfl), (S18.out.at 2 rfl), (S18.out.at 3 rfl), (S18.out.at 4 rfl), trivial⟩ (fun hHeld => ?_)
      clear hK K
      (try simp only [List.getElem_toArray]); (try simp only [List.getElem_cons_succ]); (try simp only [List.getElem_cons_zero]); (try simp only [Act.put]); (try simp only [List.setIfInBounds_toArray]); (try simp only [List.set_cons_succ]); (try simp only [List.set_cons_zero])
      refine wpAnyH_take (i := 14) (v := ?v7) rfl (by kernel_rfl) (by kernel_rfl) (by kernel_rfl) (fun _ _ _ h => h) (Or.inl ⟨by rfl, ?hy7⟩) hHeld ?rest7
      case hy7 => (intro w hSw; (try dsimp only at hSw); (try go_split_ands); go_simp; first | done | with_reducible rfl)
      (try simp only [List.getElem_toArray]); (try simp only [List.getElem_cons_succ]); (try simp only [List.getElem_cons_zero]); (try simp only [Act.put]); (try simp only [List.setIfInBounds_toArray]); (try simp only [List.set_cons_succ]); (try simp only [List.set_cons_zero])
      refine wpAnyH_take (i := 15) (v := ?v8) rfl (by kernel_rfl) (by kernel_rfl) (by kernel_rfl) (fun _ _ _ h => h) (Or.inl ⟨by rfl, ?hy8⟩) hHeld ?rest8
      case hy8 => (intro w hSw; (try dsimp only at hSw); (try go_split_ands); go_simp; first | done | with_reducible rfl)
      (try simp only [List.getElem_toArray]); (try simp only [List.getElem_cons_succ]); (try simp only [List.getElem_cons_zero]); (try simp only [Act.put]); (try simp only [List.setIfInBounds_toArray]); (try simp only [List.set_cons_succ]); (try simp only [List.set_cons_zero])
      refine wpAnyH_take (i := 16) (v := ?v9) rfl (by kernel_rfl) (by kernel_rfl) (by kernel_rfl) (fun _ _ _ h => h) (Or.inl ⟨by rfl, ?hy9⟩) hHeld ?rest9
      case hy9 => (intro w hSw; (try dsimp only at hSw); (try go_split_ands); go_simp; first | done | with_reducible rfl)
      (try simp only [List.getElem_toArray]); (try simp only [List.getElem_cons_succ]); (try simp only [List.getElem_cons_zero]); (try simp only [Act.put]); (try simp only [List.setIfInBounds_toArray]); (try simp only [List.set_cons_succ]); (try simp only [List.set_cons_zero])
      refine wpAnyH_take (i := 17) (v := ?v10) rfl (by kernel_rfl) (by kernel_rfl) (by kernel_rfl) (fun _ _ _ h => h) (Or.inl ⟨by rfl, ?hy10⟩) hHeld ?rest10
      case hy10 => (intro w hSw; (try dsimp only at hSw); (try go_split_ands); go_simp; first | done | with_reducible rfl)
      (try simp only [List.getElem_toArray]); (try simp only [List.getElem_cons_succ]); (try simp only [List.getElem_cons_zero]); (try simp only [Act.put]); (try simp only [List.setIfInBounds_toArray]); (try simp only [List.set_cons_succ]); (try simp only [List.set_cons_zero])
      refine wpAnyH_take (i := 18) (v := ?v11) rfl (by kernel_rfl) (by kernel_rfl) (by kernel_rfl) (fun _ _ _ h => h) (Or.inl ⟨by rfl, ?hy11⟩) hHeld ?rest11
      case hy11 => (intro w hSw; (try dsimp only at hSw); (try go_split_ands); go_simp; first | done | with_reducible rfl)
      (try simp only [List.getElem_toArray]); (try simp only [List.getElem_cons_succ]); (try simp only [List.getElem_cons_zero]); (try simp only [Act.put]); (try simp only [List.setIfInBounds_toArray]); (try simp only [List.set_cons_succ]); (try simp only [List.set_cons_zero])
      refine wpAnyH_take (i := 19) (v := ?v12) rfl (by kernel_rfl) (by kernel_rfl) (by kernel_rfl) (fun _ _ _ h => h) (Or.inl ⟨by rfl, ?hy12⟩) hHeld ?rest12
      case hy12 => (intro w hSw; (try dsimp only at hSw); (try go_split_ands); go_simp; first | done | with_reducible rfl)
      (try simp only [List.getElem_toArray]); (try simp only [List.getElem_cons_succ]); (try simp only [List.getElem_cons_zero]); (try simp only [Act.put]); (try simp only [List.setIfInBounds_toArray]); (try simp only [List.set_cons_succ]); (try simp only [List.set_cons_zero])
      refine wpAnyH_take (i := 20) (v := ?v13) rfl (by kernel_rfl) (by kernel_rfl) (by kernel_rfl) (fun _ _ _ h => h) (Or.inl ⟨by rfl, ?hy13⟩) hHeld ?rest13
      case hy13 => (intro w hSw; (try dsimp only at hSw); (try go_split_ands); go_simp; first | done | with_reducible rfl)
      (try simp only [List.getElem_toArray]); (try simp only [List.getElem_cons_succ]); (try simp only [List.getElem_cons_zero]); (try simp only [Act.put]); (try simp only [List.setIfInBounds_toArray]); (try simp only [List.set_cons_succ]); (try simp only [List.set_cons_zero])
      refine wpAnyH_done (by kernel_rfl) ?_ _
      go_wp2_with fail
      go_ret
      exact ⟨rfl, S18.out.bel⟩
end Go.Proofs.Ythpcldmhamjnbaa
