/-
  What is fair stays so: FlockFair.
-/
import Derived.Test.YtfcjmcenaankfaaLaw11A
import Derived.Test.YtfcjmcenaankfaaFlkLaws
namespace Go.Proofs.Ytfcjmcenaankfaa
open Go.RowKit Go.Shelf
attribute [local go_sem ↓] Go.wp_at_zero Go.wp_at_succ

theorem lock_held {t : TabL} {i kind : Int} (h : (lockT t i kind).2 = 0) : ∃ a : Nat, i = (a : Int) ∧ ∃ h : a < (lockT t i kind).1.ds.length, ((lockT t i kind).1.ds[a]).lock = kind := by
  obtain ⟨a, ha, rfl, _, _, _, e⟩ := lock_ok h
  have hl : a < (t.ds.set a (withL t.ds[a] kind)).length := by rw [List.length_set]; exact ha
  have : ∀ (u : TabL), u = ⟨t.ds.set a (withL t.ds[a] kind), t.fs⟩ → ∃ h : a < u.ds.length, (u.ds[a]).lock = kind := fun u e => by
    subst e
    refine ⟨hl, ?_⟩
    show ((t.ds.set a (withL t.ds[a] kind))[a]).lock = kind
    rw [List.getElem_set_self]
    rfl
  exact ⟨a, rfl, this _ (by rw [e])⟩
set_option maxRecDepth 100000 in
set_option maxHeartbeats 4000000 in
theorem fair_l (pc : PF) (t : TabL) (i kind : Int) (ad af : Option Addr) (cap capf : Nat) (w : World) (hT : TabX t (.slice ad t.ds.length cap) (.slice af t.fs.length capf) (fun _ => False) w) :
    Calls Try.prog 4 #[tabV ad t.ds.length cap af t.fs.length capf, .int .i64 i, .int .i64 kind] w fun e w' => e = .returned (.bool true) ∧ Below w.heap.size w w' := by
  have S0 := Lib.hid (Sf.start (G := [TabX t (.slice ad t.ds.length cap) (.slice af t.fs.length capf)]) (fun _ h => h.elim) (th1 (TabX.firm _ _ _) hT))
  clear hT
  go_enter Try.func4, Try.ntmps4
  go_upto_region 1 with (fail)
  refine code_fresh1 ?_
  intro W1 hb hA0 hs
  have S1 := Lib.hid (S0.out.new1 hb hA0)
  clear hb hA0 hs
  have h_d := (S1.out.at 0 rfl)
  go_wp2_with (first | (refine wpList_load_row rfl 25 _ rfl _ rfl 25 _ (0, 0) _ h_d Try.underlying25 rfl (by kernel_rfl) ?_) | (refine wpList_load_rowG rfl 25 _ rfl _ rfl 25 _ (0, 0) _ h_d Try.underlying25 rfl (by kernel_rfl) ?_))
  refine (fine_c _ t _ _ _ _ _ S1.out.oldX (S1.out.g 0 rfl)).mono ?_
  rintro e W2 ⟨rfl, hb⟩
  clear h_d
  have S2 := Lib.hid (S1.out.call hb)
  clear hb
  cases hfb : fineB t with
  | false =>
    clear hfb
    go_wp2_with fail
    refine (pc.shown W2).mono ?_
    rintro e W3 ⟨rfl, hb⟩
    have S3 := Lib.hid (S2.out.call hb)
    clear hb
    go_wp2_with fail
    go_ret
    exact ⟨rfl, S3.out.bel⟩
  | true =>
    have HFB := Lib.hid (fine_B.1 hfb)
    have HSZ := Lib.hid (size_T HFB.out.1 (by decide))
    clear hfb
    have h_d := (S2.out.at 0 rfl)
    go_wp2_with (first | (refine wpList_load_row rfl 25 _ rfl _ rfl 25 _ (0, 0) _ h_d Try.underlying25 rfl (by kernel_rfl) ?_) | (refine wpList_load_rowG rfl 25 _ rfl _ rfl 25 _ (0, 0) _ h_d Try.underlying25 rfl (by kernel_rfl) ?_))
    refine (its_c _ t _ _ _ _ W2 S2.out.oldX (S2.out.g 0 rfl) HSZ.out).mono ?_
    rintro e W3 ⟨adi3, capi3, rfl, hT, hb⟩
    clear h_d
    have S3 := Lib.hid ((S2.out.call hb).more (TabX.firm _ _ _) hT)
    clear hb hT
    go_wp2_with fail
    refine (rfair_c t _ _ _ _ _ (S3.out.g 1 rfl) HSZ.out).mono ?_
    rintro e W4 ⟨rfl, hb⟩
    have S4 := Lib.hid (S3.out.call hb)
    clear hb
    cases hfa : fairB t with
    | false =>
      clear hfa
      go_wp2_with fail
      refine (pc.shown W4).mono ?_
      rintro e W5 ⟨rfl, hb⟩
      have S5 := Lib.hid (S4.out.call hb)
      clear hb
      go_wp2_with fail
      go_ret
      exact ⟨rfl, S5.out.bel⟩
    | true =>
      have HFA := Lib.hid (fair_B.1 hfa)
      clear hfa
      go_wp2_with fail
      refine (pc.shown W4).mono ?_
      rintro e W5 ⟨rfl, hb⟩
      have S5 := Lib.hid (S4.out.call hb)
      clear hb
      go_upto_region 3 with (fail)
      have h_d := (S5.out.at 0 rfl)
      go_wp2_with (first | (refine wpList_load_row rfl 25 _ rfl _ rfl 25 _ (0, 0) _ h_d Try.underlying25 rfl (by kernel_rfl) ?_) | (refine wpList_load_rowG rfl 25 _ rfl _ rfl 25 _ (0, 0) _ h_d Try.underlying25 rfl (by kernel_rfl) ?_))
      refine (pc.lock _ t i kind _ _ _ _ W5 S5.out.oldX (S5.out.g 0 rfl) HSZ.out HFB.out.2).mono ?_
      rintro e W6 ⟨vd6, vf6, rfl, hT6, hb⟩
      obtain ⟨ad6, cap6, af6, capf6, rfl, rfl⟩ := hT6.form
      clear h_d
      obtain ⟨ta, hta⟩ : ∃ ta, ta = (lockT t i kind).1 := ⟨_, rfl⟩
      rw [← hta] at hT6 ⊢
      obtain ⟨ta1, hta1⟩ : ∃ ta1, ta1 = (lockT t i kind).2 := ⟨_, rfl⟩
      rw [← hta1]
      have Hta1 := Lib.hid hta1
      clear hta1
      have Hta := Lib.hid hta
      have S6 := Lib.hid ((S5.out.call hb).more (TabX.firm _ _ _) hT6)
      clear hta hb hT6
      go_upto_region 4 with (fail)
      refine code_fresh1 ?_
      intro W7 hb hA0 hs
      have S7 := Lib.hid (S6.out.new1 hb hA0)
      clear hb hA0 hs
      have HSA := Lib.hid (show SizeM 100 ta by rw [Hta.out]; exact size_lock HFB.out.1 i kind)
      have HRA := Lib.hid (show RightT ta by rw [Hta.out]; exact right_lock HFB.out.2 i kind)
      have HZA := Lib.hid (size_T HSA.out (by decide))
      have HFI := Lib.hid (fine_B.2 ⟨HSA.out, HRA.out⟩)
      have HFF := Lib.hid (fair_B.2 (show FairT ta by rw [Hta.out]; exact fair_lock HFA.out i kind))
      have h_a := (S7.out.at 1 rfl)
      go_wp2_with (first | (refine wpList_load_row rfl 25 _ rfl _ rfl 25 _ (0, 0) _ h_a Try.underlying25 rfl (by kernel_rfl) ?_) | (refine wpList_load_rowG rfl 25 _ rfl _ rfl 25 _ (0, 0) _ h_a Try.underlying25 rfl (by kernel_rfl) ?_))
      refine (fine_c _ ta _ _ _ _ _ S7.out.oldX (S7.out.g 2 rfl)).mono ?_
      rintro e W8 ⟨rfl, hb⟩
      clear h_a
      have S8 := Lib.hid (S7.out.call hb)
      rw [HFI.out]
      clear hb
      have h_a := (S8.out.at 1 rfl)
      go_wp2_with (first | (refine wpList_load_row rfl 25 _ rfl _ rfl 25 _ (0, 0) _ h_a Try.underlying25 rfl (by kernel_rfl) ?_) | (refine wpList_load_rowG rfl 25 _ rfl _ rfl 25 _ (0, 0) _ h_a Try.underlying25 rfl (by kernel_rfl) ?_))
      refine (pc.fair _ ta _ _ _ _ W8 S8.out.oldX (S8.out.g 2 rfl) HZA.out HRA.out).mono ?_
      rintro e W9 ⟨rfl, hb⟩
      clear h_a
      have S9 := Lib.hid (S8.out.call hb)
      rw [HFF.out]
      clear hb
      by_cases he : ta1 = 0
      · have HE := Lib.hid (lock_held (t := t) (i := i) (kind := kind) (by rw [← Hta1.out]; exact he))
        have e1 : (ta1 == 0) = true := by simpa using he
        have e2 : decide (ta1 = 0) = true := decide_eq_true he
        have e3 : (ta1 != 0) = false := by simpa using he
        clear he
        obtain ⟨m, hm, hl, hk⟩ := HE.out
        have HK : Hid (∃ h : m < ta.ds.length, (ta.ds[m]).lock = kind) := Lib.hid (by rw [Hta.out]; exact ⟨hl, hk⟩)
        clear hl hk HE
        subst hm
        obtain ⟨hl, hk⟩ := HK.out
        have m0 : (0 : Int) ≤ (m : Int) := by omega
        have m1 : (m : Int) < (ta.ds.length : Int) := by omega
        have iL7 : decide (m < ta.ds.length) = true := decide_eq_true (by omega)
        have iM7 : decide ((m : Int) < (ta.ds.length : Int)) = true := decide_eq_true (by omega)
        obtain ⟨b, off, ead, -, -, -, -, -, c5⟩ := TabX.desc (S9.out.g 2 rfl) m hl
        rw [hk] at c5
        subst ead
        obtain ⟨a0, a1⟩ := cells2 (S9.out.at 1 rfl)
        clear HK
        go_wp2_with fail
        go_ret
        exact ⟨rfl, S9.out.bel⟩
      · have HE := Lib.hid (show (lockT t i kind).1 = t from lock_same (by rw [← Hta1.out]; exact he))
        have e1 : (ta1 == 0) = false := by simpa using he
        have e2 : decide (ta1 = 0) = false := decide_eq_false he
        have e3 : (ta1 != 0) = true := by simpa using he
        clear he
        have hte : ta = t := Hta.out.trans HE.out
        clear HE
        subst hte
        go_upto_region 7 with (fail)
        have h_d := (S9.out.at 0 rfl)
        have h_a := (S9.out.at 1 rfl)
        refine wp_region_held_drew (S := fun W => W.heap[w.heap.size]? = some (.cells #[.slice ad ta.ds.length cap, .slice af ta.fs.length capf] 25 (0, 0)) ∧ W.heap[W6.heap.size]? = some (.cells #[.slice ad6 ta.ds.length cap6, .slice af6 ta.fs.length capf6] 25 (0, 0)) ∧ True) (by kernel_rfl) ⟨(S9.out.at 0 rfl), (S9.out.at 1 rfl), trivial⟩ (fun hHeld => ?_)
        clear h_d h_a
        have S10 := Lib.hid (S9.out.call (Below.refl W9.heap.size W9).drew)
        generalize W9.drew = W10 at *
        refine wpAnyH_take (i := 0) rfl (by kernel_rfl) (by kernel_rfl) (by kernel_rfl) (fun _ _ _ h => h) (yieldsIf_load_row (by rfl) 25 _ rfl _ rfl 25 _ (0, 0) _ (fun _ h => h.2.1) Try.underlying25 rfl (by kernel_rfl)) hHeld ?_
        (try simp only [List.getElem_toArray]); (try simp only [List.getElem_cons_succ]); (try simp only [List.getElem_cons_zero]); (try simp only [Act.put]); (try simp only [List.setIfInBounds_toArray]); (try simp only [List.set_cons_succ]); (try simp only [List.set_cons_zero])
        refine wpAnyH_take (i := 2) rfl (by kernel_rfl) (by kernel_rfl) (by kernel_rfl) (fun _ _ _ h => h) (yieldsIf_load_row (by rfl) 25 _ rfl _ rfl 25 _ (0, 0) _ (fun _ h => h.1) Try.underlying25 rfl (by kernel_rfl)) hHeld ?_
        (try simp only [List.getElem_toArray]); (try simp only [List.getElem_cons_succ]); (try simp only [List.getElem_cons_zero]); (try simp only [Act.put]); (try simp only [List.setIfInBounds_toArray]); (try simp only [List.set_cons_succ]); (try simp only [List.set_cons_zero])
        refine wpAnyH_ready (rs := [1]) (by kernel_rfl) (by simp) ?_
        refine AllReadyH.cons rfl (fun K hK => ?_) AllReadyH.nil
        go_simp
        refine (its_c _ ta _ _ _ _ W10 S10.out.oldX (S10.out.g 2 rfl) HZA.out).mono ?_
        rintro e W11 ⟨adi11, capi11, rfl, hT, hb⟩
        have S11 := Lib.hid ((S10.out.call hb).more (TabX.firm _ _ _) hT)
        clear hb hT hHeld
        go_wp2_with fail
        refine hK.out _ _ ⟨(S11.out.at 0 rfl), (S11.out.at 1 rfl), trivial⟩ (fun hHeld => ?_)
        clear hK K
        (try simp only [List.getElem_toArray]); (try simp only [List.getElem_cons_succ]); (try simp only [List.getElem_cons_zero]); (try simp only [Act.put]); (try simp only [List.setIfInBounds_toArray]); (try simp only [List.set_cons_succ]); (try simp only [List.set_cons_zero])
        refine wpAnyH_ready (rs := [3]) (by kernel_rfl) (by simp) ?_
        refine AllReadyH.cons rfl (fun K hK => ?_) AllReadyH.nil
        go_simp
        refine (its_c _ ta _ _ _ _ W11 S11.out.oldX (S11.out.g 0 rfl) HZA.out).mono ?_
        rintro e W12 ⟨adi12, capi12, rfl, hT, hb⟩
        have S12 := Lib.hid ((S11.out.call hb).more (TabX.firm _ _ _) hT)
        clear hb hT hHeld
        go_wp2_with fail
        refine hK.out _ _ ⟨(S12.out.at 0 rfl), (S12.out.at 1 rfl), trivial⟩ (fun hHeld => ?_)
        clear hK K
        (try simp only [List.getElem_toArray]); (try simp only [List.getElem_cons_succ]); (try simp only [List.getElem_cons_zero]); (try simp only [Act.put]); (try simp only [List.setIfInBounds_toArray]); (try simp only [List.set_cons_succ]); (try simp only [List.set_cons_zero])
        refine wpAnyH_ready (rs := [4]) (by kernel_rfl) (by simp) ?_
        refine AllReadyH.cons rfl (fun K hK => ?_) AllReadyH.nil
        go_simp
        refine (rsameH_c ta _ _ _ _ _ _ _ _ W12 (S12.out.g 3 rfl) (S12.out.g 4 rfl) HZA.out).mono ?_
        rintro e W13 ⟨rfl, hb⟩
        have S13 := Lib.hid (S12.out.call hb)
        clear hb hHeld
        go_wp2_with fail
        refine hK.out _ _ ⟨(S13.out.at 0 rfl), (S13.out.at 1 rfl), trivial⟩ (fun hHeld => ?_)
        clear hK K
        (try simp only [List.getElem_toArray]); (try simp only [List.getElem_cons_succ]); (try simp only [List.getElem_cons_zero]); (try simp only [Act.put]); (try simp only [List.setIfInBounds_toArray]); (try simp only [List.set_cons_succ]); (try simp only [List.set_cons_zero])
        refine wpAnyH_take (i := 5) (v := ?v1) rfl (by kernel_rfl) (by kernel_rfl) (by kernel_rfl) (fun _ _ _ h => h) (Or.inl ⟨by rfl, ?hy1⟩) hHeld ?rest1
        case hy1 => (intro w hSw; (try dsimp only at hSw); (try go_split_ands); go_simp; first | done | with_reducible rfl)
        (try simp only [List.getElem_toArray]); (try simp only [List.getElem_cons_succ]); (try simp only [List.getElem_cons_zero]); (try simp only [Act.put]); (try simp only [List.setIfInBounds_toArray]); (try simp only [List.set_cons_succ]); (try simp only [List.set_cons_zero])
        refine wpAnyH_done (by kernel_rfl) ?_ _
        go_wp2_with fail
        go_ret
        exact ⟨rfl, S13.out.bel⟩
end Go.Proofs.Ytfcjmcenaankfaa
