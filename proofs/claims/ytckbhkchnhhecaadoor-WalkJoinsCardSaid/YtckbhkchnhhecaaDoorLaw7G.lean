/-
  The walk of WalkJoins.
-/
import Derived.Test.YtckbhkchnhhecaaDoorLaw7D
import Derived.Deep.RegionWith
import Derived.BigQuiet
namespace Go.Proofs.YtckbhkchnhhecaaDoor
open Go.RowKit Go.Shelf
attribute [local go_sem ↓] Go.wp_at_zero Go.wp_at_succ

theorem rjoin_bs (p q : Str) (hp : p.length ≤ 90) (hq : q.length ≤ 90) (w : World) : Calls Tryd.prog 17 #[.string (bs p), .string (bs q)] w fun e W' => e = .returned (.string (bs (joinL p q))) ∧ W' = w :=
  rjoin_any (bs p) (bs q) (by rw [bs_size]; omega) (by rw [bs_size]; omega) w
theorem join_len (p q : Str) (hp : p.length ≤ 90) (hq : q.length ≤ 90) : (joinL p q).length ≤ 10000 := by
  unfold joinL
  split
  · omega
  · split
    · omega
    · split
      · rw [List.length_append]; omega
      · rw [List.length_append, List.length_append, List.length_singleton]; omega

set_option maxRecDepth 100000 in
set_option maxHeartbeats 4000000 in
theorem joins_walk (v : Value) (ms : List NodeM) (most room : Int) (who fr : Int) (p q : Str) (w : World) (hv : RdM w.heap.size v ms w) (hfit : FitD (pl ms)) (he : ErrG w) :
    Calls Tryd.prog 4 #[.agg #[v, .int .i64 most, .int .i64 room], .int .i64 who, .int .i64 fr, .string (bs p), .string (bs q)] w fun e w' => e = .returned (.bool true) ∧ Below w.heap.size w w' := by
  obtain ⟨aod, capd, rfl, _, _⟩ := rdm_form hv
  have HQ := Lib.hid fun W (hb : Below w.heap.size w W) => right_q (.slice aod ms.length capd) ms most room W (rdm_keep hv hb) hfit
  have HSh := Lib.hid fun W (hb : Below w.heap.size w W) => shown_any W (errG_keep he hb)
  have HV := Lib.hid hv
  have HE := Lib.hid he
  clear hv he hfit
  go_enter Tryd.func4, Tryd.ntmps4
  go_wp2_with fail
  refine calls_fresh1 ?_
  intro W0 hb0 hD hs0
  have HX0 := Lib.hid (show AskD w.heap.size (.slice aod ms.length capd) most room (pl ms) W0 from ⟨hD, ⟨ms, rfl, rdm_keep HV.out hb0⟩, errG_keep HE.out hb0⟩)
  refine (HQ.out W0 hb0).mono ?_
  rintro e W1 ⟨rfl, hb1⟩
  have HB1 := Lib.hid (ret_tr hb0 hb1)
  have HX1 := Lib.hid (HX0.out.keep hb1)
  clear hb0 hb1 hD HX0 HV HE
  cases hq : rightQ (pl ms) most room with
  | false =>
    clear hq
    go_wp2_with fail
    refine (HSh.out W1 HB1.out).mono ?_
    rintro e W2 ⟨rfl, hb2⟩
    go_wp2_with fail
    go_ret
    exact ⟨rfl, ret_tr HB1.out hb2⟩
  | true =>
    have HD := Lib.hid (diskW' hq)
    have HP := Lib.hid (right_P hq)
    clear hq
    by_cases hlen : 90 < p.length
    · have hI : decide ((90 : Int) < (p.length : Int)) = true := decide_eq_true (by omega)
      clear hlen
      go_wp2_with fail
      refine (HSh.out W1 HB1.out).mono ?_
      rintro e W2 ⟨rfl, hb2⟩
      go_wp2_with fail
      go_ret
      exact ⟨rfl, ret_tr HB1.out hb2⟩
    have hIp : decide ((90 : Int) < (p.length : Int)) = false := decide_eq_false (by omega)
    have hplp : p.length ≤ 90 := by omega
    clear hlen
    by_cases hlen : 90 < q.length
    · have hI : decide ((90 : Int) < (q.length : Int)) = true := decide_eq_true (by omega)
      clear hlen
      go_wp2_with fail
      refine (HSh.out W1 HB1.out).mono ?_
      rintro e W2 ⟨rfl, hb2⟩
      go_wp2_with fail
      go_ret
      exact ⟨rfl, ret_tr HB1.out hb2⟩
    have hIq : decide ((90 : Int) < (q.length : Int)) = false := decide_eq_false (by omega)
    have hplq : q.length ≤ 90 := by omega
    clear hlen
    rcases q with _ | ⟨c0, cs0⟩
    · skip
      go_wp2_with fail
      refine (HSh.out W1 HB1.out).mono ?_
      rintro e W2 ⟨rfl, hb2⟩
      go_wp2_with fail
      go_ret
      exact ⟨rfl, ret_tr HB1.out hb2⟩
    obtain ⟨q, hq⟩ : ∃ q, q = c0 :: cs0 := ⟨_, rfl⟩
    have hqn : q ≠ [] := by rw [hq]; exact List.cons_ne_nil _ _
    have hx0 : ∀ h, (bs q)[0]'h = c0 := fun h => by subst hq; rfl
    have hsz : 0 < (bs q).size := by rw [bs_size, hq]; exact Nat.succ_pos _
    have hqe : (q == []) = false := by rw [hq]; rfl
    have hpre : Lib.hasPrefix q [47] = decide (c0 = 47) := by rw [hq, pre_eq]; simp [Bool.beq_eq_decide_eq]
    rw [← hq] at hplq hIq ⊢
    clear hq
    by_cases hc : c0 = 47
    · have hI2 : ((c0.toNat : Int) == 47) = true := by rw [hc]; rfl
      clear hc hpre
      go_wp2_with fail
      refine (HSh.out W1 HB1.out).mono ?_
      rintro e W2 ⟨rfl, hb2⟩
      go_wp2_with fail
      go_ret
      exact ⟨rfl, ret_tr HB1.out hb2⟩
    have hI2 : ((c0.toNat : Int) == 47) = false := by rw [byte_eq]; simpa using hc
    have hq0 : Lib.hasPrefix q [47] = false := hpre.trans (decide_eq_false hc)
    clear hc hpre
    go_wp2_with fail
    refine (HSh.out W1 HB1.out).mono ?_
    rintro e W2 ⟨rfl, hb2⟩
    have HB2 := Lib.hid (ret_tr HB1.out hb2)
    have HX2 := Lib.hid (HX1.out.keep hb2)
    obtain ⟨p0, p1, p2⟩ := cells3 HX2.out.1
    clear hb2
    go_wp2_with fail
    have hA := fun i j => law_joins HP.out who fr p q i j hq0
    have hw1 := wnode_g (pl ms) HD.out most room who fr p true (by omega)
    have hw2 := fun i => wnode_g (pl ms) HD.out most room who i q true (by omega)
    have hw3 := wnode_g (pl ms) HD.out most room who fr (joinL p q) true (join_len p q hplp hplq)
    have HJ := Lib.hid (rjoin_bs p q hplp hplq)
    unfold WNodeIs at hw1 hw2 hw3
    generalize wnodeL (walkL (pl ms) who fr p true) = R at *
    obtain ⟨i, e⟩ := R
    replace hA := hA i
    replace hw2 := hw2 i
    generalize wnodeL (walkL (pl ms) who i q true) = S at *
    obtain ⟨j, f⟩ := S
    replace hA := hA j
    generalize wnodeL (walkL (pl ms) who fr (joinL p q) true) = T at *
    obtain ⟨k, g⟩ := T
    have HW3 := Lib.hid hw1
    have HW4 := Lib.hid hw2
    have HW5 := Lib.hid hw3
    have H := Lib.hid hA
    clear hw1 hw2 hw3 hA
    generalize pl ms = L at *
    generalize joinL p q = J at *
    refine (HW3.out _ _ HX2.out.2.1 HX2.out.2.2).mono ?_
    rintro e U3 ⟨rfl, hb3⟩
    have HB3 := Lib.hid (ret_tr HB2.out hb3)
    have HX3 := Lib.hid (HX2.out.keep hb3)
    clear p0 p1 p2 hb3
    obtain ⟨p0, p1, p2⟩ := cells3 HX3.out.1
    go_wp2_with fail
    refine (HW4.out _ _ HX3.out.2.1 HX3.out.2.2).mono ?_
    rintro e U4 ⟨rfl, hb4⟩
    have HB4 := Lib.hid (ret_tr HB3.out hb4)
    have HX4 := Lib.hid (HX3.out.keep hb4)
    clear p0 p1 p2 hb4
    obtain ⟨p0, p1, p2⟩ := cells3 HX4.out.1
    by_cases he : e = 0
    · subst he
      by_cases hf : f = 0
      · subst hf
        have h1 : (k = j ∧ g = 0) ∨ g = 8 ∨ (g = 9 ∧ 100 < J.length) := (H.out rfl rfl).imp_left fun h => by cases h; exact ⟨rfl, rfl⟩
        go_wp2_with fail
        have HG4 := HX4.out.keep ((Below.refl _ U4).drew)
        have HGa := Lib.hid HG4.2.1
        have HGb := Lib.hid HG4.2.2
        clear HG4
        go_region_with (first
          | (go_at_call 17; (with_reducible refine (HJ.out _).mono ?_); intro e U hU; obtain ⟨rfl, rfl⟩ := hU)
          | (go_at_call 15; (with_reducible refine (HW5.out _ _ HGa.out HGb.out).mono ?_); intro e U5 hU5; obtain ⟨rfl, hb5⟩ := hU5; have bU : Below U4.heap.size U4 U5 := ret_tr ((Below.refl _ U4).drew) hb5))
        all_goals rcases h1 with ⟨rfl, rfl⟩ | rfl | ⟨rfl, h1⟩
        all_goals try have hl : decide ((100 : Int) < (J.length : Int)) = true := decide_eq_true (by omega)
        all_goals go_wp2_with (go_at_call 17; (with_reducible refine (HJ.out _).mono ?_); intro e U hU; obtain ⟨rfl, rfl⟩ := hU)
        all_goals go_ret
        all_goals exact ⟨rfl, ret_tr HB4.out bU⟩
      · have hf2 : (f != 0) = true := by simpa using hf
        clear H
        go_wp2_with fail
        go_ret
        exact ⟨rfl, HB4.out⟩
    · have he2 : (e != 0) = true := by simpa using he
      clear H
      go_wp2_with fail
      go_ret
      exact ⟨rfl, HB4.out⟩
end Go.Proofs.YtckbhkchnhhecaaDoor
