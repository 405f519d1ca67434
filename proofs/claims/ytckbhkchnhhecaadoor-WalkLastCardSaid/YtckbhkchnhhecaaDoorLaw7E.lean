/-
  The walks of WalkLast and WalkSlash.
-/
import Derived.Test.YtckbhkchnhhecaaDoorLaw7D
namespace Go.Proofs.YtckbhkchnhhecaaDoor
open Go.RowKit Go.Shelf
attribute [local go_sem ↓] Go.wp_at_zero Go.wp_at_succ

set_option maxRecDepth 100000 in
set_option maxHeartbeats 4000000 in
theorem last_walk (v : Value) (ms : List NodeM) (most room : Int) (who fr : Int) (path : Str) (w : World) (hv : RdM w.heap.size v ms w) (hfit : FitD (pl ms)) (he : ErrG w) :
    Calls Tryd.prog 7 #[.agg #[v, .int .i64 most, .int .i64 room], .int .i64 who, .int .i64 fr, .string (bs path)] w fun e w' => e = .returned (.bool true) ∧ Below w.heap.size w w' := by
  obtain ⟨aod, capd, rfl, _, _⟩ := rdm_form hv
  have HQ := Lib.hid fun W (hb : Below w.heap.size w W) => right_q (.slice aod ms.length capd) ms most room W (rdm_keep hv hb) hfit
  have HSh := Lib.hid fun W (hb : Below w.heap.size w W) => shown_any W (errG_keep he hb)
  have HV := Lib.hid hv
  have HE := Lib.hid he
  clear hv he hfit
  go_enter Tryd.func7, Tryd.ntmps7
  go_wp2_with fail
  refine calls_fresh1 ?_
  intro W0 hb0 hD hs0
  have HX0 := Lib.hid (show AskD w.heap.size (.slice aod ms.length capd) most room (pl ms) W0 from ⟨hD, ⟨ms, rfl, rdm_keep HV.out hb0⟩, errG_keep HE.out hb0⟩)
  refine (HQ.out W0 hb0).mono ?_
  rintro e W1 ⟨rfl, hb1⟩
  have HB1 := Lib.hid (ret_tr hb0 hb1)
  have HX1 := Lib.hid (HX0.out.keep hb1)
  clear hb0 hb1 hD HX0 HV HE
  cases hq : rightQ (pl ms) most room with
  | false =>
    clear hq
    go_wp2_with fail
    refine (HSh.out W1 HB1.out).mono ?_
    rintro e W2 ⟨rfl, hb2⟩
    go_wp2_with fail
    go_ret
    exact ⟨rfl, ret_tr HB1.out hb2⟩
  | true =>
    have HD := Lib.hid (diskW' hq)
    have HP := Lib.hid (right_P hq)
    clear hq
    by_cases hlen : 200 < path.length
    · have hI : decide ((200 : Int) < (path.length : Int)) = true := decide_eq_true (by omega)
      clear hlen
      go_wp2_with fail
      refine (HSh.out W1 HB1.out).mono ?_
      rintro e W2 ⟨rfl, hb2⟩
      go_wp2_with fail
      go_ret
      exact ⟨rfl, ret_tr HB1.out hb2⟩
    have hIpath : decide ((200 : Int) < (path.length : Int)) = false := decide_eq_false (by omega)
    have hplpath : path.length ≤ 200 := by omega
    clear hlen
    go_wp2_with fail
    refine (HSh.out W1 HB1.out).mono ?_
    rintro e W2 ⟨rfl, hb2⟩
    have HB2 := Lib.hid (ret_tr HB1.out hb2)
    have HX2 := Lib.hid (HX1.out.keep hb2)
    obtain ⟨p0, p1, p2⟩ := cells3 HX2.out.1
    clear hb2
    go_wp2_with fail
    have h1 := law_last1 HP.out who fr path
    have h2 := law_last2 HP.out who fr path
    have i1 := walk_ino HP.out who fr path false
    have i2 := walk_ino HP.out who fr path true
    have hw1 := walk_g (pl ms) HD.out most room who fr path false (by omega)
    have hw2 := walk_g (pl ms) HD.out most room who fr path true (by omega)
    generalize walkL (pl ms) who fr path false = R at *
    generalize walkL (pl ms) who fr path true = T at *
    obtain ⟨⟨sd, sn, si, ss⟩, n⟩ := R
    obtain ⟨⟨td, tn, ti, ts⟩, m⟩ := T
    unfold WalkIs at hw1 hw2
    simp only at h1 h2 i1 i2
    have HW3 := Lib.hid hw1
    have HW4 := Lib.hid hw2
    have H := Lib.hid (And.intro h1 (And.intro h2 (And.intro i1 i2)))
    clear hw1 hw2 h1 h2 i1 i2
    generalize pl ms = L at *
    refine (HW3.out _ _ HX2.out.2.1 HX2.out.2.2).mono ?_
    rintro e U3 ⟨rfl, hb3⟩
    have HB3a := Lib.hid (ret_tr HB2.out hb3)
    have HX3a := Lib.hid (HX2.out.keep hb3)
    have hlt3a := HX3a.out.lt
    clear p0 p1 p2 hb3
    obtain ⟨p0, p1, p2⟩ := cells3 HX3a.out.1
    go_wp2_with fail
    refine calls_fresh1 ?_
    intro V3 hb3 hS3 hs3
    have HB3 := Lib.hid (ret_tr HB3a.out hb3)
    have HX3 := Lib.hid (HX3a.out.keep hb3)
    have HS33 : Hid (SpotM U3.heap.size ⟨sd, sn, si, ss⟩ V3) := Lib.hid hS3
    clear hb3 hS3 hs3
    refine (HW4.out _ _ HX3.out.2.1 HX3.out.2.2).mono ?_
    rintro e U4 ⟨rfl, hb4⟩
    have HB4a := Lib.hid (ret_tr HB3.out hb4)
    have HX4a := Lib.hid (HX3.out.keep hb4)
    have HS34a := Lib.hid (HS33.out.keep hb4)
    have hlt4a := HX4a.out.lt
    clear p0 p1 p2 hb4
    obtain ⟨p0, p1, p2⟩ := cells3 HX4a.out.1
    go_upto_region 5 with (fail)
    refine code_fresh1 ?_
    intro V4 hb4 hS4 hs4
    have HB4 := Lib.hid (ret_tr HB4a.out hb4)
    have HX4 := Lib.hid (HX4a.out.keep hb4)
    have HS34 := Lib.hid (HS34a.out.keep hb4)
    have HS44 : Hid (SpotM U4.heap.size ⟨td, tn, ti, ts⟩ V4) := Lib.hid hS4
    clear hb4 hS4 hs4
    clear p0 p1 p2
    obtain ⟨p0, p1, p2⟩ := cells3 HX4.out.1
    obtain ⟨s30, s31, s32, s33⟩ := cells4 HS34.out
    obtain ⟨s40, s41, s42, s43⟩ := cells4 HS44.out
    obtain ⟨h1, h2, i1, i2⟩ := H.out
    have qg := spotGuard
    clear H
    by_cases hn : n = 0
    · subst hn
      have i1 := i1 rfl
      by_cases hi : si = -1
      · have h : ((⟨td, tn, ti, ts⟩ : SpotL), m) = (⟨sd, sn, si, ss⟩, 0) := h1.resolve_right fun h => got_neg h.2.1 hi
        obtain ⟨h3, h4⟩ := res_eq h
        injection h3 with e1 e2 e3 e4
        subst e1 e2 e3 e4 h4
        subst hi
        have q1 : ∀ w, (Op.equalIn 10000 28 (spotV ⟨td, tn, -1, ts⟩) (spotV ⟨td, tn, -1, ts⟩)).run Tryd.prog w = .ok true w := fun w => (eqSpot ⟨td, tn, -1, ts⟩ ⟨td, tn, -1, ts⟩ w).trans (by rw [decide_eq_true rfl])
        clear h1 h2 i1 i2
        go_wp2_with fail
        go_ret
        exact ⟨rfl, HB4.out⟩
      · have hg := i1.resolve_left hi
        obtain ⟨k, b, off, rfl, hk, rfl, c0, -⟩ := at_got HX4.out.2.1 hg
        have hk0 : ¬ ((k : Int) < 0) := by omega
        have hkn : ¬ (ms.length ≤ k) := by omega
        have hk1 : decide (k < ms.length) = true := decide_eq_true hk
        by_cases h3 : (nodeL L k).kind = 3
        · have hK : ((nodeL L k).kind = 3) := h3
          clear h1 hg i1 hi
          by_cases hm : m = 0
          · subst hm
            have i2 := i2 rfl
            have h2 := h2 rfl
            by_cases ht : ti = -1
            · subst ht
              clear i2 h2
              go_wp2_with fail
              go_ret
              exact ⟨rfl, HB4.out⟩
            · have hg := i2.resolve_left ht
              obtain ⟨j, rfl, hj, d0, -⟩ := at_got' HX4.out.2.1 hg
              have hj0 : ¬ ((j : Int) < 0) := by omega
              have hj1 : decide (j < ms.length) = true := decide_eq_true hj
              have hJ : ¬ (nodeL L j).kind = 3 := h2.resolve_left hj0
              have hJ2 : ((nodeL L j).kind != 3) = true := by simp [hJ]
              clear i2 h2 hg ht
              go_wp2_with fail
              go_ret
              exact ⟨rfl, HB4.out⟩
          · clear i2 h2
            go_wp2_with fail
            go_ret
            exact ⟨rfl, HB4.out⟩
        · have h : ((⟨td, tn, ti, ts⟩ : SpotL), m) = (⟨sd, sn, k, ss⟩, 0) := h1.resolve_right fun h => h3 h.2.2
          obtain ⟨h3, h4⟩ := res_eq h
          injection h3 with e1 e2 e3 e4
          subst e1 e2 e3 e4 h4
          have q1 : ∀ w, (Op.equalIn 10000 28 (spotV ⟨td, tn, (k : Int), ts⟩) (spotV ⟨td, tn, (k : Int), ts⟩)).run Tryd.prog w = .ok true w := fun w => (eqSpot ⟨td, tn, (k : Int), ts⟩ ⟨td, tn, (k : Int), ts⟩ w).trans (by rw [decide_eq_true rfl])
          clear h1 h2 i1 i2 hg hi
          go_wp2_with fail
          go_ret
          exact ⟨rfl, HB4.out⟩
    · have h : ((⟨td, tn, ti, ts⟩ : SpotL), m) = (⟨sd, sn, si, ss⟩, n) := h1.resolve_right fun h => hn h.1
      obtain ⟨h3, h4⟩ := res_eq h
      injection h3 with e1 e2 e3 e4
      subst e1 e2 e3 e4 h4
      have q1 : ∀ w, (Op.equalIn 10000 28 (spotV ⟨td, tn, ti, ts⟩) (spotV ⟨td, tn, ti, ts⟩)).run Tryd.prog w = .ok true w := fun w => (eqSpot ⟨td, tn, ti, ts⟩ ⟨td, tn, ti, ts⟩ w).trans (by rw [decide_eq_true rfl])
      clear h1 h2 i1 i2
      go_wp2_with fail
      go_ret
      exact ⟨rfl, HB4.out⟩
set_option maxRecDepth 100000 in
set_option maxHeartbeats 4000000 in
theorem slash_walk (v : Value) (ms : List NodeM) (most room : Int) (who fr : Int) (path : Str) (w : World) (hv : RdM w.heap.size v ms w) (hfit : FitD (pl ms)) (he : ErrG w) :
    Calls Tryd.prog 9 #[.agg #[v, .int .i64 most, .int .i64 room], .int .i64 who, .int .i64 fr, .string (bs path)] w fun e w' => e = .returned (.bool true) ∧ Below w.heap.size w w' := by
  obtain ⟨aod, capd, rfl, _, _⟩ := rdm_form hv
  have HQ := Lib.hid fun W (hb : Below w.heap.size w W) => right_q (.slice aod ms.length capd) ms most room W (rdm_keep hv hb) hfit
  have HSh := Lib.hid fun W (hb : Below w.heap.size w W) => shown_any W (errG_keep he hb)
  have HV := Lib.hid hv
  have HE := Lib.hid he
  clear hv he hfit
  go_enter Tryd.func9, Tryd.ntmps9
  go_wp2_with fail
  refine calls_fresh1 ?_
  intro W0 hb0 hD hs0
  have HX0 := Lib.hid (show AskD w.heap.size (.slice aod ms.length capd) most room (pl ms) W0 from ⟨hD, ⟨ms, rfl, rdm_keep HV.out hb0⟩, errG_keep HE.out hb0⟩)
  refine (HQ.out W0 hb0).mono ?_
  rintro e W1 ⟨rfl, hb1⟩
  have HB1 := Lib.hid (ret_tr hb0 hb1)
  have HX1 := Lib.hid (HX0.out.keep hb1)
  clear hb0 hb1 hD HX0 HV HE
  cases hq : rightQ (pl ms) most room with
  | false =>
    clear hq
    go_wp2_with fail
    refine (HSh.out W1 HB1.out).mono ?_
    rintro e W2 ⟨rfl, hb2⟩
    go_wp2_with fail
    go_ret
    exact ⟨rfl, ret_tr HB1.out hb2⟩
  | true =>
    have HD := Lib.hid (diskW' hq)
    have HP := Lib.hid (right_P hq)
    clear hq
    by_cases hlen : 90 < path.length
    · have hI : decide ((90 : Int) < (path.length : Int)) = true := decide_eq_true (by omega)
      clear hlen
      go_wp2_with fail
      refine (HSh.out W1 HB1.out).mono ?_
      rintro e W2 ⟨rfl, hb2⟩
      go_wp2_with fail
      go_ret
      exact ⟨rfl, ret_tr HB1.out hb2⟩
    have hIpath : decide ((90 : Int) < (path.length : Int)) = false := decide_eq_false (by omega)
    have hplpath : path.length ≤ 90 := by omega
    clear hlen
    rcases path with _ | ⟨c0, cs0⟩
    · skip
      go_wp2_with fail
      refine (HSh.out W1 HB1.out).mono ?_
      rintro e W2 ⟨rfl, hb2⟩
      go_wp2_with fail
      go_ret
      exact ⟨rfl, ret_tr HB1.out hb2⟩
    have hI3 : ((cs0.length : Int) + 1) ≤ 90 := by rw [List.length_cons] at hplpath; omega
    go_wp2_with fail
    refine (HSh.out W1 HB1.out).mono ?_
    rintro e W2 ⟨rfl, hb2⟩
    have HB2 := Lib.hid (ret_tr HB1.out hb2)
    have HX2 := Lib.hid (HX1.out.keep hb2)
    obtain ⟨p0, p1, p2⟩ := cells3 HX2.out.1
    clear hb2
    go_wp2_with fail
    obtain ⟨path, hp⟩ : ∃ path, path = c0 :: cs0 := ⟨_, rfl⟩
    have hpn : path ≠ [] := by rw [hp]; exact List.cons_ne_nil _ _
    rw [← hp] at hplpath ⊢
    rw [← hp] at hIpath
    clear hp
    have h1 := law_slash HP.out who fr path hpn hplpath
    have hw1 := walk_g (pl ms) HD.out most room who fr (path ++ [47]) false (by rw [List.length_append, List.length_singleton]; omega)
    have hw2 := walk_g (pl ms) HD.out most room who fr path true (by omega)
    generalize walkL (pl ms) who fr (path ++ [47]) false = R at *
    generalize walkL (pl ms) who fr path true = T at *
    obtain ⟨⟨sd, sn, si, ss⟩, n⟩ := R
    obtain ⟨⟨td, tn, ti, ts⟩, m⟩ := T
    unfold WalkIs at hw1 hw2
    unfold SlashOk at h1
    simp only at h1
    have HW3 := Lib.hid hw1
    have HW4 := Lib.hid hw2
    have H := Lib.hid h1
    clear hw1 hw2 h1
    generalize pl ms = L at *
    have hcat : bs path ++ bs [47] = bs (path ++ [47]) := bs_app path [47]
    have hov : ¬ 9223372036854775807 < path.length + 1 := by omega
    rw [hcat]
    refine (HW3.out _ _ HX2.out.2.1 HX2.out.2.2).mono ?_
    rintro e U3 ⟨rfl, hb3⟩
    have HB3a := Lib.hid (ret_tr HB2.out hb3)
    have HX3a := Lib.hid (HX2.out.keep hb3)
    have hlt3a := HX3a.out.lt
    clear p0 p1 p2 hb3
    obtain ⟨p0, p1, p2⟩ := cells3 HX3a.out.1
    go_wp2_with fail
    refine calls_fresh1 ?_
    intro V3 hb3 hS3 hs3
    have HB3 := Lib.hid (ret_tr HB3a.out hb3)
    have HX3 := Lib.hid (HX3a.out.keep hb3)
    have HS33 : Hid (SpotM U3.heap.size ⟨sd, sn, si, ss⟩ V3) := Lib.hid hS3
    clear hb3 hS3 hs3
    refine (HW4.out _ _ HX3.out.2.1 HX3.out.2.2).mono ?_
    rintro e U4 ⟨rfl, hb4⟩
    have HB4a := Lib.hid (ret_tr HB3.out hb4)
    have HX4a := Lib.hid (HX3.out.keep hb4)
    have HS34a := Lib.hid (HS33.out.keep hb4)
    have hlt4a := HX4a.out.lt
    clear p0 p1 p2 hb4
    obtain ⟨p0, p1, p2⟩ := cells3 HX4a.out.1
    go_upto_region 5 with (fail)
    refine code_fresh1 ?_
    intro V4 hb4 hS4 hs4
    have HB4 := Lib.hid (ret_tr HB4a.out hb4)
    have HX4 := Lib.hid (HX4a.out.keep hb4)
    have HS34 := Lib.hid (HS34a.out.keep hb4)
    have HS44 : Hid (SpotM U4.heap.size ⟨td, tn, ti, ts⟩ V4) := Lib.hid hS4
    clear hb4 hS4 hs4
    clear p0 p1 p2
    obtain ⟨p0, p1, p2⟩ := cells3 HX4.out.1
    obtain ⟨s30, s31, s32, s33⟩ := cells4 HS34.out
    obtain ⟨s40, s41, s42, s43⟩ := cells4 HS44.out
    rcases H.out with ⟨hn, h1⟩ | ⟨rfl, rfl, rfl, rfl, rfl, h1⟩
    · rcases h1 with rfl | rfl
      · go_wp2_with fail
        go_ret
        exact ⟨rfl, HB4.out⟩
      · by_cases hm : m = 4
        · subst hm
          go_wp2_with fail
          go_ret
          exact ⟨rfl, HB4.out⟩
        · clear H
          go_wp2_with fail
          go_ret
          exact ⟨rfl, HB4.out⟩
    · clear H
      rcases h1 with h1 | ⟨h1, h2⟩
      · go_wp2_with fail
        go_ret
        exact ⟨rfl, HB4.out⟩
      · obtain ⟨k, b, off, rfl, hk, rfl, c0, -⟩ := at_got HX4.out.2.1 h1
        have hk0 : ¬ ((k : Int) < 0) := by omega
        have hk1 : decide (k < ms.length) = true := decide_eq_true hk
        rw [h2] at c0
        clear h1
        go_wp2_with fail
        go_ret
        exact ⟨rfl, HB4.out⟩
end Go.Proofs.YtckbhkchnhhecaaDoor
