import Derived.Test.YtilhiafmljmljaaDoorR22
import Derived.Deep.DeepCutAuto
namespace Go.Proofs.YtilhiafmljmljaaDoor
open Go.RowKit Go.Shelf
attribute [local go_sem ↓] Go.wp_at_zero Go.wp_at_succ
set_option maxRecDepth 100000 in
set_option maxHeartbeats 8000000 in
theorem rwalk_R (R : ResL) (v : Value) (ms : List NodeM) (most room who fr : Int) (path : Str) (follow : Bool) (w : World) (hv : RdM w.heap.size v ms w) (hd : DskW ms) (hpl : path.length ≤ 10000)
    (hR : R = walkL (pl ms) who fr path follow) :
    Calls Tryd.prog 16 #[.agg #[v, .int .i64 most, .int .i64 room], .int .i64 who, .int .i64 fr, .string (bs path), .bool follow] w fun e w' => WalkIs R e w w' := by
  obtain ⟨aod, capd, rfl, _, _⟩ := rdm_form hv
  have HV := Lib.hid hv
  have HR := Lib.hid hR
  have hret : ∀ (W : World) (cs : Array Value) (fr), W.heap[w.heap.size + 1]? = some (.cells cs 59 fr) → cs.size = 4 → ∀ tmps : Array Value, tmps.getD 10 undef = .pointer (some ⟨w.heap.size + 1, 0, none⟩) → (results Tryd.f16 tmps).run Tryd.prog W = .ok (.tuple #[.agg cs, tmps.getD 11 undef]) W := fun W cs fr h hs tmps ht =>
    results_ct (p := 10) (u := 11) (ty := 59) rfl tmps W (w.heap.size + 1) _ cs fr _ ht h Tryd.underlying59 rfl (by rw [hs]; kernel_rfl)
  have HRET := Lib.hid hret
  have hc := fun W => rcheck_any (bs path) W
  rw [bs_list] at hc
  have HC := Lib.hid hc
  clear hv hR hret hc
  go_enter Tryd.func16, Tryd.ntmps16
  go_wp2_with fail
  refine calls_fresh2 ?_
  intro W0 hb0 hP hQ hs0
  refine (HC.out W0).mono ?_
  rintro e w1 ⟨rfl, hb1⟩
  have hB1 := ret_tr hb0 hb1
  have hs1 := hb1.size
  have HP1 := Lib.hid ((hb1.block _ (by omega)).trans hP)
  have hQ1 := (hb1.block _ (by omega)).trans hQ
  by_cases h0 : checkE path = 0
  · have HC0 := Lib.hid h0
    have HQ1 := Lib.hid hQ1
    rw [h0]
    clear h0 hQ1 hb0 hb1 hP hQ
    go_wp2_with fail
    refine (rsplit_loop (bs path) (by rw [bs_size]; omega) w1).mono ?_
    rintro e w2 ⟨vp, rfl, hown, hb2⟩
    rw [bs_list] at hown ⊢
    have hB2 := ret_tr hB1 hb2
    have hs2 := hb2.size
    have HP2 := Lib.hid ((hb2.block _ (by omega)).trans HP1.out)
    have HQ2 := Lib.hid ((hb2.block _ (by omega)).trans HQ1.out)
    have HO := Lib.hid (Rd.own hown (Nat.le_refl w2.heap.size))
    obtain ⟨aop, capp, rfl⟩ := own_form hown
    have HB2 := Lib.hid hB2
    have hsz2 : w.heap.size + 2 ≤ w2.heap.size := by omega
    clear hown hb2 hB1 HP1 HQ1 hB2 hs1 HC
    obtain ⟨pre, hpre⟩ : ∃ pre, pre = Lib.hasPrefix path [47] := ⟨_, rfl⟩
    obtain ⟨slash, hsl⟩ : ∃ slash, slash = Lib.hasSuffix path [47] := ⟨_, rfl⟩
    obtain ⟨i0, hi0⟩ : ∃ i0, i0 = firstAt fr path := ⟨_, rfl⟩
    have hfirst : (pre = true ∧ i0 = 0) ∨ (pre = false ∧ i0 = fr) := by
      rw [hpre, hi0]
      unfold firstAt
      cases Lib.hasPrefix path [47]
      · exact .inr ⟨rfl, rfl⟩
      · exact .inl ⟨rfl, rfl⟩
    have hRn : parts path = [] → R = (⟨0, [], 0, true⟩, 0) ∧ i0 = 0 := fun hp => by
      obtain ⟨g1, g2⟩ := no_parts HC0.out hp
      have hf0 : firstAt fr path = 0 := by unfold firstAt; rw [if_pos g1]
      have hrt := (right_root hd.ok.right).1
      refine ⟨?_, by rw [hi0, hf0]⟩
      rw [HR.out]
      unfold walkL
      rw [if_neg (by simp [HC0.out]), if_pos hp, hf0, if_neg (by simp [hrt])]
    have hRg : parts path ≠ [] → goW (pl ms) who follow slash i0 (parts path) 0 = R := fun hp => by
      rw [HR.out, hi0, hsl]
      unfold walkL
      rw [if_neg (by simp [HC0.out]), if_neg hp]
    have HRn := Lib.hid hRn
    have HRg := Lib.hid hRg
    have hM : (parts path).length ≤ 100 := Nat.le_trans (parts_le path) (check_len HC0.out)
    rw [← hpre, ← hsl]
    clear hpre hsl hi0 hRn hRg HC0 HR
    go_upto_if 41 with (fail)
    go_cut [16] (fun s16 wx => s16 = .int .i64 i0 ∧ w2 = wx)
    case first =>
      rcases hfirst with ⟨h1, h2⟩ | ⟨h1, h2⟩
      · subst h1 h2
        go_wp2_with fail
        go_meet
        exact ⟨rfl, rfl⟩
      · subst h1 h2
        go_wp2_with fail
        go_meet
        exact ⟨rfl, rfl⟩
    case rest =>
    obtain ⟨rfl, rfl⟩ := hcut
    clear hfirst
    obtain ⟨p0, p1, p2⟩ := cells3 HP2.out
    by_cases hpe : (parts path).length = 0
    · have hI : (((parts path).length : Int) == 0) = true := by rw [hpe]; rfl
      obtain ⟨hR0, hi0⟩ := HRn.out (List.eq_nil_of_length_eq_zero hpe)
      have HR0 := Lib.hid hR0
      have HD := Lib.hid (rdir_any (.slice aod ms.length capd) ms most room 0 w2 (rdm_keep HV.out HB2.out) hd.ok.len)
      have hrt := (right_root hd.ok.right).1
      rw [hrt] at HD
      obtain ⟨q0, q1, q2, q3⟩ := cells4 HQ2.out
      clear hR0 hpe hrt
      all_goals
        subst hi0
        go_wp2_with fail
        refine HD.out.mono ?_
        rintro e w3 ⟨rfl, hb3⟩
        have hQ3 := (hb3.block _ (by omega)).trans HQ2.out
        clear q0 q1 q2 q3
        obtain ⟨q0, q1, q2, q3⟩ := cells4 hQ3
        have rf := fun j => Lib.frozen_of_heap hQ3 j
        go_wp2_with (with_reducible refine Posted.stop ?_)
        refine Posted.go ?_
        refine post_sets4 hQ3 ?_
        intro W4 hb4 hg4 hs4 hR4
        have hh := HRET.out _ _ _ hR4 rfl
        refine bodyPost_ret (hh _ ?_) ?_ ?_
        · simp only [Array.getD_eq_getD_getElem?, List.getElem?_toArray, List.getElem?_cons_succ, List.getElem?_cons_zero, Option.getD_some]
        · rfl
        simp only [Array.getD_eq_getD_getElem?, List.getElem?_toArray, List.getElem?_cons_succ, List.getElem?_cons_zero, Option.getD_some]
        exact ⟨by rw [HR0.out]; first | done | rfl, (ret_tr HB2.out hb3).trans (hb4.mono (by omega))⟩
    · have hI : (((parts path).length : Int) == 0) = false := by rw [beq_eq_false_iff_ne]; omega
      have hgo := HRg.out (fun e => hpe (by rw [e]; rfl))
      have HGo := Lib.hid hgo
      have HNe := Lib.hid (show parts path ≠ [] from fun e => hpe (by rw [e]; rfl))
      have HM0 : Hid ((8 - 0) * 101 + (parts path).length ≤ 2000) := Lib.hid (by omega)
      clear hgo hpe
      all_goals
        go_wp2_with fail
        clear p0 p1 p2
        go_loopg [13, 16, 17] ((8 - 0) * 101 + (parts path).length) (fun k s13 s16 s17 wr => ∃ (i : Int) (left : List Str) (hops : Nat), s16 = .int .i64 i ∧ s17 = .int .i64 hops ∧ k = (8 - hops) * 101 + left.length ∧ k ≤ 2000 ∧ hops ≤ 8 ∧ Hid (left ≠ []) ∧ Hid (Rd wr.heap.size 1 s13 left.length (strs left) wr) ∧ Hid (goW (pl ms) who follow slash i left hops = R) ∧ Hid (Below w2.heap.size w2 wr))
        case atStart => exact ⟨_, parts path, 0, rfl, rfl, rfl, HM0.out, Nat.zero_le _, HNe, HO, HGo, Lib.hid (Below.refl _ _)⟩
        case round =>
          obtain ⟨i, left, hops, rfl, rfl, hk, hk2, hh, hne, hL, hG, hBr⟩ := hrel
          have HB := Lib.hid (ret_tr HB2.out hBr.out)
          have hsr := hBr.out.size
          obtain ⟨p0, p1, p2⟩ := cells3 ((hBr.out.block _ (by omega)).trans HP2.out)
          have HQr := Lib.hid ((hBr.out.block _ (by omega)).trans HQ2.out)
          have HD := Lib.hid (rdir_any (.slice aod ms.length capd) ms most room i wr (rdm_keep HV.out HB.out) hd.ok.len)
          cases left with
          | nil => exact absurd rfl hne.out
          | cons p rest =>
            go_wp2_with fail
            refine HD.out.mono ?_
            rintro e w3 ⟨rfl, hb3⟩
            have hsr3 := hb3.size
            have HB3 := Lib.hid (ret_tr HB.out hb3)
            have HW3 := Lib.hid (ret_tr hBr.out hb3)
            have HQ3 := Lib.hid ((hb3.block _ (by omega)).trans HQr.out)
            have HL3 := Lib.hid (rd_keep hL.out hb3)
            have hP3 := (ret_tr hBr.out hb3).block _ (show w.heap.size < w2.heap.size by omega) |>.trans HP2.out
            have HP3 := Lib.hid hP3
            clear p0 p1 p2 hb3 hP3
            by_cases h0 : dirE (pl ms) i = 0
            · have H0 := Lib.hid h0
              have HGet := Lib.hid (rget_any (.slice aod ms.length capd) ms most room i w3 (rdm_keep HV.out HB3.out) hd.ok.len)
              obtain ⟨p0, p1, p2⟩ := cells3 HP3.out
              rw [h0]
              clear h0
              go_wp2_with fail
              refine HGet.out.mono ?_
              rintro e w4 ⟨v4, rfl, hr4, hb4⟩
              rw [getL_node] at hr4 ⊢
              obtain ⟨ao4, cp4, e4, _, _⟩ := Rd.form hr4
              have e4' : v4 = .slice ao4 (nodeL (pl ms) i).names.length cp4 := e4
              subst e4'
              have HMay : Hid (mayAt (pl ms) who i = mayB (nodeL (pl ms) i).mode (nodeL (pl ms) i).owner who 1) := Lib.hid rfl
              have HB4 := Lib.hid (ret_tr HB3.out hb4)
              have HBB4 := Lib.hid hb4
              clear hr4 e4 hb4 p0 p1 p2 HD HGet
              generalize nodeL (pl ms) i = n at *
              go_wp2_with fail
              refine calls_fresh1 ?_
              intro W5 hb5 hn5 hs5
              have hsr5 : w3.heap.size < W5.heap.size := by have := HBB4.out.size; omega
              have hB35 := ret_tr HBB4.out hb5
              have HB5 := Lib.hid (ret_tr HB4.out hb5)
              have HW5 := Lib.hid (ret_tr HW3.out hB35)
              have HP5 := Lib.hid ((hB35.block _ (show w.heap.size < w3.heap.size by omega)).trans HP3.out)
              have HQ5 := Lib.hid ((hB35.block _ (show w.heap.size + 1 < w3.heap.size by omega)).trans HQ3.out)
              have HL5 := Lib.hid (rd_keep HL3.out hB35)
              clear hn5 hb5 hs5 HBB4 HB4 HL3 HP3 HQ3 HB3 hB35
              refine (rmay_any n.mode n.owner who 1 W5).mono ?_
              rintro e w' ⟨rfl, rfl⟩
              obtain ⟨p0, p1, p2⟩ := cells3 HP5.out
              cases hm : mayB n.mode n.owner who 1 with
              | false =>
                have HRn : Hid (R = (zeroS, 7)) := Lib.hid (by rw [← hG.out]; exact go_may H0.out (by rw [HMay.out, hm]))
                obtain ⟨q0, q1, q2, q3⟩ := cells4 HQ5.out
                have rf := fun j => Lib.frozen_of_heap HQ5.out j
                clear hm
                go_wp2_with (with_reducible refine Posted.stop ?_)
                refine Posted.go ?_
                refine post_sets4 HQ5.out ?_
                intro W9 hb9 hg9 hs9 hR9
                have hh := HRET.out _ _ _ hR9 rfl
                refine bodyPost_ret (hh _ ?_) ?_ ?_
                · simp only [Array.getD_eq_getD_getElem?, List.getElem?_toArray, List.getElem?_cons_succ, List.getElem?_cons_zero, Option.getD_some]
                · rfl
                simp only [Array.getD_eq_getD_getElem?, List.getElem?_toArray, List.getElem?_cons_succ, List.getElem?_cons_zero, Option.getD_some]
                exact ⟨by rw [HRn.out]; first | done | rfl, HB5.out.trans (hb9.mono (by omega))⟩
              | true =>
                have HMt : Hid (mayAt (pl ms) who i = true) := Lib.hid (by rw [HMay.out, hm])
                have hr0 := HL5.out
                obtain ⟨bl, off, cap, ev, _, _, hbb, _, hcc⟩ := hr0.at (by simp)
                subst ev
                have d0 : W5.cell? ⟨bl, off, none⟩ = some (.string (bs p)) := by have := hcc 0 (.string (bs p)) rfl; simpa using this
                have hsl : ∀ w, (Instr.slice 71 (.slice (some ⟨bl, off, none⟩) (rest.length + 1) cap) (some (.int .i64 1)) none none).run Tryd.prog w = .ok (.slice (cutA (some ⟨bl, off, none⟩) 1 cap) rest.length (cap - 1)) w := fun w =>
                  run_cut 71 9 (some ⟨bl, off, none⟩) (rest.length + 1) cap 1 1 w Tryd.underlying71 (sizeStrW w) rfl (by omega)
                have hrt' : Rd W5.heap.size 1 (.slice (cutA (some ⟨bl, off, none⟩) 1 cap) rest.length (cap - 1)) rest.length (strs rest) W5 := by
                  have hrt := hr0.tail 1 (by simp)
                  have h1 : (p :: rest).length - 1 = rest.length := by simp
                  have h2 : (strs (p :: rest)).drop 1 = strs rest := rfl
                  rw [h1, h2] at hrt
                  exact hrt
                have HL := Lib.hid hrt'
                have HLo := Lib.hid (rlook_any (.slice aod ms.length capd) ms most room i p W5 (rdm_keep HV.out HB5.out) hd.ok)
                obtain ⟨j, hj⟩ : ∃ j, j = lookL (pl ms) i p := ⟨_, rfl⟩
                have HJ := Lib.hid hj
                rw [← hj] at HLo
                have hkl : (p :: rest).length = rest.length + 1 := rfl
                rw [hkl] at hk
                clear hm hr0 hcc hrt' hj HL5 hL
                go_wp2_with fail
                refine HLo.out.mono ?_
                rintro e w6 ⟨rfl, hb6⟩
                have hsr6 := hb6.size
                have HB6 := Lib.hid (ret_tr HB5.out hb6)
                have HW6 := Lib.hid (ret_tr HW5.out hb6)
                have HP6 := Lib.hid ((hb6.block _ (show w.heap.size < W5.heap.size by omega)).trans HP5.out)
                have HQ6 := Lib.hid ((hb6.block _ (show w.heap.size + 1 < W5.heap.size by omega)).trans HQ5.out)
                have HL6 := Lib.hid (rd_keep HL.out hb6)
                clear p0 p1 p2 d0 hsl hb6 HB5 HP5 HQ5 HL HLo
                by_cases hneg : j < 0
                · have hI6 : decide (j < 0) = true := by simpa using hneg
                  have hng : lookL (pl ms) i p < 0 := by rw [← HJ.out]; exact hneg
                  obtain ⟨q0, q1, q2, q3⟩ := cells4 HQ6.out
                  have rf := fun j => Lib.frozen_of_heap HQ6.out j
                  by_cases hr : rest.length = 0
                  · have hr1 : decide (0 < rest.length) = false := decide_eq_false (by omega)
                    have HRn : Hid (R = (⟨i, p, -1, slash⟩, 0)) := Lib.hid (by rw [← hG.out, List.eq_nil_of_length_eq_zero hr]; exact go_none1 H0.out HMt.out hng rfl)
                    clear hr hng hneg
                    go_wp2_with (with_reducible refine Posted.stop ?_)
                    refine Posted.go ?_
                    refine post_sets4 HQ6.out ?_
                    intro W9 hb9 hg9 hs9 hR9
                    have hh := HRET.out _ _ _ hR9 rfl
                    refine bodyPost_ret (hh _ ?_) ?_ ?_
                    · simp only [Array.getD_eq_getD_getElem?, List.getElem?_toArray, List.getElem?_cons_succ, List.getElem?_cons_zero, Option.getD_some]
                    · rfl
                    simp only [Array.getD_eq_getD_getElem?, List.getElem?_toArray, List.getElem?_cons_succ, List.getElem?_cons_zero, Option.getD_some]
                    exact ⟨by rw [HRn.out]; first | done | rfl, HB6.out.trans (hb9.mono (by omega))⟩
                  · have hr1 : decide (0 < rest.length) = true := decide_eq_true (by omega)
                    have HRn : Hid (R = (zeroS, 2)) := Lib.hid (by rw [← hG.out]; exact go_none2 H0.out HMt.out hng (fun e => hr (by rw [e]; rfl)))
                    clear hr hng hneg
                    go_wp2_with (with_reducible refine Posted.stop ?_)
                    refine Posted.go ?_
                    refine post_sets4 HQ6.out ?_
                    intro W9 hb9 hg9 hs9 hR9
                    have hh := HRET.out _ _ _ hR9 rfl
                    refine bodyPost_ret (hh _ ?_) ?_ ?_
                    · simp only [Array.getD_eq_getD_getElem?, List.getElem?_toArray, List.getElem?_cons_succ, List.getElem?_cons_zero, Option.getD_some]
                    · rfl
                    simp only [Array.getD_eq_getD_getElem?, List.getElem?_toArray, List.getElem?_cons_succ, List.getElem?_cons_zero, Option.getD_some]
                    exact ⟨by rw [HRn.out]; first | done | rfl, HB6.out.trans (hb9.mono (by omega))⟩
                · have hI6 : decide (j < 0) = false := by simpa using hneg
                  have hng : ¬ lookL (pl ms) i p < 0 := by rw [← HJ.out]; exact hneg
                  have HNG : Hid (0 ≤ lookL (pl ms) i p) := Lib.hid (by omega)
                  have HGet2 := Lib.hid (rget_any (.slice aod ms.length capd) ms most room j w6 (rdm_keep HV.out HB6.out) hd.ok.len)
                  obtain ⟨p0, p1, p2⟩ := cells3 HP6.out
                  clear hneg hng
                  go_wp2_with fail
                  refine HGet2.out.mono ?_
                  rintro e w7 ⟨v7, rfl, hr7, hb7⟩
                  rw [getL_node] at hr7 ⊢
                  obtain ⟨ao7, cp7, e7, _, _⟩ := Rd.form hr7
                  have e7' : v7 = .slice ao7 (nodeL (pl ms) j).names.length cp7 := e7
                  subst e7'
                  have hdj := hd.len j
                  obtain ⟨m, hm⟩ : ∃ m, m = nodeL (pl ms) j := ⟨_, rfl⟩
                  rw [← hm] at hdj ⊢
                  have HM : Hid (nodeL (pl ms) (lookL (pl ms) i p) = m) := Lib.hid (by rw [← HJ.out, hm])
                  have HBB7 := Lib.hid hb7
                  clear hr7 e7 hb7 p0 p1 p2 HGet2 hm
                  go_upto_region 28 with (fail)
                  refine code_fresh1 ?_
                  intro W8 hb8 hn8 hs8
                  have hB68 := ret_tr HBB7.out hb8
                  have hsr8 : w6.heap.size < W8.heap.size := by have := HBB7.out.size; omega
                  have HB8 := Lib.hid (ret_tr HB6.out hB68)
                  have HW8 := Lib.hid (ret_tr HW6.out hB68)
                  have HP8 := Lib.hid ((hB68.block _ (show w.heap.size < w6.heap.size by omega)).trans HP6.out)
                  have HQ8 := Lib.hid ((hB68.block _ (show w.heap.size + 1 < w6.heap.size by omega)).trans HQ6.out)
                  have HL8 := Lib.hid (rd_keep HL6.out hB68)
                  have HN8 := Lib.hid hn8
                  obtain ⟨n0, n1, n2, n3, n4, n5, n6, n7⟩ := cells8 hn8
                  obtain ⟨g, hg⟩ : ∃ g, g = w7.heap.size := ⟨_, rfl⟩
                  rw [← hg] at n0 n1 n2 n3 n4 n5 n6 n7 HN8 ⊢
                  clear hb8 hn8 hs8 HBB7 HB6 HP6 HQ6 HL6 hB68 hg
                  go_cut [114] from 55 to 161 (fun s114 wx => s114 = .bool (decide (m.kind = 3) && (decide (0 < rest.length) || follow || slash)) ∧ W8 = wx)
                  case first =>
                    by_cases hk3 : m.kind = 3
                    · have k1 : (m.kind == 3) = true := by simpa using hk3
                      have hk3' : decide (m.kind = 3) = true := by simpa using hk3
                      by_cases hr : rest.length = 0
                      · have hr1 : decide (0 < rest.length) = false := decide_eq_false (by omega)
                        clear hk3 hr
                        cases follow
                        · cases slash
                          · go_wp2_with fail
                            go_meet
                            exact ⟨by rw [hk3', hr1]; rfl, rfl⟩
                          · go_wp2_with fail
                            go_meet
                            exact ⟨by rw [hk3', hr1]; rfl, rfl⟩
                        · go_wp2_with fail
                          go_meet
                          exact ⟨by rw [hk3', hr1]; rfl, rfl⟩
                      · have hr1 : decide (0 < rest.length) = true := decide_eq_true (by omega)
                        clear hk3 hr
                        go_wp2_with fail
                        go_meet
                        exact ⟨by rw [hk3', hr1]; rfl, rfl⟩
                    · have k1 : (m.kind == 3) = false := by simpa using hk3
                      have hk3' : decide (m.kind = 3) = false := by simpa using hk3
                      clear hk3
                      go_wp2_with fail
                      go_meet
                      exact ⟨by rw [hk3']; rfl, rfl⟩
                  case rest =>
                  obtain ⟨rfl, rfl⟩ := hcut
                  obtain ⟨c, hc⟩ : ∃ c, c = (decide (m.kind = 3) && (decide (0 < rest.length) || follow || slash)) := ⟨_, rfl⟩
                  rw [← hc]
                  have HCc := Lib.hid hc
                  clear hc
                  cases c with
                  | true =>
                    have hk : m.kind = 3 ∧ (rest ≠ [] ∨ follow = true ∨ slash = true) := by
                      have := HCc.out.symm
                      simp only [Bool.and_eq_true, decide_eq_true_iff, Bool.or_eq_true] at this
                      refine ⟨this.1, ?_⟩
                      rcases this.2 with (h | h) | h
                      · exact .inl (fun e => by rw [e] at h; exact absurd h (Nat.lt_irrefl 0))
                      · exact .inr (.inl h)
                      · exact .inr (.inr h)
                    have HK : Hid ((nodeL (pl ms) (lookL (pl ms) i p)).kind = 3) := Lib.hid (by rw [HM.out]; exact hk.1)
                    have HC5 := Lib.hid hk.2
                    clear hk
                    by_cases h8 : hops = 8
                    · subst h8
                      have HRn : Hid (R = (zeroS, 8)) := Lib.hid (by rw [← hG.out]; exact go_loop H0.out HMt.out (Int.not_lt.2 HNG.out) HK.out HC5.out (Nat.le_refl 8))
                      obtain ⟨q0, q1, q2, q3⟩ := cells4 HQ8.out
                      have rf := fun j => Lib.frozen_of_heap HQ8.out j
                      go_wp2_with (with_reducible refine Posted.stop ?_)
                      refine Posted.go ?_
                      refine post_sets4 HQ8.out ?_
                      intro W9 hb9 hg9 hs9 hR9
                      have hh := HRET.out _ _ _ hR9 rfl
                      refine bodyPost_ret (hh _ ?_) ?_ ?_
                      · simp only [Array.getD_eq_getD_getElem?, List.getElem?_toArray, List.getElem?_cons_succ, List.getElem?_cons_zero, Option.getD_some]
                      · rfl
                      simp only [Array.getD_eq_getD_getElem?, List.getElem?_toArray, List.getElem?_cons_succ, List.getElem?_cons_zero, Option.getD_some]
                      exact ⟨by rw [HRn.out]; first | done | rfl, HB8.out.trans (hb9.mono (by omega))⟩
                    · have h8I : ((hops : Int) == 8) = false := by rw [beq_eq_false_iff_ne]; omega
                      have H8 := Lib.hid (show ¬ 8 ≤ hops by omega)
                      have h80 : (0 : Int) ≤ (hops : Int) := by omega
                      have h81 : (hops : Int) ≤ 8 := by omega
                      have hchk := rcheck_any (bs m.data) W8
                      rw [bs_list] at hchk
                      have HCH := Lib.hid hchk
                      have HMd : Hid ((nodeL (pl ms) (lookL (pl ms) i p)).data = m.data) := Lib.hid (by rw [HM.out])
                      clear h8 hchk
                      go_wp2_with fail
                      refine HCH.out.mono ?_
                      rintro e w9 ⟨rfl, hb9⟩
                      have hsr9 := hb9.size
                      have HB9 := Lib.hid (ret_tr HB8.out hb9)
                      have HW9 := Lib.hid (ret_tr HW8.out hb9)
                      have HQ9 := Lib.hid ((hb9.block _ (show w.heap.size + 1 < W8.heap.size by omega)).trans HQ8.out)
                      have HP9 := Lib.hid ((hb9.block _ (show w.heap.size < W8.heap.size by omega)).trans HP8.out)
                      have hn9 := (hb9.block _ (Array.getElem?_eq_some_iff.1 HN8.out).1).trans HN8.out
                      have HL9 := Lib.hid (rd_keep HL8.out hb9)
                      clear n0 n1 n2 n3 n4 n5 n6 n7 hb9
                      obtain ⟨n0, n1, n2, n3, n4, n5, n6, n7⟩ := cells8 hn9
                      clear hn9 HN8 HL8 HB8 HQ8 HP8 HCH
                      by_cases hce : checkE m.data = 0
                      · have HCe : Hid (checkE (nodeL (pl ms) (lookL (pl ms) i p)).data = 0) := Lib.hid (by rw [HMd.out]; exact hce)
                        have HLen := Lib.hid (check_len hce)
                        rw [hce]
                        clear hce
                        go_wp2_with fail
                        refine (rsplit_loop (bs m.data) (by rw [bs_size]; omega) w9).mono ?_
                        rintro e w10 ⟨vq, rfl, hown, hb10⟩
                        rw [bs_list] at hown ⊢
                        have hsr10 := hb10.size
                        have HB10 := Lib.hid (ret_tr HB9.out hb10)
                        have HW10 := Lib.hid (ret_tr HW9.out hb10)
                        have HQ10 := Lib.hid ((hb10.block _ (show w.heap.size + 1 < w9.heap.size by omega)).trans HQ9.out)
                        have HL10 := Lib.hid (rd_keep HL9.out hb10)
                        have HO10 := Lib.hid (Rd.own hown (Nat.le_refl w10.heap.size))
                        obtain ⟨aoq, capq, rfl⟩ := own_form hown
                        clear hb10 hown n0 n1 n2 n3 n4 n5 n6 n7 HL9 HQ9 HB9 HP9
                        have hpq : (parts m.data).length ≤ 100 := Nat.le_trans (parts_le m.data) HLen.out
                        have HLk : Hid (goW (pl ms) who follow slash (firstAt i m.data) (parts m.data ++ rest) (hops + 1) = R) := Lib.hid (by
                          rw [← hG.out, go_link H0.out HMt.out (Int.not_lt.2 HNG.out) HK.out HC5.out H8.out HCe.out, HMd.out])
                        obtain ⟨i1, hi1⟩ : ∃ i1, i1 = firstAt i m.data := ⟨_, rfl⟩
                        have hf1 : (Lib.hasPrefix m.data [47] = true ∧ i1 = 0) ∨ (Lib.hasPrefix m.data [47] = false ∧ i1 = i) := by
                          rw [hi1]
                          unfold firstAt
                          cases Lib.hasPrefix m.data [47]
                          · exact .inr ⟨rfl, rfl⟩
                          · exact .inl ⟨rfl, rfl⟩
                        rw [← hi1] at HLk
                        clear hi1
                        obtain ⟨pq, hpqe⟩ : ∃ pq, pq = Lib.hasPrefix m.data [47] := ⟨_, rfl⟩
                        rw [← hpqe] at hf1 ⊢
                        clear hpqe
                        go_upto_if 134 with (fail)
                        go_cut [16] from 55 to 161 (fun s16 wx => s16 = .int .i64 i1 ∧ w10 = wx)
                        case first =>
                          rcases hf1 with ⟨h1, h2⟩ | ⟨h1, h2⟩
                          · subst h1 h2
                            go_wp2_with fail
                            go_meet
                            exact ⟨rfl, rfl⟩
                          · subst h1 h2
                            go_wp2_with fail
                            go_meet
                            exact ⟨rfl, rfl⟩
                        case rest =>
                        obtain ⟨rfl, rfl⟩ := hcut
                        clear hf1
                        obtain ⟨ii, hii, hz0, hz1, hz2⟩ := info_parts infoStr
                        have hown0 : (w10.alloc (.cells #[] 9)).ownsRow w10.heap.size 9 1 (.slice (some ⟨w10.heap.size, 0, none⟩) 0 0) 0 [] := World.ownsRow_lit (size := 1) w10 #[] 0 (Nat.le_refl _) (Nat.zero_le _) rfl
                        have hbA : Below w10.heap.size w10 (w10.alloc (.cells #[] 9)) := (Below.refl _ _).alloc (Nat.le_refl _) _
                        have HO11 := Lib.hid (rd_keep HO10.out hbA)
                        have HL11 := Lib.hid (rd_keep HL10.out hbA)
                        have HBA := Lib.hid hbA
                        have HH0 := Lib.hid hown0
                        have hrl2 : rest.length ≤ 2000 := by omega
                        clear hown0 hbA
                        go_wp2_with (at_builtin; refine wpList_append_rd rfl (.tmp 135) (.tmp 136) 71 rfl w10.heap.size 9 ii _ 1 16 Tryd.underlying71 hii hz0 hz1 hz2 rfl (by decide) _ 0 [] rfl HH0.out _ _ (parts m.data).length (strs (parts m.data)) rfl HO11.out (strs_one _) (by unfold maxLen; omega) (by omega) (by simp) ?_)
                        intro v3 w11 ho3 hgr3
                        have bel11 : Below w10.heap.size w10 w11 := HBA.out.grown hgr3 (by simp) (fun k hk => by cases hk; exact Nat.le_refl _)
                        have sz11 := bel11.size
                        have HL12 := Lib.hid (HL10.out.below bel11)
                        have HO3 := Lib.hid ho3
                        have HE11 := Lib.hid bel11
                        clear hgr3 ho3 bel11
                        go_wp2_with (at_builtin; refine wpList_append_rd rfl (.tmp 137) (.tmp 138) 71 rfl w10.heap.size 9 ii _ 1 16 Tryd.underlying71 hii hz0 hz1 hz2 rfl (by decide) _ _ _ rfl HO3.out _ _ rest.length (strs rest) rfl HL12.out (strs_one _) (by unfold maxLen; omega) (by omega) sz11 ?_)
                        intro v4 w12 ho4 hgr4
                        have bel12 : Below w10.heap.size w10 w12 := HE11.out.grown hgr4 sz11 (fun k hk => (HO3.out.lt k hk).1)
                        obtain ⟨q, hq⟩ : ∃ q, q = parts m.data ++ rest := ⟨_, rfl⟩
                        have hql : (parts m.data).length + rest.length = q.length := by rw [hq, List.length_append]
                        have hqs : strs (parts m.data) ++ strs rest = strs q := by rw [hq, strs_app]
                        rw [hql, hqs] at ho4
                        rw [← hq] at HLk
                        have hqm : q.length ≤ 100 + rest.length := by rw [← hql]; omega
                        have HQ12 := Lib.hid ((bel12.block _ (show w.heap.size + 1 < w10.heap.size by omega)).trans HQ10.out)
                        have HB12 := Lib.hid (ret_tr HB10.out bel12)
                        have HW12 := Lib.hid (ret_tr HW10.out bel12)
                        have HO4 := Lib.hid (Rd.own ho4 (Nat.le_refl w12.heap.size))
                        obtain ⟨ao4, cp4, rfl⟩ := own_form ho4
                        have sz12 := bel12.size
                        clear ho4 hgr4 bel12 hql hqs hq HO3 HH0 HO11 HL11 HL12 HO10 HL10
                        by_cases hq0 : q.length = 0
                        · have hqI : ((q.length : Int) == 0) = true := by rw [hq0]; rfl
                          have HRn : Hid (R = (⟨0, [], 0, slash⟩, 0)) := Lib.hid (by rw [← HLk.out, List.eq_nil_of_length_eq_zero hq0]; exact go_nil)
                          obtain ⟨q0, q1, q2, q3⟩ := cells4 HQ12.out
                          have rf := fun j => Lib.frozen_of_heap HQ12.out j
                          clear hq0
                          go_wp2_with (with_reducible refine Posted.stop ?_)
                          refine Posted.go ?_
                          refine post_sets4 HQ12.out ?_
                          intro W9 hb9 hg9 hs9 hR9
                          have hh := HRET.out _ _ _ hR9 rfl
                          refine bodyPost_ret (hh _ ?_) ?_ ?_
                          · simp only [Array.getD_eq_getD_getElem?, List.getElem?_toArray, List.getElem?_cons_succ, List.getElem?_cons_zero, Option.getD_some]
                          · rfl
                          simp only [Array.getD_eq_getD_getElem?, List.getElem?_toArray, List.getElem?_cons_succ, List.getElem?_cons_zero, Option.getD_some]
                          exact ⟨by rw [HRn.out]; first | done | rfl, HB12.out.trans (hb9.mono (by omega))⟩
                        · have hqI : ((q.length : Int) == 0) = false := by rw [beq_eq_false_iff_ne]; omega
                          have HNq := Lib.hid (show q ≠ [] from fun e => hq0 (by rw [e]; rfl))
                          have H8h := H8.out
                          have hK : 101 * (8 - (hops + 1)) + 101 ≤ 101 * (8 - hops) := by omega
                          clear hq0
                          go_wp2_with fail
                          go_roundg ((8 - (hops + 1)) * 101 + q.length)
                          case measure => omega
                          case rel => exact ⟨i1, q, hops + 1, rfl, by go_num, rfl, by omega, by omega, HNq, HO4, HLk, HW12⟩
                      · have hceI : (checkE m.data != 0) = true := by rw [bne_iff_ne]; exact hce
                        have HRn : Hid (R = (zeroS, checkE m.data)) := Lib.hid (by rw [← hG.out, go_bad H0.out HMt.out (Int.not_lt.2 HNG.out) HK.out HC5.out H8.out (by rw [HMd.out]; exact hce), HMd.out])
                        obtain ⟨q0, q1, q2, q3⟩ := cells4 HQ9.out
                        have rf := fun j => Lib.frozen_of_heap HQ9.out j
                        generalize checkE m.data = x at *
                        clear hce
                        go_wp2_with (with_reducible refine Posted.stop ?_)
                        refine Posted.go ?_
                        refine post_sets4 HQ9.out ?_
                        intro W9 hb9 hg9 hs9 hR9
                        have hh := HRET.out _ _ _ hR9 rfl
                        refine bodyPost_ret (hh _ ?_) ?_ ?_
                        · simp only [Array.getD_eq_getD_getElem?, List.getElem?_toArray, List.getElem?_cons_succ, List.getElem?_cons_zero, Option.getD_some]
                        · rfl
                        simp only [Array.getD_eq_getD_getElem?, List.getElem?_toArray, List.getElem?_cons_succ, List.getElem?_cons_zero, Option.getD_some]
                        exact ⟨by rw [HRn.out]; first | done | rfl, HB9.out.trans (hb9.mono (by omega))⟩
                  | false =>
                    have hk : ¬ (m.kind = 3 ∧ (rest ≠ [] ∨ follow = true ∨ slash = true)) := by
                      have := HCc.out.symm
                      rw [Bool.eq_false_iff] at this
                      intro h
                      apply this
                      simp only [Bool.and_eq_true, decide_eq_true_iff, Bool.or_eq_true]
                      refine ⟨h.1, ?_⟩
                      rcases h.2 with h | h | h
                      · exact .inl (.inl (List.length_pos_iff.2 h))
                      · exact .inl (.inr h)
                      · exact .inr h
                    by_cases hr : rest.length = 0
                    · have hrI : ((rest.length : Int) == 0) = true := by rw [hr]; rfl
                      have hrn := List.eq_nil_of_length_eq_zero hr
                      have HNK : Hid (¬ ((nodeL (pl ms) (lookL (pl ms) i p)).kind = 3 ∧ (rest ≠ [] ∨ follow = true ∨ slash = true))) := Lib.hid (by rw [HM.out]; exact hk)
                      have HRn0 := Lib.hid hrn
                      obtain ⟨q0, q1, q2, q3⟩ := cells4 HQ8.out
                      have rf := fun j => Lib.frozen_of_heap HQ8.out j
                      clear hk hr hrn
                      by_cases hbad : slash = true ∧ m.kind ≠ 2
                      · have hs := hbad.1
                        subst hs
                        have hk2 : (m.kind != 2) = true := by simpa using hbad.2
                        have HRn : Hid (R = (zeroS, 4)) := Lib.hid (by rw [← hG.out]; exact go_file H0.out HMt.out (Int.not_lt.2 HNG.out) HNK.out HRn0.out ⟨rfl, by rw [HM.out]; exact hbad.2⟩)
                        clear hbad
                        go_wp2_with (with_reducible refine Posted.stop ?_)
                        refine Posted.go ?_
                        refine post_sets4 HQ8.out ?_
                        intro W9 hb9 hg9 hs9 hR9
                        have hh := HRET.out _ _ _ hR9 rfl
                        refine bodyPost_ret (hh _ ?_) ?_ ?_
                        · simp only [Array.getD_eq_getD_getElem?, List.getElem?_toArray, List.getElem?_cons_succ, List.getElem?_cons_zero, Option.getD_some]
                        · rfl
                        simp only [Array.getD_eq_getD_getElem?, List.getElem?_toArray, List.getElem?_cons_succ, List.getElem?_cons_zero, Option.getD_some]
                        exact ⟨by rw [HRn.out]; first | done | rfl, HB8.out.trans (hb9.mono (by omega))⟩
                      · have HRn : Hid (R = (⟨i, p, j, slash⟩, 0)) := Lib.hid (by rw [← hG.out, HJ.out]; exact go_spot H0.out HMt.out (Int.not_lt.2 HNG.out) HNK.out HRn0.out (by rw [HM.out]; exact hbad))
                        have hb2 : slash = false ∨ (slash = true ∧ (m.kind != 2) = false) := by
                          cases slash
                          · exact .inl rfl
                          · refine .inr ⟨rfl, ?_⟩
                            have : ¬ m.kind ≠ 2 := fun h => hbad ⟨rfl, h⟩
                            simpa using this
                        clear hbad
                        rcases hb2 with hb2 | ⟨hb2, hk2⟩
                        · subst hb2
                          go_wp2_with (with_reducible refine Posted.stop ?_)
                          refine Posted.go ?_
                          refine post_sets4 HQ8.out ?_
                          intro W9 hb9 hg9 hs9 hR9
                          have hh := HRET.out _ _ _ hR9 rfl
                          refine bodyPost_ret (hh _ ?_) ?_ ?_
                          · simp only [Array.getD_eq_getD_getElem?, List.getElem?_toArray, List.getElem?_cons_succ, List.getElem?_cons_zero, Option.getD_some]
                          · rfl
                          simp only [Array.getD_eq_getD_getElem?, List.getElem?_toArray, List.getElem?_cons_succ, List.getElem?_cons_zero, Option.getD_some]
                          exact ⟨by rw [HRn.out]; first | done | rfl, HB8.out.trans (hb9.mono (by omega))⟩
                        · subst hb2
                          go_wp2_with (with_reducible refine Posted.stop ?_)
                          refine Posted.go ?_
                          refine post_sets4 HQ8.out ?_
                          intro W9 hb9 hg9 hs9 hR9
                          have hh := HRET.out _ _ _ hR9 rfl
                          refine bodyPost_ret (hh _ ?_) ?_ ?_
                          · simp only [Array.getD_eq_getD_getElem?, List.getElem?_toArray, List.getElem?_cons_succ, List.getElem?_cons_zero, Option.getD_some]
                          · rfl
                          simp only [Array.getD_eq_getD_getElem?, List.getElem?_toArray, List.getElem?_cons_succ, List.getElem?_cons_zero, Option.getD_some]
                          exact ⟨by rw [HRn.out]; first | done | rfl, HB8.out.trans (hb9.mono (by omega))⟩
                    · have hrI : ((rest.length : Int) == 0) = false := by rw [beq_eq_false_iff_ne]; omega
                      have HNe2 := Lib.hid (show rest ≠ [] from fun e => hr (by rw [e]; rfl))
                      have HK2 : Hid ((nodeL (pl ms) (lookL (pl ms) i p)).kind ≠ 3) := Lib.hid (by rw [HM.out]; exact fun h => hk ⟨h, .inl HNe2.out⟩)
                      have HG2 : Hid (goW (pl ms) who follow slash j rest hops = R) := Lib.hid (by rw [HJ.out, ← go_on H0.out HMt.out (Int.not_lt.2 HNG.out) HK2.out HNe2.out]; exact hG.out)
                      have hsz8 : w2.heap.size ≤ W8.heap.size := by omega
                      clear hk hr
                      go_wp2_with fail
                      go_roundg ((8 - hops) * 101 + rest.length)
                      case measure => omega
                      case rel => exact ⟨j, rest, hops, rfl, rfl, rfl, by omega, hh, HNe2, HL8, HG2, HW8⟩
            · have hI3 : (dirE (pl ms) i != 0) = true := by rw [bne_iff_ne]; exact h0
              have HRn : Hid (R = (zeroS, dirE (pl ms) i)) := Lib.hid (by rw [← hG.out]; exact go_dir h0)
              generalize dirE (pl ms) i = x at *
              obtain ⟨q0, q1, q2, q3⟩ := cells4 HQ3.out
              have rf := fun j => Lib.frozen_of_heap HQ3.out j
              clear h0
              go_wp2_with (with_reducible refine Posted.stop ?_)
              refine Posted.go ?_
              refine post_sets4 HQ3.out ?_
              intro W4 hb4 hg4 hs4 hR4
              have hh := HRET.out _ _ _ hR4 rfl
              refine bodyPost_ret (hh _ ?_) ?_ ?_
              · simp only [Array.getD_eq_getD_getElem?, List.getElem?_toArray, List.getElem?_cons_succ, List.getElem?_cons_zero, Option.getD_some]
              · rfl
              simp only [Array.getD_eq_getD_getElem?, List.getElem?_toArray, List.getElem?_cons_succ, List.getElem?_cons_zero, Option.getD_some]
              exact ⟨by rw [HRn.out]; first | done | rfl, HB3.out.trans (hb4.mono (by omega))⟩
  · have hI : (checkE path != 0) = true := by rw [bne_iff_ne]; exact h0
    have HRn : Hid (R = (zeroS, checkE path)) := Lib.hid (by rw [HR.out]; unfold walkL; rw [if_pos h0])
    obtain ⟨q0, q1, q2, q3⟩ := cells4 hQ1
    have rf := fun j => Lib.frozen_of_heap hQ1 j
    generalize checkE path = n at *
    clear h0 hP hQ hb0 hb1
    go_wp2_with (with_reducible refine Posted.stop ?_)
    refine Posted.go ?_
    refine post_sets4 hQ1 ?_
    intro W4 hb4 hg4 hs4 hR4
    have hh := HRET.out _ _ _ hR4 rfl
    refine bodyPost_ret (hh _ ?_) ?_ ?_
    · simp only [Array.getD_eq_getD_getElem?, List.getElem?_toArray, List.getElem?_cons_succ, List.getElem?_cons_zero, Option.getD_some]
    · rfl
    simp only [Array.getD_eq_getD_getElem?, List.getElem?_toArray, List.getElem?_cons_succ, List.getElem?_cons_zero, Option.getD_some]
    exact ⟨by rw [HRn.out]; first | done | rfl, hB1.trans (hb4.mono (by omega))⟩
end Go.Proofs.YtilhiafmljmljaaDoor
