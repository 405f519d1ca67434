/-
  The walk of WalkSpot.
-/
import Derived.Test.YtckbhkchnhhecaaDoorLaw7D
import Derived.Deep.RegionWith
import Derived.BigQuiet
namespace Go.Proofs.YtckbhkchnhhecaaDoor
open Go.RowKit Go.Shelf
attribute [local go_sem ↓] Go.wp_at_zero Go.wp_at_succ

/-- A name at a node, and where its names lie. -/
theorem names_got {l : List NodeL} {ao : Option Addr} {n cap : Nat} {W : World} (h : GivesN l (.slice ao n cap) W) {k : Nat} (hi : gotB l (k : Int) = true) (hnl : (nodeL l (k : Int)).names.length ≤ 10000) :
    ∃ (b off : Nat) (aon : Option Addr) (capn : Nat), k < n ∧ ao = some ⟨b, off, none⟩ ∧ W.cell? ⟨b, off + k * 8 + 7, none⟩ = some (.slice aon (nodeL l (k : Int)).names.length capn)
      ∧ ∀ nm : Str, Calls Tryd.prog 18 #[.slice aon (nodeL l (k : Int)).names.length capn, .string (bs nm)] W fun e w' => RFindIs (findL (nodeL l (k : Int)).names nm) e W w' := by
  obtain ⟨ms, rfl, hv⟩ := h
  obtain ⟨ao', cap', e, _, _⟩ := rdm_form hv
  injection e with e1 e2 e3
  subst e1 e2 e3
  have h1 := (got_le hi).2
  rw [pl_len] at h1
  have hk : k < ms.length := by omega
  obtain ⟨b, off, n, aon, capn, rfl, _, hn, -, hr, c0, c1, c2, c3, c4, c5, c6, c7⟩ := node_at hv k hk
  have hN : nodeL (pl ms) (k : Int) = n := by
    unfold nodeL
    rw [if_pos hi]
    unfold atI
    rw [Int.toNat_natCast, List.getD_eq_getElem?_getD, List.getElem?_eq_getElem (by rw [pl_len]; exact hk), Option.getD_some, hn]
  rw [hN] at hnl ⊢
  exact ⟨b, off, aon, capn, hk, rfl, c7, fun nm => rfind_any _ _ n.names nm W hr hnl⟩
theorem gives_form {l : List NodeL} {v : Value} {W : World} (h : GivesN l v W) : ∃ ao cap, v = .slice ao l.length cap := by
  obtain ⟨ms, rfl, hv⟩ := h
  obtain ⟨ao, cap, e, _, _⟩ := rdm_form hv
  exact ⟨ao, cap, by rw [pl_len]; exact e⟩
theorem spot_find {l : List NodeL} (hr : RightP l) {s : SpotL} (h : SpotOk l s) (h0 : s.name ≠ []) (h1 : s.name ≠ [46]) (h2 : s.name ≠ [46, 46]) :
    vint (findL (nodeL l s.dir).names s.name) = s.ino ∧ (findL (nodeL l s.dir).names s.name).isSome = decide (0 ≤ s.ino) := by
  have h3 := h.2.2 h0
  have h4 := right_look hr h.1 s.name
  rw [h3]
  unfold lookL at h4 ⊢
  rw [if_neg h1, if_neg h2] at h4 ⊢
  refine ⟨rfl, ?_⟩
  cases hf : findL (nodeL l s.dir).names s.name with
  | none => rfl
  | some i =>
    obtain ⟨hg, _⟩ := dir_got h.1
    obtain ⟨k, hk, hlt, hn, h00, hok⟩ := right_ok hr hg
    obtain ⟨_, _, _, h44, _, _⟩ := okR_parts h00 hok
    rw [hn] at hf
    unfold namableB at h44
    have h5 := List.all_eq_true.1 h44 _ (findL_mem hf)
    unfold namB at h5
    simp only [Bool.and_eq_true] at h5
    have h6 := (got_le h5.1).1
    exact (decide_eq_true h6).symm
theorem fld_run (v a b : Value) (W : World) : (Instr.field 37 (.agg #[v, a, b]) 0).run Tryd.prog W = .ok v W := by
  have u := Tryd.underlying37
  unfold Instr.field
  go_simp
  rfl
theorem spot_dot {l : List NodeL} {s : SpotL} (h : SpotOk l s) (h1 : s.name = [] ∨ s.name = [46]) : s.ino = s.dir := by
  rcases h1 with h1 | h1
  · exact h.2.1 h1
  · rw [h.2.2 (by rw [h1]; exact List.cons_ne_nil _ _), h1]; rfl
theorem spot_up {l : List NodeL} {s : SpotL} (h : SpotOk l s) (h1 : s.name = [46, 46]) : s.ino = (nodeL l s.dir).up := by
  rw [h.2.2 (by rw [h1]; exact List.cons_ne_nil _ _), h1]; rfl

set_option maxRecDepth 100000 in
set_option maxHeartbeats 4000000 in
theorem spot_walk (v : Value) (ms : List NodeM) (most room : Int) (who fr : Int) (path : Str) (follow : Bool) (w : World) (hv : RdM w.heap.size v ms w) (hfit : FitD (pl ms)) (he : ErrG w) :
    Calls Tryd.prog 8 #[.agg #[v, .int .i64 most, .int .i64 room], .int .i64 who, .int .i64 fr, .string (bs path), .bool follow] w fun e w' => e = .returned (.bool true) ∧ Below w.heap.size w w' := by
  obtain ⟨aod, capd, rfl, _, _⟩ := rdm_form hv
  have HQ := Lib.hid fun W (hb : Below w.heap.size w W) => right_q (.slice aod ms.length capd) ms most room W (rdm_keep hv hb) hfit
  have HSh := Lib.hid fun W (hb : Below w.heap.size w W) => shown_any W (errG_keep he hb)
  have HV := Lib.hid hv
  have HE := Lib.hid he
  clear hv he hfit
  go_enter Tryd.func8, Tryd.ntmps8
  go_wp2_with fail
  refine calls_fresh1 ?_
  intro W0 hb0 hD hs0
  have HX0 := Lib.hid (show AskD w.heap.size (.slice aod ms.length capd) most room (pl ms) W0 from ⟨hD, ⟨ms, rfl, rdm_keep HV.out hb0⟩, errG_keep HE.out hb0⟩)
  refine (HQ.out W0 hb0).mono ?_
  rintro e W1 ⟨rfl, hb1⟩
  have HB1 := Lib.hid (ret_tr hb0 hb1)
  have HX1 := Lib.hid (HX0.out.keep hb1)
  clear hb0 hb1 hD HX0 HV HE
  cases hq : rightQ (pl ms) most room with
  | false =>
    clear hq
    go_wp2_with fail
    refine (HSh.out W1 HB1.out).mono ?_
    rintro e W2 ⟨rfl, hb2⟩
    go_wp2_with fail
    go_ret
    exact ⟨rfl, ret_tr HB1.out hb2⟩
  | true =>
    have HD := Lib.hid (diskW' hq)
    have HP := Lib.hid (right_P hq)
    clear hq
    by_cases hlen : 200 < path.length
    · have hI : decide ((200 : Int) < (path.length : Int)) = true := decide_eq_true (by omega)
      clear hlen
      go_wp2_with fail
      refine (HSh.out W1 HB1.out).mono ?_
      rintro e W2 ⟨rfl, hb2⟩
      go_wp2_with fail
      go_ret
      exact ⟨rfl, ret_tr HB1.out hb2⟩
    have hIpath : decide ((200 : Int) < (path.length : Int)) = false := decide_eq_false (by omega)
    have hplpath : path.length ≤ 200 := by omega
    clear hlen
    go_wp2_with fail
    refine (HSh.out W1 HB1.out).mono ?_
    rintro e W2 ⟨rfl, hb2⟩
    have HB2 := Lib.hid (ret_tr HB1.out hb2)
    have HX2 := Lib.hid (HX1.out.keep hb2)
    obtain ⟨p0, p1, p2⟩ := cells3 HX2.out.1
    clear hb2
    go_wp2_with fail
    have h1 := walk_errs (pl ms) who fr path follow
    have h2 := law_spot HP.out who fr path follow
    have hw1 := walk_g (pl ms) HD.out most room who fr path follow (by omega)
    have hln : (pl ms).length ≤ 10000 := by have := (HD.out ms rfl).ok.len; rw [pl_len]; exact this
    have HItg := Lib.hid (its_g (pl ms) most room hln (HD.out ms rfl).ok.nms)
    have HNl : Hid (∀ i, (nodeL (pl ms) i).names.length ≤ 10000) := Lib.hid (fun i => (HD.out ms rfl).ok.names i)
    generalize walkL (pl ms) who fr path follow = R at *
    obtain ⟨⟨sd, sn, si, ss⟩, n⟩ := R
    unfold WalkIs at hw1
    simp only at h1 h2
    have HW3 := Lib.hid hw1
    have H := Lib.hid (And.intro h1 h2)
    clear hw1 h1 h2
    generalize pl ms = L at *
    refine (HW3.out _ _ HX2.out.2.1 HX2.out.2.2).mono ?_
    rintro e U3 ⟨rfl, hb3⟩
    have HB3a := Lib.hid (ret_tr HB2.out hb3)
    have HX3a := Lib.hid (HX2.out.keep hb3)
    have hlt3a := HX3a.out.lt
    clear p0 p1 p2 hb3
    obtain ⟨p0, p1, p2⟩ := cells3 HX3a.out.1
    go_upto_region 4 with (fail)
    refine code_fresh1 ?_
    intro V3 hb3 hS3 hs3
    have HB3 := Lib.hid (ret_tr HB3a.out hb3)
    have HX3 := Lib.hid (HX3a.out.keep hb3)
    have HS33 : Hid (SpotM U3.heap.size ⟨sd, sn, si, ss⟩ V3) := Lib.hid hS3
    clear hb3 hS3 hs3
    clear p0 p1 p2
    obtain ⟨p0, p1, p2⟩ := cells3 HX3.out.1
    obtain ⟨s30, s31, s32, s33⟩ := cells4 HS33.out
    obtain ⟨h1, h2⟩ := H.out
    have qg := spotGuard
    clear H
    by_cases hn : n = 0
    · subst hn
      have hok := h2 rfl
      clear h1 h2
      obtain ⟨hg, hkd⟩ := dir_got hok.1
      simp only at hg hkd
      obtain ⟨k, b, off, rfl, hk, rfl, c0, c5⟩ := at_got HX3.out.2.1 hg
      rw [hkd] at c0
      have hk0 : ¬ ((k : Int) < 0) := by omega
      have hkn : ¬ (ms.length ≤ k) := by omega
      have hk1 : decide (k < ms.length) = true := decide_eq_true hk
      by_cases hs0 : sn = []
      · have hd : si = k := spot_dot hok (.inl hs0)
        subst hs0 hd
        clear hok hg hkd
        go_wp2_with fail
        go_ret
        exact ⟨rfl, HB3.out⟩
      have hI0 : (sn == []) = false := by simpa using hs0
      by_cases hs1 : sn = [46]
      · have hd : si = k := spot_dot hok (.inr hs1)
        subst hs1 hd
        clear hok hg hkd
        go_wp2_with fail
        go_ret
        exact ⟨rfl, HB3.out⟩
      have hI1 : (sn == [46]) = false := by simpa using hs1
      by_cases hs2 : sn = [46, 46]
      · have hd : si = (nodeL L k).up := spot_up hok hs2
        subst hs2
        rw [← hd] at c5
        clear hok hg hkd
        go_wp2_with fail
        go_quiet (fail)
        go_wp2_with fail
        go_ret
        exact ⟨rfl, below_drewN HB3.out _⟩
      have hI2 : (sn == [46, 46]) = false := by simpa using hs2
      have hfd := spot_find HP.out hok hs0 hs1 hs2
      simp only at hfd
      have HFD := Lib.hid hfd
      have HG := Lib.hid hg
      clear hok hg hkd hfd hs1 hs2
      go_upto_region 12 with (fail)
      have HG3 := Lib.hid ((HX3.out.keep ((Below.refl _ V3).drew)).2.1)
      have hfld := fun v => fld_run v (.int .i64 most) (.int .i64 room)
      go_region_with (first
        | (go_at_call 14; (with_reducible refine (HItg.out _ _ HG3.out).mono ?_); intro e U hU; obtain ⟨v4, rfl, hg4, hb4⟩ := hU; have bU : Below V3.heap.size V3 U := ret_tr ((Below.refl _ V3).drew) hb4; obtain ⟨s40, s41, s42, s43⟩ := cells4 (HS33.out.keep bU); obtain ⟨ao4, cp4, rfl⟩ := gives_form hg4; obtain ⟨b4, off4, aon4, cpn4, hk4, rfl, c7, HF4⟩ := names_got hg4 HG.out (HNl.out _); have hk5 : decide (k < L.length) = true := decide_eq_true hk4)
        | (go_at_call 18; (with_reducible refine (HF4 sn).mono ?_); intro e U5 hU5; obtain ⟨rfl, rfl⟩ := hU5))
      all_goals rw [HFD.out.1, HFD.out.2]
      all_goals go_wp2_with fail
      all_goals go_ret
      all_goals exact ⟨rfl, ret_tr HB3.out (by go_grown)⟩
    · obtain ⟨h3, h4⟩ := h1
      have e0 := h4 hn
      injection e0 with e1 e2 e3 e4
      subst e1 e2 e3 e4
      have hn3 : ¬ n = 3 := by omega
      have hn3b : (n != 3) = true := by simpa using hn3
      have q1 : ∀ w, (Op.equalIn 10000 28 (spotV ⟨0, [], 0, false⟩) (spotV ⟨0, [], 0, false⟩)).run Tryd.prog w = .ok true w := fun w => (eqSpot ⟨0, [], 0, false⟩ ⟨0, [], 0, false⟩ w).trans (by rw [decide_eq_true rfl])
      clear h2 h3 h4
      go_wp2_with fail
      go_ret
      exact ⟨rfl, HB3.out⟩
end Go.Proofs.YtckbhkchnhhecaaDoor
