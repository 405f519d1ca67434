/-
  The walks of WalkRoot and WalkSuper.
-/
import Derived.Test.YtckbhkchnhhecaaDoorLaw7B
import Derived.Test.YtckbhkchnhhecaaDoorWalkPlain4
import Derived.Deep.DeepCutAuto
namespace Go.Proofs.YtckbhkchnhhecaaDoor
open Go.RowKit Go.Shelf
attribute [local go_sem ↓] Go.wp_at_zero Go.wp_at_succ

/-- A disk that is asked. -/
def AskD (b : Nat) (v : Value) (most room : Int) (l : List NodeL) (W : World) : Prop := W.heap[b]? = some (.cells #[v, .int .i64 most, .int .i64 room] 24 (0, 0)) ∧ GivesN l v W ∧ ErrG W
theorem AskD.lt {b : Nat} {v : Value} {most room : Int} {l : List NodeL} {W : World} (h : AskD b v most room l W) : b < W.heap.size := (Array.getElem?_eq_some_iff.1 h.1).1
theorem AskD.keep {b : Nat} {v : Value} {most room : Int} {l : List NodeL} {W W' : World} (h : AskD b v most room l W) (hb : Below W.heap.size W W') : AskD b v most room l W' := ⟨(hb.block _ h.lt).trans h.1, h.2.1.keep hb, errG_keep h.2.2 hb⟩
theorem diskW' {l : List NodeL} {most room : Int} (h : rightQ l most room = true) : ∀ ms, pl ms = l → DskW ms := fun ms e => diskW (most := most) (room := room) (by rw [e]; exact h)
theorem at_got {l : List NodeL} {ao : Option Addr} {n cap : Nat} {W : World} (h : GivesN l (.slice ao n cap) W) {i : Int} (hi : gotB l i = true) : ∃ (k b off : Nat), i = (k : Int) ∧ k < n ∧ ao = some ⟨b, off, none⟩ ∧ W.cell? ⟨b, off + k * 8, none⟩ = some (.int .i64 (nodeL l i).kind) ∧ W.cell? ⟨b, off + k * 8 + 5, none⟩ = some (.int .i64 (nodeL l i).up) := by
  obtain ⟨ms, rfl, hv⟩ := h
  obtain ⟨ao', cap', e, _, _⟩ := rdm_form hv
  injection e with e1 e2 e3
  subst e1 e2 e3
  obtain ⟨h0, h1⟩ := got_le hi
  rw [pl_len] at h1
  obtain ⟨k, rfl⟩ := Int.eq_ofNat_of_zero_le h0
  have hk : k < ms.length := by omega
  obtain ⟨b, off, n, aon, capn, rfl, _, hn, -, -, c0, c1, c2, c3, c4, c5, -⟩ := node_at hv k hk
  have hN : nodeL (pl ms) (k : Int) = n := by
    unfold nodeL
    rw [if_pos hi]
    unfold atI
    rw [Int.toNat_natCast, List.getD_eq_getElem?_getD, List.getElem?_eq_getElem (by rw [pl_len]; exact hk), Option.getD_some, hn]
  rw [hN]
  exact ⟨k, b, off, rfl, hk, rfl, c0, c5⟩
theorem at_got' {l : List NodeL} {b off n cap : Nat} {W : World} (h : GivesN l (.slice (some ⟨b, off, none⟩) n cap) W) {i : Int} (hi : gotB l i = true) : ∃ (k : Nat), i = (k : Int) ∧ k < n ∧ W.cell? ⟨b, off + k * 8, none⟩ = some (.int .i64 (nodeL l i).kind) ∧ W.cell? ⟨b, off + k * 8 + 5, none⟩ = some (.int .i64 (nodeL l i).up) := by
  obtain ⟨k, b', off', h1, h2, h3, h4, h5⟩ := at_got h hi
  cases h3
  exact ⟨k, h1, h2, h4, h5⟩
theorem got_neg {l : List NodeL} {i : Int} (h : gotB l i = true) (hi : i = -1) : False := by
  have := (got_le h).1
  omega
theorem res_eq {a b : SpotL} {n m : Int} (h : (a, n) = (b, m)) : a = b ∧ n = m := by cases h; exact ⟨rfl, rfl⟩
theorem right_P {l : List NodeL} {most room : Int} (h : rightQ l most room = true) : RightP l := by
  unfold rightQ at h
  rw [Bool.and_eq_true] at h
  exact ⟨most, room, h.2⟩
/-- A spot in memory. -/
def SpotM (b : Nat) (s : SpotL) (W : World) : Prop := W.heap[b]? = some (.cells #[.int .i64 s.dir, .string (bs s.name), .int .i64 s.ino, .bool s.slash] 28 (0, 0))
theorem SpotM.lt {b : Nat} {s : SpotL} {W : World} (h : SpotM b s W) : b < W.heap.size := (Array.getElem?_eq_some_iff.1 h).1
theorem SpotM.keep {b : Nat} {s : SpotL} {W W' : World} (h : SpotM b s W) (hb : Below W.heap.size W W') : SpotM b s W' := (hb.block _ h.lt).trans h
set_option maxRecDepth 100000 in
set_option maxHeartbeats 4000000 in
theorem root_walk (v : Value) (ms : List NodeM) (most room : Int) (who a b : Int) (path : Str) (follow : Bool) (w : World) (hv : RdM w.heap.size v ms w) (hfit : FitD (pl ms)) (he : ErrG w) :
    Calls Tryd.prog 5 #[.agg #[v, .int .i64 most, .int .i64 room], .int .i64 who, .int .i64 a, .int .i64 b, .string (bs path), .bool follow] w fun e w' => e = .returned (.bool true) ∧ Below w.heap.size w w' := by
  obtain ⟨aod, capd, rfl, _, _⟩ := rdm_form hv
  have HQ := Lib.hid fun W (hb : Below w.heap.size w W) => right_q (.slice aod ms.length capd) ms most room W (rdm_keep hv hb) hfit
  have HSh := Lib.hid fun W (hb : Below w.heap.size w W) => shown_any W (errG_keep he hb)
  have HV := Lib.hid hv
  have HE := Lib.hid he
  clear hv he hfit
  go_enter Tryd.func5, Tryd.ntmps5
  go_wp2_with fail
  refine calls_fresh1 ?_
  intro W0 hb0 hD hs0
  have HX0 := Lib.hid (show AskD w.heap.size (.slice aod ms.length capd) most room (pl ms) W0 from ⟨hD, ⟨ms, rfl, rdm_keep HV.out hb0⟩, errG_keep HE.out hb0⟩)
  refine (HQ.out W0 hb0).mono ?_
  rintro e W1 ⟨rfl, hb1⟩
  have HB1 := Lib.hid (ret_tr hb0 hb1)
  have HX1 := Lib.hid (HX0.out.keep hb1)
  clear hb0 hb1 hD HX0 HV HE
  cases hq : rightQ (pl ms) most room with
  | false =>
    clear hq
    go_wp2_with fail
    refine (HSh.out W1 HB1.out).mono ?_
    rintro e W2 ⟨rfl, hb2⟩
    go_wp2_with fail
    go_ret
    exact ⟨rfl, ret_tr HB1.out hb2⟩
  | true =>
    have HD := Lib.hid (diskW' hq)
    have HP := Lib.hid (right_P hq)
    clear hq
    by_cases hlen : 90 < path.length
    · have hI : decide ((90 : Int) < (path.length : Int)) = true := decide_eq_true (by omega)
      clear hlen
      go_wp2_with fail
      refine (HSh.out W1 HB1.out).mono ?_
      rintro e W2 ⟨rfl, hb2⟩
      go_wp2_with fail
      go_ret
      exact ⟨rfl, ret_tr HB1.out hb2⟩
    have hIpath : decide ((90 : Int) < (path.length : Int)) = false := decide_eq_false (by omega)
    have hplpath : path.length ≤ 90 := by omega
    clear hlen
    go_wp2_with fail
    refine (HSh.out W1 HB1.out).mono ?_
    rintro e W2 ⟨rfl, hb2⟩
    have HB2 := Lib.hid (ret_tr HB1.out hb2)
    have HX2 := Lib.hid (HX1.out.keep hb2)
    obtain ⟨p0, p1, p2⟩ := cells3 HX2.out.1
    clear hb2
    go_wp2_with fail
    have hr1 := law_root1 (pl ms) who a b path follow
    have hr2 := fun h => law_root2 (pl ms) who b path follow h hplpath
    have hw1 := walk_g (pl ms) HD.out most room who a (47 :: path) follow (by rw [List.length_cons]; omega)
    have hw2 := walk_g (pl ms) HD.out most room who b (47 :: path) follow (by rw [List.length_cons]; omega)
    have hw3 := walk_g (pl ms) HD.out most room who 0 path follow (by omega)
    rw [hr1] at hw1
    generalize walkL (pl ms) who b (47 :: path) follow = R at *
    generalize walkL (pl ms) who 0 path follow = T at *
    have HR2 := Lib.hid hr2
    obtain ⟨⟨sd, sn, si, ss⟩, n⟩ := R
    obtain ⟨⟨td, tn, ti, ts⟩, m⟩ := T
    unfold WalkIs at hw1 hw2 hw3
    have HW3 := Lib.hid hw1
    have HW4 := Lib.hid hw2
    have HW5 := Lib.hid hw3
    have hcat : bs [47] ++ bs path = bs (47 :: path) := bs_app [47] path
    have hov : ¬ 9223372036854775807 < 1 + path.length := by omega
    generalize pl ms = L at *
    clear hr1 hr2 hw1 hw2 hw3
    rw [hcat]
    refine (HW3.out _ _ HX2.out.2.1 HX2.out.2.2).mono ?_
    rintro e U3 ⟨rfl, hb3⟩
    have HB3a := Lib.hid (ret_tr HB2.out hb3)
    have HX3a := Lib.hid (HX2.out.keep hb3)
    have hlt3a := HX3a.out.lt
    clear p0 p1 p2 hb3
    obtain ⟨p0, p1, p2⟩ := cells3 HX3a.out.1
    go_wp2_with fail
    refine calls_fresh1 ?_
    intro V3 hb3 hS3 hs3
    have HB3 := Lib.hid (ret_tr HB3a.out hb3)
    have HX3 := Lib.hid (HX3a.out.keep hb3)
    have HS33 : Hid (SpotM U3.heap.size ⟨sd, sn, si, ss⟩ V3) := Lib.hid hS3
    clear hb3 hS3 hs3
    refine (HW4.out _ _ HX3.out.2.1 HX3.out.2.2).mono ?_
    rintro e U4 ⟨rfl, hb4⟩
    have HB4a := Lib.hid (ret_tr HB3.out hb4)
    have HX4a := Lib.hid (HX3.out.keep hb4)
    have HS34a := Lib.hid (HS33.out.keep hb4)
    have hlt4a := HX4a.out.lt
    clear p0 p1 p2 hb4
    obtain ⟨p0, p1, p2⟩ := cells3 HX4a.out.1
    go_wp2_with fail
    refine calls_fresh1 ?_
    intro V4 hb4 hS4 hs4
    have HB4 := Lib.hid (ret_tr HB4a.out hb4)
    have HX4 := Lib.hid (HX4a.out.keep hb4)
    have HS34 := Lib.hid (HS34a.out.keep hb4)
    have HS44 : Hid (SpotM U4.heap.size ⟨sd, sn, si, ss⟩ V4) := Lib.hid hS4
    clear hb4 hS4 hs4
    refine (HW5.out _ _ HX4.out.2.1 HX4.out.2.2).mono ?_
    rintro e U5 ⟨rfl, hb5⟩
    have HB5a := Lib.hid (ret_tr HB4.out hb5)
    have HX5a := Lib.hid (HX4.out.keep hb5)
    have HS35a := Lib.hid (HS34.out.keep hb5)
    have HS45a := Lib.hid (HS44.out.keep hb5)
    have hlt5a := HX5a.out.lt
    clear p0 p1 p2 hb5
    obtain ⟨p0, p1, p2⟩ := cells3 HX5a.out.1
    go_upto_region 6 with (fail)
    refine code_fresh1 ?_
    intro V5 hb5 hS5 hs5
    have HB5 := Lib.hid (ret_tr HB5a.out hb5)
    have HX5 := Lib.hid (HX5a.out.keep hb5)
    have HS35 := Lib.hid (HS35a.out.keep hb5)
    have HS45 := Lib.hid (HS45a.out.keep hb5)
    have HS55 : Hid (SpotM U5.heap.size ⟨td, tn, ti, ts⟩ V5) := Lib.hid hS5
    clear hb5 hS5 hs5
    obtain ⟨s30, s31, s32, s33⟩ := cells4 HS35.out
    obtain ⟨s40, s41, s42, s43⟩ := cells4 HS45.out
    obtain ⟨s50, s51, s52, s53⟩ := cells4 HS55.out
    have q1 : ∀ w, (Op.equalIn 10000 28 (spotV ⟨sd, sn, si, ss⟩) (spotV ⟨sd, sn, si, ss⟩)).run Tryd.prog w = .ok true w := fun w => (eqSpot ⟨sd, sn, si, ss⟩ ⟨sd, sn, si, ss⟩ w).trans (by rw [decide_eq_true rfl])
    have qg := spotGuard
    rcases path with _ | ⟨c, cs⟩
    · go_wp2_with fail
      go_ret
      exact ⟨rfl, HB5.out⟩
    · have hR := HR2.out (List.cons_ne_nil c cs)
      obtain ⟨⟨rfl, rfl, rfl, rfl⟩, rfl⟩ : ((sd = td ∧ sn = tn ∧ si = ti ∧ ss = ts) ∧ n = m) := by simpa using hR
      go_wp2_with fail
      go_ret
      exact ⟨rfl, HB5.out⟩
set_option maxRecDepth 100000 in
set_option maxHeartbeats 4000000 in
theorem super_walk (v : Value) (ms : List NodeM) (most room : Int) (who fr : Int) (path : Str) (follow : Bool) (w : World) (hv : RdM w.heap.size v ms w) (hfit : FitD (pl ms)) (he : ErrG w) :
    Calls Tryd.prog 6 #[.agg #[v, .int .i64 most, .int .i64 room], .int .i64 who, .int .i64 fr, .string (bs path), .bool follow] w fun e w' => e = .returned (.bool true) ∧ Below w.heap.size w w' := by
  obtain ⟨aod, capd, rfl, _, _⟩ := rdm_form hv
  have HQ := Lib.hid fun W (hb : Below w.heap.size w W) => right_q (.slice aod ms.length capd) ms most room W (rdm_keep hv hb) hfit
  have HSh := Lib.hid fun W (hb : Below w.heap.size w W) => shown_any W (errG_keep he hb)
  have HV := Lib.hid hv
  have HE := Lib.hid he
  clear hv he hfit
  go_enter Tryd.func6, Tryd.ntmps6
  go_wp2_with fail
  refine calls_fresh1 ?_
  intro W0 hb0 hD hs0
  have HX0 := Lib.hid (show AskD w.heap.size (.slice aod ms.length capd) most room (pl ms) W0 from ⟨hD, ⟨ms, rfl, rdm_keep HV.out hb0⟩, errG_keep HE.out hb0⟩)
  refine (HQ.out W0 hb0).mono ?_
  rintro e W1 ⟨rfl, hb1⟩
  have HB1 := Lib.hid (ret_tr hb0 hb1)
  have HX1 := Lib.hid (HX0.out.keep hb1)
  clear hb0 hb1 hD HX0 HV HE
  cases hq : rightQ (pl ms) most room with
  | false =>
    clear hq
    go_wp2_with fail
    refine (HSh.out W1 HB1.out).mono ?_
    rintro e W2 ⟨rfl, hb2⟩
    go_wp2_with fail
    go_ret
    exact ⟨rfl, ret_tr HB1.out hb2⟩
  | true =>
    have HD := Lib.hid (diskW' hq)
    have HP := Lib.hid (right_P hq)
    clear hq
    by_cases hlen : 200 < path.length
    · have hI : decide ((200 : Int) < (path.length : Int)) = true := decide_eq_true (by omega)
      clear hlen
      go_wp2_with fail
      refine (HSh.out W1 HB1.out).mono ?_
      rintro e W2 ⟨rfl, hb2⟩
      go_wp2_with fail
      go_ret
      exact ⟨rfl, ret_tr HB1.out hb2⟩
    have hIpath : decide ((200 : Int) < (path.length : Int)) = false := decide_eq_false (by omega)
    have hplpath : path.length ≤ 200 := by omega
    clear hlen
    go_wp2_with fail
    refine (HSh.out W1 HB1.out).mono ?_
    rintro e W2 ⟨rfl, hb2⟩
    have HB2 := Lib.hid (ret_tr HB1.out hb2)
    have HX2 := Lib.hid (HX1.out.keep hb2)
    obtain ⟨p0, p1, p2⟩ := cells3 HX2.out.1
    clear hb2
    go_wp2_with fail
    have h1 := law_super (pl ms) who fr path follow
    have hw1 := walk_g (pl ms) HD.out most room who fr path follow (by omega)
    have hw2 := walk_g (pl ms) HD.out most room 0 fr path follow (by omega)
    generalize walkL (pl ms) who fr path follow = R at *
    generalize walkL (pl ms) 0 fr path follow = T at *
    obtain ⟨⟨sd, sn, si, ss⟩, n⟩ := R
    obtain ⟨⟨td, tn, ti, ts⟩, m⟩ := T
    unfold WalkIs at hw1 hw2
    have HW3 := Lib.hid hw1
    have HW4 := Lib.hid hw2
    clear hw1 hw2
    simp only at h1
    have H1 := Lib.hid h1
    clear h1
    generalize pl ms = L at *
    refine (HW3.out _ _ HX2.out.2.1 HX2.out.2.2).mono ?_
    rintro e U3 ⟨rfl, hb3⟩
    have HB3a := Lib.hid (ret_tr HB2.out hb3)
    have HX3a := Lib.hid (HX2.out.keep hb3)
    have hlt3a := HX3a.out.lt
    clear p0 p1 p2 hb3
    obtain ⟨p0, p1, p2⟩ := cells3 HX3a.out.1
    go_wp2_with fail
    refine calls_fresh1 ?_
    intro V3 hb3 hS3 hs3
    have HB3 := Lib.hid (ret_tr HB3a.out hb3)
    have HX3 := Lib.hid (HX3a.out.keep hb3)
    have HS33 : Hid (SpotM U3.heap.size ⟨sd, sn, si, ss⟩ V3) := Lib.hid hS3
    clear hb3 hS3 hs3
    refine (HW4.out _ _ HX3.out.2.1 HX3.out.2.2).mono ?_
    rintro e U4 ⟨rfl, hb4⟩
    have HB4a := Lib.hid (ret_tr HB3.out hb4)
    have HX4a := Lib.hid (HX3.out.keep hb4)
    have HS34a := Lib.hid (HS33.out.keep hb4)
    have hlt4a := HX4a.out.lt
    clear p0 p1 p2 hb4
    obtain ⟨p0, p1, p2⟩ := cells3 HX4a.out.1
    go_upto_region 5 with (fail)
    refine code_fresh1 ?_
    intro V4 hb4 hS4 hs4
    have HB4 := Lib.hid (ret_tr HB4a.out hb4)
    have HX4 := Lib.hid (HX4a.out.keep hb4)
    have HS34 := Lib.hid (HS34a.out.keep hb4)
    have HS44 : Hid (SpotM U4.heap.size ⟨td, tn, ti, ts⟩ V4) := Lib.hid hS4
    clear hb4 hS4 hs4
    obtain ⟨s30, s31, s32, s33⟩ := cells4 HS34.out
    obtain ⟨s40, s41, s42, s43⟩ := cells4 HS44.out
    obtain ⟨h1, h2⟩ := H1.out
    have hm7 : decide (m = 7) = false := decide_eq_false h2
    have qg := spotGuard
    by_cases hn : n = 7
    · subst hn
      clear h1
      go_wp2_with fail
      go_ret
      exact ⟨rfl, HB4.out⟩
    · obtain ⟨h3, h4⟩ := res_eq (h1.resolve_left hn)
      injection h3 with e1 e2 e3 e4
      subst e1 e2 e3 e4 h4
      have q1 : ∀ w, (Op.equalIn 10000 28 (spotV ⟨td, tn, ti, ts⟩) (spotV ⟨td, tn, ti, ts⟩)).run Tryd.prog w = .ok true w := fun w => (eqSpot ⟨td, tn, ti, ts⟩ ⟨td, tn, ti, ts⟩ w).trans (by rw [decide_eq_true rfl])
      clear h1
      by_cases h0 : m = 0
      · subst h0
        go_wp2_with fail
        go_ret
        exact ⟨rfl, HB4.out⟩
      · have hm0 : decide (m = 0) = false := decide_eq_false h0
        clear hn
        go_wp2_with fail
        go_ret
        exact ⟨rfl, HB4.out⟩
end Go.Proofs.YtckbhkchnhhecaaDoor
