/-
  The walk of WalkFinds.
-/
import Derived.Test.YtckbhkchnhhecaaDoorLaw7B
import Derived.Test.YtckbhkchnhhecaaDoorWalkI
namespace Go.Proofs.YtckbhkchnhhecaaDoor
open Go.RowKit Go.Shelf
attribute [local go_sem ↓] Go.wp_at_zero Go.wp_at_succ

theorem eqSpotR (x y : SpotL) (w : World) : (Op.equalIn 10000 32 (spotV x) (spotV y)).run Tryd.prog w = .ok (decide (x = y)) w := by
  have u3 := Tryd.underlying3
  have u4 := Tryd.underlying4
  have u9 := Tryd.underlying9
  have a3 := Tryd.isAgg3
  have a4 := Tryd.isAgg4
  have a9 := Tryd.isAgg9
  have hS : Tryd.prog.underlying 32 = some (.struct (Tryd.prog.fieldsOf 32)) := by kernel_rfl
  rw [show (10000 : Nat) = 9998 + 1 + 1 from rfl, run_equalIn_agg w (9998 + 1) 32 _ _ hS (by kernel_rfl)]
  simp only [Program.fieldsOf, Tryd.underlying32]
  go_simp
  obtain ⟨x1, x2, x3, x4⟩ := x
  obtain ⟨y1, y2, y3, y4⟩ := y
  by_cases h1 : x1 = y1 <;> by_cases h2 : x2 = y2 <;> by_cases h3 : x3 = y3 <;> by_cases h4 : x4 = y4 <;> simp [h1, h2, h3, h4]
theorem spotGuardR : Tryd.prog.eqGuardType Tryd.prog.depth 32 = false := by kernel_rfl
theorem rwalk_g (l : List NodeL) (hl : ∀ ms, pl ms = l → DskW ms) (a b who fr : Int) (path : Str) (follow : Bool) (hpl : path.length ≤ 10000) (v : Value) (W : World) (hg : GivesN l v W) :
    Calls Tryd.prog 13 #[.agg #[v, .int .i64 a, .int .i64 b], .int .i64 who, .int .i64 fr, .string (bs path), .bool follow] W fun e w' => WalkIs (walkL l who fr path follow) e W w' := by
  obtain ⟨m, rfl, h⟩ := hg
  exact rwalk_any v m a b who fr path follow W h (hl m rfl) hpl
theorem rnode_g (l : List NodeL) (hl : ∀ ms, pl ms = l → DskW ms) (a b who fr : Int) (path : Str) (follow : Bool) (hpl : path.length ≤ 10000) (v : Value) (W : World) (hg : GivesN l v W) :
    Calls Tryd.prog 16 #[.agg #[v, .int .i64 a, .int .i64 b], .int .i64 who, .int .i64 fr, .string (bs path), .bool follow] W fun e w' => WNodeIs (walkL l who fr path follow) e W w' := by
  obtain ⟨m, rfl, h⟩ := hg
  exact rnode_any v m a b who fr path follow W h (hl m rfl) hpl
/-- A disk that is asked. -/
def AskD (b : Nat) (v : Value) (most room : Int) (l : List NodeL) (W : World) : Prop := W.heap[b]? = some (.cells #[v, .int .i64 most, .int .i64 room] 24 (0, 0)) ∧ GivesN l v W ∧ ErrG W
theorem AskD.lt {b : Nat} {v : Value} {most room : Int} {l : List NodeL} {W : World} (h : AskD b v most room l W) : b < W.heap.size := (Array.getElem?_eq_some_iff.1 h.1).1
theorem AskD.keep {b : Nat} {v : Value} {most room : Int} {l : List NodeL} {W W' : World} (h : AskD b v most room l W) (hb : Below W.heap.size W W') : AskD b v most room l W' := ⟨(hb.block _ h.lt).trans h.1, h.2.1.keep hb, errG_keep h.2.2 hb⟩
theorem diskW' {l : List NodeL} {most room : Int} (h : rightQ l most room = true) : ∀ ms, pl ms = l → DskW ms := fun ms e => diskW (most := most) (room := room) (by rw [e]; exact h)
theorem spot_ty (R : ResL) (s : SpotL) (n : Int) : R = (s, n) → spotV R.1 = spotV s := fun h => by rw [h]
set_option maxRecDepth 100000 in
set_option maxHeartbeats 4000000 in
theorem finds_walk (v : Value) (ms : List NodeM) (most room who fr : Int) (path : Str) (follow : Bool) (w : World) (hv : RdM w.heap.size v ms w) (hfit : FitD (pl ms)) (he : ErrG w) :
    Calls Tryd.prog 3 #[.agg #[v, .int .i64 most, .int .i64 room], .int .i64 who, .int .i64 fr, .string (bs path), .bool follow] w fun e w' => e = .returned (.bool true) ∧ Below w.heap.size w w' := by
  obtain ⟨aod, capd, rfl, _, _⟩ := rdm_form hv
  have HQ := Lib.hid fun W (hb : Below w.heap.size w W) => right_q (.slice aod ms.length capd) ms most room W (rdm_keep hv hb) hfit
  have HSh := Lib.hid fun W (hb : Below w.heap.size w W) => shown_any W (errG_keep he hb)
  have HV := Lib.hid hv
  have HE := Lib.hid he
  clear hv he hfit
  go_enter Tryd.func3, Tryd.ntmps3
  go_wp2_with fail
  refine calls_fresh1 ?_
  intro W0 hb0 hD hs0
  have HX0 := Lib.hid (show AskD w.heap.size (.slice aod ms.length capd) most room (pl ms) W0 from ⟨hD, ⟨ms, rfl, rdm_keep HV.out hb0⟩, errG_keep HE.out hb0⟩)
  refine (HQ.out W0 hb0).mono ?_
  rintro e W1 ⟨rfl, hb1⟩
  have HB1 := Lib.hid (ret_tr hb0 hb1)
  have HX1 := Lib.hid (HX0.out.keep hb1)
  clear hb0 hb1 hD HX0 HV HE
  cases hq : rightQ (pl ms) most room with
  | false =>
    clear hq
    go_wp2_with fail
    refine (HSh.out W1 HB1.out).mono ?_
    rintro e W2 ⟨rfl, hb2⟩
    go_wp2_with fail
    go_ret
    exact ⟨rfl, ret_tr HB1.out hb2⟩
  | true =>
    have HD := Lib.hid (diskW' hq)
    clear hq
    by_cases hlen : 200 < path.length
    · have hI : decide ((200 : Int) < (path.length : Int)) = true := decide_eq_true (by omega)
      clear hlen
      go_wp2_with fail
      refine (HSh.out W1 HB1.out).mono ?_
      rintro e W2 ⟨rfl, hb2⟩
      go_wp2_with fail
      go_ret
      exact ⟨rfl, ret_tr HB1.out hb2⟩
    · have hI : decide ((200 : Int) < (path.length : Int)) = false := decide_eq_false (by omega)
      have hpl : path.length ≤ 10000 := by omega
      clear hlen
      go_wp2_with fail
      refine (HSh.out W1 HB1.out).mono ?_
      rintro e W2 ⟨rfl, hb2⟩
      have HB2 := Lib.hid (ret_tr HB1.out hb2)
      have HX2 := Lib.hid (HX1.out.keep hb2)
      obtain ⟨p0, p1, p2⟩ := cells3 HX2.out.1
      clear hb2
      go_wp2_with fail
      have hln : (pl ms).length ≤ 10000 := by have := (HD.out ms rfl).ok.len; rw [pl_len]; exact this
      have HItg := Lib.hid (its_g (pl ms) most room hln (HD.out ms rfl).ok.nms)
      have hw := walk_g (pl ms) HD.out most room who fr path follow hpl
      have hn := wnode_g (pl ms) HD.out most room who fr path follow hpl
      have hrw := rwalk_g (pl ms) HD.out most room who fr path follow hpl
      have hrn := rnode_g (pl ms) HD.out most room who fr path follow hpl
      generalize walkL (pl ms) who fr path follow = R at *
      obtain ⟨⟨sd, sn, si, ss⟩, n⟩ := R
      unfold WNodeIs at hn hrn
      unfold WalkIs at hw hrw
      obtain ⟨j, hj⟩ : ∃ j, j = (wnodeL (⟨sd, sn, si, ss⟩, n)).1 := ⟨_, rfl⟩
      obtain ⟨g, hg⟩ : ∃ g, g = (wnodeL (⟨sd, sn, si, ss⟩, n)).2 := ⟨_, rfl⟩
      rw [← hj, ← hg] at hn hrn
      have HW := Lib.hid hw
      have HN := Lib.hid hn
      have HRW := Lib.hid hrw
      have HRN := Lib.hid hrn
      have q1 : ∀ w, (Op.equalIn 10000 32 (.agg #[.int .i64 sd, .string (bs sn), .int .i64 si, .bool ss]) (.agg #[.int .i64 sd, .string (bs sn), .int .i64 si, .bool ss])).run Tryd.prog w = .ok true w := fun w => eqSpotR ⟨sd, sn, si, ss⟩ ⟨sd, sn, si, ss⟩ w |>.trans (by rw [decide_eq_true rfl])
      have qg := spotGuardR
      generalize pl ms = L at *
      clear hw hn hrw hrn hj hg
      refine (HW.out _ W2 HX2.out.2.1 HX2.out.2.2).mono ?_
      rintro e U3 ⟨rfl, hb3⟩
      have HB3 := Lib.hid (ret_tr HB2.out hb3)
      have HX3 := Lib.hid (HX2.out.keep hb3)
      have hlt3 := HX3.out.lt
      clear p0 p1 p2 hb3
      obtain ⟨p0, p1, p2⟩ := cells3 HX3.out.1
      go_wp2_with fail
      refine calls_fresh1 ?_
      intro W3 hb3 hS3 hs3
      have HB3' := Lib.hid (ret_tr HB3.out hb3)
      have HX3' := Lib.hid (HX3.out.keep hb3)
      have HS3 := Lib.hid hS3
      have hsl3 : U3.heap.size < W3.heap.size := by omega
      clear hb3 hS3 p0 p1 p2
      refine (HItg.out _ W3 HX3'.out.2.1).mono ?_
      rintro e U4 ⟨v4, rfl, hg4, hb4⟩
      have HB4 := Lib.hid (ret_tr HB3'.out hb4)
      have HX4 := Lib.hid (HX3'.out.keep hb4)
      have HS4 := Lib.hid ((hb4.block _ hsl3).trans HS3.out)
      have hsl4 : U3.heap.size < U4.heap.size := Nat.lt_of_lt_of_le hsl3 hb4.size
      clear hb4
      go_wp2_with fail
      refine (HRW.out v4 U4 hg4).mono ?_
      rintro e U5 ⟨rfl, hb5⟩
      have HB5 := Lib.hid (ret_tr HB4.out hb5)
      have HX5 := Lib.hid (HX4.out.keep hb5)
      have HS5 := Lib.hid ((hb5.block _ hsl4).trans HS4.out)
      have hsl5 : U3.heap.size < U5.heap.size := Nat.lt_of_lt_of_le hsl4 hb5.size
      have hlt5 := HX5.out.lt
      obtain ⟨p0, p1, p2⟩ := cells3 HX5.out.1
      clear hb5 hg4
      go_wp2_with fail
      refine calls_fresh1 ?_
      intro W5 hb5 hT5 hs5
      have HB5' := Lib.hid (ret_tr HB5.out hb5)
      have HX5' := Lib.hid (HX5.out.keep hb5)
      have HS5' := Lib.hid ((hb5.block _ hsl5).trans HS5.out)
      have HT5 := Lib.hid hT5
      have hsl5' : U3.heap.size < W5.heap.size := by omega
      have htl5 : U5.heap.size < W5.heap.size := by omega
      clear hb5 hT5 p0 p1 p2
      refine (HN.out _ W5 HX5'.out.2.1 HX5'.out.2.2).mono ?_
      rintro e U6 ⟨rfl, hb6⟩
      have HB6 := Lib.hid (ret_tr HB5'.out hb6)
      have HX6 := Lib.hid (HX5'.out.keep hb6)
      have HS6 := Lib.hid ((hb6.block _ hsl5').trans HS5'.out)
      have HT6 := Lib.hid ((hb6.block _ htl5).trans HT5.out)
      have hsl6 : U3.heap.size < U6.heap.size := Nat.lt_of_lt_of_le hsl5' hb6.size
      have htl6 : U5.heap.size < U6.heap.size := Nat.lt_of_lt_of_le htl5 hb6.size
      obtain ⟨p0, p1, p2⟩ := cells3 HX6.out.1
      clear hb6
      go_wp2_with fail
      clear p0 p1 p2
      refine (HItg.out _ U6 HX6.out.2.1).mono ?_
      rintro e U7 ⟨v7, rfl, hg7, hb7⟩
      have HB7 := Lib.hid (ret_tr HB6.out hb7)
      have HS7 := Lib.hid ((hb7.block _ hsl6).trans HS6.out)
      have HT7 := Lib.hid ((hb7.block _ htl6).trans HT6.out)
      have hsl7 : U3.heap.size < U7.heap.size := Nat.lt_of_lt_of_le hsl6 hb7.size
      have htl7 : U5.heap.size < U7.heap.size := Nat.lt_of_lt_of_le htl6 hb7.size
      clear hb7
      go_wp2_with fail
      refine (HRN.out v7 U7 hg7).mono ?_
      rintro e U8 ⟨rfl, hb8⟩
      have HB8 := Lib.hid (ret_tr HB7.out hb8)
      obtain ⟨s0, s1, s2, s3⟩ := cells4 ((hb8.block _ hsl7).trans HS7.out)
      obtain ⟨t0, t1, t2, t3⟩ := cells4 ((hb8.block _ htl7).trans HT7.out)
      clear hb8 hg7
      go_wp2_with fail
      go_ret
      exact ⟨rfl, HB8.out⟩
end Go.Proofs.YtckbhkchnhhecaaDoor
