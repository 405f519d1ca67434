/-
  What is shown in each statement on ways.
-/
import Derived.Test.YtckbhkchnhhecaaDoorLaw7A
import Derived.Test.YtckbhkchnhhecaaDoorWalkEx
namespace Go.Proofs.YtckbhkchnhhecaaDoor
open Go.RowKit Go.Shelf
attribute [local go_sem ↓] Go.wp_at_zero Go.wp_at_succ

/-- The variable of package errors, laid. -/
abbrev ErrG (W : World) : Prop := W.cell? ⟨0, 0, none⟩ = some errTypeV
theorem errG_keep {W W' : World} (h : ErrG W) (hb : Below W.heap.size W W') : ErrG W' := (hb.cell (p := ⟨0, 0, none⟩) (World.block_lt_of_cell? W _ h)).trans h
/-- The contracts, of whatever reads as these nodes. -/
theorem walk_g (l : List NodeL) (hl : ∀ ms, pl ms = l → DskW ms) (a b who fr : Int) (path : Str) (follow : Bool) (hpl : path.length ≤ 10000) (v : Value) (W : World) (hg : GivesN l v W) (he : ErrG W) :
    Calls Tryd.prog 12 #[.agg #[v, .int .i64 a, .int .i64 b], .int .i64 who, .int .i64 fr, .string (bs path), .bool follow] W fun e w' => WalkIs (walkL l who fr path follow) e W w' := by
  obtain ⟨m, rfl, h⟩ := hg
  exact walk_any v m a b who fr path follow W h (hl m rfl) hpl he
theorem wnode_g (l : List NodeL) (hl : ∀ ms, pl ms = l → DskW ms) (a b who fr : Int) (path : Str) (follow : Bool) (hpl : path.length ≤ 10000) (v : Value) (W : World) (hg : GivesN l v W) (he : ErrG W) :
    Calls Tryd.prog 15 #[.agg #[v, .int .i64 a, .int .i64 b], .int .i64 who, .int .i64 fr, .string (bs path), .bool follow] W fun e w' => WNodeIs (walkL l who fr path follow) e W w' := by
  obtain ⟨m, rfl, h⟩ := hg
  exact wnode_any v m a b who fr path follow W h (hl m rfl) hpl he
theorem exW (ms : List NodeM) (h : pl ms = exL) : DskW ms := by
  have hl : ms.length = 3 := by rw [← pl_len, h]; rfl
  refine ⟨⟨by omega, fun n hn => ?_, by rw [h]; exact exR⟩, fun n hn => ?_⟩
  · rw [h] at hn
    simp only [exL, List.mem_cons, List.not_mem_nil, or_false] at hn
    rcases hn with rfl | rfl | rfl <;> decide
  · rw [h] at hn
    simp only [exL, List.mem_cons, List.not_mem_nil, or_false] at hn
    rcases hn with rfl | rfl | rfl <;> decide
/-- The example's disk in memory. -/
def ExD (b : Nat) (v : Value) (W : World) : Prop := W.heap[b]? = some (.cells #[v, .int .i64 9, .int .i64 9] 24 (0, 0)) ∧ GivesN exL v W ∧ ErrG W
theorem ExD.lt {b : Nat} {v : Value} {W : World} (h : ExD b v W) : b < W.heap.size := (Array.getElem?_eq_some_iff.1 h.1).1
theorem ExD.keep {b : Nat} {v : Value} {W W' : World} (h : ExD b v W) (hb : Below W.heap.size W W') : ExD b v W' := ⟨(hb.block _ h.lt).trans h.1, h.2.1.keep hb, errG_keep h.2.2 hb⟩
set_option maxRecDepth 100000 in
set_option maxHeartbeats 4000000 in
theorem shown_any (w : World) (he : ErrG w) : Calls Tryd.prog 11 #[] w fun e w' => e = .returned (.bool true) ∧ Below w.heap.size w w' := by
  have HE := Lib.hid he
  clear he
  go_enter Tryd.func11, Tryd.ntmps11
  go_wp2_with fail
  refine calls_fresh3 ?_
  intro W0 hb0 hE hN hD hs0
  have hx : ExD (w.heap.size + 2) (.slice (some ⟨w.heap.size + 1, 0, none⟩) 3 3) W0 := by
    refine ⟨hD, ⟨[(exN0, .slice (some ⟨w.heap.size, 0, none⟩) 2 2), (exN1, .slice none 0 0), (exN2, .slice none 0 0)], rfl, rd_block (n := 3) (size := 8) (xs := cellsN [(exN0, .slice (some ⟨w.heap.size, 0, none⟩) 2 2), (exN1, .slice none 0 0), (exN2, .slice none 0 0)]) hN rfl (by decide) (by omega), fun m hm => ?_⟩, errG_keep HE.out hb0⟩
    simp only [List.mem_cons, List.not_mem_nil, or_false] at hm
    rcases hm with rfl | rfl | rfl
    · exact rd_block (n := 2) (size := 2) (xs := ents [([97], 1), ([98], 2)]) hE rfl (by decide) (by omega)
    · exact Rd.none0 _ _ _
    · exact Rd.none0 _ _ _
  have HX0 := Lib.hid hx
  have HB0 := Lib.hid hb0
  have hc0 := walk_g exL exW 9 9 1 0 [47, 97, 47, 120] false (by decide) _ _ HX0.out.2.1 HX0.out.2.2
  rw [ex_1] at hc0
  have HC0 := Lib.hid hc0
  clear hc0 hx hE hN hD hb0
  refine HC0.out.mono ?_
  rintro e U1 ⟨rfl, hb1⟩
  have HB1 := Lib.hid (ret_tr HB0.out hb1)
  have HX1 := Lib.hid (HX0.out.keep hb1)
  obtain ⟨p0, p1, p2⟩ := cells3 HX1.out.1
  have hlt1 := HX1.out.lt
  clear hb1
  go_wp2_with fail
  refine calls_fresh1 ?_
  intro W1 hb1 hS1 hs1
  have HB2 := Lib.hid (ret_tr HB1.out hb1)
  have HX2 := Lib.hid (HX1.out.keep hb1)
  have HS2 := Lib.hid hS1
  have hsl2 : U1.heap.size < W1.heap.size := by omega
  have hc2 := walk_g exL exW 9 9 1 1 [46, 46, 47, 98] false (by decide) _ _ HX2.out.2.1 HX2.out.2.2
  rw [ex_2] at hc2
  have HC2 := Lib.hid hc2
  clear hc2 hb1 hS1 p0 p1 p2
  refine HC2.out.mono ?_
  rintro e U2 ⟨rfl, hb2⟩
  have HB3 := Lib.hid (ret_tr HB2.out hb2)
  have HX3 := Lib.hid (HX2.out.keep hb2)
  have HS3 := Lib.hid ((hb2.block _ hsl2).trans HS2.out)
  have hsl3 : U1.heap.size < U2.heap.size := Nat.lt_of_lt_of_le hsl2 hb2.size
  obtain ⟨p0, p1, p2⟩ := cells3 HX3.out.1
  have hlt3 := HX3.out.lt
  clear hb2
  go_wp2_with fail
  refine calls_fresh1 ?_
  intro W2 hb2 hS2 hs2
  have HB4 := Lib.hid (ret_tr HB3.out hb2)
  have HX4 := Lib.hid (HX3.out.keep hb2)
  have HS4 := Lib.hid ((hb2.block _ hsl3).trans HS3.out)
  have HT4 := Lib.hid hS2
  have hsl4 : U1.heap.size < W2.heap.size := by omega
  have htl4 : U2.heap.size < W2.heap.size := by omega
  have hc4 := wnode_g exL exW 9 9 1 0 [98] true (by decide) _ _ HX4.out.2.1 HX4.out.2.2
  unfold WNodeIs at hc4
  rw [ex_3, exN_3] at hc4
  have HC4 := Lib.hid hc4
  clear hc4 hb2 hS2 p0 p1 p2
  refine HC4.out.mono ?_
  rintro e U5 ⟨rfl, hb5⟩
  have HB5 := Lib.hid (ret_tr HB4.out hb5)
  have HX5 := Lib.hid (HX4.out.keep hb5)
  have HS5 := Lib.hid ((hb5.block _ hsl4).trans HS4.out)
  have HT5 := Lib.hid ((hb5.block _ htl4).trans HT4.out)
  have hsl5 : U1.heap.size < U5.heap.size := Nat.lt_of_lt_of_le hsl4 hb5.size
  have htl5 : U2.heap.size < U5.heap.size := Nat.lt_of_lt_of_le htl4 hb5.size
  obtain ⟨p0, p1, p2⟩ := cells3 HX5.out.1
  have hlt5 := HX5.out.lt
  clear hb5
  go_wp2_with fail
  have hc5 := wnode_g exL exW 9 9 1 0 [97, 47, 120, 47, 121] true (by decide) _ _ HX5.out.2.1 HX5.out.2.2
  unfold WNodeIs at hc5
  rw [ex_4, exN_4] at hc5
  have HC5 := Lib.hid hc5
  clear hc5 p0 p1 p2
  refine HC5.out.mono ?_
  rintro e U6 ⟨rfl, hb6⟩
  have HB6 := Lib.hid (ret_tr HB5.out hb6)
  have HX6 := Lib.hid (HX5.out.keep hb6)
  have HS6 := Lib.hid ((hb6.block _ hsl5).trans HS5.out)
  have HT6 := Lib.hid ((hb6.block _ htl5).trans HT5.out)
  have hsl6 : U1.heap.size < U6.heap.size := Nat.lt_of_lt_of_le hsl5 hb6.size
  have htl6 : U2.heap.size < U6.heap.size := Nat.lt_of_lt_of_le htl5 hb6.size
  obtain ⟨p0, p1, p2⟩ := cells3 HX6.out.1
  have hlt6 := HX6.out.lt
  clear hb6
  go_wp2_with fail
  have hc6 := wnode_g exL exW 9 9 1 0 [97, 47, 46, 47, 46, 46] true (by decide) _ _ HX6.out.2.1 HX6.out.2.2
  unfold WNodeIs at hc6
  rw [ex_5, exN_5] at hc6
  have HC6 := Lib.hid hc6
  clear hc6 p0 p1 p2
  refine HC6.out.mono ?_
  rintro e U7 ⟨rfl, hb7⟩
  have HB7 := Lib.hid (ret_tr HB6.out hb7)
  have HX7 := Lib.hid (HX6.out.keep hb7)
  have HS7 := Lib.hid ((hb7.block _ hsl6).trans HS6.out)
  have HT7 := Lib.hid ((hb7.block _ htl6).trans HT6.out)
  have hsl7 : U1.heap.size < U7.heap.size := Nat.lt_of_lt_of_le hsl6 hb7.size
  have htl7 : U2.heap.size < U7.heap.size := Nat.lt_of_lt_of_le htl6 hb7.size
  have q1 : ∀ w, (Op.equalIn 10000 28 (.agg #[.int .i64 1, .string (bs [120]), .int .i64 (-1), .bool false]) (.agg #[.int .i64 1, .string (bs [120]), .int .i64 (-1), .bool false])).run Tryd.prog w = .ok true w := fun w => eqSpot ⟨1, [120], -1, false⟩ ⟨1, [120], -1, false⟩ w |>.trans (by rw [decide_eq_true rfl])
  have q2 : ∀ w, (Op.equalIn 10000 28 (.agg #[.int .i64 0, .string (bs [98]), .int .i64 2, .bool false]) (.agg #[.int .i64 0, .string (bs [98]), .int .i64 2, .bool false])).run Tryd.prog w = .ok true w := fun w => eqSpot ⟨0, [98], 2, false⟩ ⟨0, [98], 2, false⟩ w |>.trans (by rw [decide_eq_true rfl])
  have qg := spotGuard
  obtain ⟨s0, s1, s2, s3⟩ := cells4 HS7.out
  obtain ⟨t0, t1, t2, t3⟩ := cells4 HT7.out
  clear hb7
  go_wp2_with fail
  go_ret
  exact ⟨rfl, HB7.out⟩
end Go.Proofs.YtckbhkchnhhecaaDoor
