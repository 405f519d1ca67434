/-
  What is shown in each statement on disks.
-/
import Derived.Test.YtknjmdgnbhohdaaDskS
import Derived.Test.YtknjmdgnbhohdaaDskJ
import Derived.Test.YtknjmdgnbhohdaaDskRight
namespace Go.Proofs.Ytknjmdgnbhohdaa
open Go.RowKit Go.Shelf
attribute [local go_sem ↓] Go.wp_at_zero Go.wp_at_succ

theorem right_c (v : Value) (ms : List NodeM) (most room : Int) (w : World) (hv : RdM w.heap.size v ms w) (hsm : Small (pl ms)) (hfit : FitD (pl ms)) :
    Calls Try.prog 18 #[.agg #[v, .int .i64 most, .int .i64 room]] w fun e w' => e = .returned (.bool (rightR (pl ms) most room)) ∧ Below w.heap.size w w' := by
  rw [← rights_same]
  exact cright_any v ms most room w hv hsm hfit
abbrev nodeF : NodeL := ⟨1, 52, 0, 1, 0, 0, [97, 98, 99], []⟩
abbrev node7 : NodeL := ⟨1, 0, 0, 0, 0, 0, [49, 50, 51, 52, 53, 54, 55], []⟩
abbrev rootF : NodeL := ⟨2, 63, 0, 1, 0, 0, [], [([102], 1)]⟩
theorem ex_new : newL 3 9 63 = [rootN 63] := by decide
theorem ex_newI : newI 3 9 63 3 = 3 ∧ newI 3 9 63 9 = 9 := by decide
theorem ex_add : addL [rootN 63] 3 9 nodeF = [rootN 63, nodeF] := by decide
theorem ex_addI : addI [rootN 63] 3 9 nodeF = 1 ∧ addE [rootN 63] 3 9 nodeF = 0 := by decide
theorem ex_get : getL [rootN 63, nodeF] 0 = rootN 63 ∧ gotB [rootN 63, nodeF] 0 = true := by decide
theorem ex_set : setL [rootN 63, nodeF] 0 rootF = [rootF, nodeF] := by decide
theorem ex_no : addE [rootF, nodeF] 3 9 node7 = 10 ∧ addI [rootF, nodeF] 3 9 node7 = 0 := by decide
theorem ex_used : usedL [rootF, nodeF] = 2 ∧ bytesL [rootF, nodeF] = 3 := by decide
theorem ex_right : rightR [rootN 63] 3 9 = true ∧ rightR [rootF, nodeF] 3 9 = true ∧ rightR [rootN 63, nodeF] 3 9 = false := by decide +kernel
theorem ex_small : Small [rootN 63] ∧ Small [rootN 63, nodeF] ∧ Small [rootF, nodeF] ∧ SmallN nodeF ∧ SmallN node7 := by
  refine ⟨⟨by decide, ?_⟩, ⟨by decide, ?_⟩, ⟨by decide, ?_⟩, ⟨by decide, by decide⟩, ⟨by decide, by decide⟩⟩
  · intro n hn
    simp only [List.mem_cons, List.not_mem_nil, or_false] at hn
    subst hn
    exact ⟨by decide, by decide⟩
  · intro n hn
    simp only [List.mem_cons, List.not_mem_nil, or_false] at hn
    rcases hn with rfl | rfl <;> exact ⟨by decide, by decide⟩
  · intro n hn
    simp only [List.mem_cons, List.not_mem_nil, or_false] at hn
    rcases hn with rfl | rfl <;> exact ⟨by decide, by decide⟩
theorem fit_nil : Fit [] := fun e he => by cases he
theorem ex_fit : FitD [rootN 63] ∧ FitD [rootN 63, nodeF] ∧ FitD [rootF, nodeF] := by
  have h1 : Fit [([102], 1)] := fun e he => by
    obtain rfl := List.mem_singleton.1 he
    exact (by decide)
  refine ⟨?_, ?_, ?_⟩
  · intro n hn
    simp only [List.mem_cons, List.not_mem_nil, or_false] at hn
    subst hn
    exact fit_nil
  · intro n hn
    simp only [List.mem_cons, List.not_mem_nil, or_false] at hn
    rcases hn with rfl | rfl <;> exact fit_nil
  · intro n hn
    simp only [List.mem_cons, List.not_mem_nil, or_false] at hn
    rcases hn with rfl | rfl
    · exact h1
    · exact fit_nil
/-- A disk in memory, of these nodes. -/
def Dsk (b : Nat) (v : Value) (l : List NodeL) (W : World) : Prop := W.heap[b]? = some (.cells #[v, .int .i64 3, .int .i64 9] 24 (0, 0)) ∧ GivesN l v W
theorem Dsk.lt {b : Nat} {v : Value} {l : List NodeL} {W : World} (h : Dsk b v l W) : b < W.heap.size := (Array.getElem?_eq_some_iff.1 h.1).1
theorem Dsk.keep {b : Nat} {v : Value} {l : List NodeL} {W W' : World} (h : Dsk b v l W) (hb : Below W.heap.size W W') : Dsk b v l W' := ⟨(hb.block _ h.lt).trans h.1, h.2.keep hb⟩
theorem Dsk.c {b : Nat} {v : Value} {l : List NodeL} {W : World} (h : Dsk b v l W) : W.cell? ⟨b, 0, none⟩ = some v ∧ W.cell? ⟨b, 1, none⟩ = some (.int .i64 3) ∧ W.cell? ⟨b, 2, none⟩ = some (.int .i64 9) := cells3 h.1
theorem gives_form {l : List NodeL} {v : Value} {W : World} (h : GivesN l v W) : ∃ ao cap, v = .slice ao l.length cap := by
  obtain ⟨ms, h1, h2⟩ := h
  obtain ⟨ao, cap, e, _, _⟩ := rdm_form h2
  exact ⟨ao, cap, by rw [e, ← h1, pl_len]⟩
set_option maxRecDepth 100000 in
set_option maxHeartbeats 4000000 in
theorem shown_any (w : World) : Calls Try.prog 9 #[] w fun e w' => e = .returned (.bool true) ∧ Below w.heap.size w w' := by
  go_enter Try.func9, Try.ntmps9
  go_wp2_with fail
  refine (new_any 3 9 63 _).mono ?_
  intro e W1 h1
  obtain ⟨v1, rfl, hd1, hb1⟩ := h1
  rw [ex_newI.1, ex_newI.2]
  rw [ex_new] at hd1
  obtain ⟨ao1, cap1, rfl⟩ := gives_form hd1
  go_wp2_with fail
  refine fresh1 (P := fun W => Calls _ _ _ W _) ?_
  intro W2 hb2 hD2 hs2
  have HB2 := Lib.hid (ret_tr hb1 hb2)
  have HD := Lib.hid (show Dsk W1.heap.size _ [rootN 63] W2 from ⟨hD2, hd1.keep hb2⟩)
  obtain ⟨m1, hm1, hr1⟩ := hd1.keep hb2
  have hadd := add_any (.slice ao1 1 cap1) m1 3 9 nodeF (.slice none 0 0) W2 hr1 (by rw [hm1]; exact ex_small.1) (Rd.none0 _ _ _) ex_small.2.2.2.1
  rw [hm1] at hadd
  refine hadd.mono ?_
  clear hadd hr1 hm1 hd1 hb1 hb2 hD2
  intro e W3 h3
  obtain ⟨v3, rfl, hd3, hb3⟩ := h3
  rw [ex_addI.1, ex_addI.2]
  rw [ex_add] at hd3
  obtain ⟨ao3, cap3, rfl⟩ := gives_form hd3
  have HB3 := Lib.hid (ret_tr HB2.out hb3)
  have HD3 := Lib.hid (HD.out.keep hb3)
  have hs3 := hb3.size
  clear hb3 HD HB2
  go_wp2_with fail
  refine fresh1 (P := fun W => Calls _ _ _ W _) ?_
  intro W4 hb4 hD4 hs4
  have HB4 := Lib.hid (ret_tr HB3.out hb4)
  have HD4 := Lib.hid (HD3.out.keep hb4)
  have HA4 := Lib.hid (show Dsk W3.heap.size _ [rootN 63, nodeF] W4 from ⟨hD4, hd3.keep hb4⟩)
  obtain ⟨m3, hm3, hr3⟩ := hd3.keep hb4
  have hget := get_any (.slice ao3 2 cap3) m3 3 9 0 W4 hr3 (by rw [← pl_len, hm3]; decide) (fun n hn => by have := (ex_small.2.1.2 n (by rw [← hm3]; exact hn)).2; omega)
  rw [hm3] at hget
  refine hget.mono ?_
  clear hget hr3 hm3 hd3 hb4 hD4 HD3 HB3
  intro e W5 h5
  obtain ⟨v5, rfl, hn5, hb5⟩ := h5
  rw [ex_get.1, ex_get.2]
  rw [ex_get.1] at hn5
  obtain ⟨ao5, cap5, e5, _, _⟩ := Rd.form hn5
  have e5' : v5 = .slice ao5 0 cap5 := e5
  subst e5'
  have HB5 := Lib.hid (ret_tr HB4.out hb5)
  have HD5 := Lib.hid (HD4.out.keep hb5)
  have HA5 := Lib.hid (HA4.out.keep hb5)
  have hs5 := hb5.size
  have hlt5 := HA5.out.lt
  obtain ⟨a0, a1, a2⟩ := HA5.out.c
  clear hb5 HD4 HA4 HB4 hn5 e5
  go_wp2_with fail
  refine fresh2 (P := fun W => Calls _ _ _ W _) ?_
  intro W6 hb6 hN6 hE6 hs6
  have HB6 := Lib.hid (ret_tr HB5.out hb6)
  have HD6 := Lib.hid (HD5.out.keep hb6)
  have HA6 := Lib.hid (HA5.out.keep hb6)
  have hrn6 : RdNm W6.heap.size (rootF, .slice (some ⟨W5.heap.size + 1, 0, none⟩) 1 1) W6 := rd_block (n := 1) (xs := ents [([102], 1)]) hE6 rfl (by decide) (by omega)
  obtain ⟨m3, hm3, hr3⟩ := HA6.out.2
  have hset := set_any (.slice ao3 2 cap3) m3 3 9 0 rootF (.slice (some ⟨W5.heap.size + 1, 0, none⟩) 1 1) W6 hr3 (by rw [← pl_len, hm3]; decide) hrn6 (by decide)
  refine hset.mono ?_
  clear hset hrn6 hr3 hb6 hN6 hE6 a0 a1 a2
  intro e W7 h7
  obtain ⟨v7, m7, rfl, hm7, hd7, hb7, -⟩ := h7
  have hg7 : GivesN [rootF, nodeF] v7 W7 := ⟨m7, by rw [hm7, hm3]; exact ex_set, hd7⟩
  clear hd7 hm7 hm3
  obtain ⟨ao7, cap7, rfl⟩ := gives_form hg7
  have HB7 := Lib.hid (ret_tr HB6.out hb7)
  have HD7 := Lib.hid (HD6.out.keep hb7)
  have HA7 := Lib.hid (HA6.out.keep hb7)
  have hs7 := hb7.size
  clear hb7 HB6 HD6 HA6 HB5 HD5 HA5
  go_wp2_with fail
  refine fresh1 (P := fun W => Calls _ _ _ W _) ?_
  intro W8 hb8 hC8 hs8
  have HB8 := Lib.hid (ret_tr HB7.out hb8)
  have HD8 := Lib.hid (HD7.out.keep hb8)
  have HA8 := Lib.hid (HA7.out.keep hb8)
  have HC8 := Lib.hid (show Dsk W7.heap.size _ [rootF, nodeF] W8 from ⟨hC8, hg7.keep hb8⟩)
  obtain ⟨m8, hm8, hr8⟩ := HC8.out.2
  have hadd := add_any (.slice ao7 2 cap7) m8 3 9 node7 (.slice none 0 0) W8 hr8 (by rw [hm8]; exact ex_small.2.2.1) (Rd.none0 _ _ _) ex_small.2.2.2.2
  rw [hm8] at hadd
  refine hadd.mono ?_
  clear hadd hr8 hm8 hg7 hb8 hC8 HB7 HD7 HA7
  intro e W9 h9
  obtain ⟨v9, rfl, hd9, hb9⟩ := h9
  rw [ex_no.1, ex_no.2]
  obtain ⟨ao9, cap9, rfl⟩ := gives_form hd9
  have HB9 := Lib.hid (ret_tr HB8.out hb9)
  have HD9 := Lib.hid (HD8.out.keep hb9)
  have HA9 := Lib.hid (HA8.out.keep hb9)
  have HC9 := Lib.hid (HC8.out.keep hb9)
  have hlt9 := HC9.out.lt
  obtain ⟨a0, a1, a2⟩ := HC9.out.c
  clear hb9 HB8 HD8 HA8 HC8 hd9
  go_wp2_with fail
  refine fresh1 (P := fun W => Calls _ _ _ W _) ?_
  intro W10 hb10 _ hs10
  clear a0 a1 a2
  have HB10 := Lib.hid (ret_tr HB9.out hb10)
  have HD10 := Lib.hid (HD9.out.keep hb10)
  have HA10 := Lib.hid (HA9.out.keep hb10)
  have HC10 := Lib.hid (HC9.out.keep hb10)
  clear hb10 HB9 HD9 HA9 HC9
  obtain ⟨m10, hm10, hr10⟩ := HC10.out.2
  have hus := used_any (.slice ao7 2 cap7) m10 3 9 W10 hr10 (by rw [← pl_len, hm10]; decide)
  rw [hm10, ex_used.1] at hus
  refine hus.mono ?_
  rintro e W11 ⟨rfl, hb11⟩
  have HB11 := Lib.hid (ret_tr HB10.out hb11)
  have HD11 := Lib.hid (HD10.out.keep hb11)
  have HA11 := Lib.hid (HA10.out.keep hb11)
  have HC11 := Lib.hid (HC10.out.keep hb11)
  clear hb11 HB10 HD10 HA10 HC10 hus hr10 hm10
  obtain ⟨a0, a1, a2⟩ := HC11.out.c
  go_wp2_with fail
  clear a0 a1 a2
  obtain ⟨m11, hm11, hr11⟩ := HC11.out.2
  have hby := bytes_any (.slice ao7 2 cap7) m11 3 9 W11 hr11 (by rw [hm11]; exact ex_small.2.2.1)
  rw [hm11, ex_used.2] at hby
  refine hby.mono ?_
  rintro e W12 ⟨rfl, hb12⟩
  have HB12 := Lib.hid (ret_tr HB11.out hb12)
  have HD12 := Lib.hid (HD11.out.keep hb12)
  have HA12 := Lib.hid (HA11.out.keep hb12)
  have HC12 := Lib.hid (HC11.out.keep hb12)
  clear hb12 HB11 HD11 HA11 HC11 hby hr11 hm11
  obtain ⟨a0, a1, a2⟩ := HD12.out.c
  go_wp2_with fail
  clear a0 a1 a2
  obtain ⟨m12, hm12, hr12⟩ := HD12.out.2
  have hrt := right_c (.slice ao1 1 cap1) m12 3 9 W12 hr12 (by rw [hm12]; exact ex_small.1) (by rw [hm12]; exact ex_fit.1)
  rw [hm12, ex_right.1] at hrt
  refine hrt.mono ?_
  rintro e W13 ⟨rfl, hb13⟩
  have HB13 := Lib.hid (ret_tr HB12.out hb13)
  have HD13 := Lib.hid (HD12.out.keep hb13)
  have HA13 := Lib.hid (HA12.out.keep hb13)
  have HC13 := Lib.hid (HC12.out.keep hb13)
  clear hb13 HB12 HD12 HA12 HC12 hrt hr12 hm12
  obtain ⟨a0, a1, a2⟩ := HC13.out.c
  go_wp2_with fail
  clear a0 a1 a2
  obtain ⟨m13, hm13, hr13⟩ := HC13.out.2
  have hrt := right_c (.slice ao7 2 cap7) m13 3 9 W13 hr13 (by rw [hm13]; exact ex_small.2.2.1) (by rw [hm13]; exact ex_fit.2.2)
  rw [hm13, ex_right.2.1] at hrt
  refine hrt.mono ?_
  rintro e W14 ⟨rfl, hb14⟩
  have HB14 := Lib.hid (ret_tr HB13.out hb14)
  have HD14 := Lib.hid (HD13.out.keep hb14)
  have HA14 := Lib.hid (HA13.out.keep hb14)
  clear hb14 HB13 HD13 HA13 HC13 hrt hr13 hm13
  obtain ⟨a0, a1, a2⟩ := HA14.out.c
  go_wp2_with fail
  clear a0 a1 a2
  obtain ⟨m14, hm14, hr14⟩ := HA14.out.2
  have hrt := right_c (.slice ao3 2 cap3) m14 3 9 W14 hr14 (by rw [hm14]; exact ex_small.2.1) (by rw [hm14]; exact ex_fit.2.1)
  rw [hm14, ex_right.2.2] at hrt
  refine hrt.mono ?_
  rintro e W15 ⟨rfl, hb15⟩
  have HB15 := Lib.hid (ret_tr HB14.out hb15)
  have HD15 := Lib.hid (HD14.out.keep hb15)
  clear hb15 HB14 HD14 HA14 hrt hr14 hm14
  obtain ⟨a0, a1, a2⟩ := HD15.out.c
  go_wp2_with fail
  go_ret
  exact ⟨rfl, HB15.out⟩
end Go.Proofs.Ytknjmdgnbhohdaa
