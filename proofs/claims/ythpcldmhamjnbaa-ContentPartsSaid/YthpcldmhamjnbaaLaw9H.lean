/-
  The example of the statements on data, walked.
-/
import Derived.Test.YthpcldmhamjnbaaLaw9B
import Derived.Deep.RegionHeld3
import Derived.Deep.DeepCutAuto
namespace Go.Proofs.Ythpcldmhamjnbaa
open Go.RowKit Go.Shelf
attribute [local go_sem ↓] Go.wp_at_zero Go.wp_at_succ

/-- The program's four calls. -/
structure PC4 : Prop where
  read : ∀ (l : List NodeL) (most room i a n : Int) (v : Value) (W : World), Small l → GivesN l v W →
    Calls Try.prog 11 #[.agg #[v, .int .i64 most, .int .i64 room], .int .i64 i, .int .i64 a, .int .i64 n] W fun e w' => e = .returned (.tuple #[.string (bs (readL l i a n).1), .int .i64 (readL l i a n).2]) ∧ Below W.heap.size W w'
  size : ∀ (l : List NodeL) (most room i : Int) (v : Value) (W : World), Small l → GivesN l v W →
    Calls Try.prog 14 #[.agg #[v, .int .i64 most, .int .i64 room], .int .i64 i] W fun e w' => e = .returned (.tuple #[.int .i64 (sizeL l i).1, .int .i64 (sizeL l i).2]) ∧ Below W.heap.size W w'
  write : ∀ (l : List NodeL) (most room i a : Int) (s : Nm) (ao : Option Addr) (cap : Nat) (W : World), Small l → s.length ≤ 1000 → GivesN l (.slice ao l.length cap) W →
    Calls Try.prog 16 #[diskV ao l.length cap most room, .int .i64 i, .int .i64 a, .string (bs s)] W fun e w' => ChgX (fun _ => False) (writeL l room i a s).1 (writeL l room i a s).2 most room e W w'
  cut : ∀ (l : List NodeL) (most room i m : Int) (ao : Option Addr) (cap : Nat) (W : World), Small l → GivesN l (.slice ao l.length cap) W →
    Calls Try.prog 18 #[diskV ao l.length cap most room, .int .i64 i, .int .i64 m] W fun e w' => ChgX (fun _ => False) (cutL l room i m).1 (cutL l room i m).2 most room e W w'
abbrev nsR : NodeL := ⟨2, 63, 0, 1, 0, 0, [], []⟩
abbrev nsF (d : Nm) : NodeL := ⟨1, 63, 0, 1, 0, 0, d, []⟩
abbrev ns0 : List NodeL := [nsR, nsF [97, 98, 99]]
abbrev ns1 : List NodeL := [nsR, nsF [97, 98, 99, 0, 0, 120]]
abbrev ns2 : List NodeL := [nsR, nsF [97]]
theorem ns_w1 : writeL ns0 8 1 5 [120] = (ns1, 0) := by decide +kernel
theorem ns_r1 : readL ns1 1 2 9 = ([99, 0, 0, 120], 0) := by decide +kernel
theorem ns_w2 : writeL ns1 8 1 6 [121, 121, 121] = (ns1, 10) := by decide +kernel
theorem ns_c1 : cutL ns1 8 1 1 = (ns2, 0) := by decide +kernel
theorem ns_s1 : sizeL ns2 1 = (1, 0) := by decide +kernel
theorem ns_r2 : readL ns0 0 0 1 = ([], 5) := by decide +kernel
theorem ns_q : smallQ ns0 = true ∧ smallQ ns1 = true ∧ smallQ ns2 = true := by decide
theorem ns_gives {b : Nat} {W : World} {t : TypeId} (h : W.heap[b]? = some (.cells (ncells (nsR, .slice none 0 0) ++ ncells (nsF [97, 98, 99], .slice none 0 0)).toArray t (0, 0))) : GivesN ns0 (.slice (some ⟨b, 0, none⟩) 2 2) W := by
  refine ⟨[(nsR, .slice none 0 0), (nsF [97, 98, 99], .slice none 0 0)], rfl, rd_block (n := 2) (xs := cellsN [(nsR, .slice none 0 0), (nsF [97, 98, 99], .slice none 0 0)]) h rfl (by decide) (Array.getElem?_eq_some_iff.1 h).1, fun m hm => ?_⟩
  simp only [List.mem_cons, List.not_mem_nil, or_false] at hm
  rcases hm with rfl | rfl <;> exact Rd.none0 _ _ _
theorem nsc1 (h4 : PC4) (ao : Option Addr) (cap : Nat) (W : World) (h : GivesN ns0 (.slice ao ns0.length cap) W) :
    Calls Try.prog 16 #[diskV ao ns0.length cap 3 8, .int .i64 1, .int .i64 5, .string (bs [120])] W fun e w' => ChgX (fun _ => False) ns1 0 3 8 e W w' := by
  have := h4.write ns0 3 8 1 5 [120] ao cap W (small_Q ns_q.1) (by decide) h
  rw [ns_w1] at this
  exact this
theorem nsc2 (h4 : PC4) (ao : Option Addr) (cap : Nat) (W : World) (h : GivesN ns1 (.slice ao ns1.length cap) W) :
    Calls Try.prog 11 #[diskV ao ns1.length cap 3 8, .int .i64 1, .int .i64 2, .int .i64 9] W fun e w' => e = .returned (.tuple #[.string (bs [99, 0, 0, 120]), .int .i64 0]) ∧ Below W.heap.size W w' := by
  have := h4.read ns1 3 8 1 2 9 _ W (small_Q ns_q.2.1) h
  rw [ns_r1] at this
  exact this
theorem nsc3 (h4 : PC4) (ao : Option Addr) (cap : Nat) (W : World) (h : GivesN ns1 (.slice ao ns1.length cap) W) :
    Calls Try.prog 16 #[diskV ao ns1.length cap 3 8, .int .i64 1, .int .i64 6, .string (bs [121, 121, 121])] W fun e w' => ChgX (fun _ => False) ns1 10 3 8 e W w' := by
  have := h4.write ns1 3 8 1 6 [121, 121, 121] ao cap W (small_Q ns_q.2.1) (by decide) h
  rw [ns_w2] at this
  exact this
theorem nsc4 (h4 : PC4) (ao : Option Addr) (cap : Nat) (W : World) (h : GivesN ns1 (.slice ao ns1.length cap) W) :
    Calls Try.prog 18 #[diskV ao ns1.length cap 3 8, .int .i64 1, .int .i64 1] W fun e w' => ChgX (fun _ => False) ns2 0 3 8 e W w' := by
  have := h4.cut ns1 3 8 1 1 ao cap W (small_Q ns_q.2.1) h
  rw [ns_c1] at this
  exact this
theorem nsc5 (h4 : PC4) (ao : Option Addr) (cap : Nat) (W : World) (h : GivesN ns2 (.slice ao ns2.length cap) W) :
    Calls Try.prog 14 #[diskV ao ns2.length cap 3 8, .int .i64 1] W fun e w' => e = .returned (.tuple #[.int .i64 1, .int .i64 0]) ∧ Below W.heap.size W w' := by
  have := h4.size ns2 3 8 1 _ W (small_Q ns_q.2.2) h
  rw [ns_s1] at this
  exact this
theorem nsc6 (h4 : PC4) (ao : Option Addr) (cap : Nat) (W : World) (h : GivesN ns0 (.slice ao ns0.length cap) W) :
    Calls Try.prog 11 #[diskV ao ns0.length cap 3 8, .int .i64 0, .int .i64 0, .int .i64 1] W fun e w' => e = .returned (.tuple #[.string (bs []), .int .i64 5]) ∧ Below W.heap.size W w' := by
  have := h4.read ns0 3 8 0 0 1 _ W (small_Q ns_q.1) h
  rw [ns_r2] at this
  exact this
set_option maxRecDepth 100000 in
set_option maxHeartbeats 4000000 in
theorem shown_w (h4 : PC4) (w : World) : Calls Try.prog 10 #[] w fun e w' => e = .returned (.bool true) ∧ Below w.heap.size w w' := by
  have S0 := Lib.hid (Sn.none (w := w))
  have H4 := Lib.hid h4
  clear h4
  go_enter Try.func10, Try.ntmps10
  go_upto_region 2 with (fail)
  refine code_fresh2 ?_
  intro W1 hb hA0 hA1 hs
  have hg0 := ns_gives hA0
  have S1 := Lib.hid (((S0.out.new2 hb hA0 hA1).call (Below.refl _ _)).addG hg0)
  clear hb hA0 hA1 hs hg0
  obtain ⟨d0, d1, d2⟩ := cells3 (S1.out.at 1 rfl)
  go_wp2_with fail
  refine (nsc1 H4.out _ _ W1 (S1.out.g 0 rfl)).mono ?_
  rintro e W2 ⟨aoa, cpa, rfl, hg1, hb⟩
  clear d0 d1 d2
  have S2 := Lib.hid ((S1.out.call hb).addG hg1.gives)
  clear hb hg1
  go_upto_region 3 with (fail)
  refine code_fresh1 ?_
  intro W3 hb hA0 hs
  have S3 := Lib.hid (S2.out.new1 hb hA0)
  clear hb hA0 hs
  obtain ⟨a0, a1, a2⟩ := cells3 (S3.out.at 2 rfl)
  go_wp2_with fail
  refine (nsc2 H4.out _ _ W3 (S3.out.g 1 rfl)).mono ?_
  rintro e W4 ⟨rfl, hb⟩
  clear a0 a1 a2
  have S4 := Lib.hid (S3.out.call hb)
  clear hb
  go_upto_region 4 with (fail)
  obtain ⟨a0, a1, a2⟩ := cells3 (S4.out.at 2 rfl)
  go_wp2_with fail
  refine (nsc3 H4.out _ _ W4 (S4.out.g 1 rfl)).mono ?_
  rintro e W5 ⟨aoz, cpz, rfl, hg1, hb⟩
  clear a0 a1 a2
  have S5 := Lib.hid ((S4.out.call hb).addG hg1.gives)
  clear hb hg1
  go_upto_region 5 with (fail)
  refine code_fresh1 ?_
  intro W6 hb hA0 hs
  have S6 := Lib.hid (S5.out.new1 hb hA0)
  clear hb hA0 hs
  obtain ⟨a0, a1, a2⟩ := cells3 (S6.out.at 2 rfl)
  go_wp2_with fail
  refine (nsc4 H4.out _ _ W6 (S6.out.g 1 rfl)).mono ?_
  rintro e W7 ⟨aob, cpb, rfl, hg1, hb⟩
  clear a0 a1 a2
  have S7 := Lib.hid ((S6.out.call hb).addG hg1.gives)
  clear hb hg1
  go_upto_region 6 with (fail)
  refine code_fresh1 ?_
  intro W8 hb hA0 hs
  have S8 := Lib.hid (S7.out.new1 hb hA0)
  clear hb hA0 hs
  obtain ⟨b0, b1, b2⟩ := cells3 (S8.out.at 4 rfl)
  go_wp2_with fail
  refine (nsc5 H4.out _ _ W8 (S8.out.g 3 rfl)).mono ?_
  rintro e W9 ⟨rfl, hb⟩
  clear b0 b1 b2
  have S9 := Lib.hid (S8.out.call hb)
  clear hb
  go_upto_region 7 with (fail)
  obtain ⟨d0, d1, d2⟩ := cells3 (S9.out.at 1 rfl)
  go_wp2_with fail
  refine (nsc6 H4.out _ _ W9 (S9.out.g 0 rfl)).mono ?_
  rintro e W10 ⟨rfl, hb⟩
  clear d0 d1 d2
  have S10 := Lib.hid (S9.out.call hb)
  clear hb
  go_upto_region 8 with (fail)
  obtain ⟨d0, d1, d2⟩ := cells3 (S10.out.at 1 rfl)
  have hc : W10.cell? ⟨w.heap.size, 14, none⟩ = some (.string ⟨#[97, 98, 99]⟩) := by rw [Lib.cell_of_heap (S10.out.at 0 rfl)]; rfl
  go_wp2_with fail
  go_ret
  exact ⟨rfl, S10.out.bel⟩
/-- The program's five contracts. -/
theorem PC4.pc (h : PC4) : PC := ⟨h.read, h.size, h.write, h.cut, shown_w h⟩
end Go.Proofs.Ythpcldmhamjnbaa
