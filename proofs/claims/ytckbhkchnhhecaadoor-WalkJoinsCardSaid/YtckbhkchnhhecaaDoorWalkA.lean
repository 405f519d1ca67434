/-
  A way in memory; how it takes a text, and a link.
-/
import Derived.Test.YtckbhkchnhhecaaDoorStrCat
import Derived.Test.YtckbhkchnhhecaaDoorWalkPlain
import Derived.Test.YtckbhkchnhhecaaDoorErrAs
import Derived.Test.YtckbhkchnhhecaaDoorDskG
import Derived.Deep.RegionHeld3
import Derived.Deep.RegionLaw
import Derived.Handy
namespace Go.Proofs.YtckbhkchnhhecaaDoor
open Go.RowKit Go.Shelf
attribute [local go_sem ↓] Go.wp_at_zero Go.wp_at_succ

/-- What a way holds from its beginning on. -/
structure WayF where
  nodes : Value
  most : Int
  room : Int
  who : Int
  follow : Bool
  slash : Bool
abbrev wcells (F : WayF) (i : Int) (vl : Value) (hops : Int) (sp : SpotL) : Array Value :=
  #[F.nodes, .int .i64 F.most, .int .i64 F.room, .int .i64 F.who, .bool F.follow, .bool F.slash, .int .i64 i, vl, .int .i64 hops, .int .i64 sp.dir, .string (bs sp.name), .int .i64 sp.ino, .bool sp.slash]
/-- A way in block b. -/
structure WayM (b : Nat) (F : WayF) (i : Int) (vl : Value) (left : List Str) (hops : Nat) (sp : SpotL) (W : World) : Prop where
  blk : W.heap[b]? = some (.cells (wcells F i vl hops sp) 61 (0, 0))
  lft : Rd W.heap.size 1 vl left.length (strs left) W
  far : vl.ownBlock ≠ some b
theorem WayM.lt {b : Nat} {F : WayF} {i : Int} {vl : Value} {left : List Str} {hops : Nat} {sp : SpotL} {W : World} (h : WayM b F i vl left hops sp W) : b < W.heap.size := (Array.getElem?_eq_some_iff.1 h.blk).1
theorem WayM.keep {b : Nat} {F : WayF} {i : Int} {vl : Value} {left : List Str} {hops : Nat} {sp : SpotL} {W W' : World} (h : WayM b F i vl left hops sp W) (hb : Below W.heap.size W W') : WayM b F i vl left hops sp W' :=
  ⟨(hb.block b h.lt).trans h.blk, rd_keep h.lft hb, h.far⟩
theorem cells13 {W : World} {b : Nat} {u0 u1 u2 u3 u4 u5 u6 u7 u8 u9 u10 u11 u12 : Value} {t : TypeId} {f : Nat × Nat} (h : W.heap[b]? = some (.cells #[u0, u1, u2, u3, u4, u5, u6, u7, u8, u9, u10, u11, u12] t f)) :
    W.cell? ⟨b, 0, none⟩ = some u0 ∧ W.cell? ⟨b, 1, none⟩ = some u1 ∧ W.cell? ⟨b, 2, none⟩ = some u2 ∧ W.cell? ⟨b, 3, none⟩ = some u3 ∧ W.cell? ⟨b, 4, none⟩ = some u4 ∧ W.cell? ⟨b, 5, none⟩ = some u5 ∧ W.cell? ⟨b, 6, none⟩ = some u6 ∧ W.cell? ⟨b, 7, none⟩ = some u7
      ∧ W.cell? ⟨b, 8, none⟩ = some u8 ∧ W.cell? ⟨b, 9, none⟩ = some u9 ∧ W.cell? ⟨b, 10, none⟩ = some u10 ∧ W.cell? ⟨b, 11, none⟩ = some u11 ∧ W.cell? ⟨b, 12, none⟩ = some u12 := by
  refine ⟨?_, ?_, ?_, ?_, ?_, ?_, ?_, ?_, ?_, ?_, ?_, ?_, ?_⟩ <;> (rw [Lib.cell_of_heap h]; rfl)
theorem rd_grown {b n size : Nat} {v : Value} {xs : List Value} {W W' : World} (h : Rd W.heap.size size v n xs W) (hg : W.grownBy W' (some b)) (hf : v.ownBlock ≠ some b) : Rd W'.heap.size size v n xs W' :=
  (h.grown hg (Nat.le_refl _) fun g e => by cases e; exact hf).mono hg.size
theorem grown_sc {b i : Nat} {W W' : World} (h : W.grownBy W' (some b)) (u : Value) : W.grownBy (W'.setCell ⟨b, i, none⟩ u) (some b) := grown_tr h (grown_set _ ⟨b, i, none⟩ u)
/-- The way goes on from another node. -/
theorem WayM.setAt {b : Nat} {F : WayF} {i : Int} {vl : Value} {left : List Str} {hops : Nat} {sp : SpotL} {W : World} (h : WayM b F i vl left hops sp W) (j : Int) : WayM b F j vl left hops sp (W.setCell ⟨b, 6, none⟩ (.int .i64 j)) :=
  ⟨(heap_set h.blk).trans (by simp), rd_grown h.lft (grown_set _ _ _) h.far, h.far⟩
/-- Two slices of texts, joined. -/
def Cat2 (l : List Str) (e : Ending) (X W' : World) : Prop := ∃ v, e = .returned v ∧ W'.ownsRow (X.heap.size + 1) 9 1 v l.length (strs l) ∧ Below X.heap.size X W'
theorem cat2 (X : World) (vp vl : Value) (P L : List Str) (hP : Rd X.heap.size 1 vp P.length (strs P) X) (hL : Rd X.heap.size 1 vl L.length (strs L) X) (h1 : P.length ≤ 10000) (h2 : L.length ≤ 10000) :
    Calls Tryd.prog 44 #[.slice (some ⟨X.heap.size, 0, none⟩) 2 2] (X.alloc (.cells #[vp, vl] 59)) fun e w' => Cat2 (P ++ L) e X w' := by
  have hb0 : Below X.heap.size X (X.alloc (.cells #[vp, vl] 59)) := (Below.refl _ X).alloc (Nat.le_refl _) _
  have hblk := heap_alloc_new X (.cells #[vp, vl] 59)
  have hz : (X.alloc (.cells #[vp, vl] 59)).heap.size = X.heap.size + 1 := by simp
  refine (sconcat_any X.heap.size 0 2 [(vp, P), (vl, L)] (X.alloc (.cells #[vp, vl] 59)) (by simp) ?_ ?_ (by simp)).mono ?_
  · intro k hk
    have h3 : k = 0 ∨ k = 1 := by simp at hk; omega
    rcases h3 with rfl | rfl
    · exact ⟨by rw [Lib.cell_of_heap hblk]; rfl, rd_keep hP hb0⟩
    · exact ⟨by rw [Lib.cell_of_heap hblk]; rfl, rd_keep hL hb0⟩
  · intro x hx
    simp only [List.mem_cons, List.not_mem_nil, or_false] at hx
    rcases hx with rfl | rfl
    · show P.length ≤ 10001; omega
    · show L.length ≤ 10001; omega
  · rintro e w' ⟨v, rfl, h4, h5⟩
    have e1 : allLS [(vp, P), (vl, L)] = P ++ L := by simp [allLS]
    rw [e1, hz] at h4
    exact ⟨v, rfl, h4, ret_tr hb0 h5⟩
/-- A way that goes wrong, and one that goes on. -/
def Wrong (n : Int) (b : Nat) (e : Ending) (w w' : World) : Prop := n ≠ 0 ∧ e = .returned (faultV n) ∧ w.grownBy w' (some b)
def GoesOn (b : Nat) (F : WayF) (i : Int) (left : List Str) (hops : Nat) (sp : SpotL) (e : Ending) (w w' : World) : Prop := ∃ vl, e = .returned .nilIface ∧ WayM b F i vl left hops sp w' ∧ w.grownBy w' (some b)
def TakeIs (n : Int) (b : Nat) (F : WayF) (i : Int) (left : List Str) (hops : Nat) (text : Str) (e : Ending) (w w' : World) : Prop :=
  Wrong n b e w w' ∨ (n = 0 ∧ GoesOn b F (firstAt i text) (parts text ++ left) hops ⟨0, [], 0, F.slash⟩ e w w')

set_option maxRecDepth 100000 in
set_option maxHeartbeats 4000000 in
theorem take_any (b : Nat) (F : WayF) (i : Int) (vl : Value) (left : List Str) (hops : Nat) (sp : SpotL) (text : Str) (w : World) (hw : WayM b F i vl left hops sp w) (hl : left.length ≤ 10000) (ht : text.length ≤ 10000) :
    Calls Tryd.prog 33 #[.pointer (some ⟨b, 0, none⟩), .string (bs text)] w fun e w' => TakeIs (checkE text) b F i left hops text e w w' := by
  obtain ⟨aol, capl, rfl, _, _⟩ := hw.lft.form
  have HW := Lib.hid hw
  have hbl := hw.lt
  have hc := check_any (bs text) (by rw [bs_size]; omega) w
  rw [bs_list] at hc
  have HC := Lib.hid hc
  clear hw hc
  by_cases h0 : checkE text = 0
  · rw [h0] at HC ⊢
    clear h0
    go_enter Tryd.func33, Tryd.ntmps33
    go_wp2_with fail
    refine HC.out.mono ?_
    rintro e w1 ⟨rfl, hb1⟩
    go_wp2_with fail
    refine (split_any (bs text) (by rw [bs_size]; omega) w1).mono ?_
    rintro e w2 ⟨vp, rfl, hown, hb2⟩
    rw [bs_list] at hown ⊢
    have hB2 := ret_tr hb1 hb2
    have hW2 := HW.out.keep hB2
    have HW2 := Lib.hid hW2
    have hs2 := hW2.lt
    obtain ⟨c0, c1, c2, c3, c4, c5, c6, c7, c8, c9, c10, c11, c12⟩ := cells13 hW2.blk
    have rf := fun j => Lib.frozen_of_heap hW2.blk j
    have HG2 := Lib.hid (grown_bel (row := some b) hB2)
    have hfar : vp.ownBlock ≠ some b := fun e => by have := (hown.lt _ e).1; have := hb1.size; omega
    have HO := Lib.hid (Rd.own hown (Nat.le_refl _))
    obtain ⟨aop, capp, rfl⟩ := own_form hown
    have HF := Lib.hid hfar
    have hpl : (parts text).length ≤ 10000 := by have := spans_len text; simp only [parts, List.length_map]; omega
    have hfin : ∀ (W : World) (vl' : Value) (sl : Bool), WayM b F (firstAt i text) vl' (parts text ++ left) hops ⟨0, [], 0, F.slash⟩ W → w.grownBy W (some b) → TakeIs 0 b F i left hops text (.returned .nilIface) w W :=
      fun W vl' _ h1 h2 => .inr ⟨rfl, vl', rfl, h1, h2⟩
    have HFN := Lib.hid hfin
    clear hW2 hown hb1 hb2 hfar HC HW hB2 hfin
    cases hpre : Lib.hasPrefix text [47] with
    | true =>
      have HFi : Hid (firstAt i text = 0) := Lib.hid (by unfold firstAt; rw [if_pos hpre])
      have HW3 := Lib.hid (HW2.out.setAt 0)
      have HG3 := Lib.hid (grown_sc (i := 6) HG2.out (.int .i64 0))
      have HO3 := Lib.hid (rd_grown HO.out (grown_set w2 ⟨b, 6, none⟩ (.int .i64 0)) HF.out)
      have hz : (w2.setCell ⟨b, 6, none⟩ (.int .i64 0)).heap.size = w2.heap.size := by simp [World.setCell]
      clear hpre
      go_wp2_with fail
      clear c0 c1 c2 c3 c4 c5 c6 c7 c8 c9 c10 c11 c12 rf
      generalize w2.setCell ⟨b, 6, none⟩ (.int .i64 0) = X at *
      rw [← hz]
      refine (cat2 X _ _ (parts text) left HO3.out HW3.out.lft hpl hl).mono ?_
      rintro e w3 ⟨v3, rfl, ho3, hb3⟩
      have hW4 := HW3.out.keep hb3
      have HB4 := Lib.hid hW4.blk
      have HG4 := Lib.hid (grown_tr HG3.out (grown_bel (row := some b) hb3))
      have hs3 : X.heap.size ≤ w3.heap.size := hb3.size
      have hbX := HW3.out.lt
      have hne3 : v3.ownBlock ≠ some b := fun e => by have := (ho3.lt _ e).1; omega
      have HV3 := Lib.hid (Rd.own ho3 (Nat.le_refl w3.heap.size))
      have HN3 := Lib.hid hne3
      obtain ⟨d0, d1, d2, d3, d4, d5, d6, d7, d8, d9, d10, d11, d12⟩ := cells13 hW4.blk
      have rg := fun j => Lib.frozen_of_heap hW4.blk j
      obtain ⟨ao3, cp3, rfl⟩ := own_form ho3
      clear hW4 hb3 ho3 hne3
      go_wp2_with fail
      go_ret
      refine HFN.out _ _ true ⟨(heap_set (heap_set (heap_set (heap_set (heap_set HB4.out))))).trans (by rw [HFi.out]; simp), ?_, HN3.out⟩ (grown_sc (grown_sc (grown_sc (grown_sc (grown_sc HG4.out _) _) _) _) _)
      exact rd_grown HV3.out (grown_sc (grown_sc (grown_sc (grown_sc (grown_set _ ⟨b, 7, none⟩ _) _) _) _) _) HN3.out
    | false =>
      have HFi : Hid (firstAt i text = i) := Lib.hid (by unfold firstAt; rw [hpre]; rfl)
      have HW3 := HW2
      have HG3 := HG2
      have HO3 := HO
      clear hpre
      go_wp2_with fail
      clear c0 c1 c2 c3 c4 c5 c6 c7 c8 c9 c10 c11 c12 rf
      generalize w2 = X at *
      refine (cat2 X _ _ (parts text) left HO3.out HW3.out.lft hpl hl).mono ?_
      rintro e w3 ⟨v3, rfl, ho3, hb3⟩
      have hW4 := HW3.out.keep hb3
      have HB4 := Lib.hid hW4.blk
      have HG4 := Lib.hid (grown_tr HG3.out (grown_bel (row := some b) hb3))
      have hs3 : X.heap.size ≤ w3.heap.size := hb3.size
      have hbX := HW3.out.lt
      have hne3 : v3.ownBlock ≠ some b := fun e => by have := (ho3.lt _ e).1; omega
      have HV3 := Lib.hid (Rd.own ho3 (Nat.le_refl w3.heap.size))
      have HN3 := Lib.hid hne3
      obtain ⟨d0, d1, d2, d3, d4, d5, d6, d7, d8, d9, d10, d11, d12⟩ := cells13 hW4.blk
      have rg := fun j => Lib.frozen_of_heap hW4.blk j
      obtain ⟨ao3, cp3, rfl⟩ := own_form ho3
      clear hW4 hb3 ho3 hne3
      go_wp2_with fail
      go_ret
      refine HFN.out _ _ true ⟨(heap_set (heap_set (heap_set (heap_set (heap_set HB4.out))))).trans (by rw [HFi.out]; simp), ?_, HN3.out⟩ (grown_sc (grown_sc (grown_sc (grown_sc (grown_sc HG4.out _) _) _) _) _)
      exact rd_grown HV3.out (grown_sc (grown_sc (grown_sc (grown_sc (grown_set _ ⟨b, 7, none⟩ _) _) _) _) _) HN3.out
  · have hI : (checkE text != 0) = true := by rw [bne_iff_ne]; exact h0
    have H0 := Lib.hid h0
    generalize checkE text = n at *
    clear h0
    go_enter Tryd.func33, Tryd.ntmps33
    go_wp2_with fail
    refine HC.out.mono ?_
    rintro e w1 ⟨rfl, hb1⟩
    go_wp2_with fail
    go_ret
    exact .inl ⟨H0.out, rfl, grown_bel hb1⟩
def HopIs (n : Int) (b : Nat) (F : WayF) (i : Int) (left : List Str) (hops : Nat) (text : Str) (e : Ending) (w w' : World) : Prop :=
  if 8 ≤ hops then Wrong 8 b e w w' else TakeIs n b F i left (hops + 1) text e w w'
set_option maxRecDepth 100000 in
set_option maxHeartbeats 4000000 in
theorem hop_any (b : Nat) (F : WayF) (i : Int) (vl : Value) (left : List Str) (hops : Nat) (sp : SpotL) (text : Str) (w : World) (hw : WayM b F i vl left hops sp w) (hl : left.length ≤ 10000) (ht : text.length ≤ 10000) (hh : hops ≤ 8) :
    Calls Tryd.prog 64 #[.pointer (some ⟨b, 0, none⟩), .string (bs text)] w fun e w' => HopIs (checkE text) b F i left hops text e w w' := by
  have HW := Lib.hid hw
  obtain ⟨c0, c1, c2, c3, c4, c5, c6, c7, c8, c9, c10, c11, c12⟩ := cells13 hw.blk
  have rf := fun j => Lib.frozen_of_heap hw.blk j
  clear hw
  by_cases h8 : hops = 8
  · subst h8
    generalize checkE text = n at *
    go_enter Tryd.func64, Tryd.ntmps64
    go_wp2_with fail
    go_ret
    exact (show HopIs n b F i left 8 text _ _ _ by unfold HopIs; rw [if_pos (Nat.le_refl 8)]; exact ⟨by decide, rfl, grown_bel (Below.refl _ _)⟩)
  · have hI : ((hops : Int) == 8) = false := by rw [beq_eq_false_iff_ne]; omega
    have H8 := Lib.hid (show ¬ 8 ≤ hops by omega)
    have hle : (hops : Int) ≤ 8 := by omega
    have h0 : (0 : Int) ≤ (hops : Int) := by omega
    have hW1 : WayM b F i vl left (hops + 1) sp (w.setCell ⟨b, 8, none⟩ (.int .i64 ((hops : Int) + 1))) :=
      ⟨(heap_set HW.out.blk).trans (by simp), rd_grown HW.out.lft (grown_set _ _ _) HW.out.far, HW.out.far⟩
    have HT := Lib.hid (take_any b F i vl left (hops + 1) sp text _ hW1 hl ht)
    generalize checkE text = n at *
    clear h8 hW1
    go_enter Tryd.func64, Tryd.ntmps64
    go_wp2_with fail
    refine HT.out.mono ?_
    intro e w2 h
    have hg : w.grownBy (w.setCell ⟨b, 8, none⟩ (.int .i64 ((hops : Int) + 1))) (some b) := grown_set _ ⟨b, 8, none⟩ _
    rcases h with ⟨hn, rfl, hg2⟩ | ⟨rfl, vl2, rfl, hw2, hg2⟩
    · go_wp2_with fail
      go_ret
      exact (show HopIs n b F i left hops text _ _ _ by unfold HopIs; rw [if_neg H8.out]; exact .inl ⟨hn, rfl, grown_tr hg hg2⟩)
    · go_wp2_with fail
      go_ret
      exact (show HopIs 0 b F i left hops text _ _ _ by unfold HopIs; rw [if_neg H8.out]; exact .inr ⟨rfl, vl2, rfl, hw2, grown_tr hg hg2⟩)
end Go.Proofs.YtckbhkchnhhecaaDoor
