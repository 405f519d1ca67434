/-
  route: Split.
-/
import Derived.Test.YtajleipangnfbaaDoorRouteA
namespace Go.Proofs.YtajleipangnfbaaDoor
open Go.RowKit Go.Shelf
attribute [local go_sem] Oper.semAt_some wide_fn wide_depth

theorem infoStr : (Tryd.prog.info? 9).map (fun i => (i.zero, i.size, i.bytes)) = some (some (.string ByteArray.empty), 1, 16) := by kernel_rfl
/-- A list of texts as the cells of a slice. -/
def strs (ps : List (List UInt8)) : List Value := ps.map fun p => .string ⟨p.toArray⟩

set_option maxRecDepth 100000 in
set_option maxHeartbeats 1000000 in
theorem split_any (s : ByteArray) (hs : s.size ≤ 65000) (w : World) :
    Calls Tryd.prog 10 #[.string s] w fun e W' => ∃ v, e = .returned (.tuple #[v, .bool (Lib.hasPrefix s.data.toList [47]), .bool (Lib.hasSuffix s.data.toList [47])]) ∧
      W'.ownsRow w.heap.size 9 1 v (parts s.data.toList).length (strs (parts s.data.toList)) ∧ Below w.heap.size w W' := by
  refine (callsIn_wide (n := 5)).1 ?_
  obtain ⟨i0, hi, hz0, hz1, hz2⟩ := info_parts infoStr
  refine callsIn_of_wp_marks Tryd.func10 rfl trivial ?_ rfl
  simp only [Tryd.ntmps10, List.size_toArray, List.length_cons, List.length_nil, Nat.reduceAdd, Nat.reduceSub, Array.replicate_succ, Array.replicate_zero, List.push_toArray, List.append_toArray, List.nil_append, List.cons_append]
  gi_wp2_with (gi_at_call 23; refine (callsIn_wide.2 (spans_any _ _)).mono ?_; rintro e w' ⟨rfl, rfl⟩)
  have bP := ((Boxed.new w 9 (.string s)).alloc (.cells #[.slice none 0 0] 23)).alloc (.cells #[.string s] 9)
  have bO := (Boxed.new (w.alloc (.cells #[.string s] 9)) 23 (.slice none 0 0)).alloc (.cells #[.string s] 9)
  have bB := Boxed.new ((w.alloc (.cells #[.string s] 9)).alloc (.cells #[.slice none 0 0] 23)) 9 (.string s)
  rw [World.size_alloc] at bO bB
  rw [World.size_alloc] at bB
  have hB0 : Below w.heap.size w (((w.alloc (.cells #[.string s] 9)).alloc (.cells #[.slice none 0 0] 23)).alloc (.cells #[.string s] 9)) := (((Below.refl _ w).alloc (Nat.le_refl _) _).alloc (by simp) _).alloc (by simp; omega) _
  refine wpIn_rangeFunc_ownG rfl (by decide) (gf := 32) (lb := #[.pointer (some ⟨w.heap.size + 1 + 1, 0, none⟩)]) rfl trivial (enters_of Tryd.func32 (by kernel_rfl) rfl)
    (spans_stops s hs (5 - 1) (w.heap.size + 1 + 1) _ (by simp) bB.cell) keepsBox_t (keepsBox_b (by simp)) (Below.refl _ _) (fun _ => rfl)
    (fun pre W => (∃ v, Boxed W (w.heap.size + 1) 23 v ∧ W.ownsRow w.heap.size 9 1 v pre.length (strs (pre.map fun p => cutS s.data.toList p.1)) ∧ (∀ g, v.ownBlock = some g → w.heap.size + 3 ≤ g)) ∧ Boxed W w.heap.size 9 (.string s) ∧ Boxed W (w.heap.size + 1 + 1) 9 (.string s) ∧ Below w.heap.size w W)
    (fun _ _ _ => False)
    (OwnFrom.and (Own.from (holdsRow_own w.heap.size (w.heap.size + 1) 23 9 1 (fun pre : List (Span s) => pre.length) (fun pre => strs (pre.map fun p => cutS s.data.toList p.1)) (fun _ v => ∀ g, v.ownBlock = some g → w.heap.size + 3 ≤ g)) _)
      (OwnFrom.and (Own.from (boxed_own _ _ _) _) (OwnFrom.and (Own.from (boxed_own _ _ _) _) (ownFrom_below (Nat.le_refl _) (by simp; omega)))))
    (fun _ _ _ _ _ hs _ _ => hs)
    ⟨⟨_, bO, World.ownsRow_nil _ _ _ _, fun _ h => (by cases h)⟩, bP, bB, hB0⟩
    (fun x => { tmps := #[.string s, .pointer (some ⟨w.heap.size, 0, none⟩), .slice none 0 0, .bool false, .bool false, .pointer (some ⟨w.heap.size + 1, 0, none⟩), .int .i64 x.1.1, .int .i64 x.1.2, .string s,
      .func (.func 32) #[] #[.pointer (some ⟨w.heap.size + 1 + 1, 0, none⟩)], .int .i64 x.1.1, .int .i64 x.1.2, undef, undef, undef, undef, undef, undef, undef, undef, undef, undef, undef, undef], defers := [] }) ?assign ?body ?done ?stop
  case assign =>
    intro l x W K hK
    dsimp only [encP]
    gi_wp2
    exact hK
  case body =>
    rintro l pre ⟨⟨x, y⟩, hxy, hy⟩ W ⟨⟨v, hv, hrow, hfar⟩, hp, hb, hB⟩ hlt
    dsimp only at hxy hy ⊢
    gi_wp2
    refine region_round_inv (I := fun listed a' w' => ∃ (b0 b1 b2 b3 b4 b5 b6 b7 : Bool) (t12 t13 t14 t15 t16 t17 t18 : Value), listed = #[b0, b1, b2, b3, b4, b5, b6, b7] ∧
      a' = { tmps := #[.string s, .pointer (some ⟨w.heap.size, 0, none⟩), .slice none 0 0, .bool false, .bool false, .pointer (some ⟨w.heap.size + 1, 0, none⟩), .int .i64 x, .int .i64 y, .string s,
        .func (.func 32) #[] #[.pointer (some ⟨w.heap.size + 1 + 1, 0, none⟩)], .int .i64 x, .int .i64 y, t12, t13, t14, t15, t16, t17, t18, undef, undef, undef, undef, undef], defers := [] } ∧
      (b0 = true → t12 = v) ∧ (b1 = true → t13 = .string s) ∧ (b2 = true → t14 = .int .i64 x) ∧ (b3 = true → t15 = .int .i64 y) ∧ (b4 = true → t16 = .string ⟨(cutS s.data.toList (x, y)).toArray⟩) ∧
      (b4 = true → b1 = true ∧ b2 = true ∧ b3 = true) ∧ (b5 = true → b4 = true) ∧ (b6 = true → b0 = true ∧ b5 = true) ∧ (b7 = true → b6 = true) ∧ (b5 = false → w' = W.drew) ∧
      (b5 = true → b6 = false → t17 = .slice (some ⟨W.heap.size, 0, none⟩) 1 1 ∧ w' = W.drew.alloc (.cells #[.string ⟨(cutS s.data.toList (x, y)).toArray⟩] 9)) ∧
      (b6 = true → b7 = false → ∃ g cap, t18 = .slice (some ⟨g, 0, none⟩) (pre.length + 1) cap ∧ w'.ownsRow w.heap.size 9 1 t18 (pre.length + 1) (strs (pre.map fun p => cutS s.data.toList p.1) ++ [.string ⟨(cutS s.data.toList (x, y)).toArray⟩]) ∧
        (W.drew.alloc (.cells #[.string ⟨(cutS s.data.toList (x, y)).toArray⟩] 9)).grownBy w' v.ownBlock ∧ (v.ownBlock = some g ∨ g = W.heap.size + 1)) ∧
      (b7 = true → ∃ w1 g cap, w1.ownsRow w.heap.size 9 1 (.slice (some ⟨g, 0, none⟩) (pre.length + 1) cap) (pre.length + 1) (strs (pre.map fun p => cutS s.data.toList p.1) ++ [.string ⟨(cutS s.data.toList (x, y)).toArray⟩]) ∧
        (W.drew.alloc (.cells #[.string ⟨(cutS s.data.toList (x, y)).toArray⟩] 9)).grownBy w1 v.ownBlock ∧ (v.ownBlock = some g ∨ g = W.heap.size + 1) ∧ w' = w1.setCell ⟨w.heap.size + 1, 0, none⟩ (.slice (some ⟨g, 0, none⟩) (pre.length + 1) cap)))
      (by kernel_rfl) (by kernel_rfl) (fun ⟨_, _, h⟩ => h) ?start ?step ?fin
    case start => exact ⟨false, false, false, false, false, false, false, false, undef, undef, undef, undef, undef, undef, undef, rfl, rfl, by simp, by simp, by simp, by simp, by simp, by simp, by simp, by simp, by simp, fun _ => rfl, by simp, by simp, by simp⟩
    case step =>
      rintro listed i o a' w' K hsz hi ho ⟨b0, b1, b2, b3, b4, b5, b6, b7, t12, t13, t14, t15, t16, t17, t18, rfl, rfl, h12, h13, h14, h15, h16, c4, c5, c6, c7, hw0, hw1, hw2, hw3⟩ hK
      obtain ⟨h1, o', ho', hall⟩ := mem_ready.1 hi
      obtain rfl : o' = o := Option.some.inj (ho'.symm.trans ho)
      have hlt : i < 8 := (Array.getElem?_eq_some_iff.1 ho).1
      clear hi ho'
      have hcas : i = 0 ∨ i = 1 ∨ i = 2 ∨ i = 3 ∨ i = 4 ∨ i = 5 ∨ i = 6 ∨ i = 7 := by omega
      rcases hcas with rfl | rfl | rfl | rfl | rfl | rfl | rfl | rfl
      all_goals
        simp only [List.getElem?_toArray, List.getElem?_cons_zero, List.getElem?_cons_succ, Option.some.injEq] at ho
        subst ho
        simp [Region.binds] at hall h1
      · -- the load of the list's box
        subst h1
        obtain rfl := bf (fun h => (c6 h).1) rfl
        obtain rfl := bf c7 rfl
        have hc : w'.cell? ⟨w.heap.size + 1, 0, none⟩ = some v := by
          cases b5
          · rw [hw0 rfl]; exact hv.cell
          · rw [(hw1 rfl rfl).2]; exact (Boxed.alloc (W := W.drew) hv _).cell
        go_simp
        exact hK _ _ ⟨true, b1, b2, b3, b4, b5, false, false, v, t13, t14, t15, t16, t17, t18, rfl, rfl, fun _ => rfl, h13, h14, h15, h16, c4, c5, by simp, by simp, hw0, hw1, by simp, by simp⟩
      · -- the load of the path's box
        subst h1
        obtain rfl := bf (fun h => (c4 h).1) rfl
        obtain rfl := bf c5 rfl
        obtain rfl := bf (fun h => (c6 h).2) rfl
        obtain rfl := bf c7 rfl
        obtain rfl := hw0 rfl
        have hc : W.cell? ⟨w.heap.size, 0, none⟩ = some (.string s) := hp.cell
        go_simp
        exact hK _ _ ⟨b0, true, b2, b3, false, false, false, false, t12, _, t14, t15, t16, t17, t18, rfl, rfl, h12, fun _ => rfl, h14, h15, h16, by simp, by simp, by simp, by simp, hw0, hw1, by simp, by simp⟩
      · subst h1
        obtain rfl := bf (fun h => (c4 h).2.1) rfl
        go_simp
        exact hK _ _ ⟨b0, b1, true, b3, false, b5, b6, b7, t12, t13, _, t15, t16, t17, t18, rfl, rfl, h12, h13, fun _ => rfl, h15, h16, by simp, c5, c6, c7, hw0, hw1, hw2, hw3⟩
      · subst h1
        obtain rfl := bf (fun h => (c4 h).2.2) rfl
        go_simp
        exact hK _ _ ⟨b0, b1, b2, true, false, b5, b6, b7, t12, t13, t14, _, t16, t17, t18, rfl, rfl, h12, h13, h14, fun _ => rfl, h16, by simp, c5, c6, c7, hw0, hw1, hw2, hw3⟩
      · -- the piece
        subst h1
        obtain ⟨rfl, rfl, rfl⟩ := hall
        obtain rfl := h13 rfl
        obtain rfl := h14 rfl
        obtain rfl := h15 rfl
        have g1 : (0 : Int) ≤ x := by omega
        have g2 : (x : Int) ≤ y := by omega
        have g3 : (y : Int) ≤ s.size := by omega
        go_simp
        refine hK _ _ ⟨b0, true, true, true, true, b5, b6, b7, t12, _, _, _, _, t17, t18, rfl, rfl, h12, fun _ => rfl, fun _ => rfl, fun _ => rfl, fun _ => ?_, by simp, fun _ => rfl, c6, c7, hw0, hw1, hw2, hw3⟩
        rw [extract_eq]; rfl
      · -- the new block
        subst h1
        subst hall
        obtain rfl := bf (fun h => (c6 h).2) rfl
        obtain rfl := bf c7 rfl
        obtain rfl := hw0 rfl
        obtain ⟨rfl, rfl, rfl⟩ := c4 rfl
        obtain rfl := h13 rfl
        obtain rfl := h14 rfl
        obtain rfl := h15 rfl
        obtain rfl := h16 rfl
        go_simp
        refine hK _ _ ⟨b0, true, true, true, true, true, false, false, t12, _, _, _, _, _, t18, rfl, rfl, h12, fun _ => rfl, fun _ => rfl, fun _ => rfl, fun _ => rfl, by simp, fun _ => rfl, by simp, by simp, by simp, fun _ _ => ⟨?_, ?_⟩, by simp, by simp⟩
        all_goals rfl
      · -- the append
        subst h1
        obtain ⟨rfl, rfl⟩ := hall
        obtain rfl := bf c7 rfl
        obtain ⟨rfl, rfl⟩ := hw1 rfl rfl
        obtain rfl := h12 rfl
        have hnl : pre.length ≤ 65000 := by have := spans_len s.data.toList; rw [data_len] at this; omega
        refine step_append_lies _ rfl (.tmp 12) (.tmp 17) 23 rfl w.heap.size 9 i0 (.string ByteArray.empty) 1 16 Tryd.underlying23 hi hz0 hz1 hz2 rfl (by decide) t12 pre.length _ rfl (World.ownsRow.alloc (w := W.drew) hrow _) ⟨W.heap.size, 0, none⟩ 1 1 [.string ⟨(cutS s.data.toList (x, y)).toArray⟩] rfl rfl ?_ ?_ (by decide) ?_ ?_ ?_ (W.heap.size + 1) ?_ ?_
        · intro j u hj
          cases j with
          | zero => simp only [List.getElem?_cons_zero, Option.some.injEq] at hj; subst hj; exact (Boxed.new W.drew 9 _).cell
          | succ j => simp at hj
        · intro u hu; simp only [List.mem_singleton] at hu; subst hu; rfl
        · unfold maxLen; omega
        · omega
        · have := hB.size; rw [World.size_alloc]; exact Nat.le_succ_of_le this
        · rw [World.size_alloc]; rfl
        · intro g cap w1 h1 h2 hlie _
          exact hK _ _ ⟨true, b1, b2, b3, b4, true, true, false, t12, t13, t14, t15, t16, _, _, rfl, rfl, fun _ => rfl, h13, h14, h15, h16, c4, c5, by simp, by simp, by simp, by simp, fun _ _ => ⟨g, cap, rfl, h1, h2, hlie⟩, by simp⟩
      · -- the store
        subst h1
        obtain rfl : b6 = true := by simp_all only
        obtain ⟨rfl, rfl⟩ := c6 rfl
        obtain rfl := c5 rfl
        obtain ⟨rfl, rfl, rfl⟩ := c4 rfl
        obtain rfl := h12 rfl
        obtain rfl := h13 rfl
        obtain rfl := h14 rfl
        obtain rfl := h15 rfl
        obtain rfl := h16 rfl
        obtain ⟨g, cap, rfl, h2, h3, h4⟩ := hw2 rfl rfl
        have hv1 := (Boxed.appended (W := W.drew) hv (by decide) (World.ownsRow.drew hrow) hB.size (Nat.le_succ _) h2 h3).1
        have hc1 := hv1.cell
        have hf1 := hv1.frozen
        clear hw0 hw1 hw2 hw3 hall
        go_simp
        exact hK _ _ ⟨true, true, true, true, true, true, true, true, _, _, _, _, _, t17, _, rfl, rfl, fun _ => rfl, fun _ => rfl, fun _ => rfl, fun _ => rfl, fun _ => rfl, by simp, by simp, by simp, by simp, by simp, by simp, by simp, fun _ => ⟨w', g, cap, h2, h3, h4, rfl⟩⟩
    case fin =>
      rintro listed a' w' hsz ⟨b0, b1, b2, b3, b4, b5, b6, b7, t12, t13, t14, t15, t16, t17, t18, rfl, rfl, h12, h13, h14, h15, h16, c4, c5, c6, c7, hw0, hw1, hw2, hw3⟩ hr
      have hb7 := ready_all (by kernel_rfl) hsz hr 7 (by decide)
      obtain rfl : b7 = true := hb7
      obtain ⟨w1, g, cap, h2, h3, h4, rfl⟩ := hw3 rfl
      obtain ⟨_, q2, q3, q4, q5⟩ := Boxed.appended (W := W.drew) hv (by decide) (World.ownsRow.drew hrow) hB.size (Nat.le_succ _) h2 h3
      have np : some w.heap.size ≠ v.ownBlock := fun e => by have := hfar _ e.symm; omega
      have nb : some (w.heap.size + 1 + 1) ≠ v.ownBlock := fun e => by have := hfar _ e.symm; omega
      have hp1 := ((Boxed.alloc (W := W.drew) hp _).kept h3 np).other (B' := w.heap.size + 1) (by omega) (.slice (some ⟨g, 0, none⟩) (pre.length + 1) cap)
      have hb1 := ((Boxed.alloc (W := W.drew) hb _).kept h3 nb).other (B' := w.heap.size + 1) (by omega) (.slice (some ⟨g, 0, none⟩) (pre.length + 1) cap)
      have hg : w.heap.size + 3 ≤ g := by
        rcases h4 with h4 | h4
        · exact hfar _ h4
        · have := hb.lt; omega
      refine ⟨((KeepsOthers.drew W).trans q4).from _, ?_, ⟨_, q2, ?_, fun g' e => by cases e; exact hg⟩, hp1, hb1, hB.trans (((Below.refl _ W).drew).trans q5)⟩
      · unfold KeepsBox; rw [hb1.cell, hb.cell]
      · simpa [strs] using q3
  case done =>
    rintro D ys W hD hys ⟨⟨v, hv, hrow, hfar⟩, hp, hb, hB⟩ hK
    have hc1 := hv.cell
    have hc2 := hp.cell
    gi_wp2
    refine wpIn_wide.2 ?_
    go_quiet ((first | (go_at_call 24; exact Calls.quiet_of_same ((Tryd.strings_HasPrefix _ _ _).mono fun e w' h => ⟨h.1, h.2⟩)) | (go_at_call 25; exact Calls.quiet_of_same ((Tryd.strings_HasSuffix _ _ _ (by omega)).mono fun e w' h => ⟨h.1, h.2⟩))))
    gi_wp2
    refine ⟨by simp, .inl ⟨_, _, rfl, run_takeDeferred (w := W.drewN nq) hK, ?_⟩⟩
    have e1 : (spans s.data.toList).length = ys.length := by rw [← hys]; simp
    have e2 : parts s.data.toList = ys.map fun p => cutS s.data.toList p.1 := by unfold parts; rw [← hys, List.map_map]; rfl
    refine ⟨.tuple #[v, .bool (Lib.hasPrefix s.data.toList [47]), .bool (Lib.hasSuffix s.data.toList [47])], ?_, v, rfl, ?_, ?_⟩
    · simp [results, Tryd.results10, go_sem]
    · rw [e2, List.length_map]
      exact ownsRow_putObj (ownsRow_drewN hrow nq) _ hK rfl
    · exact (below_drewN hB nq).trans (belowK_b (w := w) (Nat.le_refl _) _ D _ _ (by simp at hD; omega) hK rfl rfl)
  case stop =>
    rintro D c pre W _ _ h _
    exact h.elim
end Go.Proofs.YtajleipangnfbaaDoor
