/-
  route: Base, Dir and what they share.
-/
import Derived.Test.YtajleipangnfbaaDoorRouteD
namespace Go.Proofs.YtajleipangnfbaaDoor
open Go.RowKit Go.Shelf
attribute [local go_sem] Oper.semAt_some wide_fn wide_depth

/-- The last part's span, or two zeros. -/
def lastOf (ps : List (Nat × Nat)) : Nat × Nat := ps.getLast?.getD (0, 0)
theorem lastOf_snoc (ps : List (Nat × Nat)) (p : Nat × Nat) : lastOf (ps ++ [p]) = p := by simp [lastOf]
def dirAt (l : List UInt8) (x : Nat) : List UInt8 :=
  if Lib.trimRightB (l.take x) 47 ≠ [] then Lib.trimRightB (l.take x) 47 else if Lib.hasPrefix l [47] = true then [47] else [46]
def baseL (l : List UInt8) : List UInt8 := if l = [] then [] else if spans l = [] then [47] else cutS l (lastOf (spans l))
def dirL (l : List UInt8) : List UInt8 := if l = [] then [46] else if spans l = [] then [47] else dirAt l (lastOf (spans l)).1

theorem dirAt_1 {l : List UInt8} {x : Nat} (h : (!(Lib.trimRightB (l.take x) 47).isEmpty) = true) : Lib.trimRightB (l.take x) 47 = dirAt l x := by
  unfold dirAt; rw [if_pos]; intro hc; rw [hc] at h; cases h
theorem dirAt_2 {l : List UInt8} {x : Nat} (h : (!(Lib.trimRightB (l.take x) 47).isEmpty) = false) (h2 : Lib.hasPrefix l [47] = true) : [47] = dirAt l x := by
  unfold dirAt; rw [if_neg, if_pos h2]; simp at h; simp [h]
theorem dirAt_3 {l : List UInt8} {x : Nat} (h : (!(Lib.trimRightB (l.take x) 47).isEmpty) = false) (h2 : Lib.hasPrefix l [47] = false) : [46] = dirAt l x := by
  unfold dirAt; rw [if_neg, if_neg (by rw [h2]; decide)]; simp at h; simp [h]
theorem ret_str {a b : List UInt8} (h : a = b) : Ending.returned (.string ⟨a.toArray⟩) = .returned (.string ⟨b.toArray⟩) := by rw [h]
theorem str_eta (s : ByteArray) : (⟨s.data.toList.toArray⟩ : ByteArray) = s := by simp

set_option maxHeartbeats 400000 in
theorem base1_any (s : ByteArray) (x y B : Nat) (hx : x ≤ y) (hy : y ≤ s.size) (w : World) (hc : w.cell? ⟨B, 0, none⟩ = some (.string s)) :
    Calls Tryd.prog 28 #[.int .i64 x, .int .i64 y, .pointer (some ⟨B, 0, none⟩)] w fun e w' => e = .returned (.string ⟨(cutS s.data.toList (x, y)).toArray⟩) ∧ w' = w := by
  have g1 : (0 : Int) ≤ x := by omega
  have g2 : (x : Int) ≤ y := by omega
  have g3 : (y : Int) ≤ s.size := by omega
  go_enter Tryd.func28, Tryd.ntmps28
  go_wp2
  go_ret
  exact ⟨by rw [extract_eq]; rfl, rfl⟩

set_option maxHeartbeats 400000 in
theorem dir1_any (s : ByteArray) (hs : s.size ≤ 65000) (x y B : Nat) (hy : x ≤ s.size) (w : World) (hc : w.cell? ⟨B, 0, none⟩ = some (.string s)) :
    Calls Tryd.prog 29 #[.int .i64 x, .int .i64 y, .pointer (some ⟨B, 0, none⟩)] w fun e w' => e = .returned (.string ⟨(dirAt s.data.toList x).toArray⟩) ∧ w' = w := by
  have g1 : (0 : Int) ≤ x := by omega
  have g3 : (x : Int) ≤ s.size := by omega
  have hsz : (s.extract 0 x).size ≤ 9223372036854775807 := by rw [ByteArray.size_extract]; omega
  go_enter Tryd.func29, Tryd.ntmps29
  go_wp2_with (first | (go_at_call 30; refine (Tryd.strings_TrimRight_one _ 47 (by decide) _ hsz).mono ?_; rintro e w' ⟨rfl, rfl⟩) | (go_at_call 24; refine (Tryd.strings_HasPrefix _ _ _).mono ?_; rintro e w' ⟨rfl, rfl⟩))
  all_goals go_ret
  · exact ⟨ret_str (dirAt_1 ‹_›), rfl⟩
  · exact ⟨ret_str (dirAt_2 ‹_› ‹_›), rfl⟩
  · exact ⟨ret_str (dirAt_3 ‹_› ‹_›), rfl⟩

theorem lastOf_mem {ps : List (Nat × Nat)} (h : ps ≠ []) : lastOf ps ∈ ps := by
  unfold lastOf; rw [List.getLast?_eq_some_getLast h]; exact List.getLast_mem h
theorem base_none {l : List UInt8} (h : l ≠ []) (h2 : spans l = []) : baseL l = [47] := by unfold baseL; rw [if_neg h, if_pos h2]
theorem base_some {l : List UInt8} (h : l ≠ []) (h2 : spans l ≠ []) : baseL l = cutS l (lastOf (spans l)) := by unfold baseL; rw [if_neg h, if_neg h2]
theorem dir_none {l : List UInt8} (h : l ≠ []) (h2 : spans l = []) : dirL l = [47] := by unfold dirL; rw [if_neg h, if_pos h2]
theorem dir_some {l : List UInt8} (h : l ≠ []) (h2 : spans l ≠ []) : dirL l = dirAt l (lastOf (spans l)).1 := by unfold dirL; rw [if_neg h, if_neg h2]

set_option maxRecDepth 100000 in
set_option maxHeartbeats 1000000 in
theorem cut_base (s em : ByteArray) (hs : s.size ≤ 65000) (h1 : s.data.toList ≠ []) (Bp : Nat) (w : World) (hBp : Bp < w.heap.size) (hcp : w.cell? ⟨Bp, 0, none⟩ = some (.string s)) :
    Calls Tryd.prog 27 #[.string s, .string em, .func (.func 28) #[] #[.pointer (some ⟨Bp, 0, none⟩)]] w fun e W' => e = .returned (.string ⟨(baseL s.data.toList).toArray⟩) ∧ Below w.heap.size w W' := by
  have n1 := isEmpty_no s h1
  have H1 := Lib.hid h1
  clear h1
  refine (callsIn_wide (n := 5)).1 ?_
  refine callsIn_of_wp_marks Tryd.func27 rfl trivial ?_ rfl
  simp only [Tryd.ntmps27, List.size_toArray, List.length_cons, List.length_nil, Nat.reduceAdd, Nat.reduceSub, Array.replicate_succ, Array.replicate_zero, List.push_toArray, List.append_toArray, List.nil_append, List.cons_append]
  gi_wp2_with (gi_at_call 23; refine (callsIn_wide.2 (spans_any _ _)).mono ?_; rintro e w' ⟨rfl, rfl⟩)
  have bF := ((Boxed.new w 3 (.int .i64 0)).alloc (.cells #[.int .i64 0] 3)).alloc (.cells #[.string s] 9)
  have bT := (Boxed.new (w.alloc (.cells #[.int .i64 0] 3)) 3 (.int .i64 0)).alloc (.cells #[.string s] 9)
  have bB := Boxed.new ((w.alloc (.cells #[.int .i64 0] 3)).alloc (.cells #[.int .i64 0] 3)) 9 (.string s)
  rw [World.size_alloc] at bT bB
  rw [World.size_alloc] at bB
  have hB0 : Below w.heap.size w (((w.alloc (.cells #[.int .i64 0] 3)).alloc (.cells #[.int .i64 0] 3)).alloc (.cells #[.string s] 9)) := (((Below.refl _ w).alloc (Nat.le_refl _) _).alloc (by simp) _).alloc (by simp; omega) _
  refine wpIn_rangeFunc_ownG rfl (by decide) (gf := 32) (lb := #[.pointer (some ⟨w.heap.size + 1 + 1, 0, none⟩)]) rfl trivial (enters_of Tryd.func32 (by kernel_rfl) rfl)
    (spans_stops s hs (5 - 1) (w.heap.size + 1 + 1) _ (by simp) bB.cell) keepsBox_t (keepsBox_b (by simp)) (Below.refl _ _) (fun _ => rfl)
    (fun pre W => Boxed W w.heap.size 3 (.int .i64 (lastOf (pre.map (·.1))).1) ∧ Boxed W (w.heap.size + 1) 3 (.int .i64 (lastOf (pre.map (·.1))).2) ∧ Boxed W (w.heap.size + 1 + 1) 9 (.string s) ∧ Below w.heap.size w W)
    (fun _ _ _ => False)
    (OwnFrom.and (Own.from (boxed_own _ _ (fun pre : List (Span s) => .int .i64 (lastOf (pre.map (·.1))).1)) _) (OwnFrom.and (Own.from (boxed_own _ _ (fun pre : List (Span s) => .int .i64 (lastOf (pre.map (·.1))).2)) _) (OwnFrom.and (Own.from (boxed_own _ _ (fun _ => .string s)) _) (ownFrom_below (Nat.le_refl _) (by simp; omega)))))
    (fun _ _ _ _ _ hs _ _ => hs)
    ⟨bF, bT, bB, hB0⟩
    (fun x => { tmps := #[.string s, .string em, .func (.func 28) #[] #[.pointer (some ⟨Bp, 0, none⟩)], undef, undef, undef, .string ByteArray.empty, .pointer (some ⟨w.heap.size, 0, none⟩), .pointer (some ⟨w.heap.size + 1, 0, none⟩), .int .i64 x.1.1, .int .i64 x.1.2,
      .string s, .bool false, undef, .string s, .func (.func 32) #[] #[.pointer (some ⟨w.heap.size + 1 + 1, 0, none⟩)], .int .i64 x.1.1, .int .i64 x.1.2, undef, undef, undef, undef, undef, undef, undef, undef], defers := [] }) ?assign ?body ?done ?stop
  case assign =>
    intro l x W K hK
    dsimp only [encP]
    gi_wp2
    exact hK
  case body =>
    rintro l pre ⟨⟨x, y⟩, hxy, hy⟩ W ⟨hf, ht, hb, hB⟩ hlt
    dsimp only at hxy hy ⊢
    have hc1 := hf.cell
    have hf1 := hf.frozen
    have hc2 := ht.cell
    have hf2 := ht.frozen
    have hf' := hf.set (.int .i64 x)
    have ht' := ht.other (B' := w.heap.size) (by omega) (.int .i64 x)
    have hb' := hb.other (B' := w.heap.size) (by omega) (.int .i64 x)
    have hf'' := hf'.other (B' := w.heap.size + 1) (by omega) (.int .i64 y)
    have ht'' := ht'.set (.int .i64 y)
    have hb'' := hb'.other (B' := w.heap.size + 1) (by omega) (.int .i64 y)
    have hB'' := (hB.setCell (p := ⟨w.heap.size, 0, none⟩) (Nat.le_refl _) (.int .i64 x)).setCell (p := ⟨w.heap.size + 1, 0, none⟩) (by simp) (.int .i64 y)
    gi_wp2
    refine ⟨((KeepsOthers.setCell _ _ _).trans (KeepsOthers.setCell _ _ _)).from _, ?_, ?_, ?_, hb'', hB''⟩
    · unfold KeepsBox; rw [hb''.cell, hb.cell]
    · rw [List.map_append, List.map_singleton, lastOf_snoc]; exact hf''
    · rw [List.map_append, List.map_singleton, lastOf_snoc]; exact ht''
  case done =>
    rintro D ys W hD hys ⟨hf, ht, hb, hB⟩ hK
    rw [hys] at hf ht
    have hc1 := hf.cell
    have hc2 := ht.cell
    have hcp' : W.cell? ⟨Bp, 0, none⟩ = some (.string s) := (hB.cell (p := ⟨Bp, 0, none⟩) hBp).trans hcp
    have hfin := hB.trans (belowK_b (w := w) (Nat.le_refl _) W D _ (.deferred none) (by simp at hD; omega) hK rfl rfl)
    by_cases hsp : spans s.data.toList = []
    · have E := Lib.hid (base_none H1.out hsp)
      rw [hsp] at hc1 hc2
      simp only [lastOf, List.getLast?_nil, Option.getD_none] at hc1 hc2
      clear hys hsp hf ht
      gi_wp2
      refine ⟨by simp, .inl ⟨_, _, rfl, run_takeDeferred hK, ?_⟩⟩
      refine ⟨.string ⟨#[47]⟩, ?_, ?_, hfin⟩
      · simp [results, Tryd.results27, go_sem]
      · rw [E.out]
    · have E := Lib.hid (base_some H1.out hsp)
      have hl : lastOf (spans s.data.toList) ∈ spans s.data.toList := lastOf_mem hsp
      have hbd := spans_bd _ _ hl
      rw [data_len] at hbd
      obtain ⟨x, hx⟩ : ∃ x, x = (lastOf (spans s.data.toList)).1 := ⟨_, rfl⟩
      obtain ⟨y, hy⟩ : ∃ y, y = (lastOf (spans s.data.toList)).2 := ⟨_, rfl⟩
      have hxy : lastOf (spans s.data.toList) = (x, y) := by rw [hx, hy]
      rw [← hx] at hc1
      rw [← hy] at hc2
      rw [← hx, ← hy] at hbd
      rw [hxy] at E
      have hb1 : x < y := hbd.1
      have hb2 : y ≤ s.size := hbd.2
      have hne : ((y : Int) == 0) = false := by rw [beq_eq_false_iff_ne]; omega
      clear hx hy hxy hl hys hsp hf ht hbd
      gi_wp2_with (gi_at_call 28; refine (callsIn_wide.2 (base1_any _ _ _ _ (by omega) (by omega) _ hcp')).mono ?_; rintro e w' ⟨rfl, rfl⟩)
      refine ⟨by simp, .inl ⟨_, _, rfl, run_takeDeferred hK, ?_⟩⟩
      refine ⟨.string ⟨(cutS s.data.toList (x, y)).toArray⟩, ?_, ?_, hfin⟩
      · simp [results, Tryd.results27, go_sem]
      · rw [E.out]
  case stop =>
    rintro D c pre W _ _ h _
    exact h.elim

set_option maxRecDepth 100000 in
set_option maxHeartbeats 1000000 in
theorem cut_dir (s em : ByteArray) (hs : s.size ≤ 65000) (h1 : s.data.toList ≠ []) (Bp : Nat) (w : World) (hBp : Bp < w.heap.size) (hcp : w.cell? ⟨Bp, 0, none⟩ = some (.string s)) :
    Calls Tryd.prog 27 #[.string s, .string em, .func (.func 29) #[] #[.pointer (some ⟨Bp, 0, none⟩)]] w fun e W' => e = .returned (.string ⟨(dirL s.data.toList).toArray⟩) ∧ Below w.heap.size w W' := by
  have n1 := isEmpty_no s h1
  have H1 := Lib.hid h1
  clear h1
  refine (callsIn_wide (n := 5)).1 ?_
  refine callsIn_of_wp_marks Tryd.func27 rfl trivial ?_ rfl
  simp only [Tryd.ntmps27, List.size_toArray, List.length_cons, List.length_nil, Nat.reduceAdd, Nat.reduceSub, Array.replicate_succ, Array.replicate_zero, List.push_toArray, List.append_toArray, List.nil_append, List.cons_append]
  gi_wp2_with (gi_at_call 23; refine (callsIn_wide.2 (spans_any _ _)).mono ?_; rintro e w' ⟨rfl, rfl⟩)
  have bF := ((Boxed.new w 3 (.int .i64 0)).alloc (.cells #[.int .i64 0] 3)).alloc (.cells #[.string s] 9)
  have bT := (Boxed.new (w.alloc (.cells #[.int .i64 0] 3)) 3 (.int .i64 0)).alloc (.cells #[.string s] 9)
  have bB := Boxed.new ((w.alloc (.cells #[.int .i64 0] 3)).alloc (.cells #[.int .i64 0] 3)) 9 (.string s)
  rw [World.size_alloc] at bT bB
  rw [World.size_alloc] at bB
  have hB0 : Below w.heap.size w (((w.alloc (.cells #[.int .i64 0] 3)).alloc (.cells #[.int .i64 0] 3)).alloc (.cells #[.string s] 9)) := (((Below.refl _ w).alloc (Nat.le_refl _) _).alloc (by simp) _).alloc (by simp; omega) _
  refine wpIn_rangeFunc_ownG rfl (by decide) (gf := 32) (lb := #[.pointer (some ⟨w.heap.size + 1 + 1, 0, none⟩)]) rfl trivial (enters_of Tryd.func32 (by kernel_rfl) rfl)
    (spans_stops s hs (5 - 1) (w.heap.size + 1 + 1) _ (by simp) bB.cell) keepsBox_t (keepsBox_b (by simp)) (Below.refl _ _) (fun _ => rfl)
    (fun pre W => Boxed W w.heap.size 3 (.int .i64 (lastOf (pre.map (·.1))).1) ∧ Boxed W (w.heap.size + 1) 3 (.int .i64 (lastOf (pre.map (·.1))).2) ∧ Boxed W (w.heap.size + 1 + 1) 9 (.string s) ∧ Below w.heap.size w W)
    (fun _ _ _ => False)
    (OwnFrom.and (Own.from (boxed_own _ _ (fun pre : List (Span s) => .int .i64 (lastOf (pre.map (·.1))).1)) _) (OwnFrom.and (Own.from (boxed_own _ _ (fun pre : List (Span s) => .int .i64 (lastOf (pre.map (·.1))).2)) _) (OwnFrom.and (Own.from (boxed_own _ _ (fun _ => .string s)) _) (ownFrom_below (Nat.le_refl _) (by simp; omega)))))
    (fun _ _ _ _ _ hs _ _ => hs)
    ⟨bF, bT, bB, hB0⟩
    (fun x => { tmps := #[.string s, .string em, .func (.func 29) #[] #[.pointer (some ⟨Bp, 0, none⟩)], undef, undef, undef, .string ByteArray.empty, .pointer (some ⟨w.heap.size, 0, none⟩), .pointer (some ⟨w.heap.size + 1, 0, none⟩), .int .i64 x.1.1, .int .i64 x.1.2,
      .string s, .bool false, undef, .string s, .func (.func 32) #[] #[.pointer (some ⟨w.heap.size + 1 + 1, 0, none⟩)], .int .i64 x.1.1, .int .i64 x.1.2, undef, undef, undef, undef, undef, undef, undef, undef], defers := [] }) ?assign ?body ?done ?stop
  case assign =>
    intro l x W K hK
    dsimp only [encP]
    gi_wp2
    exact hK
  case body =>
    rintro l pre ⟨⟨x, y⟩, hxy, hy⟩ W ⟨hf, ht, hb, hB⟩ hlt
    dsimp only at hxy hy ⊢
    have hc1 := hf.cell
    have hf1 := hf.frozen
    have hc2 := ht.cell
    have hf2 := ht.frozen
    have hf' := hf.set (.int .i64 x)
    have ht' := ht.other (B' := w.heap.size) (by omega) (.int .i64 x)
    have hb' := hb.other (B' := w.heap.size) (by omega) (.int .i64 x)
    have hf'' := hf'.other (B' := w.heap.size + 1) (by omega) (.int .i64 y)
    have ht'' := ht'.set (.int .i64 y)
    have hb'' := hb'.other (B' := w.heap.size + 1) (by omega) (.int .i64 y)
    have hB'' := (hB.setCell (p := ⟨w.heap.size, 0, none⟩) (Nat.le_refl _) (.int .i64 x)).setCell (p := ⟨w.heap.size + 1, 0, none⟩) (by simp) (.int .i64 y)
    gi_wp2
    refine ⟨((KeepsOthers.setCell _ _ _).trans (KeepsOthers.setCell _ _ _)).from _, ?_, ?_, ?_, hb'', hB''⟩
    · unfold KeepsBox; rw [hb''.cell, hb.cell]
    · rw [List.map_append, List.map_singleton, lastOf_snoc]; exact hf''
    · rw [List.map_append, List.map_singleton, lastOf_snoc]; exact ht''
  case done =>
    rintro D ys W hD hys ⟨hf, ht, hb, hB⟩ hK
    rw [hys] at hf ht
    have hc1 := hf.cell
    have hc2 := ht.cell
    have hcp' : W.cell? ⟨Bp, 0, none⟩ = some (.string s) := (hB.cell (p := ⟨Bp, 0, none⟩) hBp).trans hcp
    have hfin := hB.trans (belowK_b (w := w) (Nat.le_refl _) W D _ (.deferred none) (by simp at hD; omega) hK rfl rfl)
    by_cases hsp : spans s.data.toList = []
    · have E := Lib.hid (dir_none H1.out hsp)
      rw [hsp] at hc1 hc2
      simp only [lastOf, List.getLast?_nil, Option.getD_none] at hc1 hc2
      clear hys hsp hf ht
      gi_wp2
      refine ⟨by simp, .inl ⟨_, _, rfl, run_takeDeferred hK, ?_⟩⟩
      refine ⟨.string ⟨#[47]⟩, ?_, ?_, hfin⟩
      · simp [results, Tryd.results27, go_sem]
      · rw [E.out]
    · have E := Lib.hid (dir_some H1.out hsp)
      have hl : lastOf (spans s.data.toList) ∈ spans s.data.toList := lastOf_mem hsp
      have hbd := spans_bd _ _ hl
      rw [data_len] at hbd
      obtain ⟨x, hx⟩ : ∃ x, x = (lastOf (spans s.data.toList)).1 := ⟨_, rfl⟩
      obtain ⟨y, hy⟩ : ∃ y, y = (lastOf (spans s.data.toList)).2 := ⟨_, rfl⟩
      have hxy : lastOf (spans s.data.toList) = (x, y) := by rw [hx, hy]
      rw [← hx] at hc1
      rw [← hy] at hc2
      rw [← hx, ← hy] at hbd
      rw [hxy] at E
      have hb1 : x < y := hbd.1
      have hb2 : y ≤ s.size := hbd.2
      have hne : ((y : Int) == 0) = false := by rw [beq_eq_false_iff_ne]; omega
      clear hx hy hxy hl hys hsp hf ht hbd
      gi_wp2_with (gi_at_call 29; refine (callsIn_wide.2 (dir1_any _ hs _ _ _ (by omega) _ hcp')).mono ?_; rintro e w' ⟨rfl, rfl⟩)
      refine ⟨by simp, .inl ⟨_, _, rfl, run_takeDeferred hK, ?_⟩⟩
      refine ⟨.string ⟨(dirAt s.data.toList x).toArray⟩, ?_, ?_, hfin⟩
      · simp [results, Tryd.results27, go_sem]
      · rw [E.out]
  case stop =>
    rintro D c pre W _ _ h _
    exact h.elim
end Go.Proofs.YtajleipangnfbaaDoor
