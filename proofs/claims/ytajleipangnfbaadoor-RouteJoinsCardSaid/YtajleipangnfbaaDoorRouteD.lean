/-
  route: Check.
-/
import Derived.Test.YtajleipangnfbaaDoorRouteC
namespace Go.Proofs.YtajleipangnfbaaDoor
open Go.RowKit Go.Shelf
attribute [local go_sem] Oper.semAt_some wide_fn wide_depth

/-- What Check answers. -/
def checkE (l : List UInt8) : Int :=
  if l = [] then 2 else if 100 < l.length then 9 else if (0 : UInt8) ∈ l then 1 else if (spans l).any (fun p => decide (12 < p.2 - p.1)) then 9 else 0

theorem isEmpty_no (s : ByteArray) (h : s.data.toList ≠ []) : s.toList.isEmpty = false := by
  rw [Lib.toList_data]; cases e : s.data.toList with | nil => exact absurd e h | cons a r => rfl
theorem isEmpty_yes (s : ByteArray) (h : s.data.toList = []) : s.toList.isEmpty = true := by rw [Lib.toList_data, h]; rfl
theorem check_e0 {l : List UInt8} (h : l = []) : checkE l = 2 := by unfold checkE; rw [if_pos h]
theorem check_e1 {l : List UInt8} (h : l ≠ []) (h2 : 100 < l.length) : checkE l = 9 := by unfold checkE; rw [if_neg h, if_pos h2]
theorem check_e2 {l : List UInt8} (h : l ≠ []) (h2 : ¬ 100 < l.length) (h3 : (0 : UInt8) ∈ l) : checkE l = 1 := by unfold checkE; rw [if_neg h, if_neg h2, if_pos h3]
theorem check_e3 {l : List UInt8} (h : l ≠ []) (h2 : ¬ 100 < l.length) (h3 : (0 : UInt8) ∉ l) (h4 : ∃ p ∈ spans l, 12 < p.2 - p.1) : checkE l = 9 := by
  unfold checkE; rw [if_neg h, if_neg h2, if_neg h3, if_pos]
  obtain ⟨p, hp, hl⟩ := h4
  exact List.any_eq_true.2 ⟨p, hp, by simpa using hl⟩
theorem check_e4 {l : List UInt8} (h : l ≠ []) (h2 : ¬ 100 < l.length) (h3 : (0 : UInt8) ∉ l) (h4 : ∀ p ∈ spans l, p.2 - p.1 ≤ 12) : checkE l = 0 := by
  unfold checkE; rw [if_neg h, if_neg h2, if_neg h3, if_neg]
  intro hc
  obtain ⟨p, hp, hl⟩ := List.any_eq_true.1 hc
  have := h4 p hp; simp at hl; omega

def AllSmall {s : ByteArray} (pre : List (Span s)) : Prop := ∀ p ∈ pre, p.1.2 - p.1.1 ≤ 12
def SomeBig {s : ByteArray} (pre : List (Span s)) : Prop := ∃ p ∈ pre, 12 < p.1.2 - p.1.1

set_option maxRecDepth 100000 in
set_option maxHeartbeats 1000000 in
theorem check_walk (s : ByteArray) (hs : s.size ≤ 65000) (w : World) (h1 : s.data.toList ≠ []) (h2 : ¬ 100 < s.data.toList.length) (h3 : (0 : UInt8) ∉ s.data.toList) :
    Calls Tryd.prog 13 #[.string s] w fun e W' => e = .returned (.int .i64 (checkE s.data.toList)) ∧ Below w.heap.size w W' := by
  have n1 := isEmpty_no s h1
  have n2 : s.size ≤ 100 := by rw [data_len] at h2; omega
  have n3 : Lib.indexByte s.data.toList 0 < 0 := by rw [indexByte_eq, if_neg h3]; decide
  have m2 : decide ((100 : Int) < (s.size : Int)) = false := by simp; omega
  have m3 : decide (0 ≤ Lib.indexByte s.data.toList 0) = false := by simp; omega
  have H1 := Lib.hid h1
  have H2 := Lib.hid h2
  have H3 := Lib.hid h3
  clear h1 h2 h3
  refine (callsIn_wide (n := 5)).1 ?_
  refine callsIn_of_wp_marks Tryd.func13 rfl trivial ?_ rfl
  simp only [Tryd.ntmps13, List.size_toArray, List.length_cons, List.length_nil, Nat.reduceAdd, Nat.reduceSub, Array.replicate_succ, Array.replicate_zero, List.push_toArray, List.append_toArray, List.nil_append, List.cons_append]
  gi_wp2_with (first | (gi_at_call 26; refine (callsIn_wide.2 (Tryd.strings_IndexByte _ _ _)).mono ?_; rintro e w' ⟨rfl, rfl⟩) | (gi_at_call 23; refine (callsIn_wide.2 (spans_any _ _)).mono ?_; rintro e w' ⟨rfl, rfl⟩))
  have bO := (Boxed.new w 27 (.int .i64 0)).alloc (.cells #[.string s] 9)
  have bB := Boxed.new (w.alloc (.cells #[.int .i64 0] 27)) 9 (.string s)
  rw [World.size_alloc] at bB
  have hB0 : Below w.heap.size w ((w.alloc (.cells #[.int .i64 0] 27)).alloc (.cells #[.string s] 9)) := ((Below.refl _ w).alloc (Nat.le_refl _) _).alloc (by simp) _
  refine wpIn_rangeFunc_ownG rfl (by decide) (gf := 32) (lb := #[.pointer (some ⟨w.heap.size + 1, 0, none⟩)]) rfl trivial (enters_of Tryd.func32 (by kernel_rfl) rfl)
    (spans_stops s hs (5 - 1) (w.heap.size + 1) _ (by simp) bB.cell) keepsBox_t (keepsBox_b (by simp)) (Below.refl _ _) (fun _ => rfl)
    (fun pre W => Boxed W w.heap.size 27 (.int .i64 0) ∧ Boxed W (w.heap.size + 1) 9 (.string s) ∧ Below w.heap.size w W ∧ AllSmall pre)
    (fun c pre W => c = .ret ∧ Boxed W w.heap.size 27 (.int .i64 9) ∧ Below w.heap.size w W ∧ SomeBig pre)
    (OwnFrom.and (Own.from (boxed_own _ _ _) _) (OwnFrom.and (Own.from (boxed_own _ _ _) _) (OwnFrom.and (ownFrom_below (Nat.le_refl _) (by simp; omega)) (ownFrom_pure _ (fun pre : List (Span s) => AllSmall pre)))))
    (fun c => OwnFrom.and (ownFrom_pure _ (fun _ => c = .ret)) (OwnFrom.and (Own.from (boxed_own _ _ _) _) (OwnFrom.and (ownFrom_below (Nat.le_refl _) (by simp; omega)) (ownFrom_pure _ (fun pre : List (Span s) => SomeBig pre)))))
    ⟨bO, bB, hB0, by simp [AllSmall]⟩
    (fun x => { tmps := #[.string s, undef, .pointer (some ⟨w.heap.size, 0, none⟩), .int .i64 x.1.1, .int .i64 x.1.2, .bool false, .string s, .bool false, .bool false, .string s, .int .i64 s.size, .bool false, .bool false, .string s,
      .int .i64 (Lib.indexByte s.data.toList 0), .bool false, .string s, .func (.func 32) #[] #[.pointer (some ⟨w.heap.size + 1, 0, none⟩)], .int .i64 x.1.1, .int .i64 x.1.2, undef, undef, undef, undef], defers := [] }) ?assign ?body ?done ?stop
  case assign =>
    intro l x W K hK
    dsimp only [encP]
    gi_wp2
    exact hK
  case body =>
    rintro l pre ⟨⟨x, y⟩, hxy, hy⟩ W ⟨hv, hb, hB, hall⟩ hlt
    dsimp only at hxy hy ⊢
    have hc := hv.cell
    have hf := hv.frozen
    have HA := Lib.hid hall
    clear hall
    by_cases hd : 12 < y - x
    · have hd1 : (12 : Int) < (y : Int) - x := by omega
      gi_wp2
      refine ⟨(KeepsOthers.setCell _ _ _).from _, rfl, hv.set _, hB.setCell (p := ⟨w.heap.size, 0, none⟩) (Nat.le_refl _) _, ?_⟩
      exact ⟨⟨(x, y), hxy, hy⟩, by simp, hd⟩
    · have hd1 : ¬ (12 : Int) < (y : Int) - x := by omega
      gi_wp2
      refine ⟨KeepsFrom.refl _ _, rfl, hv, hb, hB, ?_⟩
      intro p hp
      rcases List.mem_append.1 hp with hp | hp
      · exact HA.out p hp
      · obtain rfl := List.mem_singleton.1 hp
        show y - x ≤ 12
        omega
  case done =>
    rintro D ys W hD hys ⟨hv, hb, hB, hall⟩ hK
    have hc := hv.cell
    have hf := hv.frozen
    have e0 : checkE s.data.toList = 0 := check_e4 H1.out H2.out H3.out fun p hp => by
      rw [← hys] at hp
      obtain ⟨q, hq, rfl⟩ := List.mem_map.1 hp
      exact hall q hq
    have E0 := Lib.hid e0
    clear e0 hys hall
    gi_wp2
    have hK' := (KeepsOthers.setCell W ⟨w.heap.size, 0, none⟩ (.int .i64 0)).same D _ hK rfl
    refine ⟨by simp, .inl ⟨_, _, rfl, run_takeDeferred hK', ?_⟩⟩
    have hc5 := cell_kept (hv.set (.int .i64 0)).cell (grownBy_putObj' _ D (.deferred none)) (fun r e => by cases e; exact ⟨_, hK', rfl⟩)
    refine ⟨.int .i64 0, ?_, by rw [E0.out], ?_⟩
    · simp [results, Tryd.f13, go_sem, hc5]
    · exact (hB.setCell (p := ⟨w.heap.size, 0, none⟩) (Nat.le_refl _) _).trans (belowK_b (w := w) (Nat.le_refl _) _ D _ _ (by simp at hD; omega) hK' rfl rfl)
  case stop =>
    rintro D c pre W hD hpre ⟨rfl, hv, hB, hex⟩ hK
    have hc := hv.cell
    have e0 : checkE s.data.toList = 9 := check_e3 H1.out H2.out H3.out (by
      obtain ⟨p, hp, hl⟩ := hex
      exact ⟨p.1, hpre.subset (List.mem_map.2 ⟨p, hp, rfl⟩), hl⟩)
    have E0 := Lib.hid e0
    clear e0 hpre hex
    gi_wp2
    refine ⟨by simp, .inl ⟨_, _, rfl, run_takeDeferred hK, ?_⟩⟩
    have hc5 := cell_kept hv.cell (grownBy_putObj' _ D (.deferred none)) (fun r e => by cases e; exact ⟨_, hK, rfl⟩)
    refine ⟨.int .i64 9, ?_, by rw [E0.out], ?_⟩
    · simp [results, Tryd.f13, go_sem, hc5]
    · exact hB.trans (belowK_b (w := w) (Nat.le_refl _) _ D _ _ (by simp at hD; omega) hK rfl rfl)

set_option maxHeartbeats 400000 in
theorem check_any (s : ByteArray) (hs : s.size ≤ 65000) (w : World) :
    Calls Tryd.prog 13 #[.string s] w fun e W' => e = .returned (.int .i64 (checkE s.data.toList)) ∧ Below w.heap.size w W' := by
  by_cases h1 : s.data.toList = []
  · have n1 := isEmpty_yes s h1
    have E := Lib.hid (check_e0 h1)
    clear h1
    go_enter Tryd.func13, Tryd.ntmps13
    go_wp2
    exact bodyPost_ret (v := .int .i64 2) (by simp [results, Tryd.f13, go_sem]) rfl ⟨by rw [E.out], (Below.refl _ _).alloc (Nat.le_refl _) _⟩
  · by_cases h2 : 100 < s.data.toList.length
    · have E := Lib.hid (check_e1 h1 h2)
      have n1 := isEmpty_no s h1
      have n2 : 100 < s.size := by rw [data_len] at h2; omega
      clear h1 h2
      go_enter Tryd.func13, Tryd.ntmps13
      go_wp2
      exact bodyPost_ret (v := .int .i64 9) (by simp [results, Tryd.f13, go_sem]) rfl ⟨by rw [E.out], (Below.refl _ _).alloc (Nat.le_refl _) _⟩
    · by_cases h3 : (0 : UInt8) ∈ s.data.toList
      · have E := Lib.hid (check_e2 h1 h2 h3)
        have n1 := isEmpty_no s h1
        have n2 : s.size ≤ 100 := by rw [data_len] at h2; omega
        have n3 : 0 ≤ Lib.indexByte s.data.toList 0 := by rw [indexByte_eq, if_pos h3]; omega
        clear h1 h2 h3
        go_enter Tryd.func13, Tryd.ntmps13
        go_wp2_with (go_at_call 26; refine (Tryd.strings_IndexByte _ _ _).mono ?_; rintro e w' ⟨rfl, rfl⟩)
        exact bodyPost_ret (v := .int .i64 1) (by simp [results, Tryd.f13, go_sem]) rfl ⟨by rw [E.out], (Below.refl _ _).alloc (Nat.le_refl _) _⟩
      · exact check_walk s hs w h1 h2 h3
end Go.Proofs.YtajleipangnfbaaDoor
