/-
  option: number, Parse.
-/
import Derived.Test.YtjgadmodhkdllaaDoorOptC
import Derived.Test.YtjgadmodhkdllaaDoorErrIs
namespace Go.Proofs.YtjgadmodhkdllaaDoor
open Go.RowKit Go.Shelf Go.Lib

set_option maxHeartbeats 400000 in
theorem number_opt (B : Nat) (a0 a1 : Addr) (m : Int) (w : World) (hg : Gl B a0 a1 m w) :
    Calls Tryd.prog 21 #[.iface 87 (.pointer (some a0))] w fun e w' => e = .returned (.int .i64 30) ∧ w = w' := by
  have g0 := hg.g0
  go_enter Tryd.func21, Tryd.ntmps21
  go_wp2_with fail
  refine (is_same a0 _).mono ?_
  rintro e w1 ⟨rfl, rfl⟩
  go_wp2_with fail
  go_ret
  exact ⟨rfl, rfl⟩
set_option maxHeartbeats 400000 in
theorem number_val (B : Nat) (a0 a1 : Addr) (m : Int) (w : World) (hg : Gl B a0 a1 m w) :
    Calls Tryd.prog 21 #[.iface 87 (.pointer (some a1))] w fun e w' => e = .returned (.int .i64 31) ∧ w = w' := by
  have g0 := hg.g0
  have g1 := hg.g1
  obtain ⟨c0, t0, hb0⟩ := hg.b0
  obtain ⟨c1, t1, hb1⟩ := hg.b1
  go_enter Tryd.func21, Tryd.ntmps21
  go_wp2_with fail
  refine (is_other a1 a0 _ _ _ _ _ (Ne.symm hg.ne) hb1 hb0).mono ?_
  rintro e w1 ⟨rfl, rfl⟩
  go_wp2_with fail
  refine (is_same a1 _).mono ?_
  rintro e w1 ⟨rfl, rfl⟩
  go_wp2_with fail
  go_ret
  exact ⟨rfl, rfl⟩

def CloneIs (n : Nat) (xs : List Value) (e : Ending) (W W' : World) : Prop := ∃ v, e = .returned v ∧ Rd W'.heap.size 1 v n xs W' ∧ Below W.heap.size W W' ∧ NewV W.heap.size v
theorem clone_any (B : Nat) (v : Value) (l : List Str) (w : World) (hv : Rd B 1 v l.length (strs l) w) (hl : l.length ≤ 65000) :
    Calls Tryd.prog 22 #[v] w fun e w' => CloneIs l.length (strs l) e w w' := by
  obtain ⟨ao, cap, rfl, hc, hm, _, hlen, h⟩ := id hv
  cases l with
  | nil =>
    cases ao with
    | none =>
      refine (Tryd.slices_Clone_string_nil _ _ _).mono ?_
      rintro e w1 ⟨rfl, rfl⟩
      exact ⟨_, rfl, Rd.none0 _ _ _, Below.refl _ _, NewV.none0 _⟩
    | some a =>
      refine (Tryd.slices_Clone_string_zero _ _ _).mono ?_
      rintro e w1 ⟨v, rfl, ho, _, hb⟩
      exact ⟨_, rfl, Rd.own ho (Nat.le_refl _), hb, NewV.own ho⟩
  | cons a l =>
    obtain ⟨b, off, rfl, hlt, h⟩ := h (by simp)
    refine (Tryd.slices_Clone_string b off (a :: l).length cap ((a :: l).map bs) _ (by simp) (by omega) ?_).mono ?_
    · intro j hj
      have hj' : j < (a :: l).length := by simpa using hj
      rw [h j _ (strs_at _ j hj')]
      rw [List.getD_eq_getElem?_getD, List.getElem?_map, List.getElem?_eq_getElem hj']
      rfl
    · rintro e w1 ⟨v, rfl, ho, _, hb⟩
      rw [List.take_of_length_le (by simp), List.map_map] at ho
      exact ⟨_, rfl, Rd.own ho (Nat.le_refl _), hb, NewV.own ho⟩

def ParseIs (R : Except Int (List FlagL × List Str)) (e : Ending) (W W' : World) : Prop :=
  (∃ k, R = .error k ∧ e = .returned (.tuple #[.slice none 0 0, .slice none 0 0, .int .i64 k]) ∧ Below W.heap.size W W') ∨
  ∃ fl rs vf vo, R = .ok (fl, rs) ∧ e = .returned (.tuple #[vf, vo, .int .i64 0]) ∧ Rd W'.heap.size 2 vf fl.length (flags fl) W' ∧ Rd W'.heap.size 1 vo rs.length (strs rs) W' ∧ Below W.heap.size W W' ∧ NewV W.heap.size vf ∧ NewV W.heap.size vo
set_option maxRecDepth 100000 in
set_option maxHeartbeats 2000000 in
theorem parse_any (B : Nat) (a0 a1 : Addr) (m : Int) (spec : Str) (v : Value) (argv : List Str) (w : World) (hg : Gl B a0 a1 m w) (hB : B ≤ w.heap.size) (hv : Rd w.heap.size 1 v argv.length (strs argv) w) (hr0 : argv.length ≤ 100) (hs : spec.length ≤ 65000) (ha : ∀ a ∈ argv, a.length ≤ 65000) :
    Calls Tryd.prog 11 #[.string (bs spec), v] w fun e w' => ParseIs (parseL spec argv) e w w' := by
  obtain ⟨ao, cap, rfl, _, _⟩ := hv.form
  have hba : Below w.heap.size w (w.alloc (.cells #[.string (bs spec), .slice none 0 0, .slice ao argv.length cap] 49)) := (Below.refl _ w).alloc (Nat.le_refl _) _
  have hT : Tk w.heap.size spec [] argv (.slice none 0 0) (.slice ao argv.length cap) (w.alloc (.cells #[.string (bs spec), .slice none 0 0, .slice ao argv.length cap] 49)) :=
    ⟨heap_alloc_new w _, World.ownsRow_nil _ _ _ _, hv.below hba⟩
  have hg1 := hg.below hba hB
  have HT := Lib.hid hT
  have HG := Lib.hid hg1
  clear hT hg1 hg
  go_enter Tryd.func11, Tryd.ntmps11
  go_wp2_with fail
  refine (options_any B a0 a1 m w.heap.size spec argv _ _ _ HG.out hB HT.out hr0 hs ha).mono ?_
  intro e W1 h
  rcases h with ⟨hr, rfl, hb1⟩ | ⟨hr, rfl, hb1⟩ | ⟨fl, rs, vf, vr, hr, rfl, hT1, hb1⟩
  · have hg2 := HG.out.below hb1 hB
    have HR := Lib.hid hr
    clear hr
    go_wp2_with fail
    refine (number_opt B a0 a1 m _ hg2).mono ?_
    rintro e w1 ⟨rfl, rfl⟩
    go_wp2_with fail
    go_ret3
    exact .inl ⟨30, HR.out, rfl, hba.trans hb1⟩
  · have hg2 := HG.out.below hb1 hB
    have HR := Lib.hid hr
    clear hr
    go_wp2_with fail
    refine (number_val B a0 a1 m _ hg2).mono ?_
    rintro e w1 ⟨rfl, rfl⟩
    go_wp2_with fail
    go_ret3
    exact .inl ⟨31, HR.out, rfl, hba.trans hb1⟩
  · have HR := Lib.hid hr
    have hlr : rs.length ≤ 65000 := by
      have := (parseL_bound spec argv fl rs ha hr).2.1
      omega
    have c1 := hT1.cells.2.1
    have c2 := hT1.cells.2.2.1
    have hlt := hT1.lt
    have HT1 := Lib.hid hT1
    clear hr hT1
    go_wp2_with fail
    go_region_held3 (fun w' => w'.cell? ⟨w.heap.size, 1, none⟩ = some vf ∧ w'.cell? ⟨w.heap.size, 2, none⟩ = some vr)
      (first
        | go_keep
        | (exact ⟨(hbc.cell (p := ⟨w.heap.size, 1, none⟩) hlt).trans (by assumption), (hbc.cell (p := ⟨w.heap.size, 2, none⟩) hlt).trans (by assumption)⟩))
      ((go_at_call 22; refine (clone_any w.heap.size vr rs _ (HT1.out.rd.drewN 1) hlr).mono ?_; rintro e w' ⟨vo, rfl, hro, hbc, hnv⟩))
    have hF := Lib.hid ((((Rd.own HT1.out.own (Nat.le_refl _)).drewN 1).below (W' := w') hbc).mono hbc.size)
    have hB3 : Below w.heap.size w w' := hba.trans ((below_drewN hb1 1).trans (hbc.mono (Nat.le_of_lt hlt)))
    go_wp2_with fail
    go_ret3
    exact .inr ⟨fl, rs, vf, vo, HR.out, rfl, hF.out, hro, hB3, (NewV.own HT1.out.own).mono (Nat.le_succ _), hnv.mono (Nat.le_of_lt hlt)⟩
end Go.Proofs.YtjgadmodhkdllaaDoor
