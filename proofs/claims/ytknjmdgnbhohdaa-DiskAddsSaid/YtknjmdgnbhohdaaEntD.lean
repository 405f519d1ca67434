/-
  Lists of entries in memory; whether they are sorted: the program's and the document's.
-/
import Derived.Test.YtknjmdgnbhohdaaEntC
import Derived.Lib.QuietBelow
import Derived.Deep.DrawnRows
import Derived.Laws.Cover1
namespace Go.Proofs.Ytknjmdgnbhohdaa
open Go.RowKit Go.Shelf
attribute [local go_sem ↓] Go.wp_at_zero Go.wp_at_succ

/-- Entries in a row of cells. -/
def ents (l : List EntL) : List Value := l.flatMap fun e => [.string (bs e.1), .int .i64 e.2]
theorem ents_len (l : List EntL) : (ents l).length = l.length * 2 := by
  induction l with
  | nil => rfl
  | cons e l ih => simp [ents] at ih ⊢; omega
theorem ents_app (a b : List EntL) : ents (a ++ b) = ents a ++ ents b := by simp [ents]
theorem ents_at0 (l : List EntL) (k : Nat) (h : k < l.length) : (ents l)[k * 2]? = some (.string (bs (l[k]).1)) := by
  induction l generalizing k with
  | nil => simp at h
  | cons f l ih =>
    cases k with
    | zero => rfl
    | succ k =>
      have := ih k (by simpa using h)
      rw [show (k + 1) * 2 = k * 2 + 2 by omega]
      simpa [ents] using this
theorem ents_at1 (l : List EntL) (k : Nat) (h : k < l.length) : (ents l)[k * 2 + 1]? = some (.int .i64 (l[k]).2) := by
  induction l generalizing k with
  | nil => simp at h
  | cons f l ih =>
    cases k with
    | zero => rfl
    | succ k =>
      have := ih k (by simpa using h)
      rw [show (k + 1) * 2 + 1 = k * 2 + 1 + 2 by omega]
      simpa [ents] using this
theorem ents_one (l : List EntL) : ∀ u ∈ ents l, u.oneCell' = true := by
  intro u hu
  obtain ⟨e, _, h⟩ := List.mem_flatMap.1 hu
  simp only [List.mem_cons, List.not_mem_nil, or_false] at h
  rcases h with rfl | rfl <;> rfl
/-- Names that fit in memory. -/
def Fit (l : List EntL) : Prop := ∀ e ∈ l, e.1.length ≤ maxLen
theorem bless (a b : Nm) : Op.bytesLess a b = decide (a < b) := by
  induction a generalizing b with
  | nil => cases b <;> simp [Op.bytesLess]
  | cons x a ih =>
    cases b with
    | nil => simp [Op.bytesLess]
    | cons y b =>
      rw [Op.bytesLess, ih, Bool.eq_iff_iff, decide_eq_true_iff, List.cons_lt_cons_iff]
      simp
theorem bless_yes {a b : Nm} (h : a < b) : Op.bytesLess a b = true := by rw [bless]; simpa using h
theorem bless_no {a b : Nm} (h : ¬ a < b) : Op.bytesLess a b = false := by rw [bless]; simpa using h
theorem leq_ways {a b : Nm} (h : ¬ b < a) : (Op.bytesLess a b = true ∧ (a == b) = false) ∨ (Op.bytesLess a b = false ∧ (a == b) = true) := by
  by_cases e : a < b
  · exact .inl ⟨bless_yes e, beq_list_false (lt_ne e)⟩
  · refine .inr ⟨bless_no e, ?_⟩
    rw [lt_eq e h]; simp

def SortIs (l : List EntL) (e : Ending) (w w' : World) : Prop := e = .returned (.bool (decide (SortedP l))) ∧ Below w.heap.size w w'
theorem not_legal {l : List EntL} {k : Nat} (h : k < l.length) (hl : legalL l[k].1 ≠ 0) : decide (SortedP l) = false := by
  rw [decide_eq_false_iff_not]
  exact fun hs => hl (hs.1 _ (List.getElem_mem h))
theorem not_order {l : List EntL} {j : Nat} (h : j + 1 < l.length) (hl : ¬ (l[j]'(by omega)).1 < l[j + 1].1) : decide (SortedP l) = false := by
  rw [decide_eq_false_iff_not]
  exact fun hs => hl (sorted_order hs h rfl)
set_option maxRecDepth 100000 in
set_option maxHeartbeats 4000000 in
theorem sorted_any (B : Nat) (v : Value) (l : List EntL) (w : World) (hv : Rd B 2 v l.length (ents l) w) (hB : B ≤ w.heap.size) (hl : l.length ≤ 10000) (hn : Fit l) :
    Calls Try.prog 36 #[v] w fun e w' => SortIs l e w w' := by
  obtain ⟨ao, cap, rfl, _, _⟩ := hv.form
  have HV := Lib.hid hv
  have HN := Lib.hid hn
  clear hv hn
  go_enter Try.func36, Try.ntmps36
  go_wp2_with fail
  go_loopw [7] (fun i wr => ∃ k : Nat, i = .int .i64 k ∧ k ≤ l.length ∧ Hid (SortedP (l.take k)) ∧ Below w.heap.size w wr) (fun i _ => l.length - (intOf i).toNat)
  case atStart => exact ⟨0, rfl, Nat.zero_le _, Lib.hid sorted_nil, Below.refl _ _⟩
  case round =>
    obtain ⟨k, rfl, hk, hS, hBr⟩ := hrel
    by_cases hlt : k < l.length
    · obtain ⟨b, off, cap', e, hn, hm, hb, hlen, hc⟩ := HV.out.at (by omega)
      injection e with e1 _ e2
      subst e1
      subst e2
      have hc0 := (hBr.cell (p := ⟨b, off + k * 2, none⟩) (by show b < _; omega)).trans (hc _ _ (ents_at0 l k hlt))
      have hc1 : wr.cell? ⟨b, off + k * 2 + 1, none⟩ = _ := (hBr.cell (p := ⟨b, off + k * 2 + 1, none⟩) (by show b < _; omega)).trans (hc (k * 2 + 1) _ (ents_at1 l k hlt))
      have hxm := HN.out _ (List.getElem_mem hlt)
      have hbw : b < wr.heap.size := by have := hBr.size; omega
      have HC : Hid (∀ j (hj : j < l.length), wr.cell? ⟨b, off + j * 2, none⟩ = some (.string (bs (l[j]).1))) := Lib.hid fun j hj =>
        (hBr.cell (p := ⟨b, off + j * 2, none⟩) (by show b < _; omega)).trans (hc _ _ (ents_at0 l j hj))
      obtain ⟨x, hx⟩ : ∃ x, x = (l[k]).1 := ⟨_, rfl⟩
      obtain ⟨z, hz⟩ : ∃ z, z = (l[k]).2 := ⟨_, rfl⟩
      rw [← hx] at hc0 hxm
      rw [← hz] at hc1
      have HL := legal_any x hxm
      have HX := Lib.hid hx
      clear hc hz
      by_cases hq : legalL x = 0
      · rw [hq] at HL
        by_cases h0 : k = 0
        · have hnx : Hid (SortedP (l.take (k + 1))) := Lib.hid (sorted_succ hlt hS.out (by rw [← HX.out]; exact hq) fun j _ h => by omega)
          have hI : decide (0 < k) = false := by simp; omega
          clear hx hq h0
          go_wp2_with fail
          have hba : Below wr.heap.size wr (wr.alloc (.cells #[.string (bs x), .int .i64 z] 56)) := (Below.refl _ wr).alloc (Nat.le_refl _) _
          have hbF := heap_alloc_new wr (.cells #[.string (bs x), .int .i64 z] 56)
          have hBa := hBr.trans (hba.mono hBr.size)
          generalize hnf : wr.heap.size = nf at *
          generalize wr.alloc (.cells #[.string (bs x), .int .i64 z] 56) = W1 at *
          have cf0 := cell_regrown (show W1.cell? ⟨nf, 0, none⟩ = some (.string (bs x)) by rw [Lib.cell_of_heap hbF]; rfl)
          refine wp_region_quiet_below (by kernel_rfl) (by kernel_rfl) ?_
          repeat (go_big_quiet_step ((go_at_call 51; exact Calls.regrown_of (HL _))))
          refine wpQuiet_nil ?_
          clear cf0
          intro _ hw'
          obtain ⟨⟨dq, osq⟩, hw''⟩ := hw'
          have hbg : Below W1.heap.size W1 _ := below_regrown W1 dq osq
          rw [← hw''] at hbg
          clear hw''
          rename_i W2
          have hB2 := hBa.trans (hbg.mono hBa.size)
          go_wp2_with fail
          go_roundw
          case rel => exact ⟨k + 1, by go_num, hlt, hnx, hB2⟩
          case measure => simp [intOf]; omega
        · obtain ⟨j, hj⟩ : ∃ j, k = j + 1 := ⟨k - 1, by omega⟩
          have hI : decide (0 < k) = true := by simp; omega
          have hk1 : (k : Int) - 1 = (j : Int) := by omega
          have hjl : (j : Int) < (l.length : Int) := by omega
          have hj0 : (0 : Int) ≤ (j : Int) := by omega
          have hcp := HC.out j (by omega)
          obtain ⟨y, hy⟩ : ∃ y, y = (l[j]'(by omega)).1 := ⟨_, rfl⟩
          rw [← hy] at hcp
          by_cases hord : y < x
          · have hJ := bless_no (lt_as hord)
            have hJ2 := beq_list_false (lt_ne hord).symm
            have hnx : Hid (SortedP (l.take (k + 1))) := Lib.hid (sorted_succ hlt hS.out (by rw [← HX.out]; exact hq) fun j' hj' h => by
              obtain rfl : j' = j := by omega
              rw [← hy, ← HX.out]; exact hord)
            clear hx hq h0 hord hj hy
            go_wp2_with fail
            have hba : Below wr.heap.size wr (wr.alloc (.cells #[.string (bs x), .int .i64 z] 56)) := (Below.refl _ wr).alloc (Nat.le_refl _) _
            have hbF := heap_alloc_new wr (.cells #[.string (bs x), .int .i64 z] 56)
            have hBa := hBr.trans (hba.mono hBr.size)
            have hcp1 : (wr.alloc (.cells #[.string (bs x), .int .i64 z] 56)).cell? ⟨b, off + j * 2, none⟩ = some (.string (bs y)) := (hba.cell (p := ⟨b, off + j * 2, none⟩) hbw).trans hcp
            generalize hnf : wr.heap.size = nf at *
            generalize wr.alloc (.cells #[.string (bs x), .int .i64 z] 56) = W1 at *
            have cf0 := cell_regrown (show W1.cell? ⟨nf, 0, none⟩ = some (.string (bs x)) by rw [Lib.cell_of_heap hbF]; rfl)
            have cf1 := cell_regrown hcp1
            refine wp_region_quiet_below (by kernel_rfl) (by kernel_rfl) ?_
            repeat (go_big_quiet_step ((go_at_call 51; exact Calls.regrown_of (HL _))))
            refine wpQuiet_nil ?_
            clear cf0 cf1
            intro _ hw'
            obtain ⟨⟨dq, osq⟩, hw''⟩ := hw'
            have hbg : Below W1.heap.size W1 _ := below_regrown W1 dq osq
            rw [← hw''] at hbg
            clear hw''
            rename_i W2
            have hB2 := hBa.trans (hbg.mono hBa.size)
            go_wp2_with fail
            go_roundw
            case rel => exact ⟨k + 1, by go_num, hlt, hnx, hB2⟩
            case measure => simp [intOf]; omega
          · have HF : Hid (decide (SortedP l) = false) := Lib.hid (by
              subst hj
              exact not_order hlt (by rw [← hy, ← HX.out]; exact hord))
            have hlw := leq_ways hord
            clear hx hq h0 hord hj hy
            rcases hlw with ⟨hJ, hJ2⟩ | ⟨hJ, hJ2⟩
            all_goals (
              go_wp2_with fail
              have hba : Below wr.heap.size wr (wr.alloc (.cells #[.string (bs x), .int .i64 z] 56)) := (Below.refl _ wr).alloc (Nat.le_refl _) _
              have hbF := heap_alloc_new wr (.cells #[.string (bs x), .int .i64 z] 56)
              have hBa := hBr.trans (hba.mono hBr.size)
              have hcp1 : (wr.alloc (.cells #[.string (bs x), .int .i64 z] 56)).cell? ⟨b, off + j * 2, none⟩ = some (.string (bs y)) := (hba.cell (p := ⟨b, off + j * 2, none⟩) hbw).trans hcp
              generalize hnf : wr.heap.size = nf at *
              generalize wr.alloc (.cells #[.string (bs x), .int .i64 z] 56) = W1 at *
              have cf0 := cell_regrown (show W1.cell? ⟨nf, 0, none⟩ = some (.string (bs x)) by rw [Lib.cell_of_heap hbF]; rfl)
              have cf1 := cell_regrown hcp1
              refine wp_region_quiet_below (by kernel_rfl) (by kernel_rfl) ?_
              repeat (go_big_quiet_step ((go_at_call 51; exact Calls.regrown_of (HL _))))
              refine wpQuiet_nil ?_
              clear cf0 cf1
              intro _ hw'
              obtain ⟨⟨dq, osq⟩, hw''⟩ := hw'
              have hbg : Below W1.heap.size W1 _ := below_regrown W1 dq osq
              rw [← hw''] at hbg
              clear hw''
              rename_i W2
              have hB2 := hBa.trans (hbg.mono hBa.size)
              go_wp2_with fail
              go_ret
              exact ⟨ret_bool HF.out.symm, hB2⟩)
      · have HF : Hid (decide (SortedP l) = false) := Lib.hid (not_legal hlt (by rw [← hx]; exact hq))
        have hI : (legalL x != 0) = true := by rw [bne_iff_ne]; exact hq
        generalize legalL x = q at *
        clear hx hq
        go_wp2_with fail
        have hba : Below wr.heap.size wr (wr.alloc (.cells #[.string (bs x), .int .i64 z] 56)) := (Below.refl _ wr).alloc (Nat.le_refl _) _
        have hbF := heap_alloc_new wr (.cells #[.string (bs x), .int .i64 z] 56)
        have hBa := hBr.trans (hba.mono hBr.size)
        generalize hnf : wr.heap.size = nf at *
        generalize wr.alloc (.cells #[.string (bs x), .int .i64 z] 56) = W1 at *
        have cf0 := cell_regrown (show W1.cell? ⟨nf, 0, none⟩ = some (.string (bs x)) by rw [Lib.cell_of_heap hbF]; rfl)
        refine wp_region_quiet_below (by kernel_rfl) (by kernel_rfl) ?_
        repeat (go_big_quiet_step ((go_at_call 51; exact Calls.regrown_of (HL _))))
        refine wpQuiet_nil ?_
        clear cf0
        intro _ hw'
        obtain ⟨⟨dq, osq⟩, hw''⟩ := hw'
        have hbg : Below W1.heap.size W1 _ := below_regrown W1 dq osq
        rw [← hw''] at hbg
        clear hw''
        rename_i W2
        have hB2 := hBa.trans (hbg.mono hBa.size)
        go_wp2_with fail
        go_ret
        exact ⟨ret_bool HF.out.symm, hB2⟩
    · have hke : k = l.length := by omega
      have HF : Hid (decide (SortedP l) = true) := Lib.hid (by have := hS.out; rw [hke, List.take_length] at this; simpa using this)
      have hI2 : decide (k < l.length) = false := by simp; omega
      clear hke hlt
      go_wp2_with fail
      go_ret
      exact ⟨ret_bool HF.out.symm, hBr⟩
end Go.Proofs.Ytknjmdgnbhohdaa
