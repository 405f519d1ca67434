/-
  sort.Search, laid; the closure; where a name begins and ends.
-/
import Derived.Test.YtbabkpaepijjeaaEntG
import Derived.Shelf.SlSorted.Search
namespace Go.Proofs.Ytbabkpaepijjeaa
open Go.RowKit Go.Shelf
attribute [local go_sem ↓] Go.wp_at_zero Go.wp_at_succ

def searchRen : Go.Shelf.Ren := ⟨fun | 16 => 30 | n => n, fun | 3 => 3 | 4 => 4 | 35 => 56 | 38 => 64 | n => n, fun | n => n⟩
theorem searchLaid : SlLaysO.n16 Try.prog searchRen := {
  mixed := by kernel_rfl
  f16 := Try.func30.trans (congrArg some (by kernel_rfl))
  t3 := Try.underlying3
  a3 := Try.isAgg3
  z3 := Try.sizeOf3
  v3 := Try.zeroValue3
  t4 := Try.underlying4
  a4 := Try.isAgg4
  z4 := Try.sizeOf4
  v4 := Try.zeroValue4
  t35 := Try.underlying56
  a35 := Try.isAgg56
  z35 := Try.sizeOf56
  v35 := Try.zeroValue56
  t38 := Try.underlying64
  a38 := Try.isAgg64
  z38 := Try.sizeOf64
  v38 := Try.zeroValue64 }

/-- What the search asks at a place. -/
def fromP (l : List EntL) (n : Nm) (i : Nat) : Bool := !decide ((l.getD i ([], 0)).1 < n)
theorem fromP_count (l : List EntL) (n : Nm) : (List.range l.length).countP (fun i => !fromP l n i) = (lo l n).length := by
  unfold lo
  rw [← count_at (fun e => decide (e.1 < n)) l ([], 0)]
  congr 1
  funext i
  simp [fromP]
theorem fromP_mono {l : List EntL} (h : Up l) (n : Nm) : ∀ a b, a ≤ b → b < l.length → fromP l n a = true → fromP l n b = true := by
  intro a b hab hb ha
  unfold fromP at ha ⊢
  simp only [Bool.not_eq_true', decide_eq_false_iff_not] at ha ⊢
  exact up_le h hab hb n _ ha
set_option maxRecDepth 100000 in
set_option maxHeartbeats 1000000 in
theorem closure_any (ba bx b off cap : Nat) (l : List EntL) (n : Nm) (i : Nat) (W : World) (hi : i < l.length)
    (ha : W.cell? ⟨ba, 0, none⟩ = some (.slice (some ⟨b, off, none⟩) l.length cap)) (hx : W.cell? ⟨bx, 0, none⟩ = some (.string (bs n))) (hc : W.cell? ⟨b, off + i * 2, none⟩ = some (.string (bs (l[i]).1))) :
    Calls Try.prog 31 (#[.int .i64 i] ++ #[.pointer (some ⟨ba, 0, none⟩), .pointer (some ⟨bx, 0, none⟩)]) W fun e w' => e = .returned (.bool (fromP l n i)) ∧ ∃ q, w' = W.drewN q := by
  have hp : fromP l n i = !decide ((l[i]).1 < n) := by
    unfold fromP
    rw [List.getD_eq_getElem?_getD, List.getElem?_eq_getElem hi]
    rfl
  have HP := Lib.hid hp
  have hb := bless (l[i]).1 n
  generalize (l[i]).1 = x at *
  have i0 : (0 : Int) ≤ (i : Int) := by omega
  have i1 : (i : Int) < (l.length : Int) := by omega
  clear hp
  go_enter Try.func31, Try.ntmps31
  go_wp2_with fail
  go_quiet (fail)
  go_wp2_with fail
  go_ret
  exact ⟨ret_bool HP.out.symm, _, rfl⟩

def PlaceIs (a m : Nat) (e : Ending) (W W' : World) : Prop := e = .returned (.tuple #[.int .i64 a, .int .i64 (a + m : Nat)]) ∧ Below W.heap.size W W'
set_option maxRecDepth 100000 in
set_option maxHeartbeats 2000000 in
theorem place_any (B : Nat) (v : Value) (l : List EntL) (n : Nm) (w : World) (hv : Rd B 2 v l.length (ents l) w) (hB : B ≤ w.heap.size) (hl : l.length ≤ 10000) (hu : Up l) :
    Calls Try.prog 27 #[v, .string (bs n)] w fun e w' => PlaceIs (lo l n).length (mid n (findL l n)).length e w w' := by
  obtain ⟨W0, hW0⟩ : ∃ W0, W0 = (w.alloc (.cells #[v] 22)).alloc (.cells #[.string (bs n)] 9) := ⟨_, rfl⟩
  have hsize : W0.heap.size = w.heap.size + 1 + 1 := by rw [hW0]; simp
  have hB0 : Below w.heap.size w W0 := by rw [hW0]; exact ((Below.refl _ w).alloc (Nat.le_refl _) _).alloc (by simp) _
  have ca : W0.cell? ⟨w.heap.size, 0, none⟩ = some v := by rw [hW0]; exact cell_alloc_sl _ (cell_new_sl w _ _)
  have cx : W0.cell? ⟨w.heap.size + 1, 0, none⟩ = some (.string (bs n)) := by rw [hW0]; have := cell_new_sl (w.alloc (.cells #[v] 22)) (.string (bs n)) 9; rwa [World.size_alloc] at this
  have hv0 : Rd w.heap.size 2 v l.length (ents l) W0 := (hv.mono hB).below hB0
  have hS := Any.sort_Search (P := Try.prog) (ρ := searchRen) searchLaid 31 #[.pointer (some ⟨w.heap.size, 0, none⟩), .pointer (some ⟨w.heap.size + 1, 0, none⟩)] l.length (fromP l n) W0
    (enters_of Try.func31 (by kernel_rfl) rfl) (by omega)
    (fun m os i hi => by
      obtain ⟨b, off, cap', e, _, _, hb, _, hc⟩ := hv0.at (by omega)
      rw [e] at ca
      exact (closure_any w.heap.size (w.heap.size + 1) b off cap' l n i _ hi (cell_grown (by show w.heap.size < _; omega) ca m os) (cell_grown (by show w.heap.size + 1 < _; omega) cx m os)
        (cell_grown (by show b < _; omega) (hc _ _ (ents_at0 l i hi)) m os)).mono fun e w' h => ⟨h.1, by obtain ⟨q, hq⟩ := h.2; exact ⟨q, #[], by rw [hq, Sort.grow_empty]⟩⟩)
    (fromP_mono hu n)
  change Calls Try.prog 30 _ _ _ at hS
  rw [fromP_count] at hS
  have hat := at_lo hu n
  have HA : Hid (∀ hk : (lo l n).length < l.length, (∃ i, findL l n = some i ∧ l[(lo l n).length] = (n, i)) ∨ (findL l n = none ∧ l[(lo l n).length].1 ≠ n)) := Lib.hid hat
  have hend := end_le hu n
  have hle := lo_len l n
  generalize (lo l n).length = a at *
  obtain ⟨M, hM⟩ : ∃ M, M = mid n (findL l n) := ⟨_, rfl⟩
  rw [← hM] at hend ⊢
  have HM := Lib.hid hM
  have HV := Lib.hid hv0
  clear hat hv hv0 hu hM
  obtain ⟨ao, cap, rfl, _, _⟩ := HV.out.form
  go_enter Try.func27, Try.ntmps27
  go_wp2_with (go_at_call 30; rw [← hW0]; refine hS.mono ?_)
  rintro e w1 ⟨rfl, q, os, rfl⟩
  have ca1 := cell_grown (by show w.heap.size < _; omega) ca q os
  have cx1 := cell_grown (by show w.heap.size + 1 < _; omega) cx q os
  have hg := below_grown_sl w.heap.size W0 q os (by omega)
  have hB1 := hB0.trans hg
  have HV1 := Lib.hid (HV.out.below hg)
  clear hS ca cx hg hW0 hB0
  generalize Go.Sort.grow (W0.drewN q) os = W1 at *
  by_cases hlt : a < l.length
  · obtain ⟨b, off, cap', e, _, _, hb, _, hc⟩ := HV1.out.at (by omega)
    injection e with e1 _ e2
    subst e1
    subst e2
    have hc0 := hc _ _ (ents_at0 l a hlt)
    have a0 : (0 : Int) ≤ (a : Int) := by omega
    have a1 : (a : Int) < (l.length : Int) := by omega
    have hI : decide (a < l.length) = true := by simpa using hlt
    rcases HA.out hlt with ⟨i, h1, h2⟩ | ⟨h1, h2⟩
    · have H1 : Hid (M.length = 1) := Lib.hid (by rw [HM.out, h1]; rfl)
      have hJ : ((l[a]).1 == n) = true := by rw [h2]; simp
      clear h1 h2 hc
      go_wp2_with fail
      go_quiet (fail)
      go_wp2_with fail
      go_ret2
      exact ⟨by rw [H1.out]; rfl, below_drewN hB1 _⟩
    · have H1 : Hid (M.length = 0) := Lib.hid (by rw [HM.out, h1]; rfl)
      have hJ := beq_list_false h2
      clear h1 h2 hc
      go_wp2_with fail
      go_quiet (fail)
      go_wp2_with fail
      go_ret2
      exact ⟨by rw [H1.out]; rfl, below_drewN hB1 _⟩
  · have H1 : Hid (M.length = 0) := Lib.hid (by omega)
    have hI : decide (a < l.length) = false := by simpa using hlt
    clear hlt
    go_wp2_with fail
    go_quiet (fail)
    go_wp2_with fail
    go_ret2
    exact ⟨by rw [H1.out]; rfl, below_drewN hB1 _⟩
end Go.Proofs.Ytbabkpaepijjeaa
