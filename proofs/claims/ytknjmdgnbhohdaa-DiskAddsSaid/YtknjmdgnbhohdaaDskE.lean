/-
  Both New.
-/
import Derived.Test.YtknjmdgnbhohdaaDskD
namespace Go.Proofs.Ytknjmdgnbhohdaa
open Go.RowKit Go.Shelf
attribute [local go_sem ↓] Go.wp_at_zero Go.wp_at_succ

def rootN (mode : Int) : NodeL := ⟨2, mode, 0, 1, 0, 0, [], []⟩
def newOk (most room mode : Int) : Bool := withinB most 1 100 && withinB room 0 1000 && withinB mode 0 63
def newL (most room mode : Int) : List NodeL := if newOk most room mode then [rootN mode] else []
def newI (most room mode x : Int) : Int := if newOk most room mode then x else 0
/-- What New tells. -/
def NewIs (most room mode : Int) (e : Ending) (W W' : World) : Prop :=
  ∃ v, e = .returned (.agg #[v, .int .i64 (newI most room mode most), .int .i64 (newI most room mode room)]) ∧ GivesN (newL most room mode) v W' ∧ Below W.heap.size W W'
theorem new_no {most room mode : Int} {w W : World} (h : newOk most room mode = false) (hb : Below w.heap.size w W) : NewIs most room mode (.returned (.agg #[.slice none 0 0, .int .i64 0, .int .i64 0])) w W :=
  ⟨_, by unfold newI; rw [h]; rfl, ⟨[], by unfold newL; rw [h]; rfl, Rd.none0 _ _ _, fun m hm => by cases hm⟩, hb⟩
theorem rd_block {B size n g : Nat} {W : World} {xs : List Value} {t : TypeId} {fr : Nat × Nat} (h : W.heap[g]? = some (.cells xs.toArray t fr)) (hl : xs.length = n * size) (hn : n ≤ maxLen) (hg : g < B) : Rd B size (.slice (some ⟨g, 0, none⟩) n n) n xs W := by
  refine ⟨_, _, rfl, Nat.le_refl _, hn, fun e => (by cases e), hl, fun _ => ⟨g, 0, rfl, hg, fun j u hu => ?_⟩⟩
  rw [Lib.cell_of_heap h, Nat.zero_add]
  simpa using hu
theorem rdm_one {B g : Nat} {W : World} {n : NodeL} {t : TypeId} {fr : Nat × Nat} (h : W.heap[g]? = some (.cells (ncells (n, .slice none 0 0)).toArray t fr)) (hn : n.names = []) (hg : g < B) : RdM B (.slice (some ⟨g, 0, none⟩) 1 1) [(n, .slice none 0 0)] W := by
  refine ⟨rd_block (n := 1) h rfl (by decide) hg, fun m hm => ?_⟩
  obtain rfl := List.mem_singleton.1 hm
  show Rd B 2 (.slice none 0 0) n.names.length (ents n.names) W
  rw [hn]
  exact Rd.none0 _ _ _
theorem new_yes {most room mode : Int} {w W : World} {g : Nat} {t : TypeId} {fr : Nat × Nat} (h : newOk most room mode = true) (hg : W.heap[g]? = some (.cells (ncells (rootN mode, .slice none 0 0)).toArray t fr)) (hlt : g < W.heap.size) (hb : Below w.heap.size w W) : NewIs most room mode (.returned (.agg #[.slice (some ⟨g, 0, none⟩) 1 1, .int .i64 most, .int .i64 room])) w W :=
  ⟨_, by unfold newI; rw [h]; rfl, ⟨_, by unfold newL; rw [h]; rfl, rdm_one hg rfl hlt⟩, hb⟩
set_option maxRecDepth 100000 in
set_option maxHeartbeats 1000000 in
theorem new_any (most room mode : Int) (w : World) : Calls Try.prog 12 #[.int .i64 most, .int .i64 room, .int .i64 mode] w fun e w' => NewIs most room mode e w w' := by
  have hret : ∀ (W : World) (cs : Array Value) (fr), W.heap[w.heap.size]? = some (.cells cs 24 fr) → cs.size = 3 → ∀ tmps : Array Value, tmps.getD 6 undef = .pointer (some ⟨w.heap.size, 0, none⟩) → (results Try.f12 tmps).run Try.prog W = .ok (.agg cs) W := fun W cs fr h hs tmps ht =>
    results_cell_row (p := 6) (ty := 24) rfl tmps W w.heap.size _ cs fr _ ht h Try.underlying24 rfl (by rw [hs]; kernel_rfl)
  cases h1 : withinB most 1 100 with
  | false =>
    have HF := Lib.hid (show newOk most room mode = false by unfold newOk; rw [h1]; rfl)
    have H1 := Lib.hid h1
    clear h1
    go_enter Try.func12, Try.ntmps12
    go_wp2_with fail
    refine (within_any _ _ _ _).mono ?_
    rintro e w1 ⟨rfl, rfl⟩
    rw [H1.out]
    go_wp2_with fail
    refine bodyPost_ret (hret _ _ _ (heap_alloc_new _ _) rfl _ rfl) rfl ?_
    exact new_no HF.out ((Below.refl _ w).alloc (Nat.le_refl _) _)
  | true =>
  cases h2 : withinB room 0 1000 with
  | false =>
    have HF := Lib.hid (show newOk most room mode = false by unfold newOk; rw [h1, h2]; rfl)
    have H1 := Lib.hid h1
    have H2 := Lib.hid h2
    clear h1 h2
    go_enter Try.func12, Try.ntmps12
    go_wp2_with fail
    refine (within_any _ _ _ _).mono ?_
    rintro e w1 ⟨rfl, rfl⟩
    rw [H1.out]
    go_wp2_with fail
    refine (within_any _ _ _ _).mono ?_
    rintro e w2 ⟨rfl, rfl⟩
    rw [H2.out]
    go_wp2_with fail
    refine bodyPost_ret (hret _ _ _ (heap_alloc_new _ _) rfl _ rfl) rfl ?_
    exact new_no HF.out ((Below.refl _ w).alloc (Nat.le_refl _) _)
  | true =>
  cases h3 : withinB mode 0 63 with
  | false =>
    have HF := Lib.hid (show newOk most room mode = false by unfold newOk; rw [h1, h2, h3]; rfl)
    have H1 := Lib.hid h1
    have H2 := Lib.hid h2
    have H3 := Lib.hid h3
    clear h1 h2 h3
    go_enter Try.func12, Try.ntmps12
    go_wp2_with fail
    refine (within_any _ _ _ _).mono ?_
    rintro e w1 ⟨rfl, rfl⟩
    rw [H1.out]
    go_wp2_with fail
    refine (within_any _ _ _ _).mono ?_
    rintro e w2 ⟨rfl, rfl⟩
    rw [H2.out]
    go_wp2_with fail
    refine (within_any _ _ _ _).mono ?_
    rintro e w3 ⟨rfl, rfl⟩
    rw [H3.out]
    go_wp2_with fail
    refine bodyPost_ret (hret _ _ _ (heap_alloc_new _ _) rfl _ rfl) rfl ?_
    exact new_no HF.out ((Below.refl _ w).alloc (Nat.le_refl _) _)
  | true =>
    have HF := Lib.hid (show newOk most room mode = true by unfold newOk; rw [h1, h2, h3]; rfl)
    have H1 := Lib.hid h1
    have H2 := Lib.hid h2
    have H3 := Lib.hid h3
    clear h1 h2 h3
    go_enter Try.func12, Try.ntmps12
    go_wp2_with fail
    refine (within_any _ _ _ _).mono ?_
    rintro e w1 ⟨rfl, rfl⟩
    rw [H1.out]
    go_wp2_with fail
    refine (within_any _ _ _ _).mono ?_
    rintro e w2 ⟨rfl, rfl⟩
    rw [H2.out]
    go_wp2_with fail
    refine (within_any _ _ _ _).mono ?_
    rintro e w3 ⟨rfl, rfl⟩
    rw [H3.out]
    go_wp2_with fail
    refine fresh2 (P := fun W => bodyPost _ _ _ _ _ W) ?_
    intro W0 hb0 hP hR hs0
    refine bodyPost_ret (hret _ _ _ hP rfl _ rfl) rfl ?_
    exact new_yes HF.out hR (by omega) hb0
theorem newOk_iff (most room mode : Int) : newOk most room mode = true ↔ ¬ most < 1 ∧ ¬ 100 < most ∧ ¬ room < 0 ∧ ¬ 1000 < room ∧ ¬ mode < 0 ∧ ¬ 63 < mode := by
  unfold newOk withinB
  simp only [Bool.and_eq_true, decide_eq_true_iff]
  omega
set_option maxRecDepth 100000 in
set_option maxHeartbeats 1000000 in
theorem rnew_any (most room mode : Int) (w : World) : Calls Try.prog 13 #[.int .i64 most, .int .i64 room, .int .i64 mode] w fun e w' => NewIs most room mode e w w' := by
  have hret : ∀ (W : World) (cs : Array Value) (fr), W.heap[w.heap.size]? = some (.cells cs 30 fr) → cs.size = 3 → ∀ tmps : Array Value, tmps.getD 6 undef = .pointer (some ⟨w.heap.size, 0, none⟩) → (results Try.f13 tmps).run Try.prog W = .ok (.agg cs) W := fun W cs fr h hs tmps ht =>
    results_cell_row (p := 6) (ty := 30) rfl tmps W w.heap.size _ cs fr _ ht h Try.underlying30 rfl (by rw [hs]; kernel_rfl)
  have hiff := newOk_iff most room mode
  by_cases h0 : most < 1
  case pos =>
    have hI : decide (most < 1) = true := by simpa using h0
    have HF : Hid (newOk most room mode = false) := Lib.hid (by
      cases hc : newOk most room mode with
      | false => rfl
      | true => have := hiff.1 hc; omega)
    clear hiff h0 
    go_enter Try.func13, Try.ntmps13
    go_wp2_with fail
    refine bodyPost_ret (hret _ _ _ (heap_alloc_new _ _) rfl _ rfl) rfl ?_
    exact new_no HF.out ((Below.refl _ w).alloc (Nat.le_refl _) _)
  have g0 : decide (most < 1) = false := by simpa using h0
  by_cases h1 : 100 < most
  case pos =>
    have hI : decide (100 < most) = true := by simpa using h1
    have HF : Hid (newOk most room mode = false) := Lib.hid (by
      cases hc : newOk most room mode with
      | false => rfl
      | true => have := hiff.1 hc; omega)
    clear hiff h1 h0
    go_enter Try.func13, Try.ntmps13
    go_wp2_with fail
    refine bodyPost_ret (hret _ _ _ (heap_alloc_new _ _) rfl _ rfl) rfl ?_
    exact new_no HF.out ((Below.refl _ w).alloc (Nat.le_refl _) _)
  have g1 : decide (100 < most) = false := by simpa using h1
  by_cases h2 : room < 0
  case pos =>
    have hI : decide (room < 0) = true := by simpa using h2
    have HF : Hid (newOk most room mode = false) := Lib.hid (by
      cases hc : newOk most room mode with
      | false => rfl
      | true => have := hiff.1 hc; omega)
    clear hiff h2 h0 h1
    go_enter Try.func13, Try.ntmps13
    go_wp2_with fail
    refine bodyPost_ret (hret _ _ _ (heap_alloc_new _ _) rfl _ rfl) rfl ?_
    exact new_no HF.out ((Below.refl _ w).alloc (Nat.le_refl _) _)
  have g2 : decide (room < 0) = false := by simpa using h2
  by_cases h3 : 1000 < room
  case pos =>
    have hI : decide (1000 < room) = true := by simpa using h3
    have HF : Hid (newOk most room mode = false) := Lib.hid (by
      cases hc : newOk most room mode with
      | false => rfl
      | true => have := hiff.1 hc; omega)
    clear hiff h3 h0 h1 h2
    go_enter Try.func13, Try.ntmps13
    go_wp2_with fail
    refine bodyPost_ret (hret _ _ _ (heap_alloc_new _ _) rfl _ rfl) rfl ?_
    exact new_no HF.out ((Below.refl _ w).alloc (Nat.le_refl _) _)
  have g3 : decide (1000 < room) = false := by simpa using h3
  by_cases h4 : mode < 0
  case pos =>
    have hI : decide (mode < 0) = true := by simpa using h4
    have HF : Hid (newOk most room mode = false) := Lib.hid (by
      cases hc : newOk most room mode with
      | false => rfl
      | true => have := hiff.1 hc; omega)
    clear hiff h4 h0 h1 h2 h3
    go_enter Try.func13, Try.ntmps13
    go_wp2_with fail
    refine bodyPost_ret (hret _ _ _ (heap_alloc_new _ _) rfl _ rfl) rfl ?_
    exact new_no HF.out ((Below.refl _ w).alloc (Nat.le_refl _) _)
  have g4 : decide (mode < 0) = false := by simpa using h4
  by_cases h5 : 63 < mode
  case pos =>
    have hI : decide (63 < mode) = true := by simpa using h5
    have HF : Hid (newOk most room mode = false) := Lib.hid (by
      cases hc : newOk most room mode with
      | false => rfl
      | true => have := hiff.1 hc; omega)
    clear hiff h5 h0 h1 h2 h3 h4
    go_enter Try.func13, Try.ntmps13
    go_wp2_with fail
    refine bodyPost_ret (hret _ _ _ (heap_alloc_new _ _) rfl _ rfl) rfl ?_
    exact new_no HF.out ((Below.refl _ w).alloc (Nat.le_refl _) _)
  have g5 : decide (63 < mode) = false := by simpa using h5
  have HF : Hid (newOk most room mode = true) := Lib.hid (hiff.2 ⟨h0, h1, h2, h3, h4, h5⟩)
  clear hiff h0 h1 h2 h3 h4 h5
  go_enter Try.func13, Try.ntmps13
  go_wp2_with fail
  refine fresh2 (P := fun W => bodyPost _ _ _ _ _ W) ?_
  intro W0 hb0 hP hR hs0
  refine bodyPost_ret (hret _ _ _ hP rfl _ rfl) rfl ?_
  exact new_yes HF.out hR (by omega) hb0
end Go.Proofs.Ytknjmdgnbhohdaa
