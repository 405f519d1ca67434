/-
  The document's Same; both New.
  Both New.
  slices.Clone of entries and of nodes; the program's own, Set.
-/
import Derived.Test.YtckbhkchnhhecaaDoorDskC
import Derived.Laws.IdiomCopy
import Derived.Lib.SliceRun
namespace Go.Proofs.YtckbhkchnhhecaaDoor
open Go.RowKit Go.Shelf
attribute [local go_sem ↓] Go.wp_at_zero Go.wp_at_succ

def sameD (a b : List NodeL) (m1 r1 m2 r2 : Int) : Bool := decide (m1 = m2 ∧ r1 = r2 ∧ a = b)
end Go.Proofs.YtckbhkchnhhecaaDoor
namespace Go.Proofs.YtckbhkchnhhecaaDoor
open Go.RowKit Go.Shelf
attribute [local go_sem ↓] Go.wp_at_zero Go.wp_at_succ

def rootN (mode : Int) : NodeL := ⟨2, mode, 0, 1, 0, 0, [], []⟩
def newOk (most room mode : Int) : Bool := withinB most 1 100 && withinB room 0 1000 && withinB mode 0 63
def newL (most room mode : Int) : List NodeL := if newOk most room mode then [rootN mode] else []
def newI (most room mode x : Int) : Int := if newOk most room mode then x else 0
/-- What New tells. -/
def NewIs (most room mode : Int) (e : Ending) (W W' : World) : Prop :=
  ∃ v, e = .returned (.agg #[v, .int .i64 (newI most room mode most), .int .i64 (newI most room mode room)]) ∧ GivesN (newL most room mode) v W' ∧ Below W.heap.size W W'
theorem new_no {most room mode : Int} {w W : World} (h : newOk most room mode = false) (hb : Below w.heap.size w W) : NewIs most room mode (.returned (.agg #[.slice none 0 0, .int .i64 0, .int .i64 0])) w W :=
  ⟨_, by unfold newI; rw [h]; rfl, ⟨[], by unfold newL; rw [h]; rfl, Rd.none0 _ _ _, fun m hm => by cases hm⟩, hb⟩
theorem rd_block {B size n g : Nat} {W : World} {xs : List Value} {t : TypeId} {fr : Nat × Nat} (h : W.heap[g]? = some (.cells xs.toArray t fr)) (hl : xs.length = n * size) (hn : n ≤ maxLen) (hg : g < B) : Rd B size (.slice (some ⟨g, 0, none⟩) n n) n xs W := by
  refine ⟨_, _, rfl, Nat.le_refl _, hn, fun e => (by cases e), hl, fun _ => ⟨g, 0, rfl, hg, fun j u hu => ?_⟩⟩
  rw [Lib.cell_of_heap h, Nat.zero_add]
  simpa using hu
theorem rdm_one {B g : Nat} {W : World} {n : NodeL} {t : TypeId} {fr : Nat × Nat} (h : W.heap[g]? = some (.cells (ncells (n, .slice none 0 0)).toArray t fr)) (hn : n.names = []) (hg : g < B) : RdM B (.slice (some ⟨g, 0, none⟩) 1 1) [(n, .slice none 0 0)] W := by
  refine ⟨rd_block (n := 1) h rfl (by decide) hg, fun m hm => ?_⟩
  obtain rfl := List.mem_singleton.1 hm
  show Rd B 2 (.slice none 0 0) n.names.length (ents n.names) W
  rw [hn]
  exact Rd.none0 _ _ _
theorem new_yes {most room mode : Int} {w W : World} {g : Nat} {t : TypeId} {fr : Nat × Nat} (h : newOk most room mode = true) (hg : W.heap[g]? = some (.cells (ncells (rootN mode, .slice none 0 0)).toArray t fr)) (hlt : g < W.heap.size) (hb : Below w.heap.size w W) : NewIs most room mode (.returned (.agg #[.slice (some ⟨g, 0, none⟩) 1 1, .int .i64 most, .int .i64 room])) w W :=
  ⟨_, by unfold newI; rw [h]; rfl, ⟨_, by unfold newL; rw [h]; rfl, rdm_one hg rfl hlt⟩, hb⟩
theorem newOk_iff (most room mode : Int) : newOk most room mode = true ↔ ¬ most < 1 ∧ ¬ 100 < most ∧ ¬ room < 0 ∧ ¬ 1000 < room ∧ ¬ mode < 0 ∧ ¬ 63 < mode := by
  unfold newOk withinB
  simp only [Bool.and_eq_true, decide_eq_true_iff]
  omega
end Go.Proofs.YtckbhkchnhhecaaDoor
namespace Go.Proofs.YtckbhkchnhhecaaDoor
open Go.RowKit Go.Shelf
attribute [local go_sem ↓] Go.wp_at_zero Go.wp_at_succ

theorem infoNode : (Tryd.prog.info? 48).map (fun i => (i.zero, i.size, i.bytes)) = some (some (.agg #[.int .i64 0, .int .i64 0, .int .i64 0, .int .i64 0, .int .i64 0, .int .i64 0, .string ⟨#[]⟩, .slice none 0 0]), 8, 88) := by kernel_rfl
set_option maxRecDepth 100000 in
set_option maxHeartbeats 1000000 in
theorem clone_ents (v : Value) (l : List EntL) (w : World) (hv : Rd w.heap.size 2 v l.length (ents l) w) (hl : l.length ≤ 10000) :
    Calls Tryd.prog 73 #[v] w fun e w' => ∃ v', e = .returned v' ∧ w'.ownsRow w.heap.size 57 2 v' l.length (ents l) ∧ Below w.heap.size w w' := by
  obtain ⟨i0, hi, hz0, hz1, hz2⟩ := info_parts infoEnt
  have qq : ∀ (w : World) (a : Option Addr) (n c n' c' : Nat), (binOp .eql 46 (.slice a n c) (.slice none n' c')).run Tryd.prog w = .ok (.bool a.isNone) w := fun w a n c n' c' => Lib.run_eql_slice_nil w _ _ a n c n' c' Tryd.underlying46
  obtain ⟨ao, cap, rfl, hc, hm, h0, hlen, _⟩ := id hv
  cases ao with
  | none =>
    obtain rfl := h0 rfl
    have hl0 : l = [] := List.eq_nil_of_length_eq_zero (by omega)
    subst hl0
    go_enter Tryd.func73, Tryd.ntmps73
    go_wp2_with fail
    go_ret
    exact ⟨_, rfl, World.ownsRow_nil _ _ _ _, Below.refl _ _⟩
  | some a =>
    have hba : Below w.heap.size w (w.alloc (.cells #[] 57)) := (Below.refl _ w).alloc (Nat.le_refl _) _
    have HV := Lib.hid (hv.below hba)
    clear hv
    go_enter Tryd.func73, Tryd.ntmps73
    go_wp2_with (at_builtin; go_loud (refine wpList_append_rd rfl (.tmp 5) (.tmp 6) 46 rfl w.heap.size 57 i0 _ 2 24 Tryd.underlying46 hi hz0 hz1 hz2 rfl (by decide) _ 0 [] rfl (World.ownsRow_lit (size := 2) w #[] 0 (Nat.le_refl _) (Nat.zero_le _) rfl) w.heap.size _ l.length (ents l) rfl HV.out (ents_one _) (by unfold maxLen; omega) (by omega) (by simp) ?_))
    intro v3 w3 ho3 hgr3
    have hB3 : Below w.heap.size w w3 := hba.grown hgr3 (by simp) (fun j ej => by simp [Value.ownBlock] at ej; omega)
    go_wp2_with fail
    go_ret
    exact ⟨_, rfl, ho3, hB3⟩
set_option maxRecDepth 100000 in
set_option maxHeartbeats 1000000 in
theorem own_any (n : NodeL) (v : Value) (w : World) (hv : RdNm w.heap.size (n, v) w) (hl : n.names.length ≤ 10000) :
    Calls Tryd.prog 61 #[nval n v] w fun e w' => ∃ v', e = .returned (nval n v') ∧ w'.ownsRow w.heap.size 57 2 v' n.names.length (ents n.names) ∧ Below w.heap.size w w' := by
  obtain ⟨ao, cap, e, _, _⟩ := Rd.form hv
  have e' : v = .slice ao n.names.length cap := e
  subst e'
  have HV : Hid (Rd w.heap.size 2 (.slice ao n.names.length cap) n.names.length (ents n.names) w) := Lib.hid hv
  clear hv e
  go_enter Tryd.func61, Tryd.ntmps61
  go_wp2_with fail
  refine fresh2 (P := fun W => Calls _ _ _ W _) ?_
  intro W0 hb0 hP hR hs0
  refine (clone_ents (.slice ao n.names.length cap) n.names W0 (rd_keep HV.out hb0) hl).mono ?_
  rintro e W1 ⟨v1, rfl, ho1, hb1⟩
  have hP1 := (hb1.block _ (by omega)).trans hP
  have hR1 := (hb1.block _ (by omega)).trans hR
  have hB1 := ret_tr hb0 hb1
  obtain ⟨ao1, cap1, rfl⟩ := own_form ho1
  obtain ⟨p0, p1, p2, p3, p4, p5, p6, p7⟩ := cells8 hP1
  obtain ⟨q0, q1, q2, q3, q4, q5, q6, q7⟩ := cells8 hR1
  have pf := fun j => Lib.frozen_of_heap hP1 j
  have rf := fun j => Lib.frozen_of_heap hR1 j
  clear hb0 hP hR hb1
  go_wp2_with fail
  have hRs := (Below.heap_setCell W1 ⟨w.heap.size, 7, none⟩ (.slice ao1 n.names.length cap1) (w.heap.size + 1) (by show w.heap.size + 1 ≠ w.heap.size; omega)).trans hR1
  have ho2 := ownsRow_set (b := w.heap.size) (i := 7) (u := .slice ao1 n.names.length cap1) ho1 (by omega)
  have hB2 := hB1.setCell (p := ⟨w.heap.size, 7, none⟩) (Nat.le_refl _) (.slice ao1 n.names.length cap1)
  refine sets8 (P := fun W => bodyPost _ _ _ _ _ W) hRs ?_
  intro W3 hb3 hg3 hs3 hR3
  refine bodyPost_ret (results_cell_row (p := 2) (ty := 48) rfl _ W3 (w.heap.size + 1) _ _ _ _ rfl hR3 Tryd.underlying48 rfl (by kernel_rfl)) rfl ?_
  exact ⟨_, rfl, own_mono (ownsRow_other ho2 fun g hg => hg3 g (by omega)) (by omega), hB2.trans (hb3.mono (by omega))⟩
/-- A disk's nodes, one of them other. -/
def setL (l : List NodeL) (i : Int) (n : NodeL) : List NodeL := if inL l i then l.set i.toNat n else l
theorem setM (B : Nat) {g cap : Nat} {ms : List NodeM} {m : NodeM} {k : Nat} {W : World} (h : RdM B (.slice (some ⟨g, 0, none⟩) ms.length cap) ms W) (hk : k < ms.length) (hm : RdNm B m W) (hf : ∀ x ∈ ms, ∀ a n c, x.2 = .slice (some a) n c → 0 < n → a.block ≠ g) (hmf : ∀ a n c, m.2 = .slice (some a) n c → 0 < n → a.block ≠ g) :
    RdM B (.slice (some ⟨g, 0, none⟩) ms.length cap) (ms.set k m) (W.setCells g (k * 8) (ncells m)) := by
  have other : ∀ (x : NodeM), RdNm B x W → (∀ a n c, x.2 = .slice (some a) n c → 0 < n → a.block ≠ g) → RdNm B x (W.setCells g (k * 8) (ncells m)) := by
    intro x hx hne
    obtain ⟨ao, cp, e, hc, hm, hz, hl, h⟩ := id hx
    refine ⟨ao, cp, e, hc, hm, hz, hl, fun hn => ?_⟩
    obtain ⟨b, off, e2, hlt, hcc⟩ := h hn
    refine ⟨b, off, e2, hlt, fun j u hu => ?_⟩
    rw [World.cell?_setCells_out]
    · exact hcc j u hu
    · intro e3
      exact absurd e3 (hne ⟨b, off, none⟩ _ _ (by rw [e, e2]) hn)
  refine ⟨?_, fun x hx => ?_⟩
  · obtain ⟨ao, cp, e, hc, hm, hz, hl, h⟩ := id h.1
    rw [List.length_set]
    refine ⟨ao, cp, e, hc, hm, hz, by rw [cellsN_len, List.length_set], fun hn => ?_⟩
    obtain ⟨b, off, e2, hlt, hcc⟩ := h hn
    subst e2
    injection e with e3 _ _
    injection e3 with e3
    injection e3 with e3 e4 _
    subst e3 e4
    refine ⟨_, _, rfl, hlt, fun j u hu => ?_⟩
    rw [cellsN_set ms k hk] at hu
    have hc8 : (ncells m).length = 8 := rfl
    split at hu
    · rename_i hj
      have hj2 : j - k * 8 < (ncells m).length := by omega
      have hi := World.cell?_setCells_in g (ncells m) (k * 8) W (fun r hr => by
        have h1 : (cellsN ms)[k * 8 + r]? = some ((cellsN ms)[k * 8 + r]'(by rw [cellsN_len]; omega)) := List.getElem?_eq_getElem _
        have := hcc (k * 8 + r) _ h1
        rw [Nat.zero_add] at this
        rw [this]
        rfl) (j - k * 8) hj2
      rw [Nat.zero_add]
      rw [show k * 8 + (j - k * 8) = j by omega] at hi
      rw [hi, ← hu, List.getElem?_eq_getElem hj2]
    · rename_i hj
      rw [World.cell?_setCells_out]
      · exact hcc j u hu
      · intro _ _
        show 0 + j < k * 8 ∨ k * 8 + (ncells m).length ≤ 0 + j
        omega
  · rcases List.mem_or_eq_of_mem_set hx with hx | rfl
    · exact other x (h.2 x hx) (hf x hx)
    · exact other _ hm hmf
/-- A slice that has no element in block g. -/
def Avoid (g : Nat) (v : Value) : Prop := ∀ a n' c, v = .slice (some a) n' c → 0 < n' → a.block ≠ g
def AvoidM (g : Nat) (v : Value) (ms : List NodeM) : Prop := Avoid g v ∧ ∀ x ∈ ms, Avoid g x.2
theorem rd_far {B size n g : Nat} {v : Value} {xs : List Value} {W : World} (h : Rd B size v n xs W) (hg : B ≤ g) : ∀ a n' c, v = .slice (some a) n' c → 0 < n' → a.block ≠ g := by
  rintro a n' c rfl hn
  obtain ⟨ao, cp, e, _, _, _, _, h⟩ := h
  injection e with e1 e2 _
  obtain ⟨b, off, e3, hlt, _⟩ := h (by omega)
  rw [← e1] at e3
  injection e3 with e3
  subst e3
  show b ≠ g
  omega
theorem own_far {W : World} {base g : Nat} {e : TypeId} {size n : Nat} {v : Value} {xs : List Value} (h : W.ownsRow base e size v n xs) (hg : g < base) : ∀ a n' c, v = .slice (some a) n' c → 0 < n' → a.block ≠ g := by
  rintro a n' c rfl _
  have := (h.lt a.block rfl).1
  omega
theorem heap_setCells (b k : Nat) (hk : k ≠ b) : ∀ (vs : List Value) (o : Nat) (W : World), (W.setCells b o vs).heap[k]? = W.heap[k]?
  | [], _, _ => rfl
  | v :: r, o, W => by rw [World.setCells, heap_setCells b k hk r (o + 1), Below.heap_setCell _ _ _ k hk]
theorem size_setCells (b : Nat) : ∀ (vs : List Value) (o : Nat) (W : World), (W.setCells b o vs).heap.size = W.heap.size
  | [], _, _ => rfl
  | v :: r, o, W => by rw [World.setCells, size_setCells b r (o + 1)]; simp
theorem below_setCells (B b : Nat) (hB : B ≤ b) : ∀ (vs : List Value) (o : Nat) (W : World), Below B W (W.setCells b o vs)
  | [], _, W => Below.refl _ _
  | v :: r, o, W => by
    rw [World.setCells]
    exact ((Below.refl B W).setCell (p := ⟨b, o, none⟩) hB v).trans (below_setCells B b hB r (o + 1) _)
theorem sets8o {P : World → Prop} {W : World} {g o : Nat} {u0 u1 u2 u3 u4 u5 u6 u7 : Value} (h : ∀ W', W' = W.setCells g o [u0, u1, u2, u3, u4, u5, u6, u7] → P W') :
    P ((((((((W.setCell ⟨g, o, none⟩ u0).setCell ⟨g, o + 1, none⟩ u1).setCell ⟨g, o + 2, none⟩ u2).setCell ⟨g, o + 3, none⟩ u3).setCell ⟨g, o + 4, none⟩ u4).setCell ⟨g, o + 5, none⟩ u5).setCell ⟨g, o + 6, none⟩ u6).setCell ⟨g, o + 7, none⟩ u7) := h _ rfl
theorem rd_other {B size n g : Nat} {v : Value} {xs : List Value} {W W' : World} (h : Rd B size v n xs W) (hf : ∀ a n' c, v = .slice (some a) n' c → 0 < n' → a.block ≠ g) (hg : ∀ k, k ≠ g → W'.heap[k]? = W.heap[k]?) : Rd B size v n xs W' := by
  obtain ⟨ao, cp, e, hc, hm, hz, hl, h⟩ := id h
  refine ⟨ao, cp, e, hc, hm, hz, hl, fun hn => ?_⟩
  obtain ⟨b, off, e2, hlt, hcc⟩ := h hn
  refine ⟨b, off, e2, hlt, fun j u hu => ?_⟩
  rw [World.cell?_of_block (a := ⟨b, off + j, none⟩) (hg b (hf ⟨b, off, none⟩ _ _ (by rw [e, e2]) hn))]
  exact hcc j u hu
theorem rdm_other {B g : Nat} {v : Value} {ms : List NodeM} {W W' : World} (h : RdM B v ms W) (hf : ∀ a n' c, v = .slice (some a) n' c → 0 < n' → a.block ≠ g) (hfm : ∀ x ∈ ms, ∀ a n' c, x.2 = .slice (some a) n' c → 0 < n' → a.block ≠ g) (hg : ∀ k, k ≠ g → W'.heap[k]? = W.heap[k]?) : RdM B v ms W' :=
  ⟨rd_other h.1 hf hg, fun m hm => rd_other (h.2 m hm) (hfm m hm) hg⟩
/-- The cells that Set reads. -/
def SetK (b : Nat) (u0 c0 c1 c2 c3 c4 c5 c6 c7 : Value) (W : World) : Prop :=
  b + 1 < W.heap.size ∧ W.cell? ⟨b, 0, none⟩ = some u0 ∧ W.cell? ⟨b + 1, 0, none⟩ = some c0 ∧ W.cell? ⟨b + 1, 1, none⟩ = some c1 ∧ W.cell? ⟨b + 1, 2, none⟩ = some c2 ∧ W.cell? ⟨b + 1, 3, none⟩ = some c3 ∧ W.cell? ⟨b + 1, 4, none⟩ = some c4 ∧ W.cell? ⟨b + 1, 5, none⟩ = some c5 ∧ W.cell? ⟨b + 1, 6, none⟩ = some c6 ∧ W.cell? ⟨b + 1, 7, none⟩ = some c7
theorem SetK.keep {b : Nat} {u0 c0 c1 c2 c3 c4 c5 c6 c7 : Value} {W W' : World} (h : SetK b u0 c0 c1 c2 c3 c4 c5 c6 c7 W) (hb : Below W.heap.size W W') : SetK b u0 c0 c1 c2 c3 c4 c5 c6 c7 W' := by
  obtain ⟨h, g0, g1, g2, g3, g4, g5, g6, g7, g8⟩ := h
  have := hb.size
  refine ⟨by omega, (hb.cell (by show b < _; omega)).trans g0, (hb.cell h).trans g1, (hb.cell h).trans g2, (hb.cell h).trans g3, (hb.cell h).trans g4, (hb.cell h).trans g5, (hb.cell h).trans g6, (hb.cell h).trans g7, (hb.cell h).trans g8⟩
theorem SetK.cells {b : Nat} {u0 c0 c1 c2 c3 c4 c5 c6 c7 : Value} {W : World} (h : SetK b u0 c0 c1 c2 c3 c4 c5 c6 c7 W) : W.cell? ⟨b, 0, none⟩ = some u0 ∧ W.cell? ⟨b + 1, 0, none⟩ = some c0 ∧ W.cell? ⟨b + 1, 1, none⟩ = some c1 ∧ W.cell? ⟨b + 1, 2, none⟩ = some c2 ∧ W.cell? ⟨b + 1, 3, none⟩ = some c3 ∧ W.cell? ⟨b + 1, 4, none⟩ = some c4 ∧ W.cell? ⟨b + 1, 5, none⟩ = some c5 ∧ W.cell? ⟨b + 1, 6, none⟩ = some c6 ∧ W.cell? ⟨b + 1, 7, none⟩ = some c7 := h.2
theorem SetK.of {b : Nat} {u0 u1 u2 c0 c1 c2 c3 c4 c5 c6 c7 : Value} {t t' : TypeId} {W : World} (h : W.heap[b]? = some (.cells #[u0, u1, u2] t (0, 0))) (h' : W.heap[b + 1]? = some (.cells #[c0, c1, c2, c3, c4, c5, c6, c7] t' (0, 0))) : SetK b u0 c0 c1 c2 c3 c4 c5 c6 c7 W :=
  ⟨(Array.getElem?_eq_some_iff.1 h').1, (cells3 h).1, cells8 h'⟩
theorem eight0 {B g cap : Nat} {ms : List NodeM} {W : World} (h : Rd B 8 (.slice (some ⟨g, 0, none⟩) ms.length cap) ms.length (cellsN ms) W) (k : Nat) (hk : k < ms.length) :
    W.cell? ⟨g, k * 8, none⟩ = some (.int .i64 ms[k].1.kind) ∧ W.cell? ⟨g, k * 8 + 1, none⟩ = some (.int .i64 ms[k].1.mode) ∧ W.cell? ⟨g, k * 8 + 2, none⟩ = some (.int .i64 ms[k].1.owner) ∧ W.cell? ⟨g, k * 8 + 3, none⟩ = some (.int .i64 ms[k].1.links)
    ∧ W.cell? ⟨g, k * 8 + 4, none⟩ = some (.int .i64 ms[k].1.opn) ∧ W.cell? ⟨g, k * 8 + 5, none⟩ = some (.int .i64 ms[k].1.up) ∧ W.cell? ⟨g, k * 8 + 6, none⟩ = some (.string (bs ms[k].1.data)) ∧ W.cell? ⟨g, k * 8 + 7, none⟩ = some ms[k].2 := by
  obtain ⟨b, off, cap', e, _, _, _, _, hc⟩ := h.at (by omega)
  injection e with e1 _ _
  injection e1 with e1
  injection e1 with e1 e2 _
  subst e1 e2
  have := eight hc k hk
  simpa using this
theorem pl_set (ms : List NodeM) (k : Nat) (m : NodeM) : pl (ms.set k m) = (pl ms).set k m.1 := by simp [pl, List.map_set]
/-- What Set tells. -/
def SetIs (v : Value) (ms : List NodeM) (most room i : Int) (n : NodeL) (e : Ending) (w w' : World) : Prop :=
  ∃ v' ms', e = .returned (.agg #[v', .int .i64 most, .int .i64 room]) ∧ pl ms' = setL (pl ms) i n ∧ RdM w'.heap.size v' ms' w' ∧ Below w.heap.size w w' ∧ ∀ g, g < w.heap.size → AvoidM g v ms → AvoidM g v' ms'
end Go.Proofs.YtckbhkchnhhecaaDoor
