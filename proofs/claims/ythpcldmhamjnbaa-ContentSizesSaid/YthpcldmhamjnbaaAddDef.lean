/-
  What Add does, plainly: its words and Set (the words of DskF, DskI, DskJ, AddPlain, ahead of them).
-/
import Derived.Test.YthpcldmhamjnbaaDskPlain
namespace Go.Proofs.Ythpcldmhamjnbaa

def setL (l : List NodeL) (i : Int) (n : NodeL) : List NodeL := if inL l i then l.set i.toNat n else l
def idxL : List NodeL → Nat → Int
  | [], _ => -1
  | n :: l, k => if n.kind = 0 then k else idxL l (k + 1)
def addNo (l : List NodeL) (most room : Int) (n : NodeL) : Bool := decide (most ≤ (usedL l : Int)) || decide (room < (bytesL l : Int) + (weightL n : Int))
def addI (l : List NodeL) (most room : Int) (n : NodeL) : Int := if addNo l most room n then 0 else if idxL l 0 < 0 then l.length else idxL l 0
def addE (l : List NodeL) (most room : Int) (n : NodeL) : Int := if addNo l most room n then 10 else 0
def addL (l : List NodeL) (most room : Int) (n : NodeL) : List NodeL := if addNo l most room n then l else if idxL l 0 < 0 then l ++ [n] else l.set (idxL l 0).toNat n
theorem idx_cases (l : List NodeL) (k : Nat) : (idxL l k = -1 ∧ ∀ i (h : i < l.length), l[i].kind ≠ 0) ∨ ∃ j, ∃ h : j < l.length, idxL l k = ((k + j : Nat) : Int) ∧ l[j].kind = 0 ∧ ∀ i (hi : i < j), (l[i]'(by omega)).kind ≠ 0 := by
  induction l generalizing k with
  | nil => exact .inl ⟨rfl, fun i h => by simp at h⟩
  | cons n l ih =>
    by_cases h0 : n.kind = 0
    · refine .inr ⟨0, by simp, ?_, h0, fun i hi => absurd hi (Nat.not_lt_zero _)⟩
      unfold idxL
      rw [if_pos h0]
      rfl
    · have e : idxL (n :: l) k = idxL l (k + 1) := by
        conv => lhs; unfold idxL
        rw [if_neg h0]
      rw [e]
      rcases ih (k + 1) with ⟨h1, h2⟩ | ⟨j, hj, h1, h2, h3⟩
      · refine .inl ⟨h1, fun i h => ?_⟩
        cases i with
        | zero => exact h0
        | succ i => exact h2 i (by simpa using h)
      · refine .inr ⟨j + 1, by simpa using hj, by rw [h1]; congr 1; omega, h2, fun i hi => ?_⟩
        cases i with
        | zero => exact h0
        | succ i => exact h3 i (by omega)
theorem used_set (l : List NodeL) (j : Nat) (h : j < l.length) (n : NodeL) (h0 : l[j].kind = 0) (hn : n.kind ≠ 0) : usedL (l.set j n) = usedL l + 1 := by
  unfold usedL
  induction l generalizing j with
  | nil => simp at h
  | cons a l ih =>
    cases j with
    | zero =>
      have h0 : a.kind = 0 := h0
      simp [h0, hn]
    | succ j =>
      have := ih j (by simpa using h) h0
      rw [List.set_cons_succ, List.countP_cons, List.countP_cons, this]
      omega
/-- Where Add puts n, and what else is so. -/
theorem add_facts (l : List NodeL) (most room : Int) (n : NodeL) (hn : n.kind ≠ 0) (hno : addNo l most room n = false) : ∃ p : Nat, p ≤ l.length ∧ addI l most room n = p ∧ addE l most room n = 0 ∧ (∀ q (h : q < l.length), q < p → l[q].kind ≠ 0) ∧ (∀ h : p < l.length, l[p].kind = 0)
    ∧ l.length ≤ (addL l most room n).length ∧ (∃ h : p < (addL l most room n).length, (addL l most room n)[p] = n) ∧ (∀ q (h : q < l.length) (h' : q < (addL l most room n).length), q ≠ p → (addL l most room n)[q] = l[q]) ∧ usedL (addL l most room n) = usedL l + 1 ∧ ∀ x ∈ addL l most room n, x ∈ l ∨ x = n := by
  unfold addI addE addL
  rw [hno]
  rcases idx_cases l 0 with ⟨h, hk⟩ | ⟨j, hj, h, hk, hb⟩
  · have hneg : idxL l 0 < 0 := by omega
    simp only [hneg, if_true, Bool.false_eq_true, if_false]
    refine ⟨l.length, Nat.le_refl _, rfl, trivial, fun q h _ => hk q h, fun h => absurd h (Nat.lt_irrefl _), by simp, ⟨by simp, by simp⟩, fun q h h' _ => List.getElem_append_left h, ?_, fun x hx => ?_⟩
    · unfold usedL
      rw [List.countP_append]
      simp [hn]
    · simpa using hx
  · rw [h, Nat.zero_add]
    have hneg : ¬ ((j : Nat) : Int) < 0 := by omega
    simp only [hneg, if_false, Bool.false_eq_true, Int.toNat_natCast]
    refine ⟨j, Nat.le_of_lt hj, rfl, trivial, fun q _ hq => hb q hq, fun _ => hk, by simp, ⟨by simpa using hj, by simp⟩, fun q _ _ hq => List.getElem_set_ne (Ne.symm hq) _, used_set l j hj n hk hn, fun x hx => List.mem_or_eq_of_mem_set hx⟩
end Go.Proofs.Ythpcldmhamjnbaa
