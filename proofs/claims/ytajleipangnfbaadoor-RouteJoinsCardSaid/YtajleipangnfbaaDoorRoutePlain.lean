/-
  Plain facts on paths as lists of bytes: the spans of their parts, and the parts themselves.
-/
import Derived.Lib.TrimByte
import Derived.Lib.Bytealg
namespace Go.Proofs.YtajleipangnfbaaDoor

/-- The spans of the parts from place i on; st: where the part that has begun did begin. -/
def sp : Nat → Option Nat → List UInt8 → List (Nat × Nat)
  | _, none, [] => []
  | i, some s, [] => [(s, i)]
  | i, none, c :: r => if c = 47 then sp (i + 1) none r else sp (i + 1) (some i) r
  | i, some s, c :: r => if c = 47 then (s, i) :: sp (i + 1) none r else sp (i + 1) (some s) r

def spans (l : List UInt8) : List (Nat × Nat) := sp 0 none l
def cutS (l : List UInt8) (p : Nat × Nat) : List UInt8 := (l.take p.2).drop p.1
def parts (l : List UInt8) : List (List UInt8) := (spans l).map (cutS l)
def ups (l : List UInt8) : List (List UInt8) := (spans l).map fun p => l.take p.2

/-- Where the part that begins at k ends. -/
def pend (l : List UInt8) (k : Nat) : Nat := k + ((l.drop k).takeWhile (fun c => c != 47)).length

theorem pend_le (l : List UInt8) (k : Nat) (hk : k ≤ l.length) : pend l k ≤ l.length := by
  unfold pend
  have := (List.takeWhile_sublist (fun c : UInt8 => c != 47) (l := l.drop k)).length_le
  simp at this; omega
theorem pend_ge (l : List UInt8) (k : Nat) : k ≤ pend l k := by unfold pend; omega
theorem pend_gt (l : List UInt8) (k : Nat) (hk : k < l.length) (h : l[k] ≠ 47) : k < pend l k := by
  unfold pend
  rw [List.drop_eq_getElem_cons hk, List.takeWhile_cons, if_pos (by simpa using h)]
  simp

theorem indexByte_eq (l : List UInt8) (c : UInt8) : Lib.indexByte l c = if c ∈ l then ((l.takeWhile (fun x => x != c)).length : Int) else -1 := by
  induction l with
  | nil => simp [Lib.indexByte]
  | cons b r ih =>
    unfold Lib.indexByte
    by_cases hb : b = c
    · subst hb; simp
    · have hcb : c ≠ b := fun h => hb h.symm
      simp only [beq_iff_eq, hb, if_false, ih, List.mem_cons, hcb, false_or]
      by_cases hm : c ∈ r
      · simp only [hm, if_true]
        rw [if_neg (by omega)]
        simp [hb]
      · simp [hm]

theorem takeWhile_all (l : List UInt8) (c : UInt8) (h : c ∉ l) : l.takeWhile (fun x => x != c) = l := by
  induction l with
  | nil => rfl
  | cons b r ih =>
    simp only [List.mem_cons, not_or] at h
    have hb : b ≠ c := fun e => h.1 e.symm
    simp [hb, ih h.2]

/-- What partEnd reckons. -/
theorem pend_yes (l : List UInt8) (k : Nat) (h : (47 : UInt8) ∈ l.drop k) : (k : Int) + Lib.indexByte (l.drop k) 47 = pend l k := by
  rw [indexByte_eq, if_pos h]; unfold pend; simp
theorem pend_no (l : List UInt8) (k : Nat) (hk : k ≤ l.length) (h : (47 : UInt8) ∉ l.drop k) : (l.length : Int) = pend l k := by
  unfold pend; rw [takeWhile_all _ _ h]; simp; omega
theorem index_yes (l : List UInt8) (k : Nat) (h : (47 : UInt8) ∈ l.drop k) : 0 ≤ Lib.indexByte (l.drop k) 47 := by rw [indexByte_eq, if_pos h]; omega
theorem index_no (l : List UInt8) (k : Nat) (h : (47 : UInt8) ∉ l.drop k) : Lib.indexByte (l.drop k) 47 = -1 := by rw [indexByte_eq, if_neg h]

/-! ### The spans, from one place on -/
theorem sp_some (s : Nat) : ∀ (r : List UInt8) (i : Nat), sp i (some s) r = (s, i + (r.takeWhile (fun c => c != 47)).length) :: sp (i + (r.takeWhile (fun c => c != 47)).length) none (r.drop (r.takeWhile (fun c => c != 47)).length) := by
  intro r
  induction r with
  | nil => intro i; simp [sp]
  | cons c r ih =>
    intro i
    by_cases hc : c = 47
    · subst hc; simp [sp]
    · rw [sp, if_neg hc, ih]
      simp [hc]
      have e : i + 1 + (List.takeWhile (fun c => c != 47) r).length = i + ((List.takeWhile (fun c => c != 47) r).length + 1) := by omega
      rw [e]; exact ⟨rfl, rfl⟩

theorem sp_end (l : List UInt8) : sp l.length none (l.drop l.length) = [] := by simp [sp]
theorem sp_slash (l : List UInt8) (k : Nat) (hk : k < l.length) (h : l[k] = 47) : sp k none (l.drop k) = sp (k + 1) none (l.drop (k + 1)) := by
  rw [List.drop_eq_getElem_cons hk, sp, if_pos h]
theorem sp_part (l : List UInt8) (k : Nat) (hk : k < l.length) (h : l[k] ≠ 47) : sp k none (l.drop k) = (k, pend l k) :: sp (pend l k) none (l.drop (pend l k)) := by
  have e := sp_some k (l.drop k) k
  have e1 : sp k (some k) (l.drop k) = sp k none (l.drop k) := by
    rw [List.drop_eq_getElem_cons hk, sp, sp, if_neg h, if_neg h]
  rw [← e1, e]
  unfold pend
  rw [List.drop_drop]

theorem sp_bd : ∀ (r : List UInt8) (i : Nat) (st : Option Nat), (∀ s, st = some s → s < i) → ∀ p ∈ sp i st r, st.getD i ≤ p.1 ∧ p.1 < p.2 ∧ p.2 ≤ i + r.length := by
  intro r
  induction r with
  | nil =>
    intro i st hst p hp
    cases st with
    | none => simp [sp] at hp
    | some s => simp [sp] at hp; subst hp; have := hst s rfl; simp; omega
  | cons c r ih =>
    intro i st hst p hp
    cases st with
    | none =>
      rw [sp] at hp
      split at hp
      · have := ih (i + 1) none (by simp) p hp; simp at this ⊢; omega
      · have := ih (i + 1) (some i) (by simp) p hp; simp at this ⊢; omega
    | some s =>
      have hs := hst s rfl
      rw [sp] at hp
      split at hp
      · simp only [List.mem_cons] at hp
        rcases hp with rfl | hp
        · simp; omega
        · have := ih (i + 1) none (by simp) p hp; simp at this ⊢; omega
      · have := ih (i + 1) (some s) (by simp; omega) p hp; simp at this ⊢; omega
theorem spans_bd (l : List UInt8) (p : Nat × Nat) (h : p ∈ spans l) : p.1 < p.2 ∧ p.2 ≤ l.length := by
  have := sp_bd l 0 none (by simp) p h; simp at this; omega
theorem sp_len : ∀ (r : List UInt8) (i : Nat) (st : Option Nat), (sp i st r).length ≤ r.length + (if st = none then 0 else 1) := by
  intro r
  induction r with
  | nil => intro i st; cases st <;> simp [sp]
  | cons c r ih =>
    intro i st
    cases st with
    | none =>
      rw [sp]
      split
      · have := ih (i + 1) none; simp at this ⊢; omega
      · have := ih (i + 1) (some i); simp at this ⊢; omega
    | some s =>
      rw [sp]
      split
      · have := ih (i + 1) none; simp at this ⊢; omega
      · have := ih (i + 1) (some s); simp at this ⊢; omega
theorem spans_len (l : List UInt8) : (spans l).length ≤ l.length := by have := sp_len l 0 none; simpa [spans] using this
end Go.Proofs.YtajleipangnfbaaDoor
