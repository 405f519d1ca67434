/-
  Options, plainly: what a spec says of a byte; what is taken of arguments.
-/
import Derived.Lib.Strings
import Derived.Lib.IndexMore
import Derived.Lib.IndexAny
import Derived.Lib.IndexLaws
namespace Go.Proofs.YtjgadmodhkdllaaDoor

def takesL : List UInt8 → UInt8 → Bool
  | a :: b :: r, c => (a == c && b == 58) || takesL (b :: r) c
  | _, _ => false
/-- 0: no letter; 1: one without a value; 2: one with a value. -/
def kindL (spec : List UInt8) (c : UInt8) : Int := if c = 58 ∨ spec.contains c = false then 0 else if takesL spec c then 2 else 1
abbrev FlagL := UInt8 × List UInt8

/-- The letters of one argument. -/
def lettersL (spec : List UInt8) : List UInt8 → List FlagL → List (List UInt8) → Except Int (List FlagL × List (List UInt8))
  | [], fl, rs => .ok (fl, rs)
  | c :: g, fl, rs =>
    if kindL spec c = 0 then .error 30
    else if kindL spec c = 1 then lettersL spec g (fl ++ [(c, [])]) rs
    else if g = [] then (match rs with | [] => .error 31 | r :: rs => .ok (fl ++ [(c, r)], rs))
    else .ok (fl ++ [(c, g)], rs)
/-- Is it an operand? -/
def operandL (a : List UInt8) : Bool := decide (a = [45]) || !Lib.hasPrefix a [45]
def optF (spec : List UInt8) : Nat → List FlagL → List (List UInt8) → Except Int (List FlagL × List (List UInt8))
  | 0, fl, rs => .ok (fl, rs)
  | _ + 1, fl, [] => .ok (fl, [])
  | n + 1, fl, a :: rs =>
    if operandL a then .ok (fl, a :: rs)
    else if a = [45, 45] then .ok (fl, rs)
    else match lettersL spec (a.drop 1) fl rs with
      | .error e => .error e
      | .ok (fl', rs') => optF spec n fl' rs'
def parseL (spec : List UInt8) (argv : List (List UInt8)) : Except Int (List FlagL × List (List UInt8)) := optF spec argv.length [] argv

theorem lettersL_len (spec : List UInt8) : ∀ g fl rs fl' rs', lettersL spec g fl rs = .ok (fl', rs') → rs'.length ≤ rs.length := by
  intro g
  induction g with
  | nil => intro fl rs fl' rs' h; simp [lettersL] at h; rw [h.2]; exact Nat.le_refl _
  | cons c g ih =>
    intro fl rs fl' rs' h
    unfold lettersL at h
    split at h
    · cases h
    · split at h
      · exact ih _ _ _ _ h
      · split at h
        · cases rs with
          | nil => cases h
          | cons r rs => simp at h; rw [← h.2]; simp
        · simp at h; rw [← h.2]; exact Nat.le_refl _
theorem optF_more (spec : List UInt8) : ∀ n fl rs, rs.length ≤ n → optF spec (n + 1) fl rs = optF spec n fl rs := by
  intro n
  induction n with
  | zero => intro fl rs h; obtain rfl : rs = [] := List.eq_nil_of_length_eq_zero (by omega); rfl
  | succ n ih =>
    intro fl rs h
    cases rs with
    | nil => rfl
    | cons a rs =>
      unfold optF
      split
      · rfl
      · split
        · rfl
        · cases hl : lettersL spec (a.drop 1) fl rs with
          | error e => rfl
          | ok p =>
            obtain ⟨fl', rs'⟩ := p
            have := lettersL_len _ _ _ _ _ _ hl
            exact ih _ _ (by simp at h; omega)
theorem optF_any (spec : List UInt8) (n m : Nat) (fl) (rs) (hn : rs.length ≤ n) (hm : rs.length ≤ m) : optF spec n fl rs = optF spec m fl rs := by
  have main : ∀ k n, rs.length ≤ n → optF spec (n + k) fl rs = optF spec n fl rs := by
    intro k
    induction k with
    | zero => intro n _; rfl
    | succ k ih => intro n h; rw [← Nat.add_assoc, optF_more _ _ _ _ (by omega), ih _ h]
  rw [← main m n hn, Nat.add_comm n m, main n m hm]
/-- What is taken of the rest. -/
def optL (spec : List UInt8) (fl : List FlagL) (rs : List (List UInt8)) : Except Int (List FlagL × List (List UInt8)) := optF spec rs.length fl rs
theorem optL_nil (spec) (fl) : optL spec fl [] = .ok (fl, []) := rfl
theorem optL_op (spec) (fl) (a) (rs) (h : operandL a = true) : optL spec fl (a :: rs) = .ok (fl, a :: rs) := by
  simp [optL, optF, h]
theorem optL_dashes (spec) (fl) (rs) : optL spec fl ([45, 45] :: rs) = .ok (fl, rs) := by
  have : operandL [45, 45] = false := by decide
  simp [optL, optF, this]
theorem optL_error (spec) (fl) (a) (rs) (e) (h : operandL a = false) (h2 : a ≠ [45, 45]) (h3 : lettersL spec (a.drop 1) fl rs = .error e) : optL spec fl (a :: rs) = .error e := by
  unfold optL
  rw [List.length_cons, optF, if_neg (by simp [h]), if_neg h2, h3]
theorem optL_ok (spec) (fl) (a) (rs) (fl') (rs') (h : operandL a = false) (h2 : a ≠ [45, 45]) (h3 : lettersL spec (a.drop 1) fl rs = .ok (fl', rs')) : optL spec fl (a :: rs) = optL spec fl' rs' := by
  unfold optL
  rw [List.length_cons, optF, if_neg (by simp [h]), if_neg h2, h3]
  exact optF_any _ _ _ _ _ (lettersL_len _ _ _ _ _ _ h3) (Nat.le_refl _)

theorem hasL_index (l : List UInt8) (c : UInt8) : decide (Lib.indexByte l c < 0) = !l.contains c := by
  have h := Lib.contains_iff_indexByte l c
  have h1 := Lib.indexByte_ge l c
  rw [h, Bool.eq_iff_iff]
  simp
theorem takesL_contains (l : List UInt8) (c : UInt8) : Lib.contains l [c, 58] = takesL l c := by
  unfold Lib.contains
  induction l with
  | nil => rfl
  | cons b l ih =>
    have hge := Lib.index_ge l [c, 58]
    cases l with
    | nil =>
      unfold Lib.index
      simp [List.isPrefixOf, takesL, Lib.index]
    | cons d r =>
      unfold takesL
      rw [← ih]
      rw [Lib.index]
      by_cases h : [c, 58].isPrefixOf (b :: d :: r) = true
      · rw [if_pos h]
        simp [List.isPrefixOf] at h
        simp [h]
      · rw [if_neg h]
        have h' : (b == c && d == 58) = false := by
          simp [List.isPrefixOf] at h
          cases hb : b == c
          · simp
          · simp at hb; subst hb; simp; exact fun e => h rfl e.symm
        rw [h', Bool.false_or]
        split
        · rename_i h2
          simp at h2
          rw [h2]
        · rename_i h2
          simp at h2
          rw [Bool.eq_iff_iff, decide_eq_true_iff, decide_eq_true_iff]
          omega

theorem lettersL_fl (spec : List UInt8) : ∀ g fl rs fl' rs', lettersL spec g fl rs = .ok (fl', rs') → fl'.length ≤ fl.length + g.length ∧ ∀ a ∈ rs', a ∈ rs := by
  intro g
  induction g with
  | nil => intro fl rs fl' rs' h; simp [lettersL] at h; rw [← h.1, ← h.2]; exact ⟨by simp, fun a h => h⟩
  | cons c g ih =>
    intro fl rs fl' rs' h
    unfold lettersL at h
    split at h
    · cases h
    · split at h
      · have := ih _ _ _ _ h
        exact ⟨by have h1 := this.1; simp at h1 ⊢; omega, this.2⟩
      · split at h
        · cases rs with
          | nil => cases h
          | cons r rs =>
            simp at h
            rw [← h.1, ← h.2]
            exact ⟨by simp, fun a h => by simp [h]⟩
        · simp at h
          rw [← h.1, ← h.2]
          exact ⟨by simp, fun a h => h⟩
theorem optF_bound (spec : List UInt8) : ∀ n fl rs fl' rs', (∀ a ∈ rs, a.length ≤ 65000) → optF spec n fl rs = .ok (fl', rs') → fl'.length ≤ fl.length + 65000 * rs.length ∧ rs'.length ≤ rs.length ∧ ∀ a ∈ rs', a ∈ rs := by
  intro n
  induction n with
  | zero => intro fl rs fl' rs' _ h; simp [optF] at h; rw [← h.1, ← h.2]; exact ⟨by omega, Nat.le_refl _, fun a h => h⟩
  | succ n ih =>
    intro fl rs fl' rs' ha h
    cases rs with
    | nil => simp [optF] at h; rw [← h.1, ← h.2]; exact ⟨by omega, Nat.le_refl _, fun a h => h⟩
    | cons a rs =>
      unfold optF at h
      split at h
      · simp at h; rw [← h.1, ← h.2]; exact ⟨by simp, Nat.le_refl _, fun a h => h⟩
      · split at h
        · simp at h; rw [← h.1, ← h.2]; exact ⟨by simp, by simp, fun a h => by simp [h]⟩
        · cases hl : lettersL spec (a.drop 1) fl rs with
          | error e => rw [hl] at h; cases h
          | ok p =>
            obtain ⟨fl1, rs1⟩ := p
            rw [hl] at h
            have h1 := lettersL_fl _ _ _ _ _ _ hl
            have h2 := lettersL_len _ _ _ _ _ _ hl
            have h3 := ih _ _ _ _ (fun x hx => ha x (by simp [h1.2 x hx])) h
            have h4 := ha a (by simp)
            have h5 := h1.1
            rw [List.length_drop] at h5
            refine ⟨?_, ?_, fun x hx => by simp [h1.2 x (h3.2.2 x hx)]⟩
            · simp; omega
            · simp; omega
theorem parseL_bound (spec : List UInt8) (argv) (fl') (rs') (ha : ∀ a ∈ argv, a.length ≤ 65000) (h : parseL spec argv = .ok (fl', rs')) : fl'.length ≤ 65000 * argv.length ∧ rs'.length ≤ argv.length ∧ ∀ a ∈ rs', a ∈ argv := by
  have := optF_bound spec _ _ _ _ _ ha h
  simpa using this
end Go.Proofs.YtjgadmodhkdllaaDoor
