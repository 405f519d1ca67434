/-
  Plain facts on paths, byte by byte.
-/
import Derived.Test.YtajleipangnfbaaDoorRoutePlain
import Derived.Lib.Strings
namespace Go.Proofs.YtajleipangnfbaaDoor

theorem sp_none_part (l : List UInt8) (k : Nat) (hk : k < l.length) (h : l[k] ≠ 47) : sp k none (l.drop k) = sp (k + 1) (some k) (l.drop (k + 1)) := by
  rw [List.drop_eq_getElem_cons hk, sp, if_neg h]
theorem sp_some_slash (l : List UInt8) (s k : Nat) (hk : k < l.length) (h : l[k] = 47) : sp k (some s) (l.drop k) = (s, k) :: sp (k + 1) none (l.drop (k + 1)) := by
  rw [List.drop_eq_getElem_cons hk, sp, if_pos h]
theorem sp_some_part (l : List UInt8) (s k : Nat) (hk : k < l.length) (h : l[k] ≠ 47) : sp k (some s) (l.drop k) = sp (k + 1) (some s) (l.drop (k + 1)) := by
  rw [List.drop_eq_getElem_cons hk, sp, if_neg h]
theorem sp_some_end (l : List UInt8) (s : Nat) : sp l.length (some s) (l.drop l.length) = [(s, l.length)] := by simp [sp]

/-- The part that has begun, up to place k. -/
def partOf (l : List UInt8) (k : Nat) : Option Nat → List UInt8
  | none => []
  | some s => cutS l (s, k)
theorem partOf_len (l : List UInt8) (k : Nat) (st : Option Nat) : (partOf l k st).length ≤ k := by
  cases st with
  | none => simp [partOf]
  | some s => simp [partOf, cutS]; omega
theorem cutS_snoc (l : List UInt8) (s k : Nat) (hs : s ≤ k) (hk : k < l.length) : cutS l (s, k + 1) = cutS l (s, k) ++ [l[k]] := by
  unfold cutS
  simp only
  rw [List.take_succ_eq_append_getElem hk, List.drop_append_of_le_length (by simp; omega)]
theorem cutS_self (l : List UInt8) (k : Nat) : cutS l (k, k) = [] := by unfold cutS; simp
theorem cutS_ne (l : List UInt8) (s k : Nat) (hs : s < k) (hk : k ≤ l.length) : cutS l (s, k) ≠ [] := by
  unfold cutS; intro h
  have := congrArg List.length h
  simp at this; omega

/-- What the reference's loop holds ahead of place k: the parts that are closed, and where the open one began. -/
def RS (l : List UInt8) (k : Nat) (st : Option Nat) (xs : List (List UInt8)) : Prop :=
  xs ++ (sp k st (l.drop k)).map (cutS l) = parts l ∧ (∀ s, st = some s → s < k) ∧ (k = l.length → st = none) ∧ xs.length ≤ k

theorem RS_zero (l : List UInt8) : RS l 0 none [] := ⟨rfl, by simp, by simp, Nat.le_refl _⟩
theorem RS_end {l : List UInt8} {st : Option Nat} {xs : List (List UInt8)} (h : RS l l.length st xs) : xs = parts l := by
  obtain ⟨h1, _, h3, _⟩ := h
  rw [h3 rfl, sp_end] at h1; simpa using h1
theorem RS_skip {l : List UInt8} {k : Nat} {xs : List (List UInt8)} (h : RS l k none xs) (hk : k < l.length) (hc : l[k] = 47) : RS l (k + 1) none xs := by
  obtain ⟨h1, _, _, h4⟩ := h
  rw [sp_slash l k hk hc] at h1
  exact ⟨h1, by simp, by simp, by omega⟩
theorem RS_close {l : List UInt8} {k s : Nat} {xs : List (List UInt8)} (h : RS l k (some s) xs) (hk : k < l.length) (hc : l[k] = 47) : RS l (k + 1) none (xs ++ [partOf l k (some s)]) := by
  obtain ⟨h1, _, _, h4⟩ := h
  rw [sp_some_slash l s k hk hc] at h1
  exact ⟨by simpa [partOf] using h1, by simp, by simp, by simp; omega⟩
theorem RS_goon {l : List UInt8} {k : Nat} {st : Option Nat} {xs : List (List UInt8)} (h : RS l k st xs) (hk : k + 1 < l.length) (hc : l[k] ≠ 47) : RS l (k + 1) (some (st.getD k)) xs := by
  obtain ⟨h1, h2, _, h4⟩ := h
  refine ⟨?_, ?_, by omega, by omega⟩
  · rw [← h1]
    cases st with
    | none => rw [sp_none_part l k (by omega) hc]; rfl
    | some s => rw [sp_some_part l s k (by omega) hc]; rfl
  · intro s hs
    cases st with
    | none => simp at hs; omega
    | some s' => have := h2 s' rfl; simp at hs; omega
theorem RS_last {l : List UInt8} {k : Nat} {st : Option Nat} {xs : List (List UInt8)} (h : RS l k st xs) (hk : k < l.length) (hl : k + 1 = l.length) (hc : l[k] ≠ 47) : RS l (k + 1) none (xs ++ [partOf l (k + 1) (some (st.getD k))]) := by
  obtain ⟨h1, h2, _, h4⟩ := h
  refine ⟨?_, by simp, by simp, by simp; omega⟩
  rw [← h1]
  cases st with
  | none =>
    rw [sp_none_part l k hk hc, hl, sp_some_end, sp_end]; simp [partOf]
  | some s =>
    rw [sp_some_part l s k hk hc, hl, sp_some_end, sp_end]; simp [partOf]
theorem partOf_goon {l : List UInt8} {k : Nat} {st : Option Nat} (h2 : ∀ s, st = some s → s < k) (hk : k < l.length) : partOf l k st ++ [l[k]] = partOf l (k + 1) (some (st.getD k)) := by
  cases st with
  | none => simp only [partOf, Option.getD_none]; rw [cutS_snoc l k k (Nat.le_refl _) hk, cutS_self]
  | some s => simp only [partOf, Option.getD_some]; rw [cutS_snoc l s k (Nat.le_of_lt (h2 s rfl)) hk]

theorem pre_eq (l : List UInt8) : Lib.hasPrefix l [47] = match l with | [] => false | c :: _ => c == 47 := by
  cases l with
  | nil => rfl
  | cons c r =>
    unfold Lib.hasPrefix
    simp only [List.isPrefixOf, Bool.and_true]
    rw [Bool.eq_iff_iff, beq_iff_eq, beq_iff_eq]; exact eq_comm
theorem suf_eq (l : List UInt8) (h : l ≠ []) : Lib.hasSuffix l [47] = (l.getLast h == 47) := by
  unfold Lib.hasSuffix
  rw [Bool.eq_iff_iff, List.isSuffixOf_iff_suffix, beq_iff_eq]
  constructor
  · rintro ⟨t, ht⟩; subst ht; simp
  · intro e; exact ⟨l.dropLast, by rw [← e]; exact List.dropLast_concat_getLast h⟩
end Go.Proofs.YtajleipangnfbaaDoor
