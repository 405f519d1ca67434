/-
  Plain facts on the last part of a path.
-/
import Derived.Test.YtajleipangnfbaaDoorRefPlain
import Derived.Lib.TrimByte
namespace Go.Proofs.YtajleipangnfbaaDoor

/-- What is known of a span of a part: it holds no slash, and a slash, or nothing, is ahead of it. -/
def PartAt (l : List UInt8) (x y : Nat) : Prop := x < y ∧ y ≤ l.length ∧ (x = 0 ∨ l[x - 1]? = some 47) ∧ ∀ j, x ≤ j → j < y → l[j]? ≠ some 47
def AllSlash (l : List UInt8) (y : Nat) : Prop := ∀ j, y ≤ j → j < l.length → l[j]? = some 47

theorem sp_last (l : List UInt8) : ∀ (n i : Nat) (st : Option Nat), l.length - i = n → i ≤ l.length → (st = none → i = 0 ∨ l[i - 1]? = some 47) →
    (∀ s, st = some s → s < i ∧ (s = 0 ∨ l[s - 1]? = some 47) ∧ ∀ j, s ≤ j → j < i → l[j]? ≠ some 47) →
    (sp i st (l.drop i) = [] → AllSlash l i) ∧ (∀ p, (sp i st (l.drop i)).getLast? = some p → PartAt l p.1 p.2 ∧ AllSlash l p.2) := by
  intro n
  induction n with
  | zero =>
    intro i st hn hi h1 h2
    obtain rfl : i = l.length := by omega
    cases st with
    | none => rw [sp_end]; exact ⟨fun _ j a b => (by omega), fun p h => by cases h⟩
    | some s =>
      rw [sp_some_end]
      obtain ⟨a, b, c⟩ := h2 s rfl
      refine ⟨fun h => (by cases h), fun p h => ?_⟩
      simp at h; subst h
      exact ⟨⟨a, Nat.le_refl _, b, c⟩, fun j a b => (by simp at a; omega)⟩
  | succ n ih =>
    intro i st hn hi h1 h2
    have hlt : i < l.length := by omega
    have hget : l[i]? = some l[i] := List.getElem?_eq_getElem hlt
    by_cases hc : l[i] = 47
    · rw [hc] at hget
      have hi1 := ih (i + 1) none (by omega) hlt (fun _ => .inr (by simpa using hget)) (fun s h => by cases h)
      have hall : AllSlash l (i + 1) → AllSlash l i := fun h j a b => by
        rcases Nat.lt_or_ge j (i + 1) with h' | h'
        · have e : j = i := by omega
          rw [e]; exact hget
        · exact h j h' b
      cases st with
      | none =>
        rw [sp_slash l i hlt hc]
        exact ⟨fun h => hall (hi1.1 h), hi1.2⟩
      | some s =>
        rw [sp_some_slash l s i hlt hc]
        obtain ⟨a, b, c⟩ := h2 s rfl
        refine ⟨fun h => (by cases h), fun p h => ?_⟩
        cases hr : sp (i + 1) none (l.drop (i + 1)) with
        | nil =>
          rw [hr] at h; simp at h; subst h
          exact ⟨⟨a, by omega, b, c⟩, hall (hi1.1 hr)⟩
        | cons q r =>
          rw [hr, List.getLast?_cons_cons] at h
          exact hi1.2 p (by rw [hr]; exact h)
    · have hne : l[i]? ≠ some 47 := by rw [hget]; intro e; exact hc (Option.some.inj e)
      cases st with
      | none =>
        rw [sp_none_part l i hlt hc]
        have hh := h1 rfl
        have hi1 := ih (i + 1) (some i) (by omega) hlt (fun h => by cases h) (fun s h => by
          cases h
          refine ⟨Nat.lt_succ_self _, hh, fun j a b => ?_⟩
          have e : j = i := by omega
          rw [e]; exact hne)
        refine ⟨fun h => ?_, hi1.2⟩
        rw [sp_some] at h; cases h
      | some s =>
        rw [sp_some_part l s i hlt hc]
        obtain ⟨a, b, c⟩ := h2 s rfl
        have hi1 := ih (i + 1) (some s) (by omega) hlt (fun h => by cases h) (fun s' h => by
          cases h
          refine ⟨by omega, b, fun j u v => ?_⟩
          rcases Nat.lt_or_ge j i with h' | h'
          · exact c j u h'
          · have e : j = i := by omega
            rw [e]; exact hne)
        refine ⟨fun h => ?_, hi1.2⟩
        rw [sp_some] at h; cases h

theorem spans_none {l : List UInt8} (h : spans l = []) : AllSlash l 0 :=
  (sp_last l _ 0 none rfl (Nat.zero_le _) (fun _ => .inl rfl) (fun s h => by cases h)).1 (by simpa [spans] using h)
theorem spans_last {l : List UInt8} {p : Nat × Nat} (h : (spans l).getLast? = some p) : PartAt l p.1 p.2 ∧ AllSlash l p.2 :=
  (sp_last l _ 0 none rfl (Nat.zero_le _) (fun _ => .inl rfl) (fun s h => by cases h)).2 p (by simpa [spans] using h)

theorem trim_last {l : List UInt8} (h : l ≠ []) (hc : l.getLast h = 47) : Lib.trimRightB l.dropLast 47 = Lib.trimRightB l 47 := by
  have e := List.dropLast_concat_getLast h
  rw [hc] at e
  conv => rhs; rw [← e]
  unfold Lib.trimRightB
  rw [List.reverse_append, List.reverse_singleton, List.singleton_append, List.dropWhile_cons_of_pos (by decide)]
theorem trim_stop {l : List UInt8} (h : l ≠ []) (hc : l.getLast h ≠ 47) : Lib.trimRightB l 47 = l := by
  have e := List.dropLast_concat_getLast h
  rw [← e]
  unfold Lib.trimRightB
  rw [List.reverse_append, List.reverse_singleton, List.singleton_append, List.dropWhile_cons_of_neg (by simpa using hc)]
  simp
theorem trim_step {l : List UInt8} {k : Nat} (hk : l[k]? = some 47) : Lib.trimRightB (l.take (k + 1)) 47 = Lib.trimRightB (l.take k) 47 := by
  obtain ⟨hlt, hg⟩ := List.getElem?_eq_some_iff.1 hk
  have e : l.take (k + 1) = l.take k ++ [47] := by rw [List.take_succ_eq_append_getElem hlt, hg]
  unfold Lib.trimRightB
  rw [e, List.reverse_append, List.reverse_singleton, List.singleton_append, List.dropWhile_cons_of_pos (by decide)]
theorem trim_at {l : List UInt8} {k : Nat} (hlt : k < l.length) (hk : l[k]? ≠ some 47) : Lib.trimRightB (l.take (k + 1)) 47 = l.take (k + 1) := by
  have e := List.take_succ_eq_append_getElem hlt
  unfold Lib.trimRightB
  rw [e, List.reverse_append, List.reverse_singleton, List.singleton_append, List.dropWhile_cons_of_neg]
  · simp
  · intro h; exact hk (by rw [List.getElem?_eq_getElem hlt]; simpa using h)
theorem trim_all {l : List UInt8} {y : Nat} (h : AllSlash l y) (hy : y ≤ l.length) : Lib.trimRightB l 47 = Lib.trimRightB (l.take y) 47 := by
  have key : ∀ n, y + n ≤ l.length → Lib.trimRightB (l.take (y + n)) 47 = Lib.trimRightB (l.take y) 47 := by
    intro n
    induction n with
    | zero => intro _; rfl
    | succ n ih =>
      intro hn
      rw [← ih (by omega), show y + (n + 1) = (y + n) + 1 from rfl, trim_step (h (y + n) (by omega) (by omega))]
  have := key (l.length - y) (by omega)
  rw [show y + (l.length - y) = l.length from by omega, List.take_length] at this
  exact this
theorem trim_none {l : List UInt8} (h : spans l = []) : Lib.trimRightB l 47 = [] := by
  rw [trim_all (spans_none h) (Nat.zero_le _)]; rfl
theorem trim_some {l : List UInt8} {p : Nat × Nat} (h : (spans l).getLast? = some p) : Lib.trimRightB l 47 = l.take p.2 := by
  obtain ⟨⟨h1, h2, h3, h4⟩, h5⟩ := spans_last h
  rw [trim_all h5 h2]
  obtain ⟨y, hy⟩ : ∃ y, p.2 = y + 1 := ⟨p.2 - 1, by omega⟩
  rw [hy]
  exact trim_at (by omega) (h4 y (by omega) (by omega))
end Go.Proofs.YtajleipangnfbaaDoor
