/-
  Plain laws on the parts of paths.
-/
import Derived.Test.YtajleipangnfbaaDoorPathPlain
import Derived.Test.YtajleipangnfbaaDoorRouteF
namespace Go.Proofs.YtajleipangnfbaaDoor

/-- The parts, by what is open. -/
def partsG (cur : List UInt8) : List UInt8 → List (List UInt8)
  | [] => if cur = [] then [] else [cur]
  | c :: r => if c = 47 then (if cur = [] then partsG [] r else cur :: partsG [] r) else partsG (cur ++ [c]) r

theorem partsG_eq (l : List UInt8) : ∀ (n i : Nat) (st : Option Nat), l.length - i = n → i ≤ l.length → (∀ s, st = some s → s < i) → (sp i st (l.drop i)).map (cutS l) = partsG (partOf l i st) (l.drop i) := by
  intro n
  induction n with
  | zero =>
    intro i st hn hi hst
    obtain rfl : i = l.length := by omega
    have hd : l.drop l.length = [] := by simp
    cases st with
    | none => rw [sp_end, hd]; rfl
    | some s =>
      have := cutS_ne l s l.length (hst s rfl) (Nat.le_refl _)
      rw [sp_some_end, hd]; simp [partsG, partOf, this]
  | succ n ih =>
    intro i st hn hi hst
    have hlt : i < l.length := by omega
    have hd := List.drop_eq_getElem_cons hlt
    by_cases hc : l[i] = 47
    · have h1 := ih (i + 1) none (by omega) hlt (by simp)
      cases st with
      | none => rw [sp_slash l i hlt hc, h1]; conv => rhs; rw [hd, partsG]
                simp [hc, partOf]
      | some s =>
        have := cutS_ne l s i (hst s rfl) (by omega)
        rw [sp_some_slash l s i hlt hc, List.map_cons, h1]; conv => rhs; rw [hd, partsG]
        simp [hc, partOf, this]
    · have h1 := ih (i + 1) (some (st.getD i)) (by omega) hlt (by
        intro s hs
        cases st with
        | none => simp at hs; omega
        | some s' => have := hst s' rfl; simp at hs; omega)
      have h2 : sp i st (l.drop i) = sp (i + 1) (some (st.getD i)) (l.drop (i + 1)) := by
        cases st with
        | none => exact sp_none_part l i hlt hc
        | some s => exact sp_some_part l s i hlt hc
      rw [h2, h1]
      conv => rhs; rw [hd, partsG, if_neg hc]
      rw [partOf_goon hst hlt]

theorem parts_G (l : List UInt8) : parts l = partsG [] l := by
  have := partsG_eq l _ 0 none rfl (Nat.zero_le _) (by simp)
  simpa [parts, spans, partOf] using this

theorem G_app (a b : List UInt8) : ∀ cur, partsG cur (a ++ 47 :: b) = partsG cur a ++ partsG [] b := by
  induction a with
  | nil => intro cur; simp only [List.nil_append, partsG, if_true]; split <;> simp
  | cons c r ih =>
    intro cur
    simp only [List.cons_append, partsG]
    split
    · split
      · exact ih []
      · rw [ih []]; rfl
    · exact ih _
theorem G_part (b : List UInt8) : ∀ cur, (47 : UInt8) ∉ b → partsG cur b = if cur ++ b = [] then [] else [cur ++ b] := by
  induction b with
  | nil => intro cur _; simp [partsG]
  | cons c r ih =>
    intro cur h
    simp only [List.mem_cons, not_or] at h
    rw [partsG, if_neg (fun e => h.1 e.symm), ih _ h.2]
    simp
theorem parts_app (a b : List UInt8) : parts (a ++ 47 :: b) = parts a ++ parts b := by rw [parts_G, parts_G, parts_G, G_app]
theorem parts_one {b : List UInt8} (h : (47 : UInt8) ∉ b) (hb : b ≠ []) : parts b = [b] := by rw [parts_G, G_part b [] h]; simp [hb]
theorem parts_nil : parts [] = [] := by decide
theorem parts_snoc (a : List UInt8) : parts (a ++ [47]) = parts a := by rw [parts_app, parts_nil, List.append_nil]
theorem parts_trail {l : List UInt8} {y : Nat} (h : AllSlash l y) (hy : y ≤ l.length) : parts l = parts (l.take y) := by
  have key : ∀ n, y + n ≤ l.length → parts (l.take (y + n)) = parts (l.take y) := by
    intro n
    induction n with
    | zero => intro _; rfl
    | succ n ih =>
      intro hn
      have hlt : y + n < l.length := by omega
      have hg : l[y + n] = 47 := by have := h (y + n) (by omega) hlt; rw [List.getElem?_eq_getElem hlt] at this; exact Option.some.inj this
      rw [← ih (by omega), show y + (n + 1) = (y + n) + 1 from rfl, List.take_succ_eq_append_getElem hlt, hg, parts_snoc]
  have := key (l.length - y) (by omega)
  rw [show y + (l.length - y) = l.length from by omega, List.take_length] at this
  exact this
theorem spans_nil_iff (l : List UInt8) : spans l = [] ↔ parts l = [] := by simp [parts]
theorem parts_trim (l : List UInt8) : parts (Lib.trimRightB l 47) = parts l := by
  by_cases h : spans l = []
  · rw [trim_none h, (spans_nil_iff l).1 h, parts_nil]
  · have h3 := List.getLast?_eq_some_getLast h
    rw [trim_some h3]
    obtain ⟨⟨_, h2, _, _⟩, h5⟩ := spans_last h3
    exact (parts_trail h5 h2).symm
/-- A path of a part at least: what is ahead of its last part, and that part. -/
theorem parts_last {l : List UInt8} {x y : Nat} (h : (spans l).getLast? = some (x, y)) : parts l = parts (l.take x) ++ [cutS l (x, y)] ∧ (47 : UInt8) ∉ cutS l (x, y) ∧ cutS l (x, y) ≠ [] := by
  obtain ⟨⟨h1, h2, h3, h4⟩, h5⟩ := spans_last h
  simp only at h1 h2 h3 h4 h5
  have hns : (47 : UInt8) ∉ cutS l (x, y) := by
    intro hm
    obtain ⟨j, hj, he⟩ := List.getElem_of_mem hm
    have hj' : j < y - x := by simp [cutS] at hj; omega
    have := h4 (x + j) (by omega) (by omega)
    apply this
    rw [List.getElem?_eq_getElem (by omega)]
    simp only [cutS, List.getElem_drop, List.getElem_take] at he
    rw [he]
  have hne := cutS_ne l x y h1 h2
  refine ⟨?_, hns, hne⟩
  rw [parts_trail h5 h2]
  have hsp : l.take y = l.take x ++ cutS l (x, y) := by
    have e : (l.take y).take x = l.take x := by rw [List.take_take, Nat.min_eq_left (by omega)]
    rw [← e]; unfold cutS; exact (List.take_append_drop x (l.take y)).symm
  rw [hsp]
  rcases h3 with rfl | h3
  · simp only [List.take_zero, List.nil_append, parts_nil]; exact parts_one hns hne
  · obtain ⟨x', rfl⟩ : ∃ x', x = x' + 1 := ⟨x - 1, by
      rcases Nat.eq_zero_or_pos x with h | h
      · subst h; exact absurd h3 (h4 0 (Nat.le_refl _) h1)
      · omega⟩
    have hlt : x' < l.length := by omega
    have hg : l[x'] = 47 := by
      have : l[x' + 1 - 1]? = some 47 := h3
      rw [Nat.add_sub_cancel, List.getElem?_eq_getElem hlt] at this; exact Option.some.inj this
    have e : l.take (x' + 1) = l.take x' ++ [47] := by rw [List.take_succ_eq_append_getElem hlt, hg]
    rw [e, List.append_assoc, List.singleton_append, parts_app, parts_snoc, parts_one hns hne]

/-! ### Back again -/
theorem trim_ne47 {m : List UInt8} (h : Lib.trimRightB m 47 ≠ []) : Lib.hasSuffix (Lib.trimRightB m 47) [47] = false := by
  have hs : spans m ≠ [] := fun e => h (trim_none e)
  have h3 := List.getLast?_eq_some_getLast hs
  obtain ⟨⟨h1, h2, _, h4⟩, _⟩ := spans_last h3
  have e := trim_some h3
  rw [suf_eq _ h, beq_eq_false_iff_ne]
  intro hc
  generalize (spans m).getLast hs = p at *
  obtain ⟨x, y⟩ := p
  simp only at h1 h2 h4 e
  have hy : y - 1 < m.length := by omega
  apply h4 (y - 1) (by omega) (by omega)
  rw [List.getElem?_eq_getElem hy]
  rw [List.getLast_eq_getElem] at hc
  simp only [e, List.length_take, Nat.min_eq_left h2, List.getElem_take] at hc
  rw [hc]
theorem trim_prefix (m : List UInt8) : ∃ t, m = Lib.trimRightB m 47 ++ t := by
  by_cases h : spans m = []
  · exact ⟨m, by rw [trim_none h]; rfl⟩
  · have h3 := List.getLast?_eq_some_getLast h
    rw [trim_some h3]
    exact ⟨_, (List.take_append_drop _ _).symm⟩
theorem hasPrefix_app {a b : List UInt8} (h : a ≠ []) : Lib.hasPrefix (a ++ b) [47] = Lib.hasPrefix a [47] := by
  cases a with
  | nil => exact absurd rfl h
  | cons c r => rw [List.cons_append, pre_eq, pre_eq]
theorem hasPrefix_notin {b : List UInt8} (h : (47 : UInt8) ∉ b) : Lib.hasPrefix b [47] = false := by
  cases b with
  | nil => rfl
  | cons c r =>
    rw [pre_eq]; simp only [List.mem_cons, not_or] at h
    exact beq_eq_false_iff_ne.2 (fun e => h.1 e.symm)

/-- One part: Base is that, Dir the root or here. -/
theorem back_one {l : List UInt8} (h : (parts l).length = 1) : parts l = [baseL l] ∧ dirL l = if Lib.hasPrefix l [47] = true then [47] else [46] := by
  have hne : spans l ≠ [] := by intro e; rw [parts, e] at h; cases h
  have hl : l ≠ [] := by rintro rfl; rw [parts_nil] at h; cases h
  have h3 : (spans l).getLast? = some (lastOf (spans l)) := by unfold lastOf; rw [List.getLast?_eq_some_getLast hne]; rfl
  obtain ⟨e1, _, _⟩ := parts_last (x := (lastOf (spans l)).1) (y := (lastOf (spans l)).2) h3
  have e2 : parts (l.take (lastOf (spans l)).1) = [] := by
    rw [e1, List.length_append] at h; simp at h; exact h
  refine ⟨?_, ?_⟩
  · rw [base_some hl hne, e1, e2]; rfl
  · rw [dir_some hl hne]; unfold dirAt
    rw [if_neg (by rw [trim_none ((spans_nil_iff _).2 e2)]; simp)]
theorem back_more {l : List UInt8} (h : 2 ≤ (parts l).length) : parts (joinL (dirL l) (baseL l)) = parts l ∧ Lib.hasPrefix (joinL (dirL l) (baseL l)) [47] = Lib.hasPrefix l [47] := by
  have hne : spans l ≠ [] := by intro e; rw [parts, e] at h; simp at h
  have hl : l ≠ [] := by rintro rfl; rw [parts_nil] at h; simp at h
  have h3 : (spans l).getLast? = some (lastOf (spans l)) := by unfold lastOf; rw [List.getLast?_eq_some_getLast hne]; rfl
  obtain ⟨e1, e2, e3⟩ := parts_last (x := (lastOf (spans l)).1) (y := (lastOf (spans l)).2) h3
  obtain ⟨x, hx⟩ : ∃ x, x = (lastOf (spans l)).1 := ⟨_, rfl⟩
  have hA : Lib.trimRightB (l.take x) 47 ≠ [] := by
    intro e
    have : parts (l.take x) = [] := by rw [← parts_trim, e, parts_nil]
    rw [hx] at this; rw [e1, this] at h; simp at h
  have hd : dirL l = Lib.trimRightB (l.take x) 47 := by rw [dir_some hl hne, ← hx]; unfold dirAt; rw [if_pos hA]
  have hb : baseL l = cutS l (lastOf (spans l)) := base_some hl hne
  have hj : joinL (dirL l) (baseL l) = Lib.trimRightB (l.take x) 47 ++ [47] ++ cutS l (lastOf (spans l)) := by
    unfold joinL
    rw [hd, hb, if_neg, if_neg e3, if_neg (by rw [trim_ne47 hA]; simp)]
    rintro (h1 | h1)
    · exact hA h1
    · have := hasPrefix_notin e2; rw [this] at h1; cases h1
  rw [hj]
  constructor
  · rw [List.append_assoc, List.singleton_append, parts_app, parts_trim, parts_one e2 e3, hx]; exact e1.symm
  · rw [List.append_assoc, hasPrefix_app hA]
    obtain ⟨t, ht⟩ := trim_prefix (l.take x)
    have e4 : Lib.hasPrefix (l.take x) [47] = Lib.hasPrefix (Lib.trimRightB (l.take x) 47) [47] := by
      conv => lhs; rw [ht]
      exact hasPrefix_app hA
    have hx0 : l.take x ≠ [] := by intro e; rw [e] at hA; exact hA rfl
    rw [← e4, ← hasPrefix_app (b := l.drop x) hx0, List.take_append_drop]
end Go.Proofs.YtajleipangnfbaaDoor
