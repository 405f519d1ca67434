/-
  Plain facts on stencils: how many blanks a text ends with, letters, signs; what is made; what fits.
-/
import Derived.Laws.RangeAny
import Derived.Lib.Strings
namespace Go.Proofs.Ytknjmdgnbhohdaa

/-- How many blanks a text ends with. -/
def xs (l : List UInt8) : Nat := (l.reverse.takeWhile (fun c => c == 88)).length
theorem xs_nil : xs [] = 0 := rfl
theorem xs_yes (l : List UInt8) : xs (l ++ [88]) = xs l + 1 := by simp [xs]
theorem xs_no (l : List UInt8) (c : UInt8) (h : c ≠ 88) : xs (l ++ [c]) = 0 := by simp [xs, h]
theorem xs_le (l : List UInt8) : xs l ≤ l.length := by
  have := (List.takeWhile_sublist (fun c : UInt8 => c == 88) (l := l.reverse)).length_le
  simpa [xs] using this
theorem takeWhile_at (p : UInt8 → Bool) (r : List UInt8) (n : Nat) (h : n < r.length) (hn : n ≤ (r.takeWhile p).length) : p r[n] = true ↔ n < (r.takeWhile p).length := by
  induction r generalizing n with
  | nil => simp at h
  | cons c r ih =>
    by_cases hc : p c = true
    · rw [List.takeWhile_cons_of_pos hc] at hn ⊢
      cases n with
      | zero => simp [hc]
      | succ n =>
        simp only [List.length_cons, List.getElem_cons_succ] at h hn ⊢
        have := ih n (by omega) (by omega)
        rw [this]; omega
    · rw [List.takeWhile_cons_of_neg hc] at hn ⊢
      have : n = 0 := by simpa using hn
      subst this
      simpa using hc
theorem xs_at (l : List UInt8) (n : Nat) (h : l.length - 1 - n < l.length) (h0 : n < l.length) (hn : n ≤ xs l) : l[l.length - 1 - n] = 88 ↔ n < xs l := by
  have := takeWhile_at (fun c => c == 88) l.reverse n (by simpa using h0) hn
  rw [List.getElem_reverse] at this
  simpa [xs] using this
theorem xs_app (l r : List UInt8) (hr : r ≠ []) (h : ∀ c ∈ r, 128 ≤ c.toNat) : xs (l ++ r) = 0 := by
  obtain ⟨q, c, rfl⟩ : ∃ q c, r = q ++ [c] := by
    rcases List.eq_nil_or_concat r with h0 | ⟨q, c, h0⟩
    · exact absurd h0 hr
    · exact ⟨q, c, by simpa using h0⟩
  rw [← List.append_assoc]
  refine xs_no _ c fun e => ?_
  have := h c (by simp)
  rw [e] at this
  exact absurd this (by decide)
theorem xs_drop (l : List UInt8) : l.drop (l.length - xs l) = List.replicate (xs l) 88 := by
  apply List.eq_replicate_iff.2
  refine ⟨by have := xs_le l; simp; omega, fun b hb => ?_⟩
  have e : l.drop (l.length - xs l) = (l.reverse.takeWhile (fun c => c == 88)).reverse := by
    have h1 : l.reverse.takeWhile (fun c => c == 88) = l.reverse.take (xs l) := by
      unfold xs
      have := List.takeWhile_prefix (fun c : UInt8 => c == 88) (l := l.reverse)
      exact List.prefix_iff_eq_take.1 this
    rw [h1, List.reverse_take, List.reverse_reverse, List.length_reverse]
  rw [e, List.mem_reverse] at hb
  have := List.all_eq_true.1 (List.all_takeWhile (p := fun c : UInt8 => c == 88) (l := l.reverse)) b hb
  simpa using this

/-- The letters. -/
def lettL : List UInt8 := [97, 98, 99, 100, 101, 102, 103, 104, 105, 106, 107, 108, 109, 110, 111, 112, 113, 114, 115, 116, 117, 118, 119, 120, 121, 122, 48, 49, 50, 51, 52, 53, 54, 55, 56, 57]
def lett (n : Int) : UInt8 := lettL.getD (n % 36).toNat 0
def isLett (c : UInt8) : Bool := lettL.contains c
theorem lett_is (n : Int) : isLett (lett n) = true := by
  unfold isLett lett
  have h : (n % 36).toNat < 36 := by omega
  generalize (n % 36).toNat = k at *
  revert k
  decide
theorem lett_ascii : ∀ k, k < 36 → (lettL.getD k 0).toNat < 128 := by decide
theorem lett_inj : ∀ a, a < 36 → ∀ b, b < 36 → lettL.getD a 0 = lettL.getD b 0 → a = b := by decide
theorem lett_eq (a b : Int) : lett a = lett b ↔ a % 36 = b % 36 := by
  constructor
  · intro h
    have := lett_inj (a % 36).toNat (by omega) (b % 36).toNat (by omega) h
    omega
  · intro h; unfold lett; rw [h]
theorem lett_place (c : UInt8) (h : isLett c = true) : ∃ k, k < 36 ∧ lettL.getD k 0 = c := by
  unfold isLett at h
  have h' : c ∈ lettL := by simpa using h
  obtain ⟨k, hk, e⟩ := List.mem_iff_getElem.1 h'
  exact ⟨k, hk, by rw [List.getD_eq_getElem?_getD, List.getElem?_eq_getElem hk, e]; rfl⟩
theorem lett_not (c : UInt8) (h : 128 ≤ c.toNat) : isLett c = false := by
  cases hl : isLett c with
  | false => rfl
  | true =>
    obtain ⟨k, hk, rfl⟩ := lett_place c hl
    have := lett_ascii k hk
    omega
theorem lett_x : isLett 88 = false := by decide

/-- What is made. -/
def makeL (l : List UInt8) (ds : List Int) : List UInt8 := l.take (l.length - xs l) ++ (List.range (xs l)).map fun i => lett (ds.getD i 0)
/-- Whether a name fits. -/
def fitsB (l m : List UInt8) : Bool := decide (m.length = l.length) && (decide (m.take (l.length - xs l) = l.take (l.length - xs l)) && (m.drop (l.length - xs l)).all isLett)

/-! ### Signs -/
theorem get_list (s : ByteArray) (i : Nat) (h : i < s.data.toList.length) : s.get! i = s.data.toList[i] := by
  have h' : i < s.size := by simpa using h
  have := get_at s i h'
  simp only [Nat.add_zero] at this
  rw [this]; rfl
theorem dec_low (s : ByteArray) (pos : Nat) (h : pos < s.size) (ha : (s[pos]'h).toNat < 128) : Utf8.decode s pos = ((s[pos]'h).toNat, 1) := decode_ascii s pos h ha
/-- A sign that does not begin with a byte of its own spans bytes that are none. -/
theorem dec_high (s : ByteArray) (pos : Nat) (h : pos < s.size) (ha : 128 ≤ (s[pos]'h).toNat) :
    pos + (Utf8.decode s pos).2 ≤ s.size ∧ ∀ j, j < (Utf8.decode s pos).2 → 128 ≤ (s.get! (pos + j)).toNat := by
  have h0 := get_at s pos h
  have hn : ¬ (s[pos]'h).toNat < 128 := by omega
  have ha0 : 128 ≤ (s.get! (pos + 0)).toNat := by rw [h0]; exact ha
  simp only [Utf8.decode, h0, hn, if_false]
  repeat' split
  all_goals (simp only [Bool.and_eq_true, decide_eq_true_eq, beq_iff_eq] at *)
  all_goals (refine ⟨by omega, fun j hj => ?_⟩)
  all_goals (have hj' : j = 0 ∨ j = 1 ∨ j = 2 ∨ j = 3 := by omega)
  all_goals (rcases hj' with rfl | rfl | rfl | rfl <;> omega)
theorem dec_list (s : ByteArray) (pos : Nat) (h : pos < s.size) (ha : 128 ≤ (s[pos]'h).toNat) :
    ∃ r : List UInt8, r ≠ [] ∧ (∀ c ∈ r, 128 ≤ c.toNat) ∧ s.data.toList.take (pos + (Utf8.decode s pos).2) = s.data.toList.take pos ++ r := by
  obtain ⟨h1, h2⟩ := dec_high s pos h ha
  have h3 := (decode_high s pos h ha).2
  have hl : s.data.toList.length = s.size := by simp
  refine ⟨(s.data.toList.drop pos).take (Utf8.decode s pos).2, ?_, ?_, ?_⟩
  · intro e
    have := congrArg List.length e
    simp only [List.length_take, List.length_drop, hl, List.length_nil] at this
    omega
  · intro c hc
    obtain ⟨j, hj, rfl⟩ := List.mem_iff_getElem.1 hc
    simp only [List.length_take, List.length_drop, hl] at hj
    have := h2 j (by omega)
    rw [get_list s (pos + j) (by rw [hl]; omega)] at this
    simpa using this
  · rw [List.take_add]
end Go.Proofs.Ytknjmdgnbhohdaa
