/-
  What follows of locks, plainly: fair stays fair; others are kept; who lets go lets others in; sharing.
-/
import Derived.Test.YtfcjmcenaankfaaFlkPlain
namespace Go.Proofs.Ytfcjmcenaankfaa

theorem held_set {ds : List DescL} {a : Nat} (h : a < ds.length) (x : DescL) (ino l : Int) : heldN (ds.set a x) ino l = heldN ds ino l - (if holdB ino l ds[a] then 1 else 0) + (if holdB ino l x then 1 else 0) := by
  unfold heldN
  exact List.countP_set h
theorem held_has {ds : List DescL} {a : Nat} (h : a < ds.length) {ino l : Int} (h1 : holdB ino l ds[a] = true) : 1 ≤ heldN ds ino l := by
  unfold heldN
  exact List.countP_pos_iff.2 ⟨_, List.getElem_mem h, h1⟩
theorem hold_iff {ino l : Int} {y : DescL} : holdB ino l y = true ↔ 0 < y.refs ∧ y.ino = ino ∧ y.lock = l := by
  unfold holdB
  simp only [Bool.and_eq_true, decide_eq_true_iff]
theorem mate_iff {i : Nat} {ino : Int} {k : Nat} {y : DescL} : mateB i ino k y = true ↔ k ≠ i ∧ 1 ≤ y.refs ∧ y.ino = ino := by
  unfold mateB
  simp only [Bool.and_eq_true, decide_eq_true_iff]
theorem bars_iff {kind : Int} {y : DescL} : barsB kind y = true ↔ (kind = 2 ∧ y.lock ≠ 0) ∨ (kind = 1 ∧ y.lock = 2) := by
  unfold barsB
  simp only [Bool.or_eq_true, Bool.and_eq_true, decide_eq_true_iff]
/-- How many others hold it. -/
def othersN (ds : List DescL) (a : Nat) (ino l : Int) : Nat := heldN (ds.set a zeroD) ino l
theorem others_zero {ds : List DescL} {a : Nat} {ino l : Int} : othersN ds a ino l = 0 ↔ ∀ (k : Nat) (h : k < ds.length), k ≠ a → holdB ino l ds[k] = false := by
  unfold othersN heldN
  rw [List.countP_eq_zero]
  constructor
  · intro h k hk hne
    have h1 : (ds.set a zeroD)[k]? = some ds[k] := by rw [List.getElem?_set_ne (Ne.symm hne), List.getElem?_eq_getElem hk]
    rw [Bool.eq_false_iff]
    exact h _ (List.mem_of_getElem? h1)
  · intro h y hy
    obtain ⟨k, hk⟩ := List.mem_iff_getElem?.1 hy
    rw [List.getElem?_set] at hk
    split at hk
    · split at hk
      · injection hk with hk
        subst hk
        rw [hold_iff]
        rintro ⟨h1, _⟩
        exact absurd h1 (by decide)
      · cases hk
    · rename_i hne
      obtain ⟨hl, e⟩ := List.getElem?_eq_some_iff.1 hk
      rw [← e, h k hl (Ne.symm hne)]
      decide
theorem held_others {ds : List DescL} {a : Nat} (h : a < ds.length) (x : DescL) (ino l : Int) : heldN (ds.set a x) ino l = othersN ds a ino l + (if holdB ino l x then 1 else 0) := by
  unfold othersN
  rw [held_set h, held_set h]
  have : holdB ino l zeroD = false := by
    rw [Bool.eq_false_iff]
    intro h
    exact absurd (hold_iff.1 h).1 (by decide)
  rw [this]
  simp
theorem held_self {ds : List DescL} {a : Nat} (h : a < ds.length) (ino l : Int) : heldN ds ino l = othersN ds a ino l + (if holdB ino l ds[a] then 1 else 0) := by
  have := held_others h ds[a] ino l
  rw [List.set_getElem_self] at this
  exact this
theorem set_in {ds : List DescL} {a : Nat} {x d : DescL} (h : d ∈ ds.set a x) : d = x ∨ d ∈ ds := by
  rcases List.mem_or_eq_of_mem_set h with h | h
  · exact .inr h
  · exact .inl h
/-- What is fair stays so. -/
theorem fair_lock {t : TabL} (hf : FairT t) (i kind : Int) : FairT (lockT t i kind).1 := by
  rcases lock_cases t i kind with ⟨h, _⟩ | ⟨a, ha, rfl, hr, hk, hc, e⟩
  · rw [h]; exact hf
  rw [e]
  show FairT ⟨t.ds.set a (withL t.ds[a] kind), t.fs⟩
  have hfa := hf _ (List.getElem_mem ha)
  have hno : ∀ (k : Nat) (h : k < t.ds.length), k ≠ a → 1 ≤ (t.ds[k]).refs → (t.ds[k]).ino = (t.ds[a]).ino → barsB kind t.ds[k] = false := fun k hk' hne h1 h2 => by
    rw [Bool.eq_false_iff]
    intro h3
    have : clashB t.ds a kind (t.ds[a]).ino = true := clash_now hk' (mate_iff.2 ⟨hne, h1, h2⟩) h3
    rw [hc] at this
    cases this
  have hoth : ∀ ino l, ino ≠ (t.ds[a]).ino → heldN (t.ds.set a (withL t.ds[a] kind)) ino l = heldN t.ds ino l := fun ino l hne => by
    rw [held_others ha, held_self ha]
    congr 1
    have h1 : holdB ino l (withL t.ds[a] kind) = false := by
      rw [Bool.eq_false_iff]; intro h; exact hne (hold_iff.1 h).2.1.symm
    have h2 : holdB ino l t.ds[a] = false := by
      rw [Bool.eq_false_iff]; intro h; exact hne (hold_iff.1 h).2.1.symm
    rw [h1, h2]
  have main : heldN (t.ds.set a (withL t.ds[a] kind)) (t.ds[a]).ino 2 ≤ 1 ∧ (heldN (t.ds.set a (withL t.ds[a] kind)) (t.ds[a]).ino 2 = 1 → heldN (t.ds.set a (withL t.ds[a] kind)) (t.ds[a]).ino 1 = 0) := by
    rw [held_others ha, held_others ha]
    have hs2 := held_self ha (t.ds[a]).ino 2
    have hs1 := held_self ha (t.ds[a]).ino 1
    have e1 : ∀ l, holdB (t.ds[a]).ino l (withL t.ds[a] kind) = decide (kind = l) := fun l => by
      unfold holdB withL
      simp
      intro _
      omega
    rw [e1, e1]
    have hk3 : kind = 0 ∨ kind = 1 ∨ kind = 2 := by omega
    rcases hk3 with rfl | rfl | rfl
    · rw [decide_eq_false (show ¬ (0 : Int) = 2 by decide), decide_eq_false (show ¬ (0 : Int) = 1 by decide)]
      simp only [Bool.false_eq_true, if_false, Nat.add_zero]
      have := hfa.2.1
      have h3 := hfa.2.2
      refine ⟨by omega, fun h => ?_⟩
      have : heldN t.ds (t.ds[a]).ino 2 = 1 := by omega
      have := h3 this
      omega
    · have h0 : othersN t.ds a (t.ds[a]).ino 2 = 0 := others_zero.2 fun k hk' hne => by
        rw [Bool.eq_false_iff]
        intro h
        obtain ⟨h1, h2, h3⟩ := hold_iff.1 h
        have := hno k hk' hne (by omega) h2
        rw [bars_iff.2 (.inr ⟨rfl, h3⟩)] at this
        cases this
      rw [h0]
      refine ⟨by simp, fun h => ?_⟩
      simp at h
    · have h0 : ∀ l, l ≠ 0 → othersN t.ds a (t.ds[a]).ino l = 0 := fun l hl => others_zero.2 fun k hk' hne => by
        rw [Bool.eq_false_iff]
        intro h
        obtain ⟨h1, h2, h3⟩ := hold_iff.1 h
        have := hno k hk' hne (by omega) h2
        rw [bars_iff.2 (.inl ⟨rfl, by omega⟩)] at this
        cases this
      rw [h0 2 (by decide), h0 1 (by decide)]
      refine ⟨by simp, fun _ => by simp⟩
  intro d hd
  rcases set_in hd with rfl | hd
  · exact ⟨hk, main⟩
  · by_cases hi : d.ino = (t.ds[a]).ino
    · rw [hi]
      exact ⟨(hf d hd).1, main⟩
    · show _ ∧ heldN (t.ds.set a _) d.ino 2 ≤ 1 ∧ (heldN (t.ds.set a _) d.ino 2 = 1 → heldN (t.ds.set a _) d.ino 1 = 0)
      rw [hoth _ _ hi, hoth _ _ hi]
      exact hf d hd
/-- A lock changes nobody else's. -/
theorem keeps_lock (t : TabL) (i kind : Int) {k : Nat} (hk : k < t.ds.length) (h' : k < (lockT t i kind).1.ds.length) : ((k : Int) ≠ i → (lockT t i kind).1.ds[k] = t.ds[k]) ∧ withL ((lockT t i kind).1.ds[k]) (t.ds[k]).lock = t.ds[k] := by
  rcases lock_cases t i kind with ⟨h, _⟩ | ⟨a, ha, rfl, hr, hkk, hc, e⟩
  · have e : (lockT t i kind).1.ds[k] = t.ds[k] := by
      have : ∀ (u : TabL) (hu : k < u.ds.length), u = t → u.ds[k] = t.ds[k] := fun u hu e => by subst e; rfl
      exact this _ h' h
    rw [e]
    exact ⟨fun _ => rfl, rfl⟩
  · have e1 : (lockT t (a : Int) kind).1.ds[k] = (t.ds.set a (withL t.ds[a] kind))[k]'(by rw [List.length_set]; exact hk) := by
      have : ∀ (u : TabL) (hu : k < u.ds.length), u = ⟨t.ds.set a (withL t.ds[a] kind), t.fs⟩ → u.ds[k] = (t.ds.set a (withL t.ds[a] kind))[k]'(by rw [List.length_set]; exact hk) := fun u hu e => by subst e; rfl
      exact this _ h' (by rw [e])
    rw [e1]
    by_cases hka : a = k
    · subst hka
      rw [List.getElem_set_self]
      exact ⟨fun h => absurd rfl h, rfl⟩
    · rw [List.getElem_set_ne hka]
      exact ⟨fun _ => rfl, rfl⟩
/-- Locks of another node are none of one's business. -/
theorem clash_set {ds : List DescL} {a b : Nat} {x : DescL} {kind ino : Int} (hb : b < ds.length) (h1 : ds[b].ino ≠ ino) (h2 : x.ino ≠ ino) : clashB (ds.set b x) a kind ino = clashB ds a kind ino := by
  rw [Bool.eq_iff_iff, clash_iff, clash_iff]
  have no : ∀ {y : DescL} {k : Nat}, y.ino ≠ ino → ¬ (mateB a ino k y && barsB kind y) = true := fun hy h => by
    rw [Bool.and_eq_true] at h
    exact hy (mate_iff.1 h.1).2.2
  constructor
  · rintro ⟨k, hk, h⟩
    rw [List.length_set] at hk
    refine ⟨k, hk, ?_⟩
    by_cases e : b = k
    · subst e
      rw [List.getElem_set_self] at h
      exact absurd h (no h2)
    · rw [List.getElem_set_ne e] at h
      exact h
  · rintro ⟨k, hk, h⟩
    refine ⟨k, by rw [List.length_set]; exact hk, ?_⟩
    by_cases e : b = k
    · subst e
      exact absurd h (no h1)
    · rw [List.getElem_set_ne e]
      exact h
theorem other_lock {t : TabL} {i k kind other : Int} {a b : Nat} (hi : i = (a : Int)) (hk : k = (b : Int)) (ha : a < t.ds.length) (hb : b < t.ds.length) (hne : t.ds[a].ino ≠ t.ds[b].ino) : (lockT (lockT t k other).1 i kind).2 = (lockT t i kind).2 := by
  subst hi hk
  rcases lock_cases t (b : Int) other with ⟨h, _⟩ | ⟨b2, hb2, e0, hr, hkk, hc, e⟩
  · rw [h]
  obtain rfl : b = b2 := by omega
  have hab : b ≠ a := fun e => hne (by subst e; rfl)
  have ha2 : a < (t.ds.set b (withL t.ds[b] other)).length := by rw [List.length_set]; exact ha
  have e2 : (t.ds.set b (withL t.ds[b] other))[a] = t.ds[a] := List.getElem_set_ne hab _
  rw [e]
  show (lockT ⟨t.ds.set b (withL t.ds[b] other), t.fs⟩ a kind).2 = _
  have hd : descT ⟨t.ds.set b (withL t.ds[b] other), t.fs⟩ (a : Int) = descT t (a : Int) := by
    rw [desc_at (t := ⟨t.ds.set b (withL t.ds[b] other), t.fs⟩) ha2, desc_at ha]; exact e2
  have ho : openB ⟨t.ds.set b (withL t.ds[b] other), t.fs⟩ (a : Int) = openB t (a : Int) := by
    unfold openB
    rw [hd, List.length_set]
  have hcl : clashB (t.ds.set b (withL t.ds[b] other)) a kind (descT t (a : Int)).ino = clashB t.ds a kind (descT t (a : Int)).ino := clash_set hb (by rw [desc_at ha]; exact Ne.symm hne) (by rw [desc_at ha]; exact Ne.symm hne)
  cases hk1 : kindB kind with
  | false => rw [lock_kind hk1, lock_kind hk1]
  | true =>
    cases ho1 : openB t (a : Int) with
    | false => rw [lock_bad hk1 ho1, lock_bad hk1 (by rw [ho]; exact ho1)]
    | true =>
      cases hc1 : clashB t.ds a kind (descT t (a : Int)).ino with
      | true => rw [lock_again hk1 ho1 (by rw [Int.toNat_natCast]; exact hc1), lock_again hk1 (by rw [ho]; exact ho1) (by rw [hd, Int.toNat_natCast]; exact hcl.trans hc1)]
      | false => rw [lock_goes hk1 ho1 (by rw [Int.toNat_natCast]; exact hc1), lock_goes hk1 (by rw [ho]; exact ho1) (by rw [hd, Int.toNat_natCast]; exact hcl.trans hc1)]
/-- What is let go is granted again. -/
theorem again_lock {t : TabL} (hf : FairT t) {a : Nat} (ha : a < t.ds.length) (hr : 1 ≤ t.ds[a].refs) : lockT (lockT t (a : Int) 0).1 (a : Int) t.ds[a].lock = (t, 0) := by
  rw [lock_none ha hr]
  have ha2 : a < (t.ds.set a (withL t.ds[a] 0)).length := by rw [List.length_set]; exact ha
  have e2 : (t.ds.set a (withL t.ds[a] 0))[a] = withL t.ds[a] 0 := List.getElem_set_self _
  have hfa := hf _ (List.getElem_mem ha)
  have hc : clashB (t.ds.set a (withL t.ds[a] 0)) a t.ds[a].lock (t.ds[a]).ino = false := by
    rw [Bool.eq_false_iff]
    intro h
    obtain ⟨k, hk, h⟩ := clash_iff.1 h
    rw [Bool.and_eq_true] at h
    obtain ⟨hka, h1, h2⟩ := mate_iff.1 h.1
    rw [List.length_set] at hk
    rw [List.getElem_set_ne (Ne.symm hka)] at h h1 h2
    have hb := bars_iff.1 h.2
    have hfk := hf _ (List.getElem_mem hk)
    have s2 := held_self ha (t.ds[a]).ino 2
    have s1 := held_self ha (t.ds[a]).ino 1
    have oth : ∀ l, t.ds[k].lock = l → 1 ≤ othersN t.ds a (t.ds[a]).ino l := fun l hl => by
      rcases Nat.eq_zero_or_pos (othersN t.ds a (t.ds[a]).ino l) with h0 | h0
      · have := others_zero.1 h0 k hk hka
        rw [hold_iff.2 ⟨by omega, h2, hl⟩] at this
        cases this
      · exact h0
    rcases hb with ⟨hb, hb2⟩ | ⟨hb, hb2⟩
    · rw [hold_iff.2 ⟨by omega, rfl, hb⟩, if_pos rfl] at s2
      have h3 := hfa.2.1
      have h4 : othersN t.ds a (t.ds[a]).ino 2 = 0 := by omega
      have h5 := hfa.2.2 (by omega)
      have hl3 : t.ds[k].lock = 1 ∨ t.ds[k].lock = 2 := by have := hfk.1; omega
      rcases hl3 with hl | hl
      · have := oth 1 hl; omega
      · have := oth 2 hl; omega
    · rw [hold_iff.2 ⟨by omega, rfl, hb⟩, if_pos rfl] at s1
      have := oth 2 hb2
      have h3 := hfa.2.1
      have h5 := hfa.2.2 (by omega)
      omega
  have hr2 : 1 ≤ ((t.ds.set a (withL t.ds[a] 0))[a]).refs := by rw [e2]; exact hr
  have e3 := lock_at (t := ⟨t.ds.set a (withL t.ds[a] 0), t.fs⟩) ha2 hr2 (kind := t.ds[a].lock) hfa.1 (by show clashB _ a _ ((t.ds.set a (withL t.ds[a] 0))[a]).ino = false; rw [e2]; exact hc)
  refine e3.trans ?_
  congr 1
  refine tab_ext ?_ rfl
  show (t.ds.set a (withL t.ds[a] 0)).set a (withL ((t.ds.set a (withL t.ds[a] 0))[a]) t.ds[a].lock) = t.ds
  rw [e2, List.set_set]
  exact List.set_getElem_self _
end Go.Proofs.Ytfcjmcenaankfaa
