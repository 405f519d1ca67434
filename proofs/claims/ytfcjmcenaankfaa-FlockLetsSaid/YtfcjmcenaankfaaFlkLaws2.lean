/-
  What follows of locks, plainly: who lets go lets others in; any number may share.
-/
import Derived.Test.YtfcjmcenaankfaaFlkLaws
namespace Go.Proofs.Ytfcjmcenaankfaa

/-- A table of which the first k descriptions have another lock, where Q says so. -/
def MapT (Q : Nat → DescL → Bool) (l : Int) (t : TabL) (k : Nat) (t' : TabL) : Prop := t'.fs = t.fs ∧ ∀ j, t'.ds[j]? = (t.ds[j]?).map fun d => if (decide (j < k) && Q j d) = true then withL d l else d
section
variable {Q : Nat → DescL → Bool} {l : Int} {t t' : TabL} {k : Nat}
theorem map_zero (Q : Nat → DescL → Bool) (l : Int) (t : TabL) : MapT Q l t 0 t := ⟨rfl, fun j => by
  cases t.ds[j]? with
  | none => rfl
  | some d => rw [Option.map_some, decide_eq_false (Nat.not_lt_zero j)]; rfl⟩
theorem MapT.len (h : MapT Q l t k t') : t'.ds.length = t.ds.length := by
  have e : ∀ j, t'.ds.length ≤ j ↔ t.ds.length ≤ j := fun j => by
    rw [← List.getElem?_eq_none_iff, ← List.getElem?_eq_none_iff, h.2 j, Option.map_eq_none_iff]
  have h1 := (e t.ds.length).2 (Nat.le_refl _)
  have h2 := (e t'.ds.length).1 (Nat.le_refl _)
  omega
theorem MapT.get (h : MapT Q l t k t') {j : Nat} (hj : j < t.ds.length) (hj' : j < t'.ds.length) : t'.ds[j] = if (decide (j < k) && Q j t.ds[j]) = true then withL t.ds[j] l else t.ds[j] := by
  have := h.2 j
  rw [List.getElem?_eq_getElem hj, List.getElem?_eq_getElem hj', Option.map_some] at this
  exact Option.some.inj this
theorem MapT.now (h : MapT Q l t k t') (hk : k < t.ds.length) (hk' : k < t'.ds.length) : t'.ds[k] = t.ds[k] := by
  rw [h.get hk hk', decide_eq_false (Nat.lt_irrefl k)]
  rfl
theorem MapT.skip (h : MapT Q l t k t') (hk : k < t.ds.length) (hq : Q k t.ds[k] = false) : MapT Q l t (k + 1) t' := by
  refine ⟨h.1, fun j => ?_⟩
  rw [h.2 j]
  rcases Nat.lt_or_ge j t.ds.length with hj | hj
  · rw [List.getElem?_eq_getElem hj, Option.map_some, Option.map_some]
    rcases Nat.lt_trichotomy j k with h1 | h1 | h1
    · rw [decide_eq_true h1, decide_eq_true (show j < k + 1 by omega)]
    · subst h1
      rw [hq, Bool.and_false, Bool.and_false]
    · rw [decide_eq_false (show ¬ j < k by omega), decide_eq_false (show ¬ j < k + 1 by omega)]
  · rw [List.getElem?_eq_none hj]
    rfl
theorem MapT.step (h : MapT Q l t k t') (hk : k < t.ds.length) (hk' : k < t'.ds.length) (hq : Q k t.ds[k] = true) : MapT Q l t (k + 1) ⟨t'.ds.set k (withL t'.ds[k] l), t'.fs⟩ := by
  refine ⟨h.1, fun j => ?_⟩
  show (t'.ds.set k _)[j]? = _
  rw [h.now hk hk', List.getElem?_set]
  by_cases e : k = j
  · subst e
    rw [if_pos rfl, if_pos hk', List.getElem?_eq_getElem hk, Option.map_some, decide_eq_true (Nat.lt_succ_self k), hq]
    rfl
  · rw [if_neg e, h.2 j]
    rcases Nat.lt_or_ge j t.ds.length with hj | hj
    · rw [List.getElem?_eq_getElem hj, Option.map_some, Option.map_some]
      by_cases h1 : j < k
      · rw [decide_eq_true h1, decide_eq_true (show j < k + 1 by omega)]
      · rw [decide_eq_false h1, decide_eq_false (show ¬ j < k + 1 by omega)]
    · rw [List.getElem?_eq_none hj]
      rfl
end
/-! ### Letting go -/
def letQ (i : Int) (j : Nat) (d : DescL) : Bool := decide ((j : Int) ≠ i) && decide (1 ≤ d.refs)
theorem let_skip1 {i : Int} {k : Nat} {d : DescL} (h : (k : Int) = i) : letQ i k d = false := by unfold letQ; rw [decide_eq_false (show ¬ (k : Int) ≠ i by omega)]; rfl
theorem let_skip2 {i : Int} {k : Nat} {d : DescL} (h : d.refs < 1) : letQ i k d = false := by unfold letQ; rw [decide_eq_false (show ¬ 1 ≤ d.refs by omega)]; simp
theorem let_yes {i : Int} {k : Nat} {d : DescL} (h : (k : Int) ≠ i) (h1 : ¬ d.refs < 1) : letQ i k d = true := by unfold letQ; rw [decide_eq_true h, decide_eq_true (show 1 ≤ d.refs by omega)]; rfl
/-- Who asked in vain is let in. -/
theorem lets_in {t t' : TabL} {i kind : Int} (h : MapT (letQ i) 0 t t.ds.length t') (he : (lockT t i kind).2 = 14) :
    ∃ a : Nat, a < t.ds.length ∧ i = (a : Int) ∧ (lockT t' i kind).2 = 0 ∧ (lockT t' i kind).1.ds.length = t.ds.length ∧ (descT (lockT t' i kind).1 (a : Int)).lock = kind := by
  rcases lock_cases t i kind with ⟨_, h1⟩ | ⟨a, ha, _, _, _, _, e⟩
  · cases hk : kindB kind with
    | false => rw [lock_kind hk] at he; exact absurd he (show ¬ (1 : Int) = 14 by decide)
    | true =>
      cases ho : openB t i with
      | false => rw [lock_bad hk ho] at he; exact absurd he (show ¬ (12 : Int) = 14 by decide)
      | true =>
        obtain ⟨a, ha, rfl, hr, hd⟩ := open_in ho
        have hl := h.len
        have ha' : a < t'.ds.length := by omega
        have ea : t'.ds[a] = t.ds[a] := by rw [h.get ha ha', let_skip1 rfl, Bool.and_false]; rfl
        have hc : clashB t'.ds a kind (t'.ds[a]).ino = false := by
          rw [Bool.eq_false_iff]
          intro hcl
          obtain ⟨k, hk2, hcl⟩ := clash_iff.1 hcl
          rw [Bool.and_eq_true] at hcl
          obtain ⟨hne, h1, h2⟩ := mate_iff.1 hcl.1
          have hkt : k < t.ds.length := by omega
          have e := h.get hkt hk2
          have hq : letQ (a : Int) k t.ds[k] = true := by
            cases hq : letQ (a : Int) k t.ds[k] with
            | true => rfl
            | false =>
              rw [hq, Bool.and_false, if_neg (by decide)] at e
              rw [e] at h1
              rw [let_yes (by omega) (by omega)] at hq
              cases hq
          rw [hq, decide_eq_true hkt, if_pos (by rfl)] at e
          have hb := bars_iff.1 hcl.2
          rw [e] at hb
          rcases hb with ⟨_, hb⟩ | ⟨_, hb⟩
          · exact hb rfl
          · exact absurd hb (by show ¬ (0 : Int) = 2; decide)
        have hkk : 0 ≤ kind ∧ kind ≤ 2 := by unfold kindB at hk; simpa only [Bool.and_eq_true, decide_eq_true_iff] using hk
        have e := lock_at ha' (by rw [ea]; exact hr) hkk hc
        refine ⟨a, ha, rfl, by rw [e], by rw [e]; show (t'.ds.set a _).length = _; rw [List.length_set, hl], ?_⟩
        rw [e, desc_at (show a < (t'.ds.set a (withL t'.ds[a] kind)).length by rw [List.length_set]; exact ha')]
        show ((t'.ds.set a (withL t'.ds[a] kind))[a]'(by rw [List.length_set]; exact ha')).lock = kind
        rw [List.getElem_set_self]
        rfl
  · rw [e] at he
    exact absurd he (show ¬ (0 : Int) = 14 by decide)
/-! ### Sharing -/
def nodeQ (ino : Int) (_ : Nat) (d : DescL) : Bool := decide (0 < d.refs) && decide (d.ino = ino)
theorem node_iff {ino : Int} {j : Nat} {d : DescL} : nodeQ ino j d = true ↔ 0 < d.refs ∧ d.ino = ino := by
  unfold nodeQ
  simp only [Bool.and_eq_true, decide_eq_true_iff]
def nodeN (ds : List DescL) (ino : Int) : Nat := ds.countP (nodeQ ino 0)
theorem nodeN_next (ds : List DescL) (ino : Int) {k : Nat} (hk : k < ds.length) : nodeN (ds.take (k + 1)) ino = nodeN (ds.take k) ino + if nodeQ ino k ds[k] then 1 else 0 := by
  unfold nodeN
  rw [List.take_succ_eq_append_getElem hk, List.countP_append, List.countP_singleton]
  rfl
theorem nodeN_le (ds : List DescL) (ino : Int) : nodeN ds ino ≤ ds.length := List.countP_le_length
/-- All that name the node have the lock l, in a table that came of t so. -/
theorem map_node {t t' : TabL} {ino l : Int} {k j : Nat} (h : MapT (nodeQ ino) l t k t') (hj : j < t'.ds.length) (h1 : 0 < (t'.ds[j]).refs) (h2 : (t'.ds[j]).ino = ino) (hjk : j < k) : (t'.ds[j]).lock = l := by
  have hl := h.len
  have hjt : j < t.ds.length := by omega
  have e := h.get hjt hj
  have hq : nodeQ ino j t.ds[j] = true := by
    cases hq : nodeQ ino j t.ds[j] with
    | true => rfl
    | false =>
      rw [hq, Bool.and_false, if_neg (by decide)] at e
      rw [e] at h1 h2
      rw [node_iff.2 ⟨h1, h2⟩] at hq
      cases hq
  rw [hq, decide_eq_true hjk, if_pos (by rfl)] at e
  rw [e]
  rfl
theorem map_same {t t' : TabL} {ino l : Int} {k j : Nat} (h : MapT (nodeQ ino) l t k t') (hj : j < t.ds.length) (hj' : j < t'.ds.length) : nodeQ ino j t'.ds[j] = nodeQ ino j t.ds[j] := by
  rw [h.get hj hj']
  split <;> rfl
/-- The second round: sharing is always granted. -/
theorem share_goes {t0 t t' : TabL} {ino : Int} {k : Nat} (h0 : MapT (nodeQ ino) 0 t0 t0.ds.length t) (h : MapT (nodeQ ino) 1 t k t') (hk : k < t'.ds.length) (h1 : 0 < (t'.ds[k]).refs) (h2 : (t'.ds[k]).ino = ino) : lockT t' (k : Int) 1 = (⟨t'.ds.set k (withL t'.ds[k] 1), t'.fs⟩, 0) := by
  refine lock_at hk (by omega) (by decide) ?_
  rw [Bool.eq_false_iff]
  intro hcl
  obtain ⟨j, hj, hcl⟩ := clash_iff.1 hcl
  rw [Bool.and_eq_true] at hcl
  obtain ⟨hne, h3, h4⟩ := mate_iff.1 hcl.1
  rcases bars_iff.1 hcl.2 with ⟨hb, _⟩ | ⟨_, hb⟩
  · exact absurd hb (by decide)
  · have hl := h.len
    have hl0 := h0.len
    have hjt : j < t.ds.length := by omega
    rcases Nat.lt_or_ge j k with hlt | hge
    · have := map_node h hj (by omega) (by rw [h4]; exact h2) hlt
      omega
    · have e := h.get hjt hj
      rw [decide_eq_false (show ¬ j < k by omega), Bool.false_and, if_neg (by decide)] at e
      rw [e] at h3 h4 hb
      have := map_node h0 hjt (by omega) (by rw [h4]; exact h2) (by omega)
      omega
theorem map_list {t t' : TabL} {ino l : Int} (h : MapT (nodeQ ino) l t t.ds.length t') : t'.ds = t.ds.map fun d => if nodeQ ino 0 d = true then withL d l else d := by
  apply List.ext_getElem?
  intro j
  rw [h.2 j, List.getElem?_map]
  rcases Nat.lt_or_ge j t.ds.length with hj | hj
  · rw [List.getElem?_eq_getElem hj, Option.map_some, Option.map_some, decide_eq_true hj, Bool.true_and]
    rfl
  · rw [List.getElem?_eq_none hj]
    rfl
theorem share_held {t t' : TabL} {ino : Int} (h : MapT (nodeQ ino) 1 t t.ds.length t') : heldN t'.ds ino 1 = nodeN t.ds ino ∧ heldN t'.ds ino 2 = 0 := by
  unfold heldN nodeN
  rw [map_list h, List.countP_map, List.countP_map]
  constructor
  · refine List.countP_congr fun d _ => ?_
    show holdB ino 1 (if nodeQ ino 0 d = true then withL d 1 else d) = true ↔ nodeQ ino 0 d = true
    by_cases hq : nodeQ ino 0 d = true
    · rw [if_pos hq]
      have := node_iff.1 hq
      exact ⟨fun _ => hq, fun _ => hold_iff.2 ⟨this.1, this.2, rfl⟩⟩
    · rw [if_neg hq]
      exact ⟨fun hh => node_iff.2 ⟨(hold_iff.1 hh).1, (hold_iff.1 hh).2.1⟩, fun hh => absurd hh hq⟩
  · rw [List.countP_eq_zero]
    intro d _ hh
    have hh : holdB ino 2 (if nodeQ ino 0 d = true then withL d 1 else d) = true := hh
    by_cases hq : nodeQ ino 0 d = true
    · rw [if_pos hq] at hh
      exact absurd (hold_iff.1 hh).2.2 (by show ¬ (1 : Int) = 2; decide)
    · rw [if_neg hq] at hh
      exact hq (node_iff.2 ⟨(hold_iff.1 hh).1, (hold_iff.1 hh).2.1⟩)
/-- Who shares alone may have it alone; else nobody has. -/
theorem share_last {t t' : TabL} {ino : Int} (h : MapT (nodeQ ino) 1 t t.ds.length t') {m : Nat} (hm : m < t.ds.length) (hq : nodeQ ino m t.ds[m] = true) : ((lockT t' (m : Int) 2).2 = 0 ∨ (lockT t' (m : Int) 2).2 = 14) ∧ ((lockT t' (m : Int) 2).2 = 0 ↔ nodeN t.ds ino = 1) := by
  have hl := h.len
  have hm' : m < t'.ds.length := by omega
  have hqm : nodeQ ino m t'.ds[m] = true := by rw [map_same h hm hm']; exact hq
  obtain ⟨hr, hi⟩ := node_iff.1 hqm
  have hlk := map_node h hm' hr hi (by omega)
  have hs := held_self hm' ino 1
  rw [(share_held h).1, hold_iff.2 ⟨hr, hi, hlk⟩, if_pos rfl] at hs
  have hiff : clashB t'.ds m 2 (t'.ds[m]).ino = true ↔ othersN t'.ds m ino 1 ≠ 0 := by
    rw [hi]
    constructor
    · intro hcl h0
      obtain ⟨j, hj, hcl⟩ := clash_iff.1 hcl
      rw [Bool.and_eq_true] at hcl
      obtain ⟨hne, h3, h4⟩ := mate_iff.1 hcl.1
      have := others_zero.1 h0 j hj hne
      rw [hold_iff.2 ⟨by omega, h4, map_node h hj (by omega) h4 (by omega)⟩] at this
      cases this
    · intro h0
      cases hcl : clashB t'.ds m 2 ino with
      | true => rfl
      | false =>
      exact absurd (others_zero.2 fun j hj hne => by
       rw [Bool.eq_false_iff]
       intro hh
       obtain ⟨h1, h2, h3⟩ := hold_iff.1 hh
       have := clash_now (kind := 2) hj (mate_iff.2 ⟨hne, by omega, h2⟩) (bars_iff.2 (.inl ⟨rfl, by omega⟩))
       rw [hcl] at this
       cases this) h0
  have hd : descT t' (m : Int) = t'.ds[m] := desc_at hm'
  cases hc : clashB t'.ds m 2 (t'.ds[m]).ino with
  | true =>
    rw [lock_again (by decide) (open_at hm' (by omega)) (by rw [hd, Int.toNat_natCast]; exact hc)]
    refine ⟨.inr rfl, ?_⟩
    have := hiff.1 hc
    constructor
    · intro e; exact absurd e (show ¬ (14 : Int) = 0 by decide)
    · intro e; omega
  | false =>
    rw [lock_at hm' (by omega) (by decide) hc]
    refine ⟨.inl rfl, ?_⟩
    have : ¬ othersN t'.ds m ino 1 ≠ 0 := fun hh => by rw [hiff.2 hh] at hc; cases hc
    constructor
    · intro _; omega
    · intro _; rfl
end Go.Proofs.Ytfcjmcenaankfaa
