/-
  Locks of descriptions, plainly: the document's words on lists; what follows of them.
-/
import Derived.Test.YtfcjmcenaankfaaHdlLaws
namespace Go.Proofs.Ytfcjmcenaankfaa

def kindB (kind : Int) : Bool := decide (0 ≤ kind) && decide (kind ≤ 2)
def openB (t : TabL) (i : Int) : Bool := decide (0 ≤ i) && (decide (i < t.ds.length) && decide (1 ≤ (descT t i).refs))
def mateB (i : Nat) (ino : Int) (k : Nat) (y : DescL) : Bool := decide (k ≠ i) && (decide (1 ≤ y.refs) && decide (y.ino = ino))
def barsB (kind : Int) (y : DescL) : Bool := (decide (kind = 2) && decide (y.lock ≠ 0)) || (decide (kind = 1) && decide (y.lock = 2))
/-- Does one of the first m descriptions, other than i, bar this? -/
def clashP (ds : List DescL) (i : Nat) (kind ino : Int) (m : Nat) : Bool := (List.range m).any fun k => mateB i ino k (ds.getD k zeroD) && barsB kind (ds.getD k zeroD)
def clashB (ds : List DescL) (i : Nat) (kind ino : Int) : Bool := clashP ds i kind ino ds.length
def withL (x : DescL) (kind : Int) : DescL := { x with lock := kind }
def lockT (t : TabL) (i kind : Int) : TabL × Int :=
  if kindB kind = false then (t, 1) else if openB t i = false then (t, 12) else if clashB t.ds i.toNat kind (descT t i).ino = true then (t, 14) else (setT t i (withL (descT t i) kind), 0)
def holdB (ino l : Int) (y : DescL) : Bool := decide (0 < y.refs) && (decide (y.ino = ino) && decide (y.lock = l))
def heldN (ds : List DescL) (ino l : Int) : Nat := ds.countP (holdB ino l)
def fair1 (ds : List DescL) (d : DescL) : Bool := (decide (0 ≤ d.lock) && decide (d.lock ≤ 2)) && !(decide (1 < heldN ds d.ino 2) || (decide (heldN ds d.ino 2 = 1) && decide (0 < heldN ds d.ino 1)))
def fairB (t : TabL) : Bool := t.ds.all (fair1 t.ds)
def FairT (t : TabL) : Prop := ∀ d ∈ t.ds, (0 ≤ d.lock ∧ d.lock ≤ 2) ∧ heldN t.ds d.ino 2 ≤ 1 ∧ (heldN t.ds d.ino 2 = 1 → heldN t.ds d.ino 1 = 0)
theorem fair_1 {ds : List DescL} {d : DescL} : fair1 ds d = true ↔ (0 ≤ d.lock ∧ d.lock ≤ 2) ∧ heldN ds d.ino 2 ≤ 1 ∧ (heldN ds d.ino 2 = 1 → heldN ds d.ino 1 = 0) := by
  unfold fair1
  simp only [Bool.and_eq_true, decide_eq_true_iff, Bool.not_eq_true', Bool.or_eq_false_iff, Bool.and_eq_false_iff, decide_eq_false_iff_not]
  constructor
  · rintro ⟨h1, h2, h3⟩; exact ⟨h1, by omega, fun h => by omega⟩
  · rintro ⟨h1, h2, h3⟩
    refine ⟨h1, by omega, ?_⟩
    by_cases h : heldN ds d.ino 2 = 1
    · right; have := h3 h; omega
    · left; exact h
theorem fair_B {t : TabL} : fairB t = true ↔ FairT t := by
  unfold fairB FairT
  rw [List.all_eq_true]
  exact ⟨fun h d hd => fair_1.1 (h d hd), fun h d hd => fair_1.2 (h d hd)⟩
theorem fair_no {t : TabL} {k : Nat} (hk : k < t.ds.length) (h : fair1 t.ds t.ds[k] = false) : fairB t = false := by
  unfold fairB
  rw [List.all_eq_false]
  exact ⟨_, List.getElem_mem hk, by rw [h]; decide⟩
theorem clash_zero (ds : List DescL) (i : Nat) (kind ino : Int) : clashP ds i kind ino 0 = false := rfl
theorem clash_next {ds : List DescL} {i : Nat} {kind ino : Int} {k : Nat} (hk : k < ds.length) : clashP ds i kind ino (k + 1) = (clashP ds i kind ino k || (mateB i ino k ds[k] && barsB kind ds[k])) := by
  unfold clashP
  rw [List.range_succ, List.any_append, List.any_cons, List.any_nil, Bool.or_false, getD_at hk]
theorem clash_iff {ds : List DescL} {i : Nat} {kind ino : Int} : clashB ds i kind ino = true ↔ ∃ (k : Nat) (h : k < ds.length), (mateB i ino k ds[k] && barsB kind ds[k]) = true := by
  unfold clashB clashP
  rw [List.any_eq_true]
  constructor
  · rintro ⟨k, hk, h⟩
    have hk := List.mem_range.1 hk
    rw [getD_at hk] at h
    exact ⟨k, hk, h⟩
  · rintro ⟨k, hk, h⟩
    exact ⟨k, List.mem_range.2 hk, by rw [getD_at hk]; exact h⟩
theorem clash_now {ds : List DescL} {i : Nat} {kind ino : Int} {k : Nat} (hk : k < ds.length) (h1 : mateB i ino k ds[k] = true) (h2 : barsB kind ds[k] = true) : clashB ds i kind ino = true := clash_iff.2 ⟨k, hk, by rw [h1, h2]; rfl⟩
theorem clash_all {ds : List DescL} {i : Nat} {kind ino : Int} (h : clashP ds i kind ino ds.length = false) : clashB ds i kind ino = false := h
theorem held_zero (ds : List DescL) (ino l : Int) : heldN (ds.take 0) ino l = 0 := rfl
theorem held_next (ds : List DescL) (ino l : Int) {k : Nat} (hk : k < ds.length) : heldN (ds.take (k + 1)) ino l = heldN (ds.take k) ino l + if holdB ino l ds[k] then 1 else 0 := by
  unfold heldN
  rw [List.take_succ_eq_append_getElem hk, List.countP_append, List.countP_singleton]
theorem held_le (ds : List DescL) (ino l : Int) : heldN ds ino l ≤ ds.length := List.countP_le_length
theorem open_in {t : TabL} {i : Int} (h : openB t i = true) : ∃ a : Nat, ∃ h : a < t.ds.length, i = (a : Int) ∧ 1 ≤ (t.ds[a]).refs ∧ descT t i = t.ds[a] := by
  unfold openB at h
  simp only [Bool.and_eq_true, decide_eq_true_iff] at h
  obtain ⟨a, rfl⟩ := Int.eq_ofNat_of_zero_le h.1
  have ha : a < t.ds.length := by omega
  have e := desc_at ha
  exact ⟨a, ha, rfl, by rw [← e]; exact h.2.2, e⟩
theorem open_at {t : TabL} {a : Nat} (h : a < t.ds.length) (h1 : 1 ≤ (t.ds[a]).refs) : openB t (a : Int) = true := by
  unfold openB
  rw [desc_at h, decide_eq_true h1, decide_eq_true (show (0 : Int) ≤ (a : Int) by omega), decide_eq_true (show (a : Int) < (t.ds.length : Int) by omega)]
  rfl
theorem lock_kind {t : TabL} {i kind : Int} (h : kindB kind = false) : lockT t i kind = (t, 1) := if_pos h
theorem lock_bad {t : TabL} {i kind : Int} (h : kindB kind = true) (h2 : openB t i = false) : lockT t i kind = (t, 12) := by unfold lockT; rw [if_neg (by rw [h]; decide), if_pos h2]
theorem lock_again {t : TabL} {i kind : Int} (h : kindB kind = true) (h2 : openB t i = true) (h3 : clashB t.ds i.toNat kind (descT t i).ino = true) : lockT t i kind = (t, 14) := by
  unfold lockT; rw [if_neg (by rw [h]; decide), if_neg (by rw [h2]; decide), if_pos h3]
theorem lock_goes {t : TabL} {i kind : Int} (h : kindB kind = true) (h2 : openB t i = true) (h3 : clashB t.ds i.toNat kind (descT t i).ino = false) : lockT t i kind = (setT t i (withL (descT t i) kind), 0) := by
  unfold lockT; rw [if_neg (by rw [h]; decide), if_neg (by rw [h2]; decide), if_neg (by rw [h3]; decide)]
theorem set_withL {t : TabL} {a : Nat} (h : a < t.ds.length) (h1 : 1 ≤ (t.ds[a]).refs) (kind : Int) : setT t (a : Int) (withL t.ds[a] kind) = ⟨t.ds.set a (withL t.ds[a] kind), t.fs⟩ := by
  unfold setT
  rw [desc_at h, if_neg (by omega), Int.toNat_natCast]
  rfl
/-- What a lock comes to: an error, and all is as it was; or it is held. -/
theorem lock_cases (t : TabL) (i kind : Int) : ((lockT t i kind).1 = t ∧ ((lockT t i kind).2 = 1 ∨ (lockT t i kind).2 = 12 ∨ (lockT t i kind).2 = 14)) ∨
    (∃ a : Nat, ∃ h : a < t.ds.length, i = (a : Int) ∧ 1 ≤ (t.ds[a]).refs ∧ (0 ≤ kind ∧ kind ≤ 2) ∧ clashB t.ds a kind (t.ds[a]).ino = false ∧ lockT t i kind = (⟨t.ds.set a (withL t.ds[a] kind), t.fs⟩, 0)) := by
  cases hk : kindB kind with
  | false => rw [lock_kind hk]; exact .inl ⟨rfl, .inl rfl⟩
  | true =>
    cases ho : openB t i with
    | false => rw [lock_bad hk ho]; exact .inl ⟨rfl, .inr (.inl rfl)⟩
    | true =>
      cases hc : clashB t.ds i.toNat kind (descT t i).ino with
      | true => rw [lock_again hk ho hc]; exact .inl ⟨rfl, .inr (.inr rfl)⟩
      | false =>
        obtain ⟨a, ha, rfl, hr, hd⟩ := open_in ho
        refine .inr ⟨a, ha, rfl, hr, ?_, ?_, ?_⟩
        · unfold kindB at hk; simpa only [Bool.and_eq_true, decide_eq_true_iff] using hk
        · rw [hd, Int.toNat_natCast] at hc; exact hc
        · rw [lock_goes hk ho hc, hd, set_withL ha hr]
theorem lock_ok {t : TabL} {i kind : Int} (h : (lockT t i kind).2 = 0) : ∃ a : Nat, ∃ h : a < t.ds.length, i = (a : Int) ∧ 1 ≤ (t.ds[a]).refs ∧ (0 ≤ kind ∧ kind ≤ 2) ∧ clashB t.ds a kind (t.ds[a]).ino = false ∧ lockT t i kind = (⟨t.ds.set a (withL t.ds[a] kind), t.fs⟩, 0) := by
  rcases lock_cases t i kind with ⟨_, h1⟩ | h1
  · omega
  · exact h1
theorem lock_same {t : TabL} {i kind : Int} (h : (lockT t i kind).2 ≠ 0) : (lockT t i kind).1 = t := by
  rcases lock_cases t i kind with ⟨h1, _⟩ | ⟨a, ha, _, _, _, _, e⟩
  · exact h1
  · rw [e] at h; exact absurd rfl h
theorem lock_at {t : TabL} {a : Nat} (ha : a < t.ds.length) (hr : 1 ≤ (t.ds[a]).refs) {kind : Int} (hk : 0 ≤ kind ∧ kind ≤ 2) (hc : clashB t.ds a kind (t.ds[a]).ino = false) : lockT t (a : Int) kind = (⟨t.ds.set a (withL t.ds[a] kind), t.fs⟩, 0) := by
  rw [lock_goes (by unfold kindB; rw [decide_eq_true hk.1, decide_eq_true hk.2]; rfl) (open_at ha hr) (by rw [desc_at ha, Int.toNat_natCast]; exact hc), desc_at ha, set_withL ha hr]
theorem clash_none (ds : List DescL) (a : Nat) (ino : Int) : clashB ds a 0 ino = false := by
  rw [Bool.eq_false_iff]
  intro h
  obtain ⟨k, hk, h⟩ := clash_iff.1 h
  unfold barsB at h
  rw [Bool.and_eq_true] at h
  simp at h
theorem lock_none {t : TabL} {a : Nat} (ha : a < t.ds.length) (hr : 1 ≤ (t.ds[a]).refs) : lockT t (a : Int) 0 = (⟨t.ds.set a (withL t.ds[a] 0), t.fs⟩, 0) := lock_at ha hr (by decide) (clash_none _ _ _)
theorem right_lock {t : TabL} (hr : RightT t) (i kind : Int) : RightT (lockT t i kind).1 := by
  unfold lockT
  split
  · exact hr
  · split
    · exact hr
    · split
      · exact hr
      · exact right_set hr _ _
theorem size_lock {m : Nat} {t : TabL} (h : SizeM m t) (i kind : Int) : SizeM m (lockT t i kind).1 := by
  unfold lockT
  split
  · exact h
  · split
    · exact h
    · split
      · exact h
      · exact size_setT h _ _
theorem lock_len (t : TabL) (i kind : Int) : (lockT t i kind).1.ds.length = t.ds.length := by
  rcases lock_cases t i kind with ⟨h, _⟩ | ⟨a, ha, _, _, _, _, e⟩
  · rw [h]
  · rw [e]; exact List.length_set ..
end Go.Proofs.Ytfcjmcenaankfaa
