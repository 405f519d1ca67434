/-
  Descriptions and descriptors, plainly: the document's words on lists; what follows of them.
-/
import Derived.Test.YtfcjmcenaankfaaKit
namespace Go.Proofs.Ytfcjmcenaankfaa

structure DescL where
  ino : Int
  pos : Int
  rd : Bool
  wr : Bool
  refs : Int
  lock : Int
def zeroD : DescL := ⟨0, 0, false, false, 0, 0⟩
theorem desc_ext {a b : DescL} (h0 : a.ino = b.ino) (h1 : a.pos = b.pos) (h2 : a.rd = b.rd) (h3 : a.wr = b.wr) (h4 : a.refs = b.refs) (h5 : a.lock = b.lock) : a = b := by
  cases a; cases b; simp_all
instance : DecidableEq DescL := fun a b =>
  if h : a.ino = b.ino ∧ a.pos = b.pos ∧ a.rd = b.rd ∧ a.wr = b.wr ∧ a.refs = b.refs ∧ a.lock = b.lock then .isTrue (desc_ext h.1 h.2.1 h.2.2.1 h.2.2.2.1 h.2.2.2.2.1 h.2.2.2.2.2)
  else .isFalse fun e => h (by subst e; exact ⟨rfl, rfl, rfl, rfl, rfl, rfl⟩)
structure TabL where
  ds : List DescL
  fs : List (List Int)
theorem tab_ext {a b : TabL} (h0 : a.ds = b.ds) (h1 : a.fs = b.fs) : a = b := by cases a; cases b; simp_all
def rowT (t : TabL) (p : Int) : List Int := t.fs.getD p.toNat []
def inT (t : TabL) (p : Int) : Bool := decide (0 ≤ p) && decide (p < t.fs.length)
def atR (r : List Int) (k : Int) : Int := r.getD k.toNat 0
def hasT (t : TabL) (p fd : Int) : Bool := inT t p && (decide (0 ≤ fd) && decide (fd < (rowT t p).length)) && decide (0 ≤ atR (rowT t p) fd)
def descT (t : TabL) (i : Int) : DescL := t.ds.getD i.toNat zeroD
def placeT (t : TabL) (p fd : Int) : Int := if hasT t p fd then atR (rowT t p) fd else -1
def foundT (t : TabL) (p fd : Int) : DescL := if hasT t p fd then descT t (atR (rowT t p) fd) else zeroD
def setT (t : TabL) (i : Int) (x : DescL) : TabL := if i < 0 ∨ (t.ds.length : Int) ≤ i ∨ (descT t i).refs < 1 then t else ⟨t.ds.set i.toNat { x with refs := (descT t i).refs }, t.fs⟩
def countR (r : List Int) : Nat := r.countP fun x => decide (0 ≤ x)
def countT (t : TabL) (p : Int) : Nat := if inT t p then countR (rowT t p) else 0
def firstR (r : List Int) : Nat := r.findIdx fun x => decide (x < 0)
def freeD (ds : List DescL) : Nat := ds.findIdx fun d => decide (d.refs ≤ 0)
def putF (fs : List (List Int)) (p k : Nat) (v : Int) : List (List Int) := fs.set p ((fs.getD p []).set k v)
def putD1 (ds : List DescL) (i : Nat) (x : DescL) : List DescL := if i = ds.length then ds ++ [x] else ds.set i x
def openT (t : TabL) (p : Int) (x : DescL) : TabL × Int × Int :=
  if inT t p = false then (t, 0, 1) else if (rowT t p).length ≤ firstR (rowT t p) then (t, 0, 13)
  else (⟨putD1 t.ds (freeD t.ds) { x with refs := 1 }, putF t.fs p.toNat (firstR (rowT t p)) (freeD t.ds)⟩, firstR (rowT t p), 0)
def dupT (t : TabL) (p fd : Int) : TabL × Int × Int :=
  if hasT t p fd = false then (t, 0, 12) else if (rowT t p).length ≤ firstR (rowT t p) then (t, 0, 13)
  else (⟨t.ds.set (placeT t p fd).toNat { foundT t p fd with refs := (foundT t p fd).refs + 1 }, putF t.fs p.toNat (firstR (rowT t p)) (placeT t p fd)⟩, firstR (rowT t p), 0)
def lessD (d : DescL) : DescL := { d with refs := d.refs - 1 }
def closeT (t : TabL) (p fd : Int) : TabL × DescL × Int :=
  if hasT t p fd = false then (t, zeroD, 12)
  else (⟨t.ds.set (placeT t p fd).toNat (if (lessD (foundT t p fd)).refs = 0 then zeroD else lessD (foundT t p fd)), putF t.fs p.toNat fd.toNat (-1)⟩, lessD (foundT t p fd), 0)
def newT (n : Int) : TabL := if 8 < n then ⟨[], []⟩ else ⟨[], List.replicate n.toNat (List.replicate 8 (-1))⟩
def refsOf (fs : List (List Int)) (i : Int) : Nat := (fs.map fun r => r.count i).sum
def rowOk (n : Nat) (r : List Int) : Prop := r.length = 8 ∧ ∀ x ∈ r, -1 ≤ x ∧ x < (n : Int)
def descOk (fs : List (List Int)) (i : Nat) (d : DescL) : Prop := d.refs = refsOf fs i ∧ (refsOf fs i = 0 → d = zeroD)
def RightT (t : TabL) : Prop := (∀ r ∈ t.fs, rowOk t.ds.length r) ∧ ∀ i d, t.ds[i]? = some d → descOk t.fs i d
def SmallT (t : TabL) : Prop := t.ds.length ≤ 100 ∧ t.fs.length ≤ 20 ∧ ∀ r ∈ t.fs, r.length ≤ 20

/-! ### Counting -/
theorem count_set (r : List Int) (k : Nat) (v j : Int) (h : k < r.length) : (r.set k v).count j + (if r[k] = j then 1 else 0) = r.count j + (if v = j then 1 else 0) := by
  induction r generalizing k with
  | nil => cases h
  | cons a r ih =>
    cases k with
    | zero =>
      simp only [List.set_cons_zero, List.count_cons, List.getElem_cons_zero, beq_iff_eq]
      omega
    | succ k =>
      have := ih k (by simpa using h)
      simp only [List.set_cons_succ, List.count_cons, List.getElem_cons_succ, beq_iff_eq] at this ⊢
      omega
theorem sum_set (l : List (List Int)) (f : List Int → Nat) (p : Nat) (x : List Int) (h : p < l.length) : ((l.set p x).map f).sum + f l[p] = (l.map f).sum + f x := by
  induction l generalizing p with
  | nil => cases h
  | cons a l ih =>
    cases p with
    | zero => simp only [List.set_cons_zero, List.map_cons, List.sum_cons, List.getElem_cons_zero]; omega
    | succ p =>
      have := ih p (by simpa using h)
      simp only [List.set_cons_succ, List.map_cons, List.sum_cons, List.getElem_cons_succ] at this ⊢
      omega
theorem getD_at {α : Type} {l : List α} {p : Nat} {d : α} (h : p < l.length) : l.getD p d = l[p] := by
  rw [List.getD_eq_getElem?_getD, List.getElem?_eq_getElem h]; rfl
theorem refs_put (fs : List (List Int)) (p k : Nat) (v j : Int) (hp : p < fs.length) (hk : k < fs[p].length) : refsOf (putF fs p k v) j + (if fs[p][k] = j then 1 else 0) = refsOf fs j + (if v = j then 1 else 0) := by
  unfold refsOf putF
  rw [getD_at hp]
  have h1 := sum_set fs (fun r => r.count j) p (fs[p].set k v) hp
  have h2 := count_set fs[p] k v j hk
  omega
theorem refs_le (fs : List (List Int)) (p k : Nat) (hp : p < fs.length) (hk : k < fs[p].length) : 1 ≤ refsOf fs fs[p][k] := by
  have := refs_put fs p k (fs[p][k] + 1) fs[p][k] hp hk
  rw [if_pos rfl, if_neg (by omega)] at this
  omega
theorem refs_two (fs : List (List Int)) (p q k m : Nat) (hp : p < fs.length) (hk : k < fs[p].length) (hq : q < fs.length) (hm : m < fs[q].length) (hne : p ≠ q) (he : fs[p][k] = fs[q][m]) : 2 ≤ refsOf fs fs[p][k] := by
  have h1 := refs_put fs p k (fs[p][k] + 1) fs[p][k] hp hk
  rw [if_pos rfl, if_neg (by omega)] at h1
  have hq2 : q < (putF fs p k (fs[p][k] + 1)).length := by unfold putF; rw [List.length_set]; exact hq
  have e : (putF fs p k (fs[p][k] + 1))[q] = fs[q] := by
    unfold putF
    exact List.getElem_set_ne hne _
  have h2 := refs_le (putF fs p k (fs[p][k] + 1)) q m hq2 (by rw [e]; exact hm)
  have e2 : (putF fs p k (fs[p][k] + 1))[q][m]'(by rw [e]; exact hm) = fs[p][k] := by
    have : ∀ (r : List Int) (h : m < r.length), r = fs[q] → r[m] = fs[q][m] := fun r h e => by subst e; rfl
    rw [this _ _ e, he]
  rw [e2] at h2
  omega
theorem refs_none {t : TabL} (h : RightT t) {j : Int} (hj : (t.ds.length : Int) ≤ j) : refsOf t.fs j = 0 := by
  unfold refsOf
  have : ∀ l : List (List Int), (∀ r ∈ l, ∀ x ∈ r, x < (t.ds.length : Int)) → (l.map fun r => r.count j).sum = 0 := fun l => by
    induction l with
    | nil => intro _; rfl
    | cons a l ih =>
      intro hl
      rw [List.map_cons, List.sum_cons, ih (fun r hr => hl r (List.mem_cons_of_mem _ hr)), List.count_eq_zero.2 (fun hm => by have := hl a List.mem_cons_self j hm; omega)]
  exact this _ fun r hr x hx => ((h.1 r hr).2 x hx).2
theorem refs_bound (fs : List (List Int)) (j : Int) (a b : Nat) (ha : fs.length ≤ a) (hb : ∀ r ∈ fs, r.length ≤ b) : refsOf fs j ≤ a * b := by
  unfold refsOf
  have : ∀ l : List (List Int), (∀ r ∈ l, r.length ≤ b) → (l.map fun r => r.count j).sum ≤ l.length * b := fun l => by
    induction l with
    | nil => intro _; simp
    | cons c l ih =>
      intro hl
      have h1 := ih fun r hr => hl r (List.mem_cons_of_mem _ hr)
      have h2 := hl c List.mem_cons_self
      have h3 : c.count j ≤ c.length := List.count_le_length
      simp only [List.map_cons, List.sum_cons, List.length_cons, Nat.add_mul]
      omega
  exact Nat.le_trans (this fs hb) (Nat.mul_le_mul_right _ ha)

/-! ### Ways in -/
theorem in_T {t : TabL} {p : Int} (h : inT t p = true) : ∃ k : Nat, p = k ∧ k < t.fs.length := by
  unfold inT at h
  simp only [Bool.and_eq_true, decide_eq_true_iff] at h
  obtain ⟨k, rfl⟩ := Int.eq_ofNat_of_zero_le h.1
  exact ⟨k, rfl, by omega⟩
theorem row_at {t : TabL} {k : Nat} (h : k < t.fs.length) : rowT t (k : Int) = t.fs[k] := by unfold rowT; rw [Int.toNat_natCast, getD_at h]
theorem row_right {t : TabL} (h : RightT t) {k : Nat} (hk : k < t.fs.length) : rowOk t.ds.length (rowT t k) := by rw [row_at hk]; exact h.1 _ (List.getElem_mem _)
theorem has_T {t : TabL} {p fd : Int} (h : hasT t p fd = true) : ∃ k m : Nat, p = k ∧ fd = m ∧ k < t.fs.length ∧ m < (rowT t k).length ∧ 0 ≤ atR (rowT t k) m := by
  unfold hasT at h
  simp only [Bool.and_eq_true, decide_eq_true_iff] at h
  obtain ⟨k, rfl, hk⟩ := in_T h.1.1
  obtain ⟨m, rfl⟩ := Int.eq_ofNat_of_zero_le h.1.2.1
  exact ⟨k, m, rfl, rfl, hk, by omega, h.2⟩
theorem at_R {r : List Int} {k : Nat} (h : k < r.length) : atR r (k : Int) = r[k] := by unfold atR; rw [Int.toNat_natCast, getD_at h]
/-- What a descriptor that is there names: a description, that is referred to. -/
theorem place_T {t : TabL} (hr : RightT t) {k m : Nat} (hk : k < t.fs.length) (hm : m < (rowT t k).length) (h0 : 0 ≤ atR (rowT t k) m) : ∃ i : Nat, atR (rowT t k) m = i ∧ i < t.ds.length ∧ 1 ≤ refsOf t.fs i := by
  obtain ⟨i, hi⟩ := Int.eq_ofNat_of_zero_le h0
  have h1 := (row_right hr hk).2 (atR (rowT t k) m) (by rw [at_R hm]; exact List.getElem_mem _)
  refine ⟨i, hi, by omega, ?_⟩
  have hm' : m < t.fs[k].length := by rwa [row_at hk] at hm
  have e : t.fs[k][m] = (i : Int) := by
    rw [← hi, at_R hm]
    have : ∀ (r : List Int) (h : m < r.length), r = t.fs[k] → t.fs[k][m] = r[m] := fun r h e => by subst e; rfl
    exact this _ _ (row_at hk)
  have := refs_le t.fs k m hk hm'
  rwa [e] at this
theorem desc_at {t : TabL} {i : Nat} (h : i < t.ds.length) : descT t (i : Int) = t.ds[i] := by unfold descT; rw [Int.toNat_natCast, getD_at h]
theorem desc_right {t : TabL} (hr : RightT t) {i : Nat} (h : i < t.ds.length) : descOk t.fs i t.ds[i] := hr.2 i _ (List.getElem?_eq_getElem h)
theorem first_lt {r : List Int} (h : firstR r < r.length) : r[firstR r] < 0 := by
  have := List.findIdx_getElem (p := fun x => decide (x < 0)) (xs := r) (w := h)
  exact of_decide_eq_true this
theorem first_min {r : List Int} {k : Nat} (hk : k < firstR r) : ∃ h : k < r.length, 0 ≤ r[k] := by
  have hl : k < r.length := Nat.lt_of_lt_of_le hk List.findIdx_le_length
  refine ⟨hl, ?_⟩
  have := List.not_of_lt_findIdx (p := fun x => decide (x < 0)) (xs := r) hk
  exact Int.not_lt.1 (by simpa using this)
theorem free_le (ds : List DescL) : freeD ds ≤ ds.length := List.findIdx_le_length
theorem free_lt {ds : List DescL} (h : freeD ds < ds.length) : ds[freeD ds].refs ≤ 0 := by
  have := List.findIdx_getElem (p := fun d : DescL => decide (d.refs ≤ 0)) (xs := ds) (w := h)
  exact of_decide_eq_true this
/-- A free description is zero, and nobody refers to it. -/
theorem free_zero {t : TabL} (hr : RightT t) : refsOf t.fs (freeD t.ds) = 0 ∧ ∀ h : freeD t.ds < t.ds.length, t.ds[freeD t.ds] = zeroD := by
  rcases Nat.lt_or_ge (freeD t.ds) t.ds.length with h | h
  · have h1 := free_lt h
    have h2 := desc_right hr h
    have h3 : refsOf t.fs (freeD t.ds) = 0 := by have := h2.1; omega
    exact ⟨h3, fun _ => h2.2 h3⟩
  · exact ⟨refs_none hr (by omega), fun h' => absurd h' (by omega)⟩
theorem putD1_len (ds : List DescL) (i : Nat) (x : DescL) : (putD1 ds i x).length = if i = ds.length then ds.length + 1 else ds.length := by
  unfold putD1
  split
  · rw [List.length_append]; rfl
  · rw [List.length_set]
theorem putD1_at (ds : List DescL) (i : Nat) (x : DescL) (hi : i ≤ ds.length) (j : Nat) : (putD1 ds i x)[j]? = if j = i then some x else ds[j]? := by
  unfold putD1
  split
  · rename_i h
    subst h
    rw [List.getElem?_append]
    by_cases hj : j < ds.length
    · rw [if_pos hj, if_neg (by omega)]
    · rw [if_neg hj]
      by_cases e : j = ds.length
      · subst e; rw [if_pos rfl, Nat.sub_self]; rfl
      · rw [if_neg e, List.getElem?_eq_none (by rw [List.length_singleton]; omega), List.getElem?_eq_none (by omega)]
  · rename_i h
    rw [List.getElem?_set]
    by_cases e : i = j
    · subst e; rw [if_pos rfl, if_pos rfl, if_pos (by omega)]
    · rw [if_neg e, if_neg (Ne.symm e)]

/-! ### A table stays right -/
theorem putF_len (fs : List (List Int)) (p k : Nat) (v : Int) : (putF fs p k v).length = fs.length := by unfold putF; rw [List.length_set]
theorem putF_rows {fs : List (List Int)} {p k : Nat} {v : Int} (hp : p < fs.length) {n m : Nat} (h : ∀ r ∈ fs, rowOk n r) (hv : -1 ≤ v ∧ v < (m : Int)) (hm : n ≤ m) : ∀ r ∈ putF fs p k v, rowOk m r := by
  intro r hr
  unfold putF at hr
  rw [getD_at hp] at hr
  have hgood : ∀ r ∈ fs, rowOk m r := fun r hr => ⟨(h r hr).1, fun x hx => ⟨((h r hr).2 x hx).1, by have := ((h r hr).2 x hx).2; omega⟩⟩
  rcases List.mem_or_eq_of_mem_set hr with hr | rfl
  · exact hgood r hr
  · have h1 := hgood fs[p] (List.getElem_mem _)
    refine ⟨by rw [List.length_set]; exact h1.1, fun x hx => ?_⟩
    rcases List.mem_or_eq_of_mem_set hx with hx | rfl
    · exact h1.2 x hx
    · exact hv
theorem getE_of {r s : List Int} {k : Nat} (e : r = s) (h : k < r.length) (h' : k < s.length) : r[k] = s[k] := by subst e; rfl
theorem right_put {t : TabL} (hr : RightT t) {p k : Nat} (hp : p < t.fs.length) (hk : k < (rowT t p).length) {v : Int} {ds' : List DescL}
    (hv : -1 ≤ v ∧ v < (ds'.length : Int)) (hl : t.ds.length ≤ ds'.length)
    (h : ∀ (i : Nat) (d : DescL), ds'[i]? = some d → ∀ n : Nat, n + (if atR (rowT t p) k = (i : Int) then 1 else 0) = refsOf t.fs i + (if v = (i : Int) then 1 else 0) → d.refs = (n : Int) ∧ (n = 0 → d = zeroD)) : RightT ⟨ds', putF t.fs p k v⟩ := by
  have hk' : k < t.fs[p].length := by rwa [row_at hp] at hk
  have e : t.fs[p][k] = atR (rowT t p) k := by rw [at_R hk]; exact getE_of (row_at hp).symm _ _
  refine ⟨putF_rows hp hr.1 hv hl, fun i d hd => ?_⟩
  have h1 := refs_put t.fs p k v i hp hk'
  rw [e] at h1
  exact h i d hd _ h1
theorem right_open {t : TabL} (hr : RightT t) (p : Int) (x : DescL) : RightT (openT t p x).1 := by
  unfold openT
  split
  · exact hr
  · rename_i h1
    obtain ⟨k, rfl, hk⟩ := in_T (by simpa using h1)
    split
    · exact hr
    · rename_i h2
      have hf : firstR (rowT t k) < (rowT t k).length := by omega
      have hz := free_zero hr
      have hle := free_le t.ds
      have hneg : atR (rowT t k) (firstR (rowT t k) : Nat) < 0 := by rw [at_R hf]; exact first_lt hf
      have hlen := putD1_len t.ds (freeD t.ds) { x with refs := 1 }
      rw [Int.toNat_natCast]
      refine right_put hr hk hf ⟨by omega, ?_⟩ ?_ fun i d hd n hn => ?_
      · rw [hlen]; split <;> omega
      · rw [hlen]; split <;> omega
      · rw [if_neg (by omega)] at hn
        rw [putD1_at _ _ _ hle] at hd
        by_cases e : i = freeD t.ds
        · subst e
          rw [if_pos rfl] at hd hn
          injection hd with hd
          subst hd
          have : n = 1 := by omega
          subst this
          exact ⟨rfl, fun h => by cases h⟩
        · rw [if_neg e] at hd
          rw [if_neg (by omega)] at hn
          have h3 := hr.2 i d hd
          rw [show n = refsOf t.fs i by omega]
          exact h3
theorem found_at {t : TabL} {k m i : Nat} (h : hasT t k m = true) (hi : atR (rowT t k) m = (i : Int)) (hl : i < t.ds.length) : placeT t k m = i ∧ foundT t k m = t.ds[i] := by
  unfold placeT foundT
  rw [if_pos h, if_pos h, hi]
  exact ⟨rfl, desc_at hl⟩
theorem set_at {ds : List DescL} {i j : Nat} {x d : DescL} (h : (ds.set i x)[j]? = some d) : (j = i ∧ d = x) ∨ (j ≠ i ∧ ds[j]? = some d) := by
  rw [List.getElem?_set] at h
  by_cases e : i = j
  · subst e
    rw [if_pos rfl] at h
    split at h
    · injection h with h; exact .inl ⟨rfl, h.symm⟩
    · cases h
  · rw [if_neg e] at h; exact .inr ⟨Ne.symm e, h⟩
theorem right_dup {t : TabL} (hr : RightT t) (p fd : Int) : RightT (dupT t p fd).1 := by
  unfold dupT
  split
  · exact hr
  · rename_i h1
    have h1' : hasT t p fd = true := by simpa using h1
    obtain ⟨k, m, rfl, rfl, hk, hm, h0⟩ := has_T h1'
    split
    · exact hr
    · rename_i h2
      have hf : firstR (rowT t k) < (rowT t k).length := by omega
      obtain ⟨i, hi, hil, hrf⟩ := place_T hr hk hm h0
      obtain ⟨e1, e2⟩ := found_at h1' hi hil
      have hneg : atR (rowT t k) (firstR (rowT t k) : Nat) < 0 := by rw [at_R hf]; exact first_lt hf
      rw [e1, e2, Int.toNat_natCast, Int.toNat_natCast]
      refine right_put hr hk hf ⟨by omega, by rw [List.length_set]; omega⟩ (by rw [List.length_set]; omega) fun j d hd n hn => ?_
      rw [if_neg (by omega)] at hn
      rcases set_at hd with ⟨rfl, rfl⟩ | ⟨hne, hd⟩
      · rw [if_pos rfl] at hn
        have h3 := (desc_right hr hil).1
        exact ⟨by show t.ds[j].refs + 1 = _; omega, fun h => by omega⟩
      · rw [if_neg (by omega)] at hn
        rw [show n = refsOf t.fs j by omega]
        exact hr.2 j d hd
theorem right_close {t : TabL} (hr : RightT t) (p fd : Int) : RightT (closeT t p fd).1 := by
  unfold closeT
  split
  · exact hr
  · rename_i h1
    have h1' : hasT t p fd = true := by simpa using h1
    obtain ⟨k, m, rfl, rfl, hk, hm, h0⟩ := has_T h1'
    obtain ⟨i, hi, hil, hrf⟩ := place_T hr hk hm h0
    obtain ⟨e1, e2⟩ := found_at h1' hi hil
    rw [e1, e2, Int.toNat_natCast, Int.toNat_natCast, Int.toNat_natCast]
    refine right_put hr hk hm ⟨by omega, by rw [List.length_set]; omega⟩ (by rw [List.length_set]; omega) fun j d hd n hn => ?_
    rw [hi, if_neg (show ¬ (-1 : Int) = (j : Int) by omega)] at hn
    have h3 := (desc_right hr hil).1
    rcases set_at hd with ⟨rfl, rfl⟩ | ⟨hne, hd⟩
    · rw [if_pos rfl] at hn
      have h4 : (lessD t.ds[j]).refs = (n : Int) := by show t.ds[j].refs - 1 = _; omega
      split
      · rename_i hz
        exact ⟨by show (0 : Int) = _; omega, fun _ => rfl⟩
      · rename_i hz
        exact ⟨h4, fun h => by omega⟩
    · rw [if_neg (by omega)] at hn
      rw [show n = refsOf t.fs j by omega]
      exact hr.2 j d hd
theorem right_set {t : TabL} (hr : RightT t) (i : Int) (x : DescL) : RightT (setT t i x) := by
  unfold setT
  split
  · exact hr
  · rename_i h
    obtain ⟨j, rfl⟩ := Int.eq_ofNat_of_zero_le (show 0 ≤ i by omega)
    have hj : j < t.ds.length := by omega
    have e := desc_at hj
    have h3 := desc_right hr hj
    rw [e] at h ⊢
    rw [Int.toNat_natCast]
    refine ⟨fun r hr' => by rw [List.length_set]; exact hr.1 r hr', fun a d hd => ?_⟩
    rcases set_at hd with ⟨rfl, rfl⟩ | ⟨hne, hd⟩
    · exact ⟨h3.1, fun (h0 : refsOf t.fs a = 0) => by have := h3.1; omega⟩
    · exact hr.2 a d hd
theorem right_new (n : Int) : RightT (newT n) := by
  unfold newT
  split
  · exact ⟨(fun r hr => by cases hr), fun i d hd => by cases hd⟩
  · refine ⟨fun r hr => ?_, fun i d hd => by cases hd⟩
    rw [(List.mem_replicate.1 hr).2]
    refine ⟨by rw [List.length_replicate], fun x hx => ?_⟩
    rw [(List.mem_replicate.1 hx).2]
    exact ⟨by omega, by omega⟩
end Go.Proofs.Ytfcjmcenaankfaa
