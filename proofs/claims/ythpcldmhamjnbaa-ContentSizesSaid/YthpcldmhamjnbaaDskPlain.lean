/-
  Nodes of a disk, plainly: what names a node; what is right, in the program's words and in the document's; they say the same.
-/
import Derived.Test.YthpcldmhamjnbaaLay5
namespace Go.Proofs.Ythpcldmhamjnbaa

structure NodeL where
  kind : Int
  mode : Int
  owner : Int
  links : Int
  opn : Int
  up : Int
  data : Nm
  names : List EntL

def zeroN : NodeL := ⟨0, 0, 0, 0, 0, 0, [], []⟩
theorem node_ext {a b : NodeL} (h0 : a.kind = b.kind) (h1 : a.mode = b.mode) (h2 : a.owner = b.owner) (h3 : a.links = b.links) (h4 : a.opn = b.opn) (h5 : a.up = b.up) (h6 : a.data = b.data) (h7 : a.names = b.names) : a = b := by
  cases a; cases b; simp_all
instance : DecidableEq NodeL := fun a b =>
  decidable_of_iff (a.kind = b.kind ∧ a.mode = b.mode ∧ a.owner = b.owner ∧ a.links = b.links ∧ a.opn = b.opn ∧ a.up = b.up ∧ a.data = b.data ∧ a.names = b.names)
    ⟨fun ⟨h0, h1, h2, h3, h4, h5, h6, h7⟩ => node_ext h0 h1 h2 h3 h4 h5 h6 h7, fun h => by subst h; simp⟩

def weightL (n : NodeL) : Nat := if n.kind = 1 ∨ n.kind = 3 then n.data.length else 0
def bytesL (l : List NodeL) : Nat := (l.map weightL).sum
def usedL (l : List NodeL) : Nat := l.countP fun n => !decide (n.kind = 0)
theorem bytes_succ (l : List NodeL) (k : Nat) (h : k < l.length) : bytesL (l.take (k + 1)) = bytesL (l.take k) + weightL l[k] := by
  unfold bytesL
  rw [List.take_succ_eq_append_getElem h, List.map_append, List.sum_append]
  simp
theorem used_succ (l : List NodeL) (k : Nat) (h : k < l.length) : usedL (l.take (k + 1)) = usedL (l.take k) + if l[k].kind = 0 then 0 else 1 := by
  unfold usedL
  rw [List.take_succ_eq_append_getElem h, List.countP_append]
  by_cases hk : l[k].kind = 0 <;> simp [hk]
theorem used_le (l : List NodeL) : usedL l ≤ l.length := List.countP_le_length
/-- What is not too much to look at. -/
def SmallN (n : NodeL) : Prop := n.data.length ≤ 2000 ∧ n.names.length ≤ 130
def Small (l : List NodeL) : Prop := l.length ≤ 110 ∧ ∀ n ∈ l, SmallN n
theorem weight_le {n : NodeL} (h : SmallN n) : weightL n ≤ 2000 := by
  unfold weightL
  split
  · exact h.1
  · omega
theorem bytes_le (l : List NodeL) (h : ∀ n ∈ l, SmallN n) : bytesL l ≤ l.length * 2000 := by
  induction l with
  | nil => simp [bytesL]
  | cons a l ih =>
    have h1 := ih fun n hn => h n (by simp [hn])
    have h2 := weight_le (h a (by simp))
    have : bytesL (a :: l) = weightL a + bytesL l := by simp [bytesL]
    rw [this, List.length_cons]
    omega
theorem bytes_take_le {l : List NodeL} (h : Small l) (k : Nat) : bytesL (l.take k) ≤ 220000 := by
  have h1 := bytes_le (l.take k) fun n hn => h.2 n (List.mem_of_mem_take hn)
  have h2 : (l.take k).length ≤ 110 := by have := h.1; rw [List.length_take]; omega
  omega

/-- Counting what names node i: how many names, and the node that has the last of them. -/
def stepN (i at' : Int) (s : Nat × Int) (e : EntL) : Nat × Int := if e.2 = i then (s.1 + 1, at') else s
def foldN (i at' : Int) (s : Nat × Int) (es : List EntL) : Nat × Int := es.foldl (stepN i at') s
def nmTo (l : List NodeL) (i : Int) (s0 : Nat × Int) : Nat → Nat × Int
  | 0 => s0
  | k + 1 => foldN i k (nmTo l i s0 k) (l.getD k zeroN).names
def nmL (l : List NodeL) (i : Int) (s0 : Nat × Int) : Nat × Int := nmTo l i s0 l.length

theorem foldN_succ (i at' : Int) (s : Nat × Int) (es : List EntL) (j : Nat) (h : j < es.length) : foldN i at' s (es.take (j + 1)) = stepN i at' (foldN i at' s (es.take j)) es[j] := by
  unfold foldN
  rw [List.take_succ_eq_append_getElem h, List.foldl_append]
  rfl
def SameN (s t : Nat × Int) : Prop := s.1 = t.1 ∧ (0 < s.1 → s.2 = t.2)
theorem step_same {i at' : Int} {s t : Nat × Int} (h : SameN s t) (e : EntL) : SameN (stepN i at' s e) (stepN i at' t e) := by
  unfold stepN
  split
  · exact ⟨by simp [h.1], fun _ => rfl⟩
  · exact h
theorem fold_same {i at' : Int} (es : List EntL) : ∀ {s t : Nat × Int}, SameN s t → SameN (foldN i at' s es) (foldN i at' t es) := by
  induction es with
  | nil => intro s t h; exact h
  | cons e es ih => intro s t h; exact ih (step_same h e)
theorem nm_same (l : List NodeL) (i : Int) {s t : Nat × Int} (h : SameN s t) (k : Nat) : SameN (nmTo l i s k) (nmTo l i t k) := by
  induction k with
  | zero => exact h
  | succ k ih => exact fold_same _ ih
theorem nm_starts (l : List NodeL) (i x y : Int) : SameN (nmL l i (0, x)) (nmL l i (0, y)) := nm_same l i (s := (0, x)) (t := (0, y)) ⟨rfl, fun h => absurd h (Nat.lt_irrefl 0)⟩ _
theorem fold_none {i at' : Int} (es : List EntL) (s : Nat × Int) (h : ∀ e ∈ es, e.2 ≠ i) : foldN i at' s es = s := by
  induction es generalizing s with
  | nil => rfl
  | cons e es ih =>
    show foldN i at' (stepN i at' s e) es = s
    rw [ih _ fun e he => h e (by simp [he])]
    unfold stepN
    rw [if_neg (h e (by simp))]
theorem nm_none (l : List NodeL) (i : Int) (s : Nat × Int) (h : ∀ n ∈ l, ∀ e ∈ n.names, e.2 ≠ i) : nmL l i s = s := by
  unfold nmL
  have : ∀ k, k ≤ l.length → nmTo l i s k = s := by
    intro k
    induction k with
    | zero => intro _; rfl
    | succ k ih =>
      intro hk
      show foldN i k (nmTo l i s k) (l.getD k zeroN).names = s
      rw [ih (by omega)]
      refine fold_none _ _ fun e he => ?_
      rw [List.getD_eq_getElem?_getD, List.getElem?_eq_getElem (by omega)] at he
      exact h _ (List.getElem_mem _) e he
  exact this _ (Nat.le_refl _)
/-- The node that has the last name of i. -/
def Holds (l : List NodeL) (i : Int) (s : Nat × Int) : Prop := 0 < s.1 → ∃ k : Nat, s.2 = k ∧ ∃ h : k < l.length, ∃ e ∈ l[k].names, e.2 = i
theorem fold_holds (l : List NodeL) (i : Int) (k : Nat) (hk : k < l.length) (es : List EntL) : (∀ e ∈ es, e ∈ l[k].names) → ∀ s, Holds l i s → Holds l i (foldN i k s es) := by
  induction es with
  | nil => intro _ s h; exact h
  | cons e es ih =>
    intro hes s h
    refine ih (fun e he => hes e (by simp [he])) _ ?_
    unfold stepN
    split
    · rename_i he
      exact fun _ => ⟨k, rfl, hk, e, hes e (by simp), he⟩
    · exact h
theorem nm_holds (l : List NodeL) (i x : Int) : Holds l i (nmL l i (0, x)) := by
  unfold nmL
  have : ∀ k, k ≤ l.length → Holds l i (nmTo l i (0, x) k) := by
    intro k
    induction k with
    | zero => exact fun _ h => absurd h (Nat.lt_irrefl 0)
    | succ k ih =>
      intro hk
      refine fold_holds l i k (by omega) _ (fun e he => ?_) _ (ih (by omega))
      rw [List.getD_eq_getElem?_getD, List.getElem?_eq_getElem (by omega)] at he
      exact he
  exact this _ (Nat.le_refl _)
theorem fold_le (i at' : Int) (es : List EntL) (s : Nat × Int) : (foldN i at' s es).1 ≤ s.1 + es.length := by
  induction es generalizing s with
  | nil => exact Nat.le_refl _
  | cons e es ih =>
    have h1 := ih (stepN i at' s e)
    have h2 : (stepN i at' s e).1 ≤ s.1 + 1 := by unfold stepN; split <;> simp
    show (foldN i at' (stepN i at' s e) es).1 ≤ _
    rw [List.length_cons]
    omega
theorem nm_le {l : List NodeL} (hs : Small l) (i : Int) (s : Nat × Int) (k : Nat) : (nmTo l i s k).1 ≤ s.1 + k * 130 := by
  induction k with
  | zero => simp [nmTo]
  | succ k ih =>
    have h1 := fold_le i k (l.getD k zeroN).names (nmTo l i s k)
    have h2 : (l.getD k zeroN).names.length ≤ 130 := by
      rw [List.getD_eq_getElem?_getD]
      cases hg : l[k]? with
      | none => exact Nat.zero_le _
      | some n => exact (hs.2 n (List.mem_of_getElem? hg)).2
    show (foldN i k (nmTo l i s k) (l.getD k zeroN).names).1 ≤ _
    omega

def inL (l : List NodeL) (j : Int) : Bool := decide (0 ≤ j) && decide (j < l.length)
def atI (l : List NodeL) (j : Int) : NodeL := l.getD j.toNat zeroN
/-- Is there a node j that is not free? -/
def gotB (l : List NodeL) (j : Int) : Bool := inL l j && !decide ((atI l j).kind = 0)
def plainB (n : NodeL) : Bool := decide (1 ≤ n.kind) && decide (n.kind ≤ 3) && decide (0 ≤ n.mode) && decide (n.mode ≤ 63) && decide (0 ≤ n.opn)
def namB (l : List NodeL) (e : EntL) : Bool := gotB l e.2 && !decide (e.2 = 0)
def namableB (l : List NodeL) (es : List EntL) : Bool := es.all (namB l)
def linksC (i : Int) (s : Nat × Int) : Int := if i = 0 then (s.1 : Int) + 1 else s.1
def climbC (l : List NodeL) : Nat → Int → Bool
  | 0, _ => false
  | f + 1, j => if j = 0 then true else if inL l j then climbC l f (atI l j).up else false
def rootR (l : List NodeL) : Nat → Int → Bool
  | 0, _ => false
  | f + 1, j => if j = 0 then true else if gotB l j && decide ((atI l j).kind = 2) then rootR l f (atI l j).up else false
def placedC (l : List NodeL) (i : Int) (n : NodeL) (s : Nat × Int) : Bool :=
  if s.1 = 0 then decide (n.names.length = 0) && decide (n.up = 0) else if s.1 = 1 then decide (n.up = s.2) && climbC l l.length i else false
/-- The parts of what has to be right, one by one. -/
def partC (l : List NodeL) (i : Nat) (n : NodeL) : Nat → Bool
  | 0 => plainB n
  | 1 => !decide (n.kind = 2) || decide (n.data = [])
  | 2 => decide (n.kind = 2) || decide (n.names.length = 0)
  | 3 => decide (SortedP n.names) && namableB l n.names
  | 4 => decide (n.links = linksC i (nmL l i (0, 0)))
  | 5 => decide (0 < n.links) || decide (0 < n.opn)
  | 6 => !decide (n.kind = 2) || decide ((i : Int) = 0) || placedC l i n (nmL l i (0, 0))
  | _ => true
def okC (l : List NodeL) (i : Nat) (n : NodeL) : Bool := if n.kind = 0 then decide (n = zeroN) else (List.range 7).all (partC l i n)
def rootedB (l : List NodeL) : Bool := decide (0 < l.length) && decide ((atI l 0).kind = 2) && decide ((atI l 0).up = 0)
def rightC (l : List NodeL) (most room : Int) : Bool :=
  rootedB l && !decide (most < l.length) && !decide (room < bytesL l) && (List.range l.length).all fun i => okC l i (atI l i)
/-- The document's. -/
def lastR (l : List NodeL) (i : Int) (n : NodeL) (s : Nat × Int) : Bool :=
  if i = 0 then decide (n.kind = 2) && decide (n.up = 0) && decide (n.links = 1)
  else if n.links ≠ s.1 ∨ (s.1 = 0 ∧ n.opn < 1) then false
  else if n.kind ≠ 2 then true
  else if s.1 = 0 then decide (n.names.length = 0) && decide (n.up = 0)
  else decide (s.1 = 1) && decide (n.up = s.2) && rootR l (l.length + 1) i
def okR (l : List NodeL) (i : Nat) (n : NodeL) : Bool :=
  if n.kind = 0 then decide (n = zeroN)
  else plainB n && (decide (n.kind = 2) || decide (n.names.length = 0)) && (!decide (n.kind = 2) || decide (n.data = [])) && decide (SortedP n.names) && namableB l n.names && lastR l i n (nmL l i (0, -1))
def rightR (l : List NodeL) (most room : Int) : Bool :=
  !decide (l.length = 0) && !decide (most < l.length) && !decide (room < bytesL l) && decide ((atI l 0).kind = 2) && (List.range l.length).all fun i => okR l i (atI l i)

theorem at_nat (l : List NodeL) (i : Nat) (h : i < l.length) : atI l i = l[i] := by
  unfold atI
  rw [Int.toNat_natCast, List.getD_eq_getElem?_getD, List.getElem?_eq_getElem h]
  rfl
theorem in_nat {l : List NodeL} {j : Int} (h : inL l j = true) : ∃ k : Nat, j = k ∧ k < l.length := by
  unfold inL at h
  rw [Bool.and_eq_true, decide_eq_true_iff, decide_eq_true_iff] at h
  exact ⟨j.toNat, by omega, by omega⟩
theorem nat_in {l : List NodeL} {k : Nat} (h : k < l.length) : inL l (k : Int) = true := by
  unfold inL
  rw [Bool.and_eq_true, decide_eq_true_iff, decide_eq_true_iff]
  omega
theorem range_all (p : Nat → Bool) (n : Nat) : (List.range n).all p = true ↔ ∀ i, i < n → p i = true := by simp

/-- The way up from j, in f steps. -/
theorem climb_mono (l : List NodeL) : ∀ (f : Nat) (j : Int), climbC l f j = true → climbC l (f + 1) j = true := by
  intro f
  induction f with
  | zero => intro j h; cases h
  | succ f ih =>
    intro j h
    unfold climbC at h ⊢
    split
    · rfl
    · rename_i h0
      rw [if_neg h0] at h
      split
      · rename_i h1
        rw [if_pos h1] at h
        exact ih _ h
      · rename_i h1
        rw [if_neg h1] at h
        cases h
theorem root_climb (l : List NodeL) : ∀ (f : Nat) (j : Int), rootR l f j = true → climbC l f j = true := by
  intro f
  induction f with
  | zero => intro j h; cases h
  | succ f ih =>
    intro j h
    unfold rootR at h
    unfold climbC
    split
    · rfl
    · rename_i h0
      rw [if_neg h0] at h
      split at h
      · rename_i h1
        rw [Bool.and_eq_true] at h1
        have : inL l j = true := by
          have := h1.1
          unfold gotB at this
          rw [Bool.and_eq_true] at this
          exact this.1
        rw [if_pos this]
        exact ih _ h
      · cases h
/-- A list of different numbers below n is no longer than n. -/
theorem pigeon : ∀ (n : Nat) (L : List Nat), L.Nodup → (∀ x ∈ L, x < n) → L.length ≤ n := by
  intro n
  induction n with
  | zero =>
    intro L _ h
    cases L with
    | nil => exact Nat.le_refl _
    | cons a L => exact absurd (h a (by simp)) (Nat.not_lt_zero _)
  | succ n ih =>
    intro L hd h
    have h1 := ih (L.erase n) (hd.erase n) fun x hx => by
      have h2 := (hd.mem_erase_iff).1 hx
      have h3 := h x h2.2
      have := h2.1
      omega
    rw [List.length_erase] at h1
    split at h1 <;> omega
/-- Where the way up takes f steps and no fewer, it goes by as many nodes. -/
theorem climb_path (l : List NodeL) (h0 : 0 < l.length) : ∀ (f : Nat) (j : Int), climbC l (f + 1) j = true → climbC l f j = false →
    ∃ L : List Nat, L.length = f + 1 ∧ L.Nodup ∧ (∀ x ∈ L, x < l.length) ∧ ∀ x ∈ L, climbC l (f + 1) (x : Int) = true := by
  intro f
  induction f with
  | zero =>
    intro j h _
    refine ⟨[0], rfl, by simp, fun x hx => ?_, fun x hx => ?_⟩
    · obtain rfl := List.mem_singleton.1 hx
      exact h0
    · obtain rfl := List.mem_singleton.1 hx
      rfl
  | succ f ih =>
    intro j h hn
    have hj : j ≠ 0 := by
      intro e
      subst e
      rw [show climbC l (f + 1) 0 = true from rfl] at hn
      cases hn
    have h' := h
    have hn' := hn
    unfold climbC at h' hn'
    rw [if_neg hj] at h' hn'
    split at h'
    · rename_i hi
      rw [if_pos hi] at hn'
      obtain ⟨k, rfl, hk⟩ := in_nat hi
      obtain ⟨L, h1, h2, h3, h4⟩ := ih _ h' hn'
      refine ⟨k :: L, by simp [h1], List.nodup_cons.2 ⟨fun hm => ?_, h2⟩, fun x hx => ?_, fun x hx => ?_⟩
      · have := h4 k hm
        rw [hn] at this
        cases this
      · rcases List.mem_cons.1 hx with rfl | hx
        · exact hk
        · exact h3 x hx
      · rcases List.mem_cons.1 hx with rfl | hx
        · exact h
        · exact climb_mono l _ _ (h4 x hx)
    · cases h'
theorem climb_len (l : List NodeL) (h0 : 0 < l.length) (j : Int) (h : climbC l (l.length + 1) j = true) : climbC l l.length j = true := by
  cases hc : climbC l l.length j with
  | true => rfl
  | false =>
    obtain ⟨L, h1, h2, h3, _⟩ := climb_path l h0 _ _ h hc
    have := pigeon _ _ h2 h3
    omega
end Go.Proofs.Ythpcldmhamjnbaa
