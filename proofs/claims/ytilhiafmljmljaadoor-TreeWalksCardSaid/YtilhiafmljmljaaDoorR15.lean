import Derived.Test.YtilhiafmljmljaaDoorR14
import Derived.Test.YtilhiafmljmljaaDoorR12
import Derived.Test.YtilhiafmljmljaaDoorR13
namespace Go.Proofs.YtilhiafmljmljaaDoor
structure NodeL where
  kind : Int
  mode : Int
  owner : Int
  links : Int
  opn : Int
  up : Int
  data : Nm
  names : List EntL
def zeroN : NodeL := ⟨0, 0, 0, 0, 0, 0, [], []⟩
theorem node_ext {a b : NodeL} (h0 : a.kind = b.kind) (h1 : a.mode = b.mode) (h2 : a.owner = b.owner) (h3 : a.links = b.links) (h4 : a.opn = b.opn) (h5 : a.up = b.up) (h6 : a.data = b.data) (h7 : a.names = b.names) : a = b := by
  cases a; cases b; simp_all
instance : DecidableEq NodeL := fun a b =>
  decidable_of_iff (a.kind = b.kind ∧ a.mode = b.mode ∧ a.owner = b.owner ∧ a.links = b.links ∧ a.opn = b.opn ∧ a.up = b.up ∧ a.data = b.data ∧ a.names = b.names)
    ⟨fun ⟨h0, h1, h2, h3, h4, h5, h6, h7⟩ => node_ext h0 h1 h2 h3 h4 h5 h6 h7, fun h => by subst h; simp⟩
def weightL (n : NodeL) : Nat := if n.kind = 1 ∨ n.kind = 3 then n.data.length else 0
def bytesL (l : List NodeL) : Nat := (l.map weightL).sum
def usedL (l : List NodeL) : Nat := l.countP fun n => !decide (n.kind = 0)
theorem bytes_succ (l : List NodeL) (k : Nat) (h : k < l.length) : bytesL (l.take (k + 1)) = bytesL (l.take k) + weightL l[k] := by
  unfold bytesL
  rw [List.take_succ_eq_append_getElem h, List.map_append, List.sum_append]
  simp
theorem used_succ (l : List NodeL) (k : Nat) (h : k < l.length) : usedL (l.take (k + 1)) = usedL (l.take k) + if l[k].kind = 0 then 0 else 1 := by
  unfold usedL
  rw [List.take_succ_eq_append_getElem h, List.countP_append]
  by_cases hk : l[k].kind = 0 <;> simp [hk]
theorem used_le (l : List NodeL) : usedL l ≤ l.length := List.countP_le_length
def SmallN (n : NodeL) : Prop := n.data.length ≤ 300 ∧ n.names.length ≤ 130
def Small (l : List NodeL) : Prop := l.length ≤ 110 ∧ ∀ n ∈ l, SmallN n
theorem weight_le {n : NodeL} (h : SmallN n) : weightL n ≤ 300 := by
  unfold weightL
  split
  · exact h.1
  · omega
theorem bytes_le (l : List NodeL) (h : ∀ n ∈ l, SmallN n) : bytesL l ≤ l.length * 300 := by
  induction l with
  | nil => simp [bytesL]
  | cons a l ih =>
    have h1 := ih fun n hn => h n (by simp [hn])
    have h2 := weight_le (h a (by simp))
    have : bytesL (a :: l) = weightL a + bytesL l := by simp [bytesL]
    rw [this, List.length_cons]
    omega
theorem bytes_take_le {l : List NodeL} (h : Small l) (k : Nat) : bytesL (l.take k) ≤ 33000 := by
  have h1 := bytes_le (l.take k) fun n hn => h.2 n (List.mem_of_mem_take hn)
  have h2 : (l.take k).length ≤ 110 := by have := h.1; rw [List.length_take]; omega
  omega
def stepN (i at' : Int) (s : Nat × Int) (e : EntL) : Nat × Int := if e.2 = i then (s.1 + 1, at') else s
def foldN (i at' : Int) (s : Nat × Int) (es : List EntL) : Nat × Int := es.foldl (stepN i at') s
def nmTo (l : List NodeL) (i : Int) (s0 : Nat × Int) : Nat → Nat × Int
  | 0 => s0
  | k + 1 => foldN i k (nmTo l i s0 k) (l.getD k zeroN).names
def nmL (l : List NodeL) (i : Int) (s0 : Nat × Int) : Nat × Int := nmTo l i s0 l.length
theorem foldN_succ (i at' : Int) (s : Nat × Int) (es : List EntL) (j : Nat) (h : j < es.length) : foldN i at' s (es.take (j + 1)) = stepN i at' (foldN i at' s (es.take j)) es[j] := by
  unfold foldN
  rw [List.take_succ_eq_append_getElem h, List.foldl_append]
  rfl
def Holds (l : List NodeL) (i : Int) (s : Nat × Int) : Prop := 0 < s.1 → ∃ k : Nat, s.2 = k ∧ ∃ h : k < l.length, ∃ e ∈ l[k].names, e.2 = i
theorem fold_holds (l : List NodeL) (i : Int) (k : Nat) (hk : k < l.length) (es : List EntL) : (∀ e ∈ es, e ∈ l[k].names) → ∀ s, Holds l i s → Holds l i (foldN i k s es) := by
  induction es with
  | nil => intro _ s h; exact h
  | cons e es ih =>
    intro hes s h
    refine ih (fun e he => hes e (by simp [he])) _ ?_
    unfold stepN
    split
    · rename_i he
      exact fun _ => ⟨k, rfl, hk, e, hes e (by simp), he⟩
    · exact h
theorem nm_holds (l : List NodeL) (i x : Int) : Holds l i (nmL l i (0, x)) := by
  unfold nmL
  have : ∀ k, k ≤ l.length → Holds l i (nmTo l i (0, x) k) := by
    intro k
    induction k with
    | zero => exact fun _ h => absurd h (Nat.lt_irrefl 0)
    | succ k ih =>
      intro hk
      refine fold_holds l i k (by omega) _ (fun e he => ?_) _ (ih (by omega))
      rw [List.getD_eq_getElem?_getD, List.getElem?_eq_getElem (by omega)] at he
      exact he
  exact this _ (Nat.le_refl _)
theorem fold_le (i at' : Int) (es : List EntL) (s : Nat × Int) : (foldN i at' s es).1 ≤ s.1 + es.length := by
  induction es generalizing s with
  | nil => exact Nat.le_refl _
  | cons e es ih =>
    have h1 := ih (stepN i at' s e)
    have h2 : (stepN i at' s e).1 ≤ s.1 + 1 := by unfold stepN; split <;> simp
    show (foldN i at' (stepN i at' s e) es).1 ≤ _
    rw [List.length_cons]
    omega
theorem nm_le {l : List NodeL} (hs : Small l) (i : Int) (s : Nat × Int) (k : Nat) : (nmTo l i s k).1 ≤ s.1 + k * 130 := by
  induction k with
  | zero => simp [nmTo]
  | succ k ih =>
    have h1 := fold_le i k (l.getD k zeroN).names (nmTo l i s k)
    have h2 : (l.getD k zeroN).names.length ≤ 130 := by
      rw [List.getD_eq_getElem?_getD]
      cases hg : l[k]? with
      | none => exact Nat.zero_le _
      | some n => exact (hs.2 n (List.mem_of_getElem? hg)).2
    show (foldN i k (nmTo l i s k) (l.getD k zeroN).names).1 ≤ _
    omega
def inL (l : List NodeL) (j : Int) : Bool := decide (0 ≤ j) && decide (j < l.length)
def atI (l : List NodeL) (j : Int) : NodeL := l.getD j.toNat zeroN
def gotB (l : List NodeL) (j : Int) : Bool := inL l j && !decide ((atI l j).kind = 0)
def plainB (n : NodeL) : Bool := decide (1 ≤ n.kind) && decide (n.kind ≤ 3) && decide (0 ≤ n.mode) && decide (n.mode ≤ 63) && decide (0 ≤ n.opn)
def namB (l : List NodeL) (e : EntL) : Bool := gotB l e.2 && !decide (e.2 = 0)
def namableB (l : List NodeL) (es : List EntL) : Bool := es.all (namB l)
def rootR (l : List NodeL) : Nat → Int → Bool
  | 0, _ => false
  | f + 1, j => if j = 0 then true else if gotB l j && decide ((atI l j).kind = 2) then rootR l f (atI l j).up else false
def lastR (l : List NodeL) (i : Int) (n : NodeL) (s : Nat × Int) : Bool :=
  if i = 0 then decide (n.kind = 2) && decide (n.up = 0) && decide (n.links = 1)
  else if n.links ≠ s.1 ∨ (s.1 = 0 ∧ n.opn < 1) then false
  else if n.kind ≠ 2 then true
  else if s.1 = 0 then decide (n.names.length = 0) && decide (n.up = 0)
  else decide (s.1 = 1) && decide (n.up = s.2) && rootR l (l.length + 1) i
def okR (l : List NodeL) (i : Nat) (n : NodeL) : Bool :=
  if n.kind = 0 then decide (n = zeroN)
  else plainB n && (decide (n.kind = 2) || decide (n.names.length = 0)) && (!decide (n.kind = 2) || decide (n.data = [])) && decide (SortedP n.names) && namableB l n.names && lastR l i n (nmL l i (0, -1))
def rightR (l : List NodeL) (most room : Int) : Bool :=
  !decide (l.length = 0) && !decide (most < l.length) && !decide (room < bytesL l) && decide ((atI l 0).kind = 2) && (List.range l.length).all fun i => okR l i (atI l i)
theorem at_nat (l : List NodeL) (i : Nat) (h : i < l.length) : atI l i = l[i] := by
  unfold atI
  rw [Int.toNat_natCast, List.getD_eq_getElem?_getD, List.getElem?_eq_getElem h]
  rfl
theorem in_nat {l : List NodeL} {j : Int} (h : inL l j = true) : ∃ k : Nat, j = k ∧ k < l.length := by
  unfold inL at h
  rw [Bool.and_eq_true, decide_eq_true_iff, decide_eq_true_iff] at h
  exact ⟨j.toNat, by omega, by omega⟩
theorem nat_in {l : List NodeL} {k : Nat} (h : k < l.length) : inL l (k : Int) = true := by
  unfold inL
  rw [Bool.and_eq_true, decide_eq_true_iff, decide_eq_true_iff]
  omega
theorem range_all (p : Nat → Bool) (n : Nat) : (List.range n).all p = true ↔ ∀ i, i < n → p i = true := by simp
theorem pigeon : ∀ (n : Nat) (L : List Nat), L.Nodup → (∀ x ∈ L, x < n) → L.length ≤ n := by
  intro n
  induction n with
  | zero =>
    intro L _ h
    cases L with
    | nil => exact Nat.le_refl _
    | cons a L => exact absurd (h a (by simp)) (Nat.not_lt_zero _)
  | succ n ih =>
    intro L hd h
    have h1 := ih (L.erase n) (hd.erase n) fun x hx => by
      have h2 := (hd.mem_erase_iff).1 hx
      have h3 := h x h2.2
      have := h2.1
      omega
    rw [List.length_erase] at h1
    split at h1 <;> omega
end Go.Proofs.YtilhiafmljmljaaDoor
namespace Go.Proofs.YtilhiafmljmljaaDoor
structure SpotL where
  dir : Int
  name : Str
  ino : Int
  slash : Bool
def zeroS : SpotL := ⟨0, [], 0, false⟩
theorem spot_ext {a b : SpotL} (h0 : a.dir = b.dir) (h1 : a.name = b.name) (h2 : a.ino = b.ino) (h3 : a.slash = b.slash) : a = b := by
  cases a; cases b; simp_all
instance : DecidableEq SpotL := fun a b =>
  decidable_of_iff (a.dir = b.dir ∧ a.name = b.name ∧ a.ino = b.ino ∧ a.slash = b.slash) ⟨fun ⟨h0, h1, h2, h3⟩ => spot_ext h0 h1 h2 h3, fun h => by subst h; simp⟩
abbrev ResL := SpotL × Int
def nodeL (l : List NodeL) (i : Int) : NodeL := if gotB l i = true then atI l i else zeroN
def dirE (l : List NodeL) (i : Int) : Int := if gotB l i = true then if (nodeL l i).kind = 2 then 0 else 4 else 2
def lookL (l : List NodeL) (i : Int) (p : Str) : Int := if p = [46] then i else if p = [46, 46] then (nodeL l i).up else (findL (nodeL l i).names p).getD (-1)
def firstAt (i : Int) (p : Str) : Int := if Lib.hasPrefix p [47] = true then 0 else i
def mayAt (l : List NodeL) (who i : Int) : Bool := mayB (nodeL l i).mode (nodeL l i).owner who 1
def goW (l : List NodeL) (who : Int) (follow slash : Bool) (i : Int) (ps : List Str) (hops : Nat) : ResL :=
  match ps with
  | [] => (⟨0, [], 0, slash⟩, 0)
  | p :: rest =>
    if dirE l i ≠ 0 then (zeroS, dirE l i)
    else if mayAt l who i = false then (zeroS, 7)
    else if lookL l i p < 0 then if rest = [] then (⟨i, p, -1, slash⟩, 0) else (zeroS, 2)
    else if (nodeL l (lookL l i p)).kind = 3 ∧ (rest ≠ [] ∨ follow = true ∨ slash = true) then
      if 8 ≤ hops then (zeroS, 8)
      else if checkE (nodeL l (lookL l i p)).data ≠ 0 then (zeroS, checkE (nodeL l (lookL l i p)).data)
      else goW l who follow slash (firstAt i (nodeL l (lookL l i p)).data) (parts (nodeL l (lookL l i p)).data ++ rest) (hops + 1)
    else if rest = [] then if slash = true ∧ (nodeL l (lookL l i p)).kind ≠ 2 then (zeroS, 4) else (⟨i, p, lookL l i p, slash⟩, 0)
    else goW l who follow slash (lookL l i p) rest hops
termination_by (9 - hops, ps.length)
def walkL (l : List NodeL) (who fr : Int) (path : Str) (follow : Bool) : ResL :=
  if checkE path ≠ 0 then (zeroS, checkE path)
  else if parts path = [] then if dirE l (firstAt fr path) ≠ 0 then (zeroS, dirE l (firstAt fr path)) else (⟨firstAt fr path, [], firstAt fr path, true⟩, 0)
  else goW l who follow (Lib.hasSuffix path [47]) (firstAt fr path) (parts path) 0
def wnodeL (r : ResL) : Int × Int := if r.2 ≠ 0 then (0, r.2) else if r.1.ino < 0 then (0, 2) else (r.1.ino, 0)
section
variable {l : List NodeL} {who : Int} {follow slash : Bool} {i : Int} {p : Str} {rest : List Str} {hops : Nat}
theorem go_nil : goW l who follow slash i [] hops = (⟨0, [], 0, slash⟩, 0) := by rw [goW]
theorem go_dir (h : dirE l i ≠ 0) : goW l who follow slash i (p :: rest) hops = (zeroS, dirE l i) := by rw [goW, if_pos h]
theorem go_may (h : dirE l i = 0) (h2 : mayAt l who i = false) : goW l who follow slash i (p :: rest) hops = (zeroS, 7) := by rw [goW, if_neg (by simp [h]), if_pos h2]
theorem go_none1 (h : dirE l i = 0) (h2 : mayAt l who i = true) (h3 : lookL l i p < 0) (h4 : rest = []) : goW l who follow slash i (p :: rest) hops = (⟨i, p, -1, slash⟩, 0) := by
  rw [goW, if_neg (by simp [h]), if_neg (by simp [h2]), if_pos h3, if_pos h4]
theorem go_none2 (h : dirE l i = 0) (h2 : mayAt l who i = true) (h3 : lookL l i p < 0) (h4 : rest ≠ []) : goW l who follow slash i (p :: rest) hops = (zeroS, 2) := by
  rw [goW, if_neg (by simp [h]), if_neg (by simp [h2]), if_pos h3, if_neg h4]
theorem go_loop (h : dirE l i = 0) (h2 : mayAt l who i = true) (h3 : ¬ lookL l i p < 0) (h4 : (nodeL l (lookL l i p)).kind = 3) (h5 : rest ≠ [] ∨ follow = true ∨ slash = true) (h6 : 8 ≤ hops) :
    goW l who follow slash i (p :: rest) hops = (zeroS, 8) := by
  rw [goW, if_neg (by simp [h]), if_neg (by simp [h2]), if_neg h3, if_pos ⟨h4, h5⟩, if_pos h6]
theorem go_bad (h : dirE l i = 0) (h2 : mayAt l who i = true) (h3 : ¬ lookL l i p < 0) (h4 : (nodeL l (lookL l i p)).kind = 3) (h5 : rest ≠ [] ∨ follow = true ∨ slash = true) (h6 : ¬ 8 ≤ hops) (h7 : checkE (nodeL l (lookL l i p)).data ≠ 0) :
    goW l who follow slash i (p :: rest) hops = (zeroS, checkE (nodeL l (lookL l i p)).data) := by
  rw [goW, if_neg (by simp [h]), if_neg (by simp [h2]), if_neg h3, if_pos ⟨h4, h5⟩, if_neg h6, if_pos h7]
theorem go_link (h : dirE l i = 0) (h2 : mayAt l who i = true) (h3 : ¬ lookL l i p < 0) (h4 : (nodeL l (lookL l i p)).kind = 3) (h5 : rest ≠ [] ∨ follow = true ∨ slash = true) (h6 : ¬ 8 ≤ hops) (h7 : checkE (nodeL l (lookL l i p)).data = 0) :
    goW l who follow slash i (p :: rest) hops = goW l who follow slash (firstAt i (nodeL l (lookL l i p)).data) (parts (nodeL l (lookL l i p)).data ++ rest) (hops + 1) := by
  rw [goW, if_neg (by simp [h]), if_neg (by simp [h2]), if_neg h3, if_pos ⟨h4, h5⟩, if_neg h6, if_neg (by simp [h7])]
theorem go_file (h : dirE l i = 0) (h2 : mayAt l who i = true) (h3 : ¬ lookL l i p < 0) (h4 : ¬ ((nodeL l (lookL l i p)).kind = 3 ∧ (rest ≠ [] ∨ follow = true ∨ slash = true))) (h5 : rest = []) (h6 : slash = true ∧ (nodeL l (lookL l i p)).kind ≠ 2) :
    goW l who follow slash i (p :: rest) hops = (zeroS, 4) := by
  rw [goW, if_neg (by simp [h]), if_neg (by simp [h2]), if_neg h3, if_neg h4, if_pos h5, if_pos h6]
theorem go_spot (h : dirE l i = 0) (h2 : mayAt l who i = true) (h3 : ¬ lookL l i p < 0) (h4 : ¬ ((nodeL l (lookL l i p)).kind = 3 ∧ (rest ≠ [] ∨ follow = true ∨ slash = true))) (h5 : rest = []) (h6 : ¬ (slash = true ∧ (nodeL l (lookL l i p)).kind ≠ 2)) :
    goW l who follow slash i (p :: rest) hops = (⟨i, p, lookL l i p, slash⟩, 0) := by
  rw [goW, if_neg (by simp [h]), if_neg (by simp [h2]), if_neg h3, if_neg h4, if_pos h5, if_neg h6]
theorem go_on (h : dirE l i = 0) (h2 : mayAt l who i = true) (h3 : ¬ lookL l i p < 0) (h4 : (nodeL l (lookL l i p)).kind ≠ 3) (h5 : rest ≠ []) :
    goW l who follow slash i (p :: rest) hops = goW l who follow slash (lookL l i p) rest hops := by
  rw [goW, if_neg (by simp [h]), if_neg (by simp [h2]), if_neg h3, if_neg (fun h => h4 h.1), if_neg h5]
end
def RightP (l : List NodeL) : Prop := ∃ most room, rightR l most room = true
theorem right_ok {l : List NodeL} (h : RightP l) {i : Int} (hi : gotB l i = true) : ∃ k : Nat, i = k ∧ ∃ hk : k < l.length, nodeL l i = l[k] ∧ l[k].kind ≠ 0 ∧ okR l k l[k] = true := by
  obtain ⟨most, room, h⟩ := h
  have hg := hi
  unfold gotB at hi
  rw [Bool.and_eq_true] at hi
  obtain ⟨k, rfl, hk⟩ := in_nat hi.1
  have hat := at_nat l k hk
  refine ⟨k, rfl, hk, ?_, ?_, ?_⟩
  · unfold nodeL; rw [if_pos hg, hat]
  · have := hi.2; rw [hat] at this; simpa using this
  · unfold rightR at h
    rw [Bool.and_eq_true] at h
    have := (range_all _ _).1 h.2 k hk
    rw [hat] at this
    exact this
theorem right_len {l : List NodeL} (h : RightP l) : 0 < l.length ∧ (atI l 0).kind = 2 := by
  obtain ⟨most, room, h⟩ := h
  unfold rightR at h
  simp only [Bool.and_eq_true, decide_eq_true_iff, Bool.not_eq_true', decide_eq_false_iff_not] at h
  exact ⟨by omega, h.1.2⟩
theorem right_root {l : List NodeL} (h : RightP l) : dirE l 0 = 0 ∧ gotB l 0 = true := by
  obtain ⟨h1, h2⟩ := right_len h
  have hg : gotB l 0 = true := by
    have h3 : inL l 0 = true := nat_in (l := l) (k := 0) h1
    unfold gotB
    rw [h3, h2]
    rfl
  refine ⟨?_, hg⟩
  unfold dirE nodeL
  rw [if_pos hg, if_pos hg, if_pos h2]
theorem dir_got {l : List NodeL} {i : Int} (h : dirE l i = 0) : gotB l i = true ∧ (nodeL l i).kind = 2 := by
  unfold dirE at h
  split at h
  · rename_i hg
    split at h
    · exact ⟨hg, ‹_›⟩
    · cases h
  · cases h
theorem got_dir {l : List NodeL} {i : Int} (h : gotB l i = true) (h2 : (nodeL l i).kind = 2) : dirE l i = 0 := by
  unfold dirE; rw [if_pos h, if_pos h2]
theorem got_le {l : List NodeL} {i : Int} (h : gotB l i = true) : 0 ≤ i ∧ i < l.length := by
  unfold gotB inL at h
  simp only [Bool.and_eq_true, decide_eq_true_iff] at h
  exact h.1
theorem okR_parts {l : List NodeL} {k : Nat} {n : NodeL} (h0 : n.kind ≠ 0) (h : okR l k n = true) : 1 ≤ n.kind ∧ n.kind ≤ 3 ∧ SortedP n.names ∧ namableB l n.names = true ∧ (n.kind ≠ 2 → n.names = []) ∧ lastR l k n (nmL l k (0, -1)) = true := by
  unfold okR at h
  rw [if_neg h0] at h
  simp only [Bool.and_eq_true, decide_eq_true_iff, Bool.or_eq_true] at h
  obtain ⟨⟨⟨⟨⟨h1, h2⟩, h3⟩, h4⟩, h5⟩, h6⟩ := h
  unfold plainB at h1
  simp only [Bool.and_eq_true, decide_eq_true_iff] at h1
  refine ⟨h1.1.1.1.1, h1.1.1.1.2, h4, h5, fun hk => ?_, h6⟩
  rcases h2 with h2 | h2
  · exact absurd h2 hk
  · exact List.eq_nil_of_length_eq_zero h2
theorem rootR_up {l : List NodeL} {f : Nat} {j : Int} (h : rootR l (f + 1) j = true) : j = 0 ∨ (gotB l j = true ∧ (atI l j).kind = 2 ∧ rootR l f (atI l j).up = true) := by
  unfold rootR at h
  split at h
  · exact .inl ‹_›
  · split at h
    · rename_i h1
      simp only [Bool.and_eq_true, decide_eq_true_iff] at h1
      exact .inr ⟨h1.1, h1.2, h⟩
    · cases h
theorem right_up {l : List NodeL} (h : RightP l) {i : Int} (hi : dirE l i = 0) : dirE l (nodeL l i).up = 0 := by
  obtain ⟨hg, hk⟩ := dir_got hi
  obtain ⟨k, rfl, hlt, hn, h0, hok⟩ := right_ok h hg
  obtain ⟨_, _, _, _, _, hl⟩ := okR_parts h0 hok
  rw [hn] at hk ⊢
  have h00 := (right_root h).1
  unfold lastR at hl
  split at hl
  · simp only [Bool.and_eq_true, decide_eq_true_iff] at hl
    rw [hl.1.2]; exact h00
  · split at hl
    · cases hl
    · rw [if_neg (by simpa using hk)] at hl
      split at hl
      · simp only [Bool.and_eq_true, decide_eq_true_iff] at hl
        rw [hl.2]; exact h00
      · simp only [Bool.and_eq_true, decide_eq_true_iff] at hl
        rcases rootR_up hl.2 with h1 | ⟨_, _, h2⟩
        · rename_i hne _ _
          exact absurd h1 hne
        · rw [at_nat l k hlt] at h2
          obtain ⟨f, hf⟩ : ∃ f, l.length = f + 1 := ⟨l.length - 1, by omega⟩
          rw [hf] at h2
          rcases rootR_up h2 with h3 | ⟨h3, h4, _⟩
          · rw [h3]; exact h00
          · exact got_dir h3 (by unfold nodeL; rw [if_pos h3]; exact h4)
theorem findL_mem {l : List EntL} {n : Nm} {i : Int} (h : findL l n = some i) : (n, i) ∈ l := by
  unfold findL at h
  obtain ⟨e, he, rfl⟩ := Option.map_eq_some_iff.1 h
  have h1 := List.mem_of_find?_eq_some he
  have h2 := List.find?_some he
  have h3 : e.1 = n := by simpa using h2
  rw [← h3]
  exact h1
theorem right_look {l : List NodeL} (h : RightP l) {i : Int} (hi : dirE l i = 0) (p : Str) : lookL l i p = -1 ∨ gotB l (lookL l i p) = true := by
  obtain ⟨hg, hk⟩ := dir_got hi
  unfold lookL
  split
  · exact .inr hg
  · split
    · exact .inr (dir_got (right_up h hi)).1
    · cases hf : findL (nodeL l i).names p with
      | none => exact .inl rfl
      | some j =>
        obtain ⟨k, rfl, hlt, hn, h0, hok⟩ := right_ok h hg
        obtain ⟨_, _, _, h4, _, _⟩ := okR_parts h0 hok
        rw [hn] at hf
        unfold namableB at h4
        have h5 := List.all_eq_true.1 h4 _ (findL_mem hf)
        unfold namB at h5
        simp only [Bool.and_eq_true] at h5
        exact .inr h5.1
theorem look_neg {l : List NodeL} (h : RightP l) {i : Int} (hi : dirE l i = 0) (p : Str) : lookL l i p < 0 ↔ lookL l i p = -1 := by
  rcases right_look h hi p with h1 | h1
  · rw [h1]; decide
  · have := got_le h1; omega
theorem look_got {l : List NodeL} (h : RightP l) {i : Int} (hi : dirE l i = 0) (p : Str) : gotB l (lookL l i p) = true ↔ ¬ lookL l i p < 0 := by
  rcases right_look h hi p with h1 | h1
  · rw [h1]
    exact ⟨fun h => by have := got_le h; omega, fun h => by omega⟩
  · have := got_le h1
    exact ⟨fun _ => by omega, fun _ => h1⟩
theorem right_kind {l : List NodeL} (h : RightP l) {i : Int} (hi : gotB l i = true) : (nodeL l i).kind = 1 ∨ (nodeL l i).kind = 2 ∨ (nodeL l i).kind = 3 := by
  obtain ⟨k, rfl, hlt, hn, h0, hok⟩ := right_ok h hi
  obtain ⟨h1, h2, _⟩ := okR_parts h0 hok
  rw [hn]; omega
theorem right_sorted {l : List NodeL} (h : RightP l) (i : Int) : SortedP (nodeL l i).names := by
  cases hg : gotB l i with
  | false => unfold nodeL; rw [hg]; exact sorted_nil
  | true =>
    obtain ⟨k, rfl, hlt, hn, h0, hok⟩ := right_ok h hg
    rw [hn]; exact (okR_parts h0 hok).2.2.1
theorem go_stuck {l : List NodeL} {who : Int} {follow slash : Bool} {i : Int} {p q : Str} {rest : List Str} {hops : Nat} (h : dirE l i = 0) (h2 : mayAt l who i = true) (h3 : gotB l (lookL l i p) = true) (h3' : ¬ lookL l i p < 0) (h4 : (nodeL l (lookL l i p)).kind = 1) :
    goW l who follow slash i (p :: q :: rest) hops = (zeroS, 4) := by
  rw [go_on h h2 h3' (by rw [h4]; decide) (by simp)]
  have : dirE l (lookL l i p) = 4 := by unfold dirE; rw [if_pos h3, if_neg (by rw [h4]; decide)]
  rw [go_dir (by rw [this]; decide), this]
end Go.Proofs.YtilhiafmljmljaaDoor
