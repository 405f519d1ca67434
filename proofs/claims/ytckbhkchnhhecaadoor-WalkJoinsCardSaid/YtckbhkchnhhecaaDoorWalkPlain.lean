/-
  Where a path leads, plainly; what it says on disks that are right.
-/
import Derived.Test.YtckbhkchnhhecaaDoorLay1
import Derived.Test.YtckbhkchnhhecaaDoorLay4
import Derived.Test.YtckbhkchnhhecaaDoorDskPlain
namespace Go.Proofs.YtckbhkchnhhecaaDoor

structure SpotL where
  dir : Int
  name : Str
  ino : Int
  slash : Bool
def zeroS : SpotL := ⟨0, [], 0, false⟩
theorem spot_ext {a b : SpotL} (h0 : a.dir = b.dir) (h1 : a.name = b.name) (h2 : a.ino = b.ino) (h3 : a.slash = b.slash) : a = b := by
  cases a; cases b; simp_all
instance : DecidableEq SpotL := fun a b =>
  decidable_of_iff (a.dir = b.dir ∧ a.name = b.name ∧ a.ino = b.ino ∧ a.slash = b.slash) ⟨fun ⟨h0, h1, h2, h3⟩ => spot_ext h0 h1 h2 h3, fun h => by subst h; simp⟩
abbrev ResL := SpotL × Int

def nodeL (l : List NodeL) (i : Int) : NodeL := if gotB l i = true then atI l i else zeroN
/-- What is wrong with a directory. -/
def dirE (l : List NodeL) (i : Int) : Int := if gotB l i = true then if (nodeL l i).kind = 2 then 0 else 4 else 2
/-- What a part names at a node. -/
def lookL (l : List NodeL) (i : Int) (p : Str) : Int := if p = [46] then i else if p = [46, 46] then (nodeL l i).up else (findL (nodeL l i).names p).getD (-1)
def firstAt (i : Int) (p : Str) : Int := if Lib.hasPrefix p [47] = true then 0 else i
def mayAt (l : List NodeL) (who i : Int) : Bool := mayB (nodeL l i).mode (nodeL l i).owner who 1
def goW (l : List NodeL) (who : Int) (follow slash : Bool) (i : Int) (ps : List Str) (hops : Nat) : ResL :=
  match ps with
  | [] => (⟨0, [], 0, slash⟩, 0)
  | p :: rest =>
    if dirE l i ≠ 0 then (zeroS, dirE l i)
    else if mayAt l who i = false then (zeroS, 7)
    else if lookL l i p < 0 then if rest = [] then (⟨i, p, -1, slash⟩, 0) else (zeroS, 2)
    else if (nodeL l (lookL l i p)).kind = 3 ∧ (rest ≠ [] ∨ follow = true ∨ slash = true) then
      if 8 ≤ hops then (zeroS, 8)
      else if checkE (nodeL l (lookL l i p)).data ≠ 0 then (zeroS, checkE (nodeL l (lookL l i p)).data)
      else goW l who follow slash (firstAt i (nodeL l (lookL l i p)).data) (parts (nodeL l (lookL l i p)).data ++ rest) (hops + 1)
    else if rest = [] then if slash = true ∧ (nodeL l (lookL l i p)).kind ≠ 2 then (zeroS, 4) else (⟨i, p, lookL l i p, slash⟩, 0)
    else goW l who follow slash (lookL l i p) rest hops
termination_by (9 - hops, ps.length)
def walkL (l : List NodeL) (who fr : Int) (path : Str) (follow : Bool) : ResL :=
  if checkE path ≠ 0 then (zeroS, checkE path)
  else if parts path = [] then if dirE l (firstAt fr path) ≠ 0 then (zeroS, dirE l (firstAt fr path)) else (⟨firstAt fr path, [], firstAt fr path, true⟩, 0)
  else goW l who follow (Lib.hasSuffix path [47]) (firstAt fr path) (parts path) 0
def wnodeL (r : ResL) : Int × Int := if r.2 ≠ 0 then (0, r.2) else if r.1.ino < 0 then (0, 2) else (r.1.ino, 0)

/-! ### The steps, one by one -/
section
variable {l : List NodeL} {who : Int} {follow slash : Bool} {i : Int} {p : Str} {rest : List Str} {hops : Nat}
theorem go_nil : goW l who follow slash i [] hops = (⟨0, [], 0, slash⟩, 0) := by rw [goW]
theorem go_dir (h : dirE l i ≠ 0) : goW l who follow slash i (p :: rest) hops = (zeroS, dirE l i) := by rw [goW, if_pos h]
theorem go_may (h : dirE l i = 0) (h2 : mayAt l who i = false) : goW l who follow slash i (p :: rest) hops = (zeroS, 7) := by rw [goW, if_neg (by simp [h]), if_pos h2]
theorem go_none1 (h : dirE l i = 0) (h2 : mayAt l who i = true) (h3 : lookL l i p < 0) (h4 : rest = []) : goW l who follow slash i (p :: rest) hops = (⟨i, p, -1, slash⟩, 0) := by
  rw [goW, if_neg (by simp [h]), if_neg (by simp [h2]), if_pos h3, if_pos h4]
theorem go_none2 (h : dirE l i = 0) (h2 : mayAt l who i = true) (h3 : lookL l i p < 0) (h4 : rest ≠ []) : goW l who follow slash i (p :: rest) hops = (zeroS, 2) := by
  rw [goW, if_neg (by simp [h]), if_neg (by simp [h2]), if_pos h3, if_neg h4]
theorem go_loop (h : dirE l i = 0) (h2 : mayAt l who i = true) (h3 : ¬ lookL l i p < 0) (h4 : (nodeL l (lookL l i p)).kind = 3) (h5 : rest ≠ [] ∨ follow = true ∨ slash = true) (h6 : 8 ≤ hops) :
    goW l who follow slash i (p :: rest) hops = (zeroS, 8) := by
  rw [goW, if_neg (by simp [h]), if_neg (by simp [h2]), if_neg h3, if_pos ⟨h4, h5⟩, if_pos h6]
theorem go_bad (h : dirE l i = 0) (h2 : mayAt l who i = true) (h3 : ¬ lookL l i p < 0) (h4 : (nodeL l (lookL l i p)).kind = 3) (h5 : rest ≠ [] ∨ follow = true ∨ slash = true) (h6 : ¬ 8 ≤ hops) (h7 : checkE (nodeL l (lookL l i p)).data ≠ 0) :
    goW l who follow slash i (p :: rest) hops = (zeroS, checkE (nodeL l (lookL l i p)).data) := by
  rw [goW, if_neg (by simp [h]), if_neg (by simp [h2]), if_neg h3, if_pos ⟨h4, h5⟩, if_neg h6, if_pos h7]
theorem go_link (h : dirE l i = 0) (h2 : mayAt l who i = true) (h3 : ¬ lookL l i p < 0) (h4 : (nodeL l (lookL l i p)).kind = 3) (h5 : rest ≠ [] ∨ follow = true ∨ slash = true) (h6 : ¬ 8 ≤ hops) (h7 : checkE (nodeL l (lookL l i p)).data = 0) :
    goW l who follow slash i (p :: rest) hops = goW l who follow slash (firstAt i (nodeL l (lookL l i p)).data) (parts (nodeL l (lookL l i p)).data ++ rest) (hops + 1) := by
  rw [goW, if_neg (by simp [h]), if_neg (by simp [h2]), if_neg h3, if_pos ⟨h4, h5⟩, if_neg h6, if_neg (by simp [h7])]
theorem go_file (h : dirE l i = 0) (h2 : mayAt l who i = true) (h3 : ¬ lookL l i p < 0) (h4 : ¬ ((nodeL l (lookL l i p)).kind = 3 ∧ (rest ≠ [] ∨ follow = true ∨ slash = true))) (h5 : rest = []) (h6 : slash = true ∧ (nodeL l (lookL l i p)).kind ≠ 2) :
    goW l who follow slash i (p :: rest) hops = (zeroS, 4) := by
  rw [goW, if_neg (by simp [h]), if_neg (by simp [h2]), if_neg h3, if_neg h4, if_pos h5, if_pos h6]
theorem go_spot (h : dirE l i = 0) (h2 : mayAt l who i = true) (h3 : ¬ lookL l i p < 0) (h4 : ¬ ((nodeL l (lookL l i p)).kind = 3 ∧ (rest ≠ [] ∨ follow = true ∨ slash = true))) (h5 : rest = []) (h6 : ¬ (slash = true ∧ (nodeL l (lookL l i p)).kind ≠ 2)) :
    goW l who follow slash i (p :: rest) hops = (⟨i, p, lookL l i p, slash⟩, 0) := by
  rw [goW, if_neg (by simp [h]), if_neg (by simp [h2]), if_neg h3, if_neg h4, if_pos h5, if_neg h6]
theorem go_on (h : dirE l i = 0) (h2 : mayAt l who i = true) (h3 : ¬ lookL l i p < 0) (h4 : (nodeL l (lookL l i p)).kind ≠ 3) (h5 : rest ≠ []) :
    goW l who follow slash i (p :: rest) hops = goW l who follow slash (lookL l i p) rest hops := by
  rw [goW, if_neg (by simp [h]), if_neg (by simp [h2]), if_neg h3, if_neg (fun h => h4 h.1), if_neg h5]
end

/-! ### Disks that are right -/
def RightP (l : List NodeL) : Prop := ∃ most room, rightR l most room = true
theorem right_ok {l : List NodeL} (h : RightP l) {i : Int} (hi : gotB l i = true) : ∃ k : Nat, i = k ∧ ∃ hk : k < l.length, nodeL l i = l[k] ∧ l[k].kind ≠ 0 ∧ okR l k l[k] = true := by
  obtain ⟨most, room, h⟩ := h
  have hg := hi
  unfold gotB at hi
  rw [Bool.and_eq_true] at hi
  obtain ⟨k, rfl, hk⟩ := in_nat hi.1
  have hat := at_nat l k hk
  refine ⟨k, rfl, hk, ?_, ?_, ?_⟩
  · unfold nodeL; rw [if_pos hg, hat]
  · have := hi.2; rw [hat] at this; simpa using this
  · unfold rightR at h
    rw [Bool.and_eq_true] at h
    have := (range_all _ _).1 h.2 k hk
    rw [hat] at this
    exact this
theorem right_len {l : List NodeL} (h : RightP l) : 0 < l.length ∧ (atI l 0).kind = 2 := by
  obtain ⟨most, room, h⟩ := h
  unfold rightR at h
  simp only [Bool.and_eq_true, decide_eq_true_iff, Bool.not_eq_true', decide_eq_false_iff_not] at h
  exact ⟨by omega, h.1.2⟩
theorem right_root {l : List NodeL} (h : RightP l) : dirE l 0 = 0 ∧ gotB l 0 = true := by
  obtain ⟨h1, h2⟩ := right_len h
  have hg : gotB l 0 = true := by
    have h3 : inL l 0 = true := nat_in (l := l) (k := 0) h1
    unfold gotB
    rw [h3, h2]
    rfl
  refine ⟨?_, hg⟩
  unfold dirE nodeL
  rw [if_pos hg, if_pos hg, if_pos h2]
theorem dir_got {l : List NodeL} {i : Int} (h : dirE l i = 0) : gotB l i = true ∧ (nodeL l i).kind = 2 := by
  unfold dirE at h
  split at h
  · rename_i hg
    split at h
    · exact ⟨hg, ‹_›⟩
    · cases h
  · cases h
theorem got_dir {l : List NodeL} {i : Int} (h : gotB l i = true) (h2 : (nodeL l i).kind = 2) : dirE l i = 0 := by
  unfold dirE; rw [if_pos h, if_pos h2]
theorem got_le {l : List NodeL} {i : Int} (h : gotB l i = true) : 0 ≤ i ∧ i < l.length := by
  unfold gotB inL at h
  simp only [Bool.and_eq_true, decide_eq_true_iff] at h
  exact h.1
theorem okR_parts {l : List NodeL} {k : Nat} {n : NodeL} (h0 : n.kind ≠ 0) (h : okR l k n = true) : 1 ≤ n.kind ∧ n.kind ≤ 3 ∧ SortedP n.names ∧ namableB l n.names = true ∧ (n.kind ≠ 2 → n.names = []) ∧ lastR l k n (nmL l k (0, -1)) = true := by
  unfold okR at h
  rw [if_neg h0] at h
  simp only [Bool.and_eq_true, decide_eq_true_iff, Bool.or_eq_true] at h
  obtain ⟨⟨⟨⟨⟨h1, h2⟩, h3⟩, h4⟩, h5⟩, h6⟩ := h
  unfold plainB at h1
  simp only [Bool.and_eq_true, decide_eq_true_iff] at h1
  refine ⟨h1.1.1.1.1, h1.1.1.1.2, h4, h5, fun hk => ?_, h6⟩
  rcases h2 with h2 | h2
  · exact absurd h2 hk
  · exact List.eq_nil_of_length_eq_zero h2
theorem rootR_up {l : List NodeL} {f : Nat} {j : Int} (h : rootR l (f + 1) j = true) : j = 0 ∨ (gotB l j = true ∧ (atI l j).kind = 2 ∧ rootR l f (atI l j).up = true) := by
  unfold rootR at h
  split at h
  · exact .inl ‹_›
  · split at h
    · rename_i h1
      simp only [Bool.and_eq_true, decide_eq_true_iff] at h1
      exact .inr ⟨h1.1, h1.2, h⟩
    · cases h
/-- The way up from a directory comes to a directory. -/
theorem right_up {l : List NodeL} (h : RightP l) {i : Int} (hi : dirE l i = 0) : dirE l (nodeL l i).up = 0 := by
  obtain ⟨hg, hk⟩ := dir_got hi
  obtain ⟨k, rfl, hlt, hn, h0, hok⟩ := right_ok h hg
  obtain ⟨_, _, _, _, _, hl⟩ := okR_parts h0 hok
  rw [hn] at hk ⊢
  have h00 := (right_root h).1
  unfold lastR at hl
  split at hl
  · simp only [Bool.and_eq_true, decide_eq_true_iff] at hl
    rw [hl.1.2]; exact h00
  · split at hl
    · cases hl
    · rw [if_neg (by simpa using hk)] at hl
      split at hl
      · simp only [Bool.and_eq_true, decide_eq_true_iff] at hl
        rw [hl.2]; exact h00
      · simp only [Bool.and_eq_true, decide_eq_true_iff] at hl
        rcases rootR_up hl.2 with h1 | ⟨_, _, h2⟩
        · rename_i hne _ _
          exact absurd h1 hne
        · rw [at_nat l k hlt] at h2
          obtain ⟨f, hf⟩ : ∃ f, l.length = f + 1 := ⟨l.length - 1, by omega⟩
          rw [hf] at h2
          rcases rootR_up h2 with h3 | ⟨h3, h4, _⟩
          · rw [h3]; exact h00
          · exact got_dir h3 (by unfold nodeL; rw [if_pos h3]; exact h4)
theorem findL_mem {l : List EntL} {n : Nm} {i : Int} (h : findL l n = some i) : (n, i) ∈ l := by
  unfold findL at h
  obtain ⟨e, he, rfl⟩ := Option.map_eq_some_iff.1 h
  have h1 := List.mem_of_find?_eq_some he
  have h2 := List.find?_some he
  have h3 : e.1 = n := by simpa using h2
  rw [← h3]
  exact h1
/-- What a part names, on a disk that is right: a node, or none. -/
theorem right_look {l : List NodeL} (h : RightP l) {i : Int} (hi : dirE l i = 0) (p : Str) : lookL l i p = -1 ∨ gotB l (lookL l i p) = true := by
  obtain ⟨hg, hk⟩ := dir_got hi
  unfold lookL
  split
  · exact .inr hg
  · split
    · exact .inr (dir_got (right_up h hi)).1
    · cases hf : findL (nodeL l i).names p with
      | none => exact .inl rfl
      | some j =>
        obtain ⟨k, rfl, hlt, hn, h0, hok⟩ := right_ok h hg
        obtain ⟨_, _, _, h4, _, _⟩ := okR_parts h0 hok
        rw [hn] at hf
        unfold namableB at h4
        have h5 := List.all_eq_true.1 h4 _ (findL_mem hf)
        unfold namB at h5
        simp only [Bool.and_eq_true] at h5
        exact .inr h5.1
theorem look_neg {l : List NodeL} (h : RightP l) {i : Int} (hi : dirE l i = 0) (p : Str) : lookL l i p < 0 ↔ lookL l i p = -1 := by
  rcases right_look h hi p with h1 | h1
  · rw [h1]; decide
  · have := got_le h1; omega
theorem look_got {l : List NodeL} (h : RightP l) {i : Int} (hi : dirE l i = 0) (p : Str) : gotB l (lookL l i p) = true ↔ ¬ lookL l i p < 0 := by
  rcases right_look h hi p with h1 | h1
  · rw [h1]
    exact ⟨fun h => by have := got_le h; omega, fun h => by omega⟩
  · have := got_le h1
    exact ⟨fun _ => by omega, fun _ => h1⟩
theorem right_kind {l : List NodeL} (h : RightP l) {i : Int} (hi : gotB l i = true) : (nodeL l i).kind = 1 ∨ (nodeL l i).kind = 2 ∨ (nodeL l i).kind = 3 := by
  obtain ⟨k, rfl, hlt, hn, h0, hok⟩ := right_ok h hi
  obtain ⟨h1, h2, _⟩ := okR_parts h0 hok
  rw [hn]; omega
theorem right_sorted {l : List NodeL} (h : RightP l) (i : Int) : SortedP (nodeL l i).names := by
  cases hg : gotB l i with
  | false => unfold nodeL; rw [hg]; exact sorted_nil
  | true =>
    obtain ⟨k, rfl, hlt, hn, h0, hok⟩ := right_ok h hg
    rw [hn]; exact (okR_parts h0 hok).2.2.1
/-- A file on the way: what comes of it where the next part is looked up. -/
theorem go_stuck {l : List NodeL} {who : Int} {follow slash : Bool} {i : Int} {p q : Str} {rest : List Str} {hops : Nat} (h : dirE l i = 0) (h2 : mayAt l who i = true) (h3 : gotB l (lookL l i p) = true) (h3' : ¬ lookL l i p < 0) (h4 : (nodeL l (lookL l i p)).kind = 1) :
    goW l who follow slash i (p :: q :: rest) hops = (zeroS, 4) := by
  rw [go_on h h2 h3' (by rw [h4]; decide) (by simp)]
  have : dirE l (lookL l i p) = 4 := by unfold dirE; rw [if_pos h3, if_neg (by rw [h4]; decide)]
  rw [go_dir (by rw [this]; decide), this]
end Go.Proofs.YtckbhkchnhhecaaDoor
