/-
  Options, plainly: arguments that are told one by one, letters behind one dash, the last value.
-/
import Derived.Test.YtjgadmodhkdllaaDoorOptPlain
namespace Go.Proofs.YtjgadmodhkdllaaDoor

theorem parseL_opt (spec) (argv) : parseL spec argv = optL spec [] argv := rfl
theorem op_dash2 (c : UInt8) (r : List UInt8) : operandL (45 :: c :: r) = false := by simp [operandL, Lib.hasPrefix, List.isPrefixOf]
/-- Letters without values. -/
def bare (cs : List UInt8) : List FlagL := cs.map fun c => (c, [])
theorem letters_bare (spec) (cs : List UInt8) (h : ∀ c ∈ cs, kindL spec c = 1) (t : List UInt8) (fl) (rs) : lettersL spec (cs ++ t) fl rs = lettersL spec t (fl ++ bare cs) rs := by
  induction cs generalizing fl with
  | nil => simp [bare]
  | cons c cs ih =>
    have hc := h c (by simp)
    rw [List.cons_append]
    conv => lhs; unfold lettersL
    rw [if_neg (by rw [hc]; decide), if_pos hc, ih (fun x hx => h x (by simp [hx]))]
    simp [bare]
theorem letters_val (spec) (c : UInt8) (h : kindL spec c = 2) (v : List UInt8) (fl) (rs) (hv : v ≠ []) : lettersL spec (c :: v) fl rs = .ok (fl ++ [(c, v)], rs) := by
  unfold lettersL
  rw [if_neg (by rw [h]; decide), if_neg (by rw [h]; decide), if_neg hv]
theorem letters_val1 (spec) (c : UInt8) (h : kindL spec c = 2) (v : List UInt8) (fl) (rs) : lettersL spec [c] fl (v :: rs) = .ok (fl ++ [(c, v)], rs) := by
  unfold lettersL
  rw [if_neg (by rw [h]; decide), if_neg (by rw [h]; decide), if_pos rfl]
theorem optL_bare (spec) (c : UInt8) (hc : c ≠ 45) (h : kindL spec c = 1) (fl) (rs) : optL spec fl ([45, c] :: rs) = optL spec (fl ++ [(c, [])]) rs := by
  refine optL_ok spec fl [45, c] rs _ _ (op_dash2 c []) (by intro e; injection e with _ e; injection e with e; exact hc e) ?_
  have := letters_bare spec [c] (by simpa using h) [] fl rs
  simpa [lettersL, bare] using this
theorem optL_val (spec) (c : UInt8) (hc : c ≠ 45) (h : kindL spec c = 2) (v : List UInt8) (fl) (rs) : optL spec fl ([45, c] :: v :: rs) = optL spec (fl ++ [(c, v)]) rs :=
  optL_ok spec fl [45, c] (v :: rs) _ _ (op_dash2 c []) (by intro e; injection e with _ e; injection e with e; exact hc e) (letters_val1 spec c h v fl rs)
theorem optL_group (spec) (cs : List UInt8) (hcs : ∀ c ∈ cs, kindL spec c = 1) (hc0 : ∀ c, cs.head? = some c → c ≠ 45) (c : UInt8) (hc : c ≠ 45) (h : kindL spec c = 2) (v : List UInt8) (fl) (rs) :
    optL spec fl ((45 :: (cs ++ [c])) :: v :: rs) = optL spec (fl ++ bare cs ++ [(c, v)]) rs := by
  refine optL_ok spec fl _ (v :: rs) _ _ ?_ ?_ ?_
  · cases cs with
    | nil => exact op_dash2 c []
    | cons d cs => exact op_dash2 d _
  · intro e
    injection e with _ e
    cases cs with
    | nil => injection e with e; exact hc e
    | cons d cs => injection e with e; exact hc0 d rfl e
  · show lettersL spec (cs ++ [c]) fl (v :: rs) = _
    rw [letters_bare spec cs hcs, letters_val1 spec c h]
theorem optL_groupV (spec) (cs : List UInt8) (hcs : ∀ c ∈ cs, kindL spec c = 1) (hc0 : ∀ c, cs.head? = some c → c ≠ 45) (c : UInt8) (hc : c ≠ 45) (h : kindL spec c = 2) (v : List UInt8) (hv : v ≠ []) (fl) (rs) :
    optL spec fl ((45 :: (cs ++ c :: v)) :: rs) = optL spec (fl ++ bare cs ++ [(c, v)]) rs := by
  refine optL_ok spec fl _ rs _ _ ?_ ?_ ?_
  · cases cs with
    | nil => exact op_dash2 c v
    | cons d cs => exact op_dash2 d _
  · intro e
    injection e with _ e
    cases cs with
    | nil => injection e with e; exact hc e
    | cons d cs => injection e with e; exact hc0 d rfl e
  · show lettersL spec (cs ++ c :: v) fl rs = _
    rw [letters_bare spec cs hcs, letters_val spec c h v _ _ hv]
/-- Letters told one by one. -/
def ones (cs : List UInt8) : List (List UInt8) := cs.map fun c => [45, c]
theorem optL_ones (spec) (cs : List UInt8) (hcs : ∀ c ∈ cs, kindL spec c = 1 ∧ c ≠ 45) (fl) (rs) : optL spec fl (ones cs ++ rs) = optL spec (fl ++ bare cs) rs := by
  induction cs generalizing fl with
  | nil => simp [ones, bare]
  | cons c cs ih =>
    have := ih (fun x hx => hcs x (by simp [hx])) (fl ++ [(c, [])])
    rw [show ones (c :: cs) ++ rs = [45, c] :: (ones cs ++ rs) from rfl, optL_bare spec c (hcs c (by simp)).2 (hcs c (by simp)).1, this]
    simp [bare]
theorem op_first (a : List UInt8) (h : ¬ (1 < a.length ∧ a.head? = some 45)) : operandL a = true := by
  cases a with
  | nil => decide
  | cons c r =>
    by_cases hc : c = 45
    · subst hc
      cases r with
      | nil => decide
      | cons d r => exact absurd ⟨by simp, rfl⟩ h
    · have : (45 == c) = false := by simp; exact fun e => hc e.symm
      simp [operandL, Lib.hasPrefix, List.isPrefixOf, this]

/-! ### one by one, with values -/
def prm : List UInt8 := [112, 114, 109]
def prmSpec : List UInt8 := [112, 114, 109, 58]
def letterB (w : UInt8) : UInt8 := prm.getD (w.toNat % 3) 0
def flagB (w : UInt8) (v : List UInt8) : FlagL := (letterB w, if letterB w = 109 then v else [])
def tellB (w : UInt8) (v : List UInt8) : List (List UInt8) := if letterB w = 109 then [[45, 109], v] else [[45, letterB w]]
theorem letterB_cases (w : UInt8) : letterB w = 112 ∨ letterB w = 114 ∨ letterB w = 109 := by
  unfold letterB
  have : w.toNat % 3 < 3 := Nat.mod_lt _ (by decide)
  rcases (by omega : w.toNat % 3 = 0 ∨ w.toNat % 3 = 1 ∨ w.toNat % 3 = 2) with h | h | h <;> rw [h] <;> decide
theorem optL_tell (w : UInt8) (v : List UInt8) (fl) (rs) : optL prmSpec fl (tellB w v ++ rs) = optL prmSpec (fl ++ [flagB w v]) rs := by
  unfold tellB flagB
  rcases letterB_cases w with h | h | h <;> rw [h]
  · exact optL_bare prmSpec 112 (by decide) (by decide) fl rs
  · exact optL_bare prmSpec 114 (by decide) (by decide) fl rs
  · exact optL_val prmSpec 109 (by decide) (by decide) v fl rs
/-- What is told, and what is wanted, of the first k. -/
def toldB (ws : List UInt8) (vs : List (List UInt8)) (k : Nat) : List (List UInt8) := (List.range k).flatMap fun i => tellB (ws.getD i 0) (vs.getD i [])
def wantB (ws : List UInt8) (vs : List (List UInt8)) (k : Nat) : List FlagL := (List.range k).map fun i => flagB (ws.getD i 0) (vs.getD i [])
theorem toldB_succ (ws vs k) : toldB ws vs (k + 1) = toldB ws vs k ++ tellB (ws.getD k 0) (vs.getD k []) := by simp [toldB, List.range_succ]
theorem wantB_succ (ws vs k) : wantB ws vs (k + 1) = wantB ws vs k ++ [flagB (ws.getD k 0) (vs.getD k [])] := by simp [wantB, List.range_succ]
theorem wantB_len (ws vs k) : (wantB ws vs k).length = k := by simp [wantB]
theorem tellB_len (w v) : (tellB w v).length ≤ 2 := by unfold tellB; split <;> simp
theorem toldB_len (ws vs) (k : Nat) : (toldB ws vs k).length ≤ 2 * k := by
  induction k with
  | zero => simp [toldB]
  | succ k ih => rw [toldB_succ, List.length_append]; have := tellB_len (ws.getD k 0) (vs.getD k []); omega
theorem optL_told (ws vs) (k : Nat) (rs) : optL prmSpec [] (toldB ws vs k ++ rs) = optL prmSpec (wantB ws vs k) rs := by
  induction k generalizing rs with
  | zero => rfl
  | succ k ih => rw [toldB_succ, List.append_assoc, ih, optL_tell, wantB_succ]
theorem parse_told (ws vs) (k : Nat) (os : List (List UInt8)) : parseL prmSpec (toldB ws vs k ++ [45, 45] :: os) = .ok (wantB ws vs k, os) := by
  rw [parseL_opt, optL_told, optL_dashes]
theorem tellB_small (w v) (hv : v.length ≤ 65000) : ∀ a ∈ tellB w v, a.length ≤ 65000 := by
  intro a ha
  unfold tellB at ha
  split at ha
  · simp at ha; rcases ha with rfl | rfl
    · decide
    · exact hv
  · simp at ha; subst ha; simp
theorem toldB_small (ws vs) (hv : ∀ v ∈ vs, v.length ≤ 65000) (k : Nat) : ∀ a ∈ toldB ws vs k, a.length ≤ 65000 := by
  intro a ha
  unfold toldB at ha
  obtain ⟨i, _, hi⟩ := List.mem_flatMap.1 ha
  refine tellB_small _ _ ?_ a hi
  rw [List.getD_eq_getElem?_getD]
  cases h : vs[i]? with
  | none => simp
  | some v => exact hv v (List.mem_of_getElem? h)

/-! ### groups -/
def prf : List UInt8 := [112, 114, 102]
def prfmSpec : List UInt8 := [112, 114, 102, 109, 58]
def letterG (w : UInt8) : UInt8 := prf.getD (w.toNat % 3) 0
theorem letterG_cases (w : UInt8) : letterG w = 112 ∨ letterG w = 114 ∨ letterG w = 102 := by
  unfold letterG
  have : w.toNat % 3 < 3 := Nat.mod_lt _ (by decide)
  rcases (by omega : w.toNat % 3 = 0 ∨ w.toNat % 3 = 1 ∨ w.toNat % 3 = 2) with h | h | h <;> rw [h] <;> decide
theorem letterG_kind (w : UInt8) : kindL prfmSpec (letterG w) = 1 ∧ letterG w ≠ 45 := by
  rcases letterG_cases w with h | h | h <;> rw [h] <;> decide
def groupG (ws : List UInt8) : List UInt8 := ws.map letterG
theorem groupG_kind (ws : List UInt8) : ∀ c ∈ groupG ws, kindL prfmSpec c = 1 ∧ c ≠ 45 := by
  intro c hc
  obtain ⟨w, _, rfl⟩ := List.mem_map.1 hc
  exact letterG_kind w
theorem groupG_head (ws : List UInt8) : ∀ c, (groupG ws).head? = some c → c ≠ 45 := fun c hc => (groupG_kind ws c (List.mem_of_head? hc)).2
theorem optL_operand (fl) (o : List UInt8) (h : operandL o = true) (spec) : optL spec fl [o] = .ok (fl, [o]) := optL_op spec fl o [] h
def flagsG (ws : List UInt8) (v : List UInt8) : List FlagL := bare (groupG ws) ++ [(109, v)]
theorem parse_g1 (ws v o) (h : operandL o = true) : parseL prfmSpec [45 :: (groupG ws ++ [109]), v, o] = .ok (flagsG ws v, [o]) := by
  rw [parseL_opt, optL_group prfmSpec _ (fun c hc => (groupG_kind ws c hc).1) (groupG_head ws) 109 (by decide) (by decide), optL_operand _ _ h]
  rfl
theorem parse_g2 (ws v o) (h : operandL o = true) : parseL prfmSpec (ones (groupG ws) ++ [[45, 109], v, o]) = .ok (flagsG ws v, [o]) := by
  rw [parseL_opt, optL_ones prfmSpec _ (groupG_kind ws), optL_val prfmSpec 109 (by decide) (by decide), optL_operand _ _ h]
  rfl
theorem parse_g3 (ws v o) (h : operandL o = true) (hv : v ≠ []) : parseL prfmSpec [45 :: (groupG ws ++ 109 :: v), o] = .ok (flagsG ws v, [o]) := by
  rw [parseL_opt, optL_groupV prfmSpec _ (fun c hc => (groupG_kind ws c hc).1) (groupG_head ws) 109 (by decide) (by decide) v hv, optL_operand _ _ h]
  rfl
theorem flagsG_len (ws v) : (flagsG ws v).length = ws.length + 1 := by simp [flagsG, bare, groupG]

/-! ### the last value -/
def lastA (a b : List UInt8) (r : Nat) : List (List UInt8) := [45, 109] :: a :: (List.replicate r [45, 112] ++ [[45, 109], b])
def lastF (a b : List UInt8) (r : Nat) : List FlagL := (109, a) :: (List.replicate r (112, []) ++ [(109, b)])
theorem parse_last (a b : List UInt8) (r : Nat) : parseL [112, 109, 58] (lastA a b r) = .ok (lastF a b r, []) := by
  have main : ∀ r fl, optL [112, 109, 58] fl (List.replicate r [45, 112] ++ [[45, 109], b]) = .ok (fl ++ List.replicate r (112, []) ++ [(109, b)], []) := by
    intro r
    induction r with
    | zero => intro fl; rw [List.replicate_zero, List.nil_append, optL_val _ 109 (by decide) (by decide)]; simp [optL_nil]
    | succ r ih =>
      intro fl
      rw [List.replicate_succ, List.cons_append, optL_bare _ 112 (by decide) (by decide), ih]
      simp [List.replicate_succ]
  rw [parseL_opt, lastA, optL_val _ 109 (by decide) (by decide), main]
  rfl
end Go.Proofs.YtjgadmodhkdllaaDoor
