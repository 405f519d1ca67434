/-
  The laws on ways, plainly.
-/
import Derived.Test.YtckbhkchnhhecaaDoorWalkPlain2
namespace Go.Proofs.YtckbhkchnhhecaaDoor

/-! ### Paths -/
theorem parts_ne (p : Str) : ∀ q ∈ parts p, q ≠ [] := by
  intro q hq
  unfold parts at hq
  obtain ⟨s, hs, rfl⟩ := List.mem_map.1 hq
  have h1 := spans_bd p s hs
  have h2 := cutS_len p s hs
  intro e
  rw [e] at h2
  simp at h2
  omega
theorem checkE_parts (l : Str) : checkE l = if l = [] then 2 else if 100 < l.length then 9 else if (0 : UInt8) ∈ l then 1 else if (parts l).any (fun q => decide (12 < q.length)) then 9 else 0 := by
  have h : (spans l).any (fun p => decide (12 < p.2 - p.1)) = (parts l).any (fun q => decide (12 < q.length)) := by
    unfold parts
    rw [Bool.eq_iff_iff, List.any_eq_true, List.any_eq_true]
    constructor
    · rintro ⟨s, hs, h⟩
      refine ⟨cutS l s, List.mem_map.2 ⟨s, hs, rfl⟩, ?_⟩
      rw [cutS_len l s hs]; exact h
    · rintro ⟨q, hq, h⟩
      obtain ⟨s, hs, rfl⟩ := List.mem_map.1 hq
      rw [cutS_len l s hs] at h
      exact ⟨s, hs, h⟩
  unfold checkE
  rw [h]
theorem parts_root (p : Str) : parts (47 :: p) = parts p := by
  have := parts_app [] p
  rwa [List.nil_append, parts_nil, List.nil_append] at this
theorem suf_root {p : Str} (h : p ≠ []) : Lib.hasSuffix (47 :: p) [47] = Lib.hasSuffix p [47] := by
  rw [suf_eq _ (by simp), suf_eq _ h, List.getLast_cons h]
theorem check_same {p q : Str} (h : parts q = parts p) (hq : q ≠ []) (hp : p ≠ []) (lq : ¬ 100 < q.length) (lp : ¬ 100 < p.length) (h0 : (0 : UInt8) ∈ q ↔ (0 : UInt8) ∈ p) : checkE q = checkE p := by
  rw [checkE_parts q, checkE_parts p, h, if_neg hq, if_neg hp, if_neg lq, if_neg lp]
  simp only [h0]
theorem check_root {p : Str} (h : p ≠ []) (hl : p.length ≤ 90) : checkE (47 :: p) = checkE p :=
  check_same (parts_root p) (by simp) h (by rw [List.length_cons]; omega) (by omega) (by simp)
theorem pre_root (p : Str) : Lib.hasPrefix (47 :: p) [47] = true := by rw [pre_eq]; rfl
theorem parts_slash (p : Str) : parts (p ++ [47]) = parts p := parts_snoc p
theorem suf_slash (p : Str) : Lib.hasSuffix (p ++ [47]) [47] = true := by
  rw [suf_eq _ (by simp)]; simp
theorem pre_slash {p : Str} (h : p ≠ []) : Lib.hasPrefix (p ++ [47]) [47] = Lib.hasPrefix p [47] := hasPrefix_app h
theorem check_slash {p : Str} (h : p ≠ []) (hl : p.length ≤ 90) : checkE (p ++ [47]) = checkE p :=
  check_same (parts_slash p) (by simp) h (by rw [List.length_append, List.length_singleton]; omega) (by omega) (by simp)

/-! ### A path that begins at the root -/
theorem law_root1 (l : List NodeL) (who a b : Int) (p : Str) (f : Bool) : walkL l who a (47 :: p) f = walkL l who b (47 :: p) f := by
  unfold walkL firstAt
  rw [pre_root]
  rfl
theorem law_root2 (l : List NodeL) (who a : Int) (p : Str) (f : Bool) (h : p ≠ []) (hl : p.length ≤ 90) : walkL l who a (47 :: p) f = walkL l who 0 p f := by
  have h1 : firstAt a (47 :: p) = 0 := by unfold firstAt; rw [if_pos (pre_root p)]
  have h2 : firstAt 0 p = 0 := by unfold firstAt; split <;> rfl
  unfold walkL
  rw [check_root h hl, parts_root, suf_root h, h1, h2]

/-! ### Who is never refused -/
theorem may_super (l : List NodeL) (i : Int) : mayAt l 0 i = true := may_zero _ _ _
theorem super_go (l : List NodeL) (who : Int) (follow slash : Bool) : ∀ i ps hops, (goW l who follow slash i ps hops).2 = 7 ∨ goW l 0 follow slash i ps hops = goW l who follow slash i ps hops := by
  refine go_ind l who follow slash (fun i ps hops R => R.2 = 7 ∨ goW l 0 follow slash i ps hops = R) ?_ ?_ ?_ ?_ ?_ ?_ ?_ ?_ ?_ ?_ ?_
  · intro i hops; exact .inr go_nil
  · intro i hops p rest hd; exact .inr (go_dir hd)
  · intro i hops p rest _ _; exact .inl rfl
  · intro i hops p hd _ hn; exact .inr (go_none1 hd (may_super l i) hn rfl)
  · intro i hops p rest hd _ hn hr; exact .inr (go_none2 hd (may_super l i) hn hr)
  · intro i hops p rest hd _ hn hk hc h8; exact .inr (go_loop hd (may_super l i) hn hk hc h8)
  · intro i hops p rest hd _ hn hk hc h8 hx; exact .inr (go_bad hd (may_super l i) hn hk hc h8 hx)
  · intro i hops p rest R hd _ hn hk hc h8 hx ih
    rcases ih with ih | ih
    · exact .inl ih
    · exact .inr (by rw [go_link hd (may_super l i) hn hk hc h8 hx]; exact ih)
  · intro i hops p hd _ hn hk hs h2
    exact .inr (go_file hd (may_super l i) hn (fun h => hk ⟨h.1, h.2.resolve_left (by simp)⟩) rfl ⟨hs, h2⟩)
  · intro i hops p hd _ hn hk h2
    exact .inr (go_spot hd (may_super l i) hn (fun h => hk ⟨h.1, h.2.resolve_left (by simp)⟩) rfl h2)
  · intro i hops p rest R hd _ hn hk hr ih
    rcases ih with ih | ih
    · exact .inl ih
    · exact .inr (by rw [go_on hd (may_super l i) hn hk hr]; exact ih)
/-- The errors of a way. -/
theorem go_errs (l : List NodeL) (who : Int) (follow slash : Bool) : ∀ i ps hops, let R := goW l who follow slash i ps hops; (R.2 = 0 ∨ R.2 = 1 ∨ R.2 = 2 ∨ R.2 = 4 ∨ (R.2 = 7 ∧ who ≠ 0) ∨ R.2 = 8 ∨ R.2 = 9) ∧ (R.2 ≠ 0 → R.1 = zeroS) := by
  refine go_ind l who follow slash (fun i ps hops R => (R.2 = 0 ∨ R.2 = 1 ∨ R.2 = 2 ∨ R.2 = 4 ∨ (R.2 = 7 ∧ who ≠ 0) ∨ R.2 = 8 ∨ R.2 = 9) ∧ (R.2 ≠ 0 → R.1 = zeroS)) ?_ ?_ ?_ ?_ ?_ ?_ ?_ ?_ ?_ ?_ ?_
  · intro i hops; exact ⟨.inl rfl, fun h => absurd rfl h⟩
  · intro i hops p rest _
    refine ⟨?_, fun _ => rfl⟩
    rcases dirE_vals l i with h | h | h <;> simp [h]
  · intro i hops p rest _ hm
    refine ⟨.inr (.inr (.inr (.inr (.inl ⟨rfl, fun e => ?_⟩)))), fun _ => rfl⟩
    rw [e, may_super] at hm
    cases hm
  · intro i hops p _ _ _; exact ⟨.inl rfl, fun h => absurd rfl h⟩
  · intro i hops p rest _ _ _ _; exact ⟨by simp, fun _ => rfl⟩
  · intro i hops p rest _ _ _ _ _ _; exact ⟨by simp, fun _ => rfl⟩
  · intro i hops p rest _ _ _ _ _ _ _
    refine ⟨?_, fun _ => rfl⟩
    rcases checkE_vals (nodeL l (lookL l i p)).data with h | h | h | h <;> simp [h]
  · intro i hops p rest R _ _ _ _ _ _ _ ih; exact ih
  · intro i hops p _ _ _ _ _ _; exact ⟨by simp, fun _ => rfl⟩
  · intro i hops p _ _ _ _ _; exact ⟨.inl rfl, fun h => absurd rfl h⟩
  · intro i hops p rest R _ _ _ _ _ ih; exact ih
theorem walk_errs (l : List NodeL) (who fr : Int) (p : Str) (f : Bool) : let R := walkL l who fr p f; (R.2 = 0 ∨ R.2 = 1 ∨ R.2 = 2 ∨ R.2 = 4 ∨ (R.2 = 7 ∧ who ≠ 0) ∨ R.2 = 8 ∨ R.2 = 9) ∧ (R.2 ≠ 0 → R.1 = zeroS) := by
  unfold walkL
  split
  · refine ⟨?_, fun _ => rfl⟩
    rcases checkE_vals p with h | h | h | h <;> simp [h]
  · split
    · split
      · refine ⟨?_, fun _ => rfl⟩
        rcases dirE_vals l (firstAt fr p) with h | h | h <;> simp [h]
      · exact ⟨.inl rfl, fun h => absurd rfl h⟩
    · exact go_errs l who f _ _ _ _
theorem law_super (l : List NodeL) (who fr : Int) (p : Str) (f : Bool) : ((walkL l who fr p f).2 = 7 ∨ walkL l 0 fr p f = walkL l who fr p f) ∧ (walkL l 0 fr p f).2 ≠ 7 := by
  refine ⟨?_, ?_⟩
  · unfold walkL
    split
    · exact .inr rfl
    · split
      · exact .inr rfl
      · exact super_go l who f _ _ _ _
  · have h := (walk_errs l 0 fr p f).1
    intro e
    rw [e] at h
    simp at h

/-! ### Whether the last link is followed -/
theorem last_go {l : List NodeL} (hr : RightP l) (who : Int) (slash : Bool) : ∀ i ps hops, goW l who true slash i ps hops = goW l who false slash i ps hops ∨ ((goW l who false slash i ps hops).2 = 0 ∧ gotB l (goW l who false slash i ps hops).1.ino = true ∧ (nodeL l (goW l who false slash i ps hops).1.ino).kind = 3) := by
  refine go_ind l who false slash (fun i ps hops R => goW l who true slash i ps hops = R ∨ (R.2 = 0 ∧ gotB l R.1.ino = true ∧ (nodeL l R.1.ino).kind = 3)) ?_ ?_ ?_ ?_ ?_ ?_ ?_ ?_ ?_ ?_ ?_
  · intro i hops; exact .inl go_nil
  · intro i hops p rest hd; exact .inl (go_dir hd)
  · intro i hops p rest hd hm; exact .inl (go_may hd hm)
  · intro i hops p hd hm hn; exact .inl (go_none1 hd hm hn rfl)
  · intro i hops p rest hd hm hn hr; exact .inl (go_none2 hd hm hn hr)
  · intro i hops p rest hd hm hn hk hc h8; exact .inl (go_loop hd hm hn hk (.inr (.inl rfl)) h8)
  · intro i hops p rest hd hm hn hk hc h8 hx; exact .inl (go_bad hd hm hn hk (.inr (.inl rfl)) h8 hx)
  · intro i hops p rest R hd hm hn hk hc h8 hx ih
    rcases ih with ih | ih
    · exact .inl (by rw [go_link hd hm hn hk (.inr (.inl rfl)) h8 hx]; exact ih)
    · exact .inr ih
  · intro i hops p hd hm hn hk hs h2
    exact .inl (go_file hd hm hn (fun h => hk ⟨h.1, .inr hs⟩) rfl ⟨hs, h2⟩)
  · intro i hops p hd hm hn hk h2
    by_cases h3 : (nodeL l (lookL l i p)).kind = 3
    · exact .inr ⟨rfl, (look_got hr hd p).2 hn, h3⟩
    · exact .inl (go_spot hd hm hn (fun h => h3 h.1) rfl h2)
  · intro i hops p rest R hd hm hn hk hr ih
    rcases ih with ih | ih
    · exact .inl (by rw [go_on hd hm hn hk hr]; exact ih)
    · exact .inr ih
theorem followed_go {l : List NodeL} (hr : RightP l) (who : Int) (slash : Bool) : ∀ i ps hops, (goW l who true slash i ps hops).2 = 0 → (goW l who true slash i ps hops).1.ino < 0 ∨ (nodeL l (goW l who true slash i ps hops).1.ino).kind ≠ 3 := by
  refine go_ind l who true slash (fun i ps hops R => R.2 = 0 → R.1.ino < 0 ∨ (nodeL l R.1.ino).kind ≠ 3) ?_ ?_ ?_ ?_ ?_ ?_ ?_ ?_ ?_ ?_ ?_
  · intro i hops _
    refine .inr ?_
    rw [(dir_got (right_root hr).1).2]
    decide
  · intro i hops p rest hd he; exact absurd he hd
  · intro i hops p rest _ _ he; cases he
  · intro i hops p _ _ _ _; exact .inl (show (-1 : Int) < 0 by decide)
  · intro i hops p rest _ _ _ _ he; cases he
  · intro i hops p rest _ _ _ _ _ _ he; cases he
  · intro i hops p rest _ _ _ _ _ _ hx he; exact absurd he hx
  · intro i hops p rest R _ _ _ _ _ _ _ ih; exact ih
  · intro i hops p _ _ _ _ _ _ he; cases he
  · intro i hops p _ _ _ hk _ _; exact .inr fun h => hk ⟨h, .inl rfl⟩
  · intro i hops p rest R _ _ _ _ _ ih; exact ih
theorem law_last1 {l : List NodeL} (hr : RightP l) (who fr : Int) (p : Str) : walkL l who fr p true = walkL l who fr p false ∨ ((walkL l who fr p false).2 = 0 ∧ gotB l (walkL l who fr p false).1.ino = true ∧ (nodeL l (walkL l who fr p false).1.ino).kind = 3) := by
  unfold walkL
  split
  · exact .inl rfl
  · split
    · exact .inl rfl
    · exact last_go hr who _ _ _ _
theorem law_last2 {l : List NodeL} (hr : RightP l) (who fr : Int) (p : Str) (h : (walkL l who fr p true).2 = 0) : (walkL l who fr p true).1.ino < 0 ∨ (nodeL l (walkL l who fr p true).1.ino).kind ≠ 3 := by
  unfold walkL at h ⊢
  split at h
  · rename_i hc; exact absurd h hc
  · rename_i hc
    rw [if_neg hc]
    split at h
    · rename_i hp
      rw [if_pos hp]
      split at h
      · rename_i hd; exact absurd h hd
      · rename_i hd
        rw [if_neg hd]
        refine .inr ?_
        rw [(dir_got (Decidable.not_not.1 hd)).2]
        decide
    · rename_i hp
      rw [if_neg hp]
      exact followed_go hr who _ _ _ _ h
end Go.Proofs.YtckbhkchnhhecaaDoor
