/-
  What is known of where a path leads, on disks that are right.
-/
import Derived.Test.YtckbhkchnhhecaaDoorWalkPlain
namespace Go.Proofs.YtckbhkchnhhecaaDoor

/-- By what a way does at each part: what holds of each end holds of all ways. -/
theorem go_ind (l : List NodeL) (who : Int) (follow slash : Bool) (M : Int → List Str → Nat → ResL → Prop)
    (nil : ∀ i hops, M i [] hops (⟨0, [], 0, slash⟩, 0))
    (dir : ∀ i hops p rest, dirE l i ≠ 0 → M i (p :: rest) hops (zeroS, dirE l i))
    (may : ∀ i hops p rest, dirE l i = 0 → mayAt l who i = false → M i (p :: rest) hops (zeroS, 7))
    (none1 : ∀ i hops p, dirE l i = 0 → mayAt l who i = true → lookL l i p < 0 → M i [p] hops (⟨i, p, -1, slash⟩, 0))
    (none2 : ∀ i hops p rest, dirE l i = 0 → mayAt l who i = true → lookL l i p < 0 → rest ≠ [] → M i (p :: rest) hops (zeroS, 2))
    (loop : ∀ i hops p rest, dirE l i = 0 → mayAt l who i = true → ¬ lookL l i p < 0 → (nodeL l (lookL l i p)).kind = 3 → (rest ≠ [] ∨ follow = true ∨ slash = true) → 8 ≤ hops → M i (p :: rest) hops (zeroS, 8))
    (bad : ∀ i hops p rest, dirE l i = 0 → mayAt l who i = true → ¬ lookL l i p < 0 → (nodeL l (lookL l i p)).kind = 3 → (rest ≠ [] ∨ follow = true ∨ slash = true) → ¬ 8 ≤ hops → checkE (nodeL l (lookL l i p)).data ≠ 0 → M i (p :: rest) hops (zeroS, checkE (nodeL l (lookL l i p)).data))
    (link : ∀ i hops p rest R, dirE l i = 0 → mayAt l who i = true → ¬ lookL l i p < 0 → (nodeL l (lookL l i p)).kind = 3 → (rest ≠ [] ∨ follow = true ∨ slash = true) → ¬ 8 ≤ hops → checkE (nodeL l (lookL l i p)).data = 0 →
      M (firstAt i (nodeL l (lookL l i p)).data) (parts (nodeL l (lookL l i p)).data ++ rest) (hops + 1) R → M i (p :: rest) hops R)
    (file : ∀ i hops p, dirE l i = 0 → mayAt l who i = true → ¬ lookL l i p < 0 → ¬ ((nodeL l (lookL l i p)).kind = 3 ∧ (follow = true ∨ slash = true)) → slash = true → (nodeL l (lookL l i p)).kind ≠ 2 → M i [p] hops (zeroS, 4))
    (spot : ∀ i hops p, dirE l i = 0 → mayAt l who i = true → ¬ lookL l i p < 0 → ¬ ((nodeL l (lookL l i p)).kind = 3 ∧ (follow = true ∨ slash = true)) → ¬ (slash = true ∧ (nodeL l (lookL l i p)).kind ≠ 2) → M i [p] hops (⟨i, p, lookL l i p, slash⟩, 0))
    (on : ∀ i hops p rest R, dirE l i = 0 → mayAt l who i = true → ¬ lookL l i p < 0 → (nodeL l (lookL l i p)).kind ≠ 3 → rest ≠ [] → M (lookL l i p) rest hops R → M i (p :: rest) hops R) :
    ∀ i ps hops, M i ps hops (goW l who follow slash i ps hops) := by
  intro i ps hops
  induction i, ps, hops using goW.induct l who follow slash with
  | case1 i hops => rw [go_nil]; exact nil i hops
  | case2 i hops p rest h => rw [go_dir h]; exact dir _ _ _ _ h
  | case3 i hops p rest h h2 =>
    have h := Decidable.not_not.1 h
    rw [go_may h h2]; exact may _ _ _ _ h h2
  | case4 i hops p h h2 h3 =>
    have h := Decidable.not_not.1 h
    have h2 := Bool.not_eq_false _ ▸ h2
    rw [go_none1 h h2 h3 rfl]; exact none1 _ _ _ h h2 h3
  | case5 i hops p rest h h2 h3 h4 =>
    have h := Decidable.not_not.1 h
    have h2 := Bool.not_eq_false _ ▸ h2
    rw [go_none2 h h2 h3 h4]; exact none2 _ _ _ _ h h2 h3 h4
  | case6 i hops p rest h h2 h3 h4 h5 =>
    have h := Decidable.not_not.1 h
    have h2 := Bool.not_eq_false _ ▸ h2
    rw [go_loop h h2 h3 h4.1 h4.2 h5]; exact loop _ _ _ _ h h2 h3 h4.1 h4.2 h5
  | case7 i hops p rest h h2 h3 h4 h5 h6 =>
    have h := Decidable.not_not.1 h
    have h2 := Bool.not_eq_false _ ▸ h2
    rw [go_bad h h2 h3 h4.1 h4.2 h5 h6]; exact bad _ _ _ _ h h2 h3 h4.1 h4.2 h5 h6
  | case8 i hops p rest h h2 h3 h4 h5 h6 ih =>
    have h := Decidable.not_not.1 h
    have h2 := Bool.not_eq_false _ ▸ h2
    have h6 := Decidable.not_not.1 h6
    rw [go_link h h2 h3 h4.1 h4.2 h5 h6]; exact link _ _ _ _ _ h h2 h3 h4.1 h4.2 h5 h6 ih
  | case9 i hops p h h2 h3 h4 h5 =>
    have h := Decidable.not_not.1 h
    have h2 := Bool.not_eq_false _ ▸ h2
    rw [go_file h h2 h3 h5 rfl h4]; exact file _ _ _ h h2 h3 (fun h => h5 ⟨h.1, .inr h.2⟩) h4.1 h4.2
  | case10 i hops p h h2 h3 h4 h5 =>
    have h := Decidable.not_not.1 h
    have h2 := Bool.not_eq_false _ ▸ h2
    rw [go_spot h h2 h3 h5 rfl h4]; exact spot _ _ _ h h2 h3 (fun h => h5 ⟨h.1, .inr h.2⟩) h4
  | case11 i hops p rest h h2 h3 h4 h5 ih =>
    have h := Decidable.not_not.1 h
    have h2 := Bool.not_eq_false _ ▸ h2
    have hk : (nodeL l (lookL l i p)).kind ≠ 3 := fun hk => h4 ⟨hk, .inl h5⟩
    rw [go_on h h2 h3 hk h5]; exact on _ _ _ _ _ h h2 h3 hk h5 ih

theorem dirE_vals (l : List NodeL) (i : Int) : dirE l i = 0 ∨ dirE l i = 2 ∨ dirE l i = 4 := by
  unfold dirE
  split
  · split <;> simp
  · simp
theorem checkE_vals (p : Str) : checkE p = 0 ∨ checkE p = 1 ∨ checkE p = 2 ∨ checkE p = 9 := by
  unfold checkE
  split
  · simp
  · split
    · simp
    · split
      · simp
      · split <;> simp
/-- What is told of a way, at its end. -/
theorem go_ino {l : List NodeL} (h : RightP l) (who : Int) (follow slash : Bool) : ∀ i ps hops, (goW l who follow slash i ps hops).2 = 0 → (goW l who follow slash i ps hops).1.ino = -1 ∨ gotB l (goW l who follow slash i ps hops).1.ino = true := by
  refine go_ind l who follow slash (fun _ _ _ R => R.2 = 0 → R.1.ino = -1 ∨ gotB l R.1.ino = true) ?_ ?_ ?_ ?_ ?_ ?_ ?_ ?_ ?_ ?_ ?_
  · intro i hops _; exact .inr (right_root h).2
  · intro i hops p rest hd he; exact absurd he hd
  · intro i hops p rest _ _ he; cases he
  · intro i hops p _ _ _ _; exact .inl rfl
  · intro i hops p rest _ _ _ _ he; cases he
  · intro i hops p rest _ _ _ _ _ _ he; cases he
  · intro i hops p rest _ _ _ _ _ _ hc he; exact absurd he hc
  · intro i hops p rest R _ _ _ _ _ _ _ ih; exact ih
  · intro i hops p _ _ _ _ _ _ he; cases he
  · intro i hops p hd _ hn _ _ _; exact .inr ((look_got h hd p).2 hn)
  · intro i hops p rest R _ _ _ _ _ ih; exact ih
theorem walk_ino {l : List NodeL} (h : RightP l) (who fr : Int) (path : Str) (follow : Bool) (he : (walkL l who fr path follow).2 = 0) : (walkL l who fr path follow).1.ino = -1 ∨ gotB l (walkL l who fr path follow).1.ino = true := by
  unfold walkL at he ⊢
  split at he
  · rename_i hc; exact absurd he hc
  · rename_i hc
    rw [if_neg hc]
    split at he
    · rename_i hp
      rw [if_pos hp]
      split at he
      · rename_i hd; exact absurd he hd
      · rename_i hd
        rw [if_neg hd]
        exact .inr (dir_got (Decidable.not_not.1 hd)).1
    · rename_i hp
      rw [if_neg hp]
      exact go_ino h _ _ _ _ _ _ he
end Go.Proofs.YtckbhkchnhhecaaDoor
