/-
  slices.Grow of nodes, laid; slices.Concat.
-/
import Derived.Test.YtknjmdgnbhohdaaDskG
import Derived.Shelf.Spec.SlicesGrow
import Derived.StillTailTactics
namespace Go.Proofs.Ytknjmdgnbhohdaa
open Go.RowKit Go.Shelf
open Go.WideShapes (add_plain)
attribute [local go_sem ↓] Go.wp_at_zero Go.wp_at_succ

def growRen : Go.Shelf.Ren := ⟨fun | 4 => 57 | n => n, fun | 0 => 0 | 3 => 3 | 4 => 4 | 9 => 9 | 20 => 20 | 22 => 22 | 25 => 43 | n => n, fun | n => n⟩
theorem growLaid : Lays8.n4 Try.prog growRen := {
  mixed := by kernel_rfl
  f4 := ⟨ "slices.Grow[[]flagstone/disk.Node,flagstone/disk.Node]", by decide, Try.func57.trans (congrArg some (by kernel_rfl))⟩
  t0 := Try.underlying0
  a0 := Try.isAgg0
  z0 := Try.sizeOf0
  v0 := Try.zeroValue0
  t3 := Try.underlying3
  a3 := Try.isAgg3
  z3 := Try.sizeOf3
  v3 := Try.zeroValue3
  t4 := Try.underlying4
  a4 := Try.isAgg4
  z4 := Try.sizeOf4
  v4 := Try.zeroValue4
  t9 := Try.underlying9
  a9 := Try.isAgg9
  z9 := Try.sizeOf9
  v9 := Try.zeroValue9
  t20 := Try.underlying20
  a20 := Try.isAgg20
  z20 := Try.sizeOf20
  v20 := Try.zeroValue20
  t22 := Try.underlying22
  a22 := Try.isAgg22
  z22 := Try.sizeOf22
  v22 := Try.zeroValue22 }

def GrowIs (e : Ending) (W W' : World) : Prop := ∃ v, e = .returned v ∧ W'.ownsRow W.heap.size 43 8 v 0 [] ∧ Below W.heap.size W W'
/-- A new row with room for n. -/
theorem grow_any (n : Nat) (hn : n ≤ 1000000) (w : World) : Calls Try.prog 57 #[.slice none 0 0, .int .i64 n] w fun e w' => GrowIs e w w' := by
  obtain ⟨i0, hi0, hz0, hz1, hz2⟩ := info_parts infoNode
  rcases Nat.eq_zero_or_pos n with rfl | hp
  · refine (Any8.slices_Grow_room growLaid none 0 0 0 w (Nat.le_refl _) (by decide) (by decide) (by decide)).mono ?_
    rintro e w' ⟨rfl, rfl⟩
    exact ⟨_, rfl, ⟨rfl, .inl ⟨rfl, rfl⟩⟩, Below.refl _ _⟩
  · refine (Any8.slices_Grow_grow growLaid i0 _ hi0 hz0 (by omega) none 0 0 n [] w (Nat.le_refl _) (by omega) (by rw [hz2]; omega) (by omega) (by simp) (fun _ => rfl) (fun a h => by cases h)).mono ?_
    rintro e w' ⟨rfl, rfl⟩
    have h1 := grownCap_ge w (0 + n) 0 43
    have h2 := grownCap_le_maxLen w (0 + n) 0 43 (by unfold maxLen; omega)
    refine ⟨_, rfl, ⟨rfl, .inr ⟨w.heap.size, _, _, rfl, Nat.le_refl _, heap_alloc_new w.drew _, Nat.zero_le _, h2, ?_, by simp⟩⟩, ((Below.refl _ w).drew).alloc (Nat.le_refl _) _⟩
    show (#[] ++ _ ++ _ : Array Value).size = grownCap w (0 + n) 0 43 * 8
    rw [Array.size_append, Array.size_append, size_zeroCells, size_zeroCells]
    show 0 + (0 + n - 0) * 8 + (grownCap w (0 + n) 0 43 - (0 + n)) * 8 = _
    omega
end Go.Proofs.Ytknjmdgnbhohdaa
