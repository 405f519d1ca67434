import Derived.Test.YtinoogmaikhpjaaGreatDoorR13
import Derived.Test.YtinoogmaikhpjaaGreatDoorR19
import Derived.Lib.LaidTab
import Derived.Lib.ItoaNum
namespace Go.Proofs.YtinoogmaikhpjaaGreatDoor
open Go.RowKit Go.Shelf
structure Env (S : Nat → Addr) (W : World) : Prop where
  sent : Sent S W
  tab : Lib.TabIs Tryz.prog W "internal/strconv.uint64pow10" .u64 Lib.pow10Tab
theorem powGlob : Tryz.prog.globalNamed "internal/strconv.uint64pow10" = some 12 := by kernel_rfl
def envB (S : Nat → Addr) : List Nat := [6, 1, 7, 4, 8, 5, 3, 2, 9, 10, 0, 12] ++ codes.map fun k => (S k).block
theorem cell_like {W W' : World} {a : Addr} (h : W'.heap[a.block]? = W.heap[a.block]?) : W'.cell? a = W.cell? a := World.cell?_of_block (w := W) h
theorem Env.like {S : Nat → Addr} {W W' : World} (h : Env S W) (hs : ∀ g ∈ envB S, W'.heap[g]? = W.heap[g]?) : Env S W' := by
  have g0 : 6 ∈ envB S := by simp [envB]
  have g1 : 1 ∈ envB S := by simp [envB]
  have g2 : 7 ∈ envB S := by simp [envB]
  have g3 : 4 ∈ envB S := by simp [envB]
  have g4 : 8 ∈ envB S := by simp [envB]
  have g5 : 5 ∈ envB S := by simp [envB]
  have g6 : 3 ∈ envB S := by simp [envB]
  have g7 : 2 ∈ envB S := by simp [envB]
  have g8 : 9 ∈ envB S := by simp [envB]
  have g9 : 10 ∈ envB S := by simp [envB]
  have g10 : 0 ∈ envB S := by simp [envB]
  have g11 : 12 ∈ envB S := by simp [envB]
  refine ⟨⟨(cell_like (a := ⟨6, 0, none⟩) (hs _ g0)).trans h.sent.e1, (cell_like (a := ⟨1, 0, none⟩) (hs _ g1)).trans h.sent.e2, (cell_like (a := ⟨7, 0, none⟩) (hs _ g2)).trans h.sent.e3, (cell_like (a := ⟨4, 0, none⟩) (hs _ g3)).trans h.sent.e4, (cell_like (a := ⟨8, 0, none⟩) (hs _ g4)).trans h.sent.e5, (cell_like (a := ⟨5, 0, none⟩) (hs _ g5)).trans h.sent.e6, (cell_like (a := ⟨3, 0, none⟩) (hs _ g6)).trans h.sent.e7, (cell_like (a := ⟨2, 0, none⟩) (hs _ g7)).trans h.sent.e9, (cell_like (a := ⟨9, 0, none⟩) (hs _ g8)).trans h.sent.e11, (cell_like (a := ⟨10, 0, none⟩) (hs _ g9)).trans h.sent.e15, fun k hk => ?_, h.sent.inj, (cell_like (a := ⟨0, 0, none⟩) (hs _ g10)).trans h.sent.err⟩, ?_⟩
  · obtain ⟨c, t, hc⟩ := h.sent.blk k hk
    exact ⟨c, t, (hs _ (by unfold envB; exact List.mem_append_right _ (List.mem_map.2 ⟨k, hk, rfl⟩))).trans hc⟩
  · have ht := h.tab
    unfold Lib.TabIs World.var? at ht ⊢
    rw [powGlob, Option.bind_some] at ht ⊢
    rw [hs _ g11]
    exact ht
theorem Env.low {S : Nat → Addr} {W : World} (h : Env S W) : ∀ g ∈ envB S, g < W.heap.size := fun g hg => by
  rcases List.mem_append.1 hg with hg | hg
  · simp only [List.mem_cons, List.not_mem_nil, or_false] at hg
    rcases hg with rfl | rfl | rfl | rfl | rfl | rfl | rfl | rfl | rfl | rfl | rfl | rfl
    · exact World.block_lt_of_cell? W _ h.sent.e1
    · exact World.block_lt_of_cell? W _ h.sent.e2
    · exact World.block_lt_of_cell? W _ h.sent.e3
    · exact World.block_lt_of_cell? W _ h.sent.e4
    · exact World.block_lt_of_cell? W _ h.sent.e5
    · exact World.block_lt_of_cell? W _ h.sent.e6
    · exact World.block_lt_of_cell? W _ h.sent.e7
    · exact World.block_lt_of_cell? W _ h.sent.e9
    · exact World.block_lt_of_cell? W _ h.sent.e11
    · exact World.block_lt_of_cell? W _ h.sent.e15
    · exact World.block_lt_of_cell? W _ h.sent.err
    · have := h.tab.cell powGlob 0 (by decide)
      exact World.block_lt_of_cell? W _ this
  · obtain ⟨k, hk, rfl⟩ := List.mem_map.1 hg
    obtain ⟨c, t, hc⟩ := h.sent.blk k hk
    exact (Array.getElem?_eq_some_iff.1 hc).1
def EnvX (S : Nat → Addr) : Thing := fun X W => Env S W ∧ ∀ g ∈ envB S, ¬ X g
theorem EnvX.firm (S : Nat → Addr) : Firm (EnvX S) :=
  ⟨fun h hb hY => ⟨h.1.like fun g hg => hb.block g (h.1.low g hg), fun g hg hyg => (hY g hyg).elim (h.2 g hg) fun h1 => absurd (h.1.low g hg) (by omega)⟩,
   fun h hX hs hg => ⟨h.1.like fun g hgb => hg g fun e => h.2 g hgb (e ▸ hX), h.2⟩⟩
theorem EnvX.none {S : Nat → Addr} {W : World} (h : Env S W) : EnvX S (fun _ => False) W := ⟨h, fun _ _ h => h⟩
end Go.Proofs.YtinoogmaikhpjaaGreatDoor
