/-
  What the row's variables give a walk: the two errors, the number; a world for the witnesses.
-/
import Derived.Test.YtjgadmodhkdllaaDoorRows
import Derived.Test.YtjgadmodhkdllaaDoorOptA
import Derived.Test.YtjgadmodhkdllaaDoorArgs
import Derived.Stop.LaidTwo
import Derived.MakeChecks
import Derived.Lay
import Derived.HandedShaped
namespace Go.Proofs.YtjgadmodhkdllaaDoor
open Go.ChangeShapes Go.WideShapes Go.RowKit

def laidL : List (String × DataW Unit) := [("flagstone/option.errOption", Rows.laid_flagstone_option_errOption), ("flagstone/option.errValue", Rows.laid_flagstone_option_errValue)]
noncomputable def laidWorld (os : Os) : World := World.laidAll Tryd.prog os laidL
theorem star87 : "*" ++ "errors.errorString" = "*errors.errorString" := by decide
theorem row87 (u : TypeId) (h : Tryd.prog.typeName? 3 u = some "*errors.errorString") : u = 87 :=
  typeName_ptr_named (nm := "errors.errorString") (by rw [star87]; kernel_rfl) (by kernel_rfl) (by decide) u (by rw [star87]; exact h)
theorem gl_of {W : World} (hL : laidMetH Tryd.prog laidL W) (hsh : W.ShapedOpen Tryd.prog) : ∃ a0 a1 m, Gl W.heap.size a0 a1 m W := by
  rw [MakeChecks.laidMetH_plain _ _ _ (by kernel_rfl)] at hL
  have gN : Tryd.prog.globalNamed "flagstone/option.errOption" = some 0 := by kernel_rfl
  have gH : Tryd.prog.globalNamed "flagstone/option.errValue" = some 1 := by kernel_rfl
  have tN : (Tryd.prog.globals[0]?).map (·.type) = some 51 := by kernel_rfl
  have tH : (Tryd.prog.globals[1]?).map (·.type) = some 51 := by kernel_rfl
  obtain ⟨a0, a1, s0, s1, c0, c1, t0, t1, hv0, hv1, hc0, hs0, hz0, hc1, hs1, hz1, hne, hb0, hb1⟩ := laid_sentinels2 hL gN tN gH tH Tryd.underlying51 row87 Tryd.underlying87 Tryd.underlying112 rfl rfl Tryd.underlying9 (by kernel_rfl) (by kernel_rfl)
  obtain ⟨m, hm⟩ := Go.Proofs.cell_of_shapedOpen_int (P := Tryd.prog) (g := 2) (t := 3) (zero := #[.int .i64 0]) hsh (of_decide_eq_true (by kernel_rfl)) (by kernel_rfl) rfl (by kernel_rfl) (by kernel_rfl) Tryd.underlying3
  have g0 : W.cell? ⟨0, 0, none⟩ = some (.iface 87 (.pointer (some a0))) := by simpa using World.var?_cell gN hv0 0
  have g1 : W.cell? ⟨1, 0, none⟩ = some (.iface 87 (.pointer (some a1))) := by simpa using World.var?_cell gH hv1 0
  exact ⟨a0, a1, m, g0, g1, hm, ⟨c0, t0, hb0⟩, ⟨c1, t1, hb1⟩, hne, lt_of_cell g0, lt_of_cell g1, lt_of_cell hm, (Array.getElem?_eq_some_iff.1 hb0).1, (Array.getElem?_eq_some_iff.1 hb1).1⟩
end Go.Proofs.YtjgadmodhkdllaaDoor
