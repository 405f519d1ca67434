/-
  A world for the witnesses: the settled one, the two tables of unicode/utf8 holding what their text lays.
-/
import Derived.Test.YtajleipangnfbaaDoorRows
import Derived.ProofKit
import Derived.LaidLaws
namespace Go.Proofs.YtajleipangnfbaaDoor
def layCells (h : Array Obj) (i : Nat) (vs : Array Value) : Array Obj := h.modify i fun x => match x with
  | .cells _ t frozen => .cells vs t frozen
  | o => o
noncomputable def laidWorld (os : Os) : World :=
  { World.holding Tryd.prog os ⟨#[], #[], []⟩ with
    heap := layCells (layCells (World.holding Tryd.prog os ⟨#[], #[], []⟩).heap 1 (Go.Pinned.utf8FirstZ.map fun (z : Nat) => Value.int .u8 (Int.ofNat z)).toArray)
      2 (([128, 191, 160, 191, 128, 159, 144, 191, 128, 143, 0, 0, 0, 0, 0, 0, 0, 0, 0, 0, 0, 0, 0, 0, 0, 0, 0, 0, 0, 0, 0, 0] : List Int).map fun z => Value.int .u8 z).toArray }
end Go.Proofs.YtajleipangnfbaaDoor
