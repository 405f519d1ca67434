/-
  A world for the witnesses where the row lists no table: the settled one.
-/
import Derived.Test.YtbcmhjgjcknfmaaRows
import Derived.ProofKit
import Derived.LaidLaws
namespace Go.Proofs.Ytbcmhjgjcknfmaa
noncomputable def laidWorld (os : Os) : World := World.holding Try.prog os ⟨#[], #[], []⟩
end Go.Proofs.Ytbcmhjgjcknfmaa
