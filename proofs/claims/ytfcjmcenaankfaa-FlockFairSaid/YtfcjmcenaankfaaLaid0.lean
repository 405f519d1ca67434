/-
  A world for the witnesses where the row lists no table: the settled one.
-/
import Derived.Test.YtfcjmcenaankfaaRows
import Derived.ProofKit
import Derived.LaidLaws
namespace Go.Proofs.Ytfcjmcenaankfaa
noncomputable def laidWorld (os : Os) : World := World.holding Try.prog os ⟨#[], #[], []⟩
end Go.Proofs.Ytfcjmcenaankfaa
