/-
  Disks whose names fit (stage 9, where DskM is not among the texts).
-/
import Derived.Test.YthpcldmhamjnbaaDskMem
namespace Go.Proofs.Ythpcldmhamjnbaa

def FitD (l : List NodeL) : Prop := ∀ n ∈ l, Fit n.names

end Go.Proofs.Ythpcldmhamjnbaa
