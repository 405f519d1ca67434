/-
  No cell of these rows narrows 'for every input' (looked for: loops, veiled, ifaces, maps, wideKeys, modest, calm, conditions, laid).
  DERIVED. THE GIVEN ROWS OF THIS SEAT. 6 by the template 'for every input the law returns true; each argument reads behind the call as it read before'; 0 by the template 'total and deterministic' (their statements: YtoombpdoagjaoaaTotals.lean).
  GIVEN WITH THE SEED: the statements are not yours to turn. If you find one false, say at which input.
  Laid BY PROGRAM, IN A SANDBOX (cutbox-rows.mjs): the forced cells as the released guide's own fill.sh prints them over the translation 5108dfed2717013f… (all of the seat's roots in one cut). By AI agents, Wed Nov 11 2026. No macro, syntax, notation, axiom, sorry.
-/
import Derived.Test.YtoombpdoagjaoaaChecked
import GoSem.Claim
import GoSem.ClaimJoined
import GoSem.ClaimMapViews
import Derived.JoinedTies
import Derived.KernelRfl
namespace Go.Proofs.Ytoombpdoagjaoaa
/- THE CELL 'sum', in the pinned program and in every row, IS THE sha256 OF THE DUMP (.gsa) THAT YtoombpdoagjaoaaProg.lean LOADS. Nothing in Lean hashes anything: it is a label: what it is worth is what the hold of that sum in a sandbox is worth. -/
noncomputable def Try.pinned : Pinned := { name := "ytoombpdoagjaoaa", sum := "5108dfed2717013ff0ce33c7be8ad1e29ef3b8ea164548fbaf40b140bcaac652", checked := Try.checked }
namespace Rows
def none {H : Type} : Left H := { results := [], args := [] }

/-- 'flagstonelaw02.StencilTells': WHATEVER THE INPUT: true; the input reads as it did. -/
def stencilTellsSpec : ChangeSpec := { name := "stencilTells", fn := fun _ => fun
  | [d1, d2, d3] => { results := [.lit (.bool true)], args := [d1, d2, d3] }
  | _ => none }
def stencilTellsRow : OpenClaim := { program := "ytoombpdoagjaoaa", sum := "5108dfed2717013ff0ce33c7be8ad1e29ef3b8ea164548fbaf40b140bcaac652", func := "flagstone/flagstonelaw02.StencilTells", spec := "stencilTells", inPlace := ["internal/abi.NoEscape"], apart := false }
def StencilTellsSaid : Prop := stencilTellsRow.holds Try.pinned (OpenSpec.ofChange stencilTellsSpec)

/-- ITS FALSE NEIGHBOUR: 'it returns false'. Refute it at one input. -/
def stencilTellsWrong : ChangeSpec := { name := "stencilTells", fn := fun _ => fun
  | [d1, d2, d3] => { results := [.lit (.bool false)], args := [d1, d2, d3] }
  | _ => none }
def StencilTellsWrongFalsely : Prop := stencilTellsRow.holds Try.pinned (OpenSpec.ofChange stencilTellsWrong)

/-- 'flagstonelaw02.StencilMakes': WHATEVER THE INPUT: true; the input reads as it did. -/
def stencilMakesSpec : ChangeSpec := { name := "stencilMakes", fn := fun _ => fun
  | [d1, d2] => { results := [.lit (.bool true)], args := [d1, d2] }
  | _ => none }
def stencilMakesRow : OpenClaim := { program := "ytoombpdoagjaoaa", sum := "5108dfed2717013ff0ce33c7be8ad1e29ef3b8ea164548fbaf40b140bcaac652", func := "flagstone/flagstonelaw02.StencilMakes", spec := "stencilMakes", inPlace := ["internal/abi.NoEscape"], apart := false }
def StencilMakesSaid : Prop := stencilMakesRow.holds Try.pinned (OpenSpec.ofChange stencilMakesSpec)

/-- ITS FALSE NEIGHBOUR: 'it returns false'. Refute it at one input. -/
def stencilMakesWrong : ChangeSpec := { name := "stencilMakes", fn := fun _ => fun
  | [d1, d2] => { results := [.lit (.bool false)], args := [d1, d2] }
  | _ => none }
def StencilMakesWrongFalsely : Prop := stencilMakesRow.holds Try.pinned (OpenSpec.ofChange stencilMakesWrong)

/-- 'flagstonelaw02.StencilFits': WHATEVER THE INPUT: true; the input reads as it did. -/
def stencilFitsSpec : ChangeSpec := { name := "stencilFits", fn := fun _ => fun
  | [d1, d2] => { results := [.lit (.bool true)], args := [d1, d2] }
  | _ => none }
def stencilFitsRow : OpenClaim := { program := "ytoombpdoagjaoaa", sum := "5108dfed2717013ff0ce33c7be8ad1e29ef3b8ea164548fbaf40b140bcaac652", func := "flagstone/flagstonelaw02.StencilFits", spec := "stencilFits", inPlace := ["internal/abi.NoEscape"], apart := false }
def StencilFitsSaid : Prop := stencilFitsRow.holds Try.pinned (OpenSpec.ofChange stencilFitsSpec)

/-- ITS FALSE NEIGHBOUR: 'it returns false'. Refute it at one input. -/
def stencilFitsWrong : ChangeSpec := { name := "stencilFits", fn := fun _ => fun
  | [d1, d2] => { results := [.lit (.bool false)], args := [d1, d2] }
  | _ => none }
def StencilFitsWrongFalsely : Prop := stencilFitsRow.holds Try.pinned (OpenSpec.ofChange stencilFitsWrong)

/-- 'flagstonelaw02.StencilApart': WHATEVER THE INPUT: true; the input reads as it did. -/
def stencilApartSpec : ChangeSpec := { name := "stencilApart", fn := fun _ => fun
  | [d1, d2, d3] => { results := [.lit (.bool true)], args := [d1, d2, d3] }
  | _ => none }
def stencilApartRow : OpenClaim := { program := "ytoombpdoagjaoaa", sum := "5108dfed2717013ff0ce33c7be8ad1e29ef3b8ea164548fbaf40b140bcaac652", func := "flagstone/flagstonelaw02.StencilApart", spec := "stencilApart", inPlace := ["internal/abi.NoEscape"], apart := false }
def StencilApartSaid : Prop := stencilApartRow.holds Try.pinned (OpenSpec.ofChange stencilApartSpec)

/-- ITS FALSE NEIGHBOUR: 'it returns false'. Refute it at one input. -/
def stencilApartWrong : ChangeSpec := { name := "stencilApart", fn := fun _ => fun
  | [d1, d2, d3] => { results := [.lit (.bool false)], args := [d1, d2, d3] }
  | _ => none }
def StencilApartWrongFalsely : Prop := stencilApartRow.holds Try.pinned (OpenSpec.ofChange stencilApartWrong)

/-- 'flagstonelaw02.StencilOwn': WHATEVER THE INPUT: true; the input reads as it did. -/
def stencilOwnSpec : ChangeSpec := { name := "stencilOwn", fn := fun _ => fun
  | [d1, d2] => { results := [.lit (.bool true)], args := [d1, d2] }
  | _ => none }
def stencilOwnRow : OpenClaim := { program := "ytoombpdoagjaoaa", sum := "5108dfed2717013ff0ce33c7be8ad1e29ef3b8ea164548fbaf40b140bcaac652", func := "flagstone/flagstonelaw02.StencilOwn", spec := "stencilOwn", inPlace := ["internal/abi.NoEscape"], apart := false }
def StencilOwnSaid : Prop := stencilOwnRow.holds Try.pinned (OpenSpec.ofChange stencilOwnSpec)

/-- ITS FALSE NEIGHBOUR: 'it returns false'. Refute it at one input. -/
def stencilOwnWrong : ChangeSpec := { name := "stencilOwn", fn := fun _ => fun
  | [d1, d2] => { results := [.lit (.bool false)], args := [d1, d2] }
  | _ => none }
def StencilOwnWrongFalsely : Prop := stencilOwnRow.holds Try.pinned (OpenSpec.ofChange stencilOwnWrong)

/-- 'flagstonelaw02.StencilMore': WHATEVER THE INPUT: true; the input reads as it did. -/
def stencilMoreSpec : ChangeSpec := { name := "stencilMore", fn := fun _ => fun
  | [d1, d2, d3] => { results := [.lit (.bool true)], args := [d1, d2, d3] }
  | _ => none }
def stencilMoreRow : OpenClaim := { program := "ytoombpdoagjaoaa", sum := "5108dfed2717013ff0ce33c7be8ad1e29ef3b8ea164548fbaf40b140bcaac652", func := "flagstone/flagstonelaw02.StencilMore", spec := "stencilMore", inPlace := ["internal/abi.NoEscape"], apart := false }
def StencilMoreSaid : Prop := stencilMoreRow.holds Try.pinned (OpenSpec.ofChange stencilMoreSpec)

/-- ITS FALSE NEIGHBOUR: 'it returns false'. Refute it at one input. -/
def stencilMoreWrong : ChangeSpec := { name := "stencilMore", fn := fun _ => fun
  | [d1, d2, d3] => { results := [.lit (.bool false)], args := [d1, d2, d3] }
  | _ => none }
def StencilMoreWrongFalsely : Prop := stencilMoreRow.holds Try.pinned (OpenSpec.ofChange stencilMoreWrong)

/- THE SECOND FORM. 'bulk': how many values and letters a reading holds, each counted each time it is reached (what is shared counts as often as it is met; a slice's spare places count too). A statement '..UptoSaid' is the law's where the arguments, and the package variables that the reading takes, are together of bulk at most 1048576: NARROWER than '..Said'. Prove '..Said' where nothing that the law and all that it calls make is longer than what came in: it says more and counts as full. Else prove '..UptoSaid'. A law counts once. -/
mutual
def uptoBulk {H : Type} : DataW H → Nat
  | .lit (.string bytes) => bytes.length + 1
  | .lit _ => 1
  | .nil => 1
  | .ptr d => uptoBulk d + 1
  | .slice elems spare => uptoBulkAll elems + uptoBulkAll spare + 1
  | .agg parts => uptoBulkAll parts + 1
  | .iface _ d => uptoBulk d + 1
  | .map entries => uptoBulkEntries entries + 1
  | .held _ => 1
def uptoBulkAll {H : Type} : List (DataW H) → Nat
  | [] => 0
  | d :: r => uptoBulk d + uptoBulkAll r
def uptoBulkEntries {H : Type} : List (Lit × DataW H) → Nat
  | [] => 0
  | x :: r => uptoBulkEntry x + uptoBulkEntries r
def uptoBulkEntry {H : Type} : Lit × DataW H → Nat
  | (.string bytes, d) => bytes.length + uptoBulk d + 1
  | (_, d) => uptoBulk d + 1
 end
def uptoSmall : (H : Type) → List (DataW H) → Bool := fun _ ds => decide (uptoBulkAll ds ≤ 1048576)
def OpenSpec.upto (s : _root_.Go.ChangeSpec) : _root_.Go.OpenSpec := { _root_.Go.OpenSpec.ofChange s with cond := some uptoSmall }

/-- 'flagstonelaw02.StencilTells', WHERE WHAT IT READS IS OF BULK AT MOST 1048576: true; the input reads as it did. -/
def stencilTellsUptoRow : OpenClaim := { program := "ytoombpdoagjaoaa", sum := "5108dfed2717013ff0ce33c7be8ad1e29ef3b8ea164548fbaf40b140bcaac652", func := "flagstone/flagstonelaw02.StencilTells", spec := "stencilTells", inPlace := ["internal/abi.NoEscape"], apart := false, narrowed := true }
def StencilTellsUptoSaid : Prop := stencilTellsUptoRow.holds Try.pinned (OpenSpec.upto stencilTellsSpec)

/-- 'flagstonelaw02.StencilMakes', WHERE WHAT IT READS IS OF BULK AT MOST 1048576: true; the input reads as it did. -/
def stencilMakesUptoRow : OpenClaim := { program := "ytoombpdoagjaoaa", sum := "5108dfed2717013ff0ce33c7be8ad1e29ef3b8ea164548fbaf40b140bcaac652", func := "flagstone/flagstonelaw02.StencilMakes", spec := "stencilMakes", inPlace := ["internal/abi.NoEscape"], apart := false, narrowed := true }
def StencilMakesUptoSaid : Prop := stencilMakesUptoRow.holds Try.pinned (OpenSpec.upto stencilMakesSpec)

/-- 'flagstonelaw02.StencilFits', WHERE WHAT IT READS IS OF BULK AT MOST 1048576: true; the input reads as it did. -/
def stencilFitsUptoRow : OpenClaim := { program := "ytoombpdoagjaoaa", sum := "5108dfed2717013ff0ce33c7be8ad1e29ef3b8ea164548fbaf40b140bcaac652", func := "flagstone/flagstonelaw02.StencilFits", spec := "stencilFits", inPlace := ["internal/abi.NoEscape"], apart := false, narrowed := true }
def StencilFitsUptoSaid : Prop := stencilFitsUptoRow.holds Try.pinned (OpenSpec.upto stencilFitsSpec)

/-- 'flagstonelaw02.StencilApart', WHERE WHAT IT READS IS OF BULK AT MOST 1048576: true; the input reads as it did. -/
def stencilApartUptoRow : OpenClaim := { program := "ytoombpdoagjaoaa", sum := "5108dfed2717013ff0ce33c7be8ad1e29ef3b8ea164548fbaf40b140bcaac652", func := "flagstone/flagstonelaw02.StencilApart", spec := "stencilApart", inPlace := ["internal/abi.NoEscape"], apart := false, narrowed := true }
def StencilApartUptoSaid : Prop := stencilApartUptoRow.holds Try.pinned (OpenSpec.upto stencilApartSpec)

/-- 'flagstonelaw02.StencilOwn', WHERE WHAT IT READS IS OF BULK AT MOST 1048576: true; the input reads as it did. -/
def stencilOwnUptoRow : OpenClaim := { program := "ytoombpdoagjaoaa", sum := "5108dfed2717013ff0ce33c7be8ad1e29ef3b8ea164548fbaf40b140bcaac652", func := "flagstone/flagstonelaw02.StencilOwn", spec := "stencilOwn", inPlace := ["internal/abi.NoEscape"], apart := false, narrowed := true }
def StencilOwnUptoSaid : Prop := stencilOwnUptoRow.holds Try.pinned (OpenSpec.upto stencilOwnSpec)

/-- 'flagstonelaw02.StencilMore', WHERE WHAT IT READS IS OF BULK AT MOST 1048576: true; the input reads as it did. -/
def stencilMoreUptoRow : OpenClaim := { program := "ytoombpdoagjaoaa", sum := "5108dfed2717013ff0ce33c7be8ad1e29ef3b8ea164548fbaf40b140bcaac652", func := "flagstone/flagstonelaw02.StencilMore", spec := "stencilMore", inPlace := ["internal/abi.NoEscape"], apart := false, narrowed := true }
def StencilMoreUptoSaid : Prop := stencilMoreUptoRow.holds Try.pinned (OpenSpec.upto stencilMoreSpec)

end Rows
end Go.Proofs.Ytoombpdoagjaoaa
