/-
  DERIVED. GIVEN WITH THE SEED: THE CARDS: each row of YtmiekcdkamgknaaGreatDoorRows.lean that lists a variable, with what it lists TIED to the program's text (the seventh form; the later family's looks); each row that meets fmt, with fmt's text TOLD by the authors' own Lean function (tested against real Go, not proved from fmt's source: count such statements apart). THE CARD IS WHAT COUNTS. Prove the row's statement (the work); the ties are given (YtmiekcdkamgknaaGreatDoorTie.lean); close each card by the builder's one call (the guide's Derived/Test/ToyasCard.lean, 'card_holds'). Laid BY PROGRAM, IN A SANDBOX (cutbox-door.mjs). By AI agents, Wed Nov 11 2026. No macro, syntax, notation, axiom, sorry.
-/
import Derived.Test.YtmiekcdkamgknaaGreatDoorRows
import GoSem.ClaimSeven
namespace Go.Proofs.YtmiekcdkamgknaaGreatDoor
namespace Rows

/-- THE TIED CARD OF 'flagstonelaw12.KernelMoves'. -/
def kernelMovesCard : Claim7 := { stood := { row := kernelMovesRow, standIns := [], harness := (true, "ff4a78681cb9cd8de17184099e4489102b255a53df5094c06fb6a7cb65eb3f23"), looks := true }, kinds := [], alts := [], laidByText := true, laidKinds := [.data, .data, .data, .handle, .sentinel, .sentinel, .sentinel, .sentinel, .sentinel, .sentinel, .sentinel, .sentinel, .sentinel, .sentinel], laidTests := true, laidLooks := .later }
def KernelMovesCardSaid : Prop := Claim7.holds Tryz.pinned (.plain (OpenSpec.ofChange kernelMovesSpec)) kernelMovesCard

/-- THE SECOND FORM's CARD OF 'flagstonelaw12.KernelMoves'. -/
def kernelMovesUptoCard : Claim7 := { stood := { row := kernelMovesUptoRow, standIns := [], harness := (true, "ff4a78681cb9cd8de17184099e4489102b255a53df5094c06fb6a7cb65eb3f23"), looks := true }, kinds := [], alts := [], laidByText := true, laidKinds := [.data, .data, .data, .handle, .sentinel, .sentinel, .sentinel, .sentinel, .sentinel, .sentinel, .sentinel, .sentinel, .sentinel, .sentinel], laidTests := true, laidLooks := .later }
def KernelMovesUptoCardSaid : Prop := Claim7.holds Tryz.pinned (.plain (OpenSpec.upto kernelMovesSpec)) kernelMovesUptoCard
end Rows
end Go.Proofs.YtmiekcdkamgknaaGreatDoor
