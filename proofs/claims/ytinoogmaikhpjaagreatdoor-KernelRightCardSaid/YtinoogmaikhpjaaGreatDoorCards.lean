/-
  DERIVED. GIVEN WITH THE SEED: THE CARDS: each row of YtinoogmaikhpjaaGreatDoorRows.lean that lists a variable, with what it lists TIED to the program's text (the seventh form; the later family's looks); each row that meets fmt, with fmt's text TOLD by the authors' own Lean function (tested against real Go, not proved from fmt's source: count such statements apart). THE CARD IS WHAT COUNTS. Prove the row's statement (the work); the ties are given (YtinoogmaikhpjaaGreatDoorTie.lean); close each card by the builder's one call (the guide's Derived/Test/ToyasCard.lean, 'card_holds'). Laid BY PROGRAM, IN A SANDBOX (cutbox-door.mjs). By AI agents, Wed Nov 11 2026. No macro, syntax, notation, axiom, sorry.
-/
import Derived.Test.YtinoogmaikhpjaaGreatDoorRows
import GoSem.ClaimSeven
namespace Go.Proofs.YtinoogmaikhpjaaGreatDoor
namespace Rows

/-- THE TIED CARD OF 'flagstonelaw12.KernelRight'. -/
def kernelRightCard : Claim7 := { stood := { row := kernelRightRow, standIns := [], harness := (true, "e1023f15a44f9d7a3c13498b96b0d6a3495292c988960d1a04778927282481a6"), looks := true }, kinds := [], alts := [], laidByText := true, laidKinds := [.data, .data, .data, .handle, .sentinel, .sentinel, .sentinel, .sentinel, .sentinel, .sentinel, .sentinel, .sentinel, .sentinel, .sentinel], laidTests := true, laidLooks := .later }
def KernelRightCardSaid : Prop := Claim7.holds Tryz.pinned (.plain (OpenSpec.ofChange kernelRightSpec)) kernelRightCard

/-- THE SECOND FORM's CARD OF 'flagstonelaw12.KernelRight'. -/
def kernelRightUptoCard : Claim7 := { stood := { row := kernelRightUptoRow, standIns := [], harness := (true, "e1023f15a44f9d7a3c13498b96b0d6a3495292c988960d1a04778927282481a6"), looks := true }, kinds := [], alts := [], laidByText := true, laidKinds := [.data, .data, .data, .handle, .sentinel, .sentinel, .sentinel, .sentinel, .sentinel, .sentinel, .sentinel, .sentinel, .sentinel, .sentinel], laidTests := true, laidLooks := .later }
def KernelRightUptoCardSaid : Prop := Claim7.holds Tryz.pinned (.plain (OpenSpec.upto kernelRightSpec)) kernelRightUptoCard
end Rows
end Go.Proofs.YtinoogmaikhpjaaGreatDoor
