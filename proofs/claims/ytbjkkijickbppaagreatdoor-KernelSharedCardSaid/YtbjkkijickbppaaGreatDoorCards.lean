/-
  DERIVED. GIVEN WITH THE SEED: THE CARDS: each row of YtbjkkijickbppaaGreatDoorRows.lean that lists a variable, with what it lists TIED to the program's text (the seventh form; the later family's looks); each row that meets fmt, with fmt's text TOLD by the authors' own Lean function (tested against real Go, not proved from fmt's source: count such statements apart). THE CARD IS WHAT COUNTS. Prove the row's statement (the work); the ties are given (YtbjkkijickbppaaGreatDoorTie.lean); close each card by the builder's one call (the guide's Derived/Test/ToyasCard.lean, 'card_holds'). Laid BY PROGRAM, IN A SANDBOX (cutbox-door.mjs). By AI agents, Wed Nov 11 2026. No macro, syntax, notation, axiom, sorry.
-/
import Derived.Test.YtbjkkijickbppaaGreatDoorRows
import GoSem.ClaimSeven
namespace Go.Proofs.YtbjkkijickbppaaGreatDoor
namespace Rows

/-- THE TIED CARD OF 'flagstonelaw12.KernelShared'. -/
def kernelSharedCard : Claim7 := { stood := { row := kernelSharedRow, standIns := [], harness := (true, "d874324f9e5a0b966a34da06c760988cd4d95e1d60d89d77483d52b3988f10b5"), looks := true }, kinds := [], alts := [], laidByText := true, laidKinds := [.data, .data, .data, .handle, .sentinel, .sentinel, .sentinel, .sentinel, .sentinel, .sentinel, .sentinel, .sentinel, .sentinel, .sentinel], laidTests := true, laidLooks := .later }
def KernelSharedCardSaid : Prop := Claim7.holds Tryz.pinned (.plain (OpenSpec.ofChange kernelSharedSpec)) kernelSharedCard

/-- THE SECOND FORM's CARD OF 'flagstonelaw12.KernelShared'. -/
def kernelSharedUptoCard : Claim7 := { stood := { row := kernelSharedUptoRow, standIns := [], harness := (true, "d874324f9e5a0b966a34da06c760988cd4d95e1d60d89d77483d52b3988f10b5"), looks := true }, kinds := [], alts := [], laidByText := true, laidKinds := [.data, .data, .data, .handle, .sentinel, .sentinel, .sentinel, .sentinel, .sentinel, .sentinel, .sentinel, .sentinel, .sentinel, .sentinel], laidTests := true, laidLooks := .later }
def KernelSharedUptoCardSaid : Prop := Claim7.holds Tryz.pinned (.plain (OpenSpec.upto kernelSharedSpec)) kernelSharedUptoCard
end Rows
end Go.Proofs.YtbjkkijickbppaaGreatDoor
