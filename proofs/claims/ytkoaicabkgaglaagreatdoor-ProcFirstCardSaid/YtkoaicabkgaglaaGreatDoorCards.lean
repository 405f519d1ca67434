/-
  DERIVED. GIVEN WITH THE SEED: THE CARDS: each row of YtkoaicabkgaglaaGreatDoorRows.lean that lists a variable, with what it lists TIED to the program's text (the seventh form; the later family's looks); each row that meets fmt, with fmt's text TOLD by the authors' own Lean function (tested against real Go, not proved from fmt's source: count such statements apart). THE CARD IS WHAT COUNTS. Prove the row's statement (the work); the ties are given (YtkoaicabkgaglaaGreatDoorTie.lean); close each card by the builder's one call (the guide's Derived/Test/ToyasCard.lean, 'card_holds'). Laid BY PROGRAM, IN A SANDBOX (cutbox-door.mjs). By AI agents, Wed Nov 11 2026. No macro, syntax, notation, axiom, sorry.
-/
import Derived.Test.YtkoaicabkgaglaaGreatDoorRows
import GoSem.ClaimSeven
namespace Go.Proofs.YtkoaicabkgaglaaGreatDoor
namespace Rows

/-- THE TIED CARD OF 'flagstonelaw13.ProcFirst'. -/
def procFirstCard : Claim7 := { stood := { row := procFirstRow, standIns := [], harness := (true, "814ec4279a708de24666dc0c8e0eea7361900c4a29e3b0cbcf2e579352cbf15f"), looks := true }, kinds := [], alts := [], laidByText := true, laidKinds := [.data, .data, .data, .handle, .sentinel, .sentinel, .sentinel, .sentinel, .sentinel, .sentinel, .sentinel, .sentinel, .sentinel, .sentinel], laidTests := true, laidLooks := .later }
def ProcFirstCardSaid : Prop := Claim7.holds Tryz.pinned (.plain (OpenSpec.ofChange procFirstSpec)) procFirstCard

/-- THE SECOND FORM's CARD OF 'flagstonelaw13.ProcFirst'. -/
def procFirstUptoCard : Claim7 := { stood := { row := procFirstUptoRow, standIns := [], harness := (true, "814ec4279a708de24666dc0c8e0eea7361900c4a29e3b0cbcf2e579352cbf15f"), looks := true }, kinds := [], alts := [], laidByText := true, laidKinds := [.data, .data, .data, .handle, .sentinel, .sentinel, .sentinel, .sentinel, .sentinel, .sentinel, .sentinel, .sentinel, .sentinel, .sentinel], laidTests := true, laidLooks := .later }
def ProcFirstUptoCardSaid : Prop := Claim7.holds Tryz.pinned (.plain (OpenSpec.upto procFirstSpec)) procFirstUptoCard
end Rows
end Go.Proofs.YtkoaicabkgaglaaGreatDoor
