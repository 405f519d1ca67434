/-
  DERIVED. GIVEN WITH THE SEED: THE CARDS: each row of YtpbmbpefophlfaaGreatDoorRows.lean that lists a variable, with what it lists TIED to the program's text (the seventh form; the later family's looks); each row that meets fmt, with fmt's text TOLD by the authors' own Lean function (tested against real Go, not proved from fmt's source: count such statements apart). THE CARD IS WHAT COUNTS. Prove the row's statement (the work); the ties are given (YtpbmbpefophlfaaGreatDoorTie.lean); close each card by the builder's one call (the guide's Derived/Test/ToyasCard.lean, 'card_holds'). Laid BY PROGRAM, IN A SANDBOX (cutbox-door.mjs). By AI agents, Wed Nov 11 2026. No macro, syntax, notation, axiom, sorry.
-/
import Derived.Test.YtpbmbpefophlfaaGreatDoorRows
import GoSem.ClaimSeven
namespace Go.Proofs.YtpbmbpefophlfaaGreatDoor
namespace Rows

/-- THE TIED CARD OF 'flagstonelaw13.ProcGone'. -/
def procGoneCard : Claim7 := { stood := { row := procGoneRow, standIns := [], harness := (true, "68255852fdcbabaa4b85fe85735b561bb4ab177f0a0a9d3d49b41205149182c3"), looks := true }, kinds := [], alts := [], laidByText := true, laidKinds := [.data, .data, .data, .handle, .sentinel, .sentinel, .sentinel, .sentinel, .sentinel, .sentinel, .sentinel, .sentinel, .sentinel, .sentinel], laidTests := true, laidLooks := .later }
def ProcGoneCardSaid : Prop := Claim7.holds Tryz.pinned (.plain (OpenSpec.ofChange procGoneSpec)) procGoneCard

/-- THE SECOND FORM's CARD OF 'flagstonelaw13.ProcGone'. -/
def procGoneUptoCard : Claim7 := { stood := { row := procGoneUptoRow, standIns := [], harness := (true, "68255852fdcbabaa4b85fe85735b561bb4ab177f0a0a9d3d49b41205149182c3"), looks := true }, kinds := [], alts := [], laidByText := true, laidKinds := [.data, .data, .data, .handle, .sentinel, .sentinel, .sentinel, .sentinel, .sentinel, .sentinel, .sentinel, .sentinel, .sentinel, .sentinel], laidTests := true, laidLooks := .later }
def ProcGoneUptoCardSaid : Prop := Claim7.holds Tryz.pinned (.plain (OpenSpec.upto procGoneSpec)) procGoneUptoCard
end Rows
end Go.Proofs.YtpbmbpefophlfaaGreatDoor
