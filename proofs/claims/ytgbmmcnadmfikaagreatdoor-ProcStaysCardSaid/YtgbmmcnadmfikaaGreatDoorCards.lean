/-
  DERIVED. GIVEN WITH THE SEED: THE CARDS: each row of YtgbmmcnadmfikaaGreatDoorRows.lean that lists a variable, with what it lists TIED to the program's text (the seventh form; the later family's looks); each row that meets fmt, with fmt's text TOLD by the authors' own Lean function (tested against real Go, not proved from fmt's source: count such statements apart). THE CARD IS WHAT COUNTS. Prove the row's statement (the work); the ties are given (YtgbmmcnadmfikaaGreatDoorTie.lean); close each card by the builder's one call (the guide's Derived/Test/ToyasCard.lean, 'card_holds'). Laid BY PROGRAM, IN A SANDBOX (cutbox-door.mjs). By AI agents, Wed Nov 11 2026. No macro, syntax, notation, axiom, sorry.
-/
import Derived.Test.YtgbmmcnadmfikaaGreatDoorRows
import GoSem.ClaimSeven
namespace Go.Proofs.YtgbmmcnadmfikaaGreatDoor
namespace Rows

/-- THE TIED CARD OF 'flagstonelaw13.ProcStays'. -/
def procStaysCard : Claim7 := { stood := { row := procStaysRow, standIns := [], harness := (true, "ce601d18be0d7f5c512ca852538682e4dfed1c539e476873061f643dcf9f74ca"), looks := true }, kinds := [], alts := [], laidByText := true, laidKinds := [.data, .data, .data, .handle, .sentinel, .sentinel, .sentinel, .sentinel, .sentinel, .sentinel, .sentinel, .sentinel, .sentinel, .sentinel], laidTests := true, laidLooks := .later }
def ProcStaysCardSaid : Prop := Claim7.holds Tryz.pinned (.plain (OpenSpec.ofChange procStaysSpec)) procStaysCard

/-- THE TIED CARD OF 'flagstonelaw13.ProcGone'. -/
def procGoneCard : Claim7 := { stood := { row := procGoneRow, standIns := [], harness := (true, "ce601d18be0d7f5c512ca852538682e4dfed1c539e476873061f643dcf9f74ca"), looks := true }, kinds := [], alts := [], laidByText := true, laidKinds := [.data, .data, .data, .handle, .sentinel, .sentinel, .sentinel, .sentinel, .sentinel, .sentinel, .sentinel, .sentinel, .sentinel, .sentinel], laidTests := true, laidLooks := .later }
def ProcGoneCardSaid : Prop := Claim7.holds Tryz.pinned (.plain (OpenSpec.ofChange procGoneSpec)) procGoneCard

/-- THE SECOND FORM's CARD OF 'flagstonelaw13.ProcStays'. -/
def procStaysUptoCard : Claim7 := { stood := { row := procStaysUptoRow, standIns := [], harness := (true, "ce601d18be0d7f5c512ca852538682e4dfed1c539e476873061f643dcf9f74ca"), looks := true }, kinds := [], alts := [], laidByText := true, laidKinds := [.data, .data, .data, .handle, .sentinel, .sentinel, .sentinel, .sentinel, .sentinel, .sentinel, .sentinel, .sentinel, .sentinel, .sentinel], laidTests := true, laidLooks := .later }
def ProcStaysUptoCardSaid : Prop := Claim7.holds Tryz.pinned (.plain (OpenSpec.upto procStaysSpec)) procStaysUptoCard

/-- THE SECOND FORM's CARD OF 'flagstonelaw13.ProcGone'. -/
def procGoneUptoCard : Claim7 := { stood := { row := procGoneUptoRow, standIns := [], harness := (true, "ce601d18be0d7f5c512ca852538682e4dfed1c539e476873061f643dcf9f74ca"), looks := true }, kinds := [], alts := [], laidByText := true, laidKinds := [.data, .data, .data, .handle, .sentinel, .sentinel, .sentinel, .sentinel, .sentinel, .sentinel, .sentinel, .sentinel, .sentinel, .sentinel], laidTests := true, laidLooks := .later }
def ProcGoneUptoCardSaid : Prop := Claim7.holds Tryz.pinned (.plain (OpenSpec.upto procGoneSpec)) procGoneUptoCard
end Rows
end Go.Proofs.YtgbmmcnadmfikaaGreatDoor
