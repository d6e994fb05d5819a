/-
  DERIVED. GIVEN WITH THE SEED: THE CARDS: each row of YtgfbbcnnmoamnaaGreatDoorRows.lean that lists a variable, with what it lists TIED to the program's text (the seventh form; the later family's looks); each row that meets fmt, with fmt's text TOLD by the authors' own Lean function (tested against real Go, not proved from fmt's source: count such statements apart). THE CARD IS WHAT COUNTS. Prove the row's statement (the work); the ties are given (YtgfbbcnnmoamnaaGreatDoorTie.lean); close each card by the builder's one call (the guide's Derived/Test/ToyasCard.lean, 'card_holds'). Laid BY PROGRAM, IN A SANDBOX (cutbox-door.mjs). By AI agents, Wed Nov 11 2026. No macro, syntax, notation, axiom, sorry.
-/
import Derived.Test.YtgfbbcnnmoamnaaGreatDoorRows
import GoSem.ClaimSeven
namespace Go.Proofs.YtgfbbcnnmoamnaaGreatDoor
namespace Rows

/-- THE TIED CARD OF 'binderylaw.Unpacks'. -/
def unpacksCard : Claim7 := { stood := { row := unpacksRow, standIns := [], harness := (true, "8f2cea992b12fdc5d709d6465feb603bef4b19875739796c182656939c50f8c4"), looks := true }, kinds := [], alts := [], goes := true, laidByText := true, laidKinds := [.pinned, .data, .data, .data, .data, .sentinel, .sentinel, .handle, .data, .sentinel, .sentinel, .sentinel, .sentinel, .sentinel, .sentinel, .sentinel, .data, .sentinel, .sentinel, .sentinel, .sentinel, .sentinel, .sentinel], laidTests := true, laidLooks := .later }
def UnpacksCardSaid : Prop := Claim7.holds Tryz.pinned (.plain (OpenSpec.ofChange unpacksSpec)) unpacksCard

/-- THE SECOND FORM's CARD OF 'binderylaw.Unpacks'. -/
def unpacksUptoCard : Claim7 := { stood := { row := unpacksUptoRow, standIns := [], harness := (true, "8f2cea992b12fdc5d709d6465feb603bef4b19875739796c182656939c50f8c4"), looks := true }, kinds := [], alts := [], goes := true, laidByText := true, laidKinds := [.pinned, .data, .data, .data, .data, .sentinel, .sentinel, .handle, .data, .sentinel, .sentinel, .sentinel, .sentinel, .sentinel, .sentinel, .sentinel, .data, .sentinel, .sentinel, .sentinel, .sentinel, .sentinel, .sentinel], laidTests := true, laidLooks := .later }
def UnpacksUptoCardSaid : Prop := Claim7.holds Tryz.pinned (.plain (OpenSpec.upto unpacksSpec)) unpacksUptoCard
end Rows
end Go.Proofs.YtgfbbcnnmoamnaaGreatDoor
