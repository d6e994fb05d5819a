/-
  DERIVED. GIVEN WITH THE SEED: THE CARDS: each row of YtfggjnegifkbkaaGreatDoorRows.lean that lists a variable, with what it lists TIED to the program's text (the seventh form; the later family's looks); each row that meets fmt, with fmt's text TOLD by the authors' own Lean function (tested against real Go, not proved from fmt's source: count such statements apart). THE CARD IS WHAT COUNTS. Prove the row's statement (the work); the ties are given (YtfggjnegifkbkaaGreatDoorTie.lean); close each card by the builder's one call (the guide's Derived/Test/ToyasCard.lean, 'card_holds'). Laid BY PROGRAM, IN A SANDBOX (cutbox-door.mjs). By AI agents, Wed Nov 11 2026. No macro, syntax, notation, axiom, sorry.
-/
import Derived.Test.YtfggjnegifkbkaaGreatDoorRows
import GoSem.ClaimSeven
namespace Go.Proofs.YtfggjnegifkbkaaGreatDoor
namespace Rows

/-- THE TIED CARD OF 'binderykeep.Placed'. -/
def placedCard : Claim7 := { stood := { row := placedRow, standIns := [], harness := (true, "7a4694796388ba62322dc2e0704ea41209f0255d26cd34f5e31c12d2d37dd3f0"), looks := true }, kinds := [], alts := [], goes := true, laidByText := true, laidKinds := [.data, .data, .data, .data, .handle, .sentinel, .sentinel, .data, .sentinel, .sentinel, .sentinel, .sentinel, .sentinel, .sentinel, .sentinel, .sentinel, .sentinel, .sentinel, .sentinel, .sentinel, .sentinel, .data, .pinned], laidTests := true, laidLooks := .later }
def PlacedCardSaid : Prop := Claim7.holds Tryz.pinned (.plain (OpenSpec.ofChange placedSpec)) placedCard

/-- THE SECOND FORM's CARD OF 'binderykeep.Placed'. -/
def placedUptoCard : Claim7 := { stood := { row := placedUptoRow, standIns := [], harness := (true, "7a4694796388ba62322dc2e0704ea41209f0255d26cd34f5e31c12d2d37dd3f0"), looks := true }, kinds := [], alts := [], goes := true, laidByText := true, laidKinds := [.data, .data, .data, .data, .handle, .sentinel, .sentinel, .data, .sentinel, .sentinel, .sentinel, .sentinel, .sentinel, .sentinel, .sentinel, .sentinel, .sentinel, .sentinel, .sentinel, .sentinel, .sentinel, .data, .pinned], laidTests := true, laidLooks := .later }
def PlacedUptoCardSaid : Prop := Claim7.holds Tryz.pinned (.plain (OpenSpec.upto placedSpec)) placedUptoCard
end Rows
end Go.Proofs.YtfggjnegifkbkaaGreatDoor
