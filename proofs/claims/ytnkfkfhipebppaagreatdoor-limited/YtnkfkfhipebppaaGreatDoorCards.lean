/-
  DERIVED. GIVEN WITH THE SEED: THE CARDS: each row of YtnkfkfhipebppaaGreatDoorRows.lean that lists a variable, with what it lists TIED to the program's text (the seventh form; the later family's looks); each row that meets fmt, with fmt's text TOLD by the authors' own Lean function (tested against real Go, not proved from fmt's source: count such statements apart). THE CARD IS WHAT COUNTS. Prove the row's statement (the work); the ties are given (YtnkfkfhipebppaaGreatDoorTie.lean); close each card by the builder's one call (the guide's Derived/Test/ToyasCard.lean, 'card_holds'). Laid BY PROGRAM, IN A SANDBOX (cutbox-door.mjs). By AI agents, Wed Nov 11 2026. No macro, syntax, notation, axiom, sorry.
-/
import Derived.Test.YtnkfkfhipebppaaGreatDoorRows
import GoSem.ClaimSeven
namespace Go.Proofs.YtnkfkfhipebppaaGreatDoor
namespace Rows

/-- THE TIED CARD OF 'binderykeep.Limited'. -/
def limitedCard : Claim7 := { stood := { row := limitedRow, standIns := [], harness := (true, "be6f04fc3b5abb1f8f39b4382ab9723727db6992474e26557b5752d05ff2e4cb"), looks := true }, kinds := [], alts := [], goes := true, laidByText := true, laidKinds := [.data, .data, .data, .data, .handle, .sentinel, .sentinel, .data, .sentinel, .sentinel, .sentinel, .sentinel, .sentinel, .sentinel, .sentinel, .sentinel, .sentinel, .sentinel, .sentinel, .sentinel, .sentinel, .data, .pinned], laidTests := true, laidLooks := .later }
def LimitedCardSaid : Prop := Claim7.holds Tryz.pinned (.plain (OpenSpec.ofChange limitedSpec)) limitedCard

/-- THE SECOND FORM's CARD OF 'binderykeep.Limited'. -/
def limitedUptoCard : Claim7 := { stood := { row := limitedUptoRow, standIns := [], harness := (true, "be6f04fc3b5abb1f8f39b4382ab9723727db6992474e26557b5752d05ff2e4cb"), looks := true }, kinds := [], alts := [], goes := true, laidByText := true, laidKinds := [.data, .data, .data, .data, .handle, .sentinel, .sentinel, .data, .sentinel, .sentinel, .sentinel, .sentinel, .sentinel, .sentinel, .sentinel, .sentinel, .sentinel, .sentinel, .sentinel, .sentinel, .sentinel, .data, .pinned], laidTests := true, laidLooks := .later }
def LimitedUptoCardSaid : Prop := Claim7.holds Tryz.pinned (.plain (OpenSpec.upto limitedSpec)) limitedUptoCard
end Rows
end Go.Proofs.YtnkfkfhipebppaaGreatDoor
