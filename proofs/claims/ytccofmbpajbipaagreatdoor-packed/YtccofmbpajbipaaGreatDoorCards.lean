/-
  DERIVED. GIVEN WITH THE SEED: THE CARDS: each row of YtccofmbpajbipaaGreatDoorRows.lean that lists a variable, with what it lists TIED to the program's text (the seventh form; the later family's looks); each row that meets fmt, with fmt's text TOLD by the authors' own Lean function (tested against real Go, not proved from fmt's source: count such statements apart). THE CARD IS WHAT COUNTS. Prove the row's statement (the work); the ties are given (YtccofmbpajbipaaGreatDoorTie.lean); close each card by the builder's one call (the guide's Derived/Test/ToyasCard.lean, 'card_holds'). Laid BY PROGRAM, IN A SANDBOX (cutbox-door.mjs). By AI agents, Wed Nov 11 2026. No macro, syntax, notation, axiom, sorry.
-/
import Derived.Test.YtccofmbpajbipaaGreatDoorRows
import GoSem.ClaimSeven
namespace Go.Proofs.YtccofmbpajbipaaGreatDoor
namespace Rows

/-- THE TIED CARD OF 'binderykeep.Packed'. -/
def packedCard : Claim7 := { stood := { row := packedRow, standIns := [], harness := (true, "e95ace42d957b53e2e35de117b69997e3d9a4ffc05eda2ba63401e7ef8accec3"), looks := true }, kinds := [], alts := [], goes := true, laidByText := true, laidKinds := [.data, .data, .data, .data, .handle, .sentinel, .sentinel, .data, .sentinel, .sentinel, .sentinel, .sentinel, .sentinel, .sentinel, .sentinel, .sentinel, .sentinel, .sentinel, .sentinel, .sentinel, .sentinel, .data, .pinned], laidTests := true, laidLooks := .later }
def PackedCardSaid : Prop := Claim7.holds Tryz.pinned (.plain (OpenSpec.ofChange packedSpec)) packedCard

/-- THE SECOND FORM's CARD OF 'binderykeep.Packed'. -/
def packedUptoCard : Claim7 := { stood := { row := packedUptoRow, standIns := [], harness := (true, "e95ace42d957b53e2e35de117b69997e3d9a4ffc05eda2ba63401e7ef8accec3"), looks := true }, kinds := [], alts := [], goes := true, laidByText := true, laidKinds := [.data, .data, .data, .data, .handle, .sentinel, .sentinel, .data, .sentinel, .sentinel, .sentinel, .sentinel, .sentinel, .sentinel, .sentinel, .sentinel, .sentinel, .sentinel, .sentinel, .sentinel, .sentinel, .data, .pinned], laidTests := true, laidLooks := .later }
def PackedUptoCardSaid : Prop := Claim7.holds Tryz.pinned (.plain (OpenSpec.upto packedSpec)) packedUptoCard
end Rows
end Go.Proofs.YtccofmbpajbipaaGreatDoor
