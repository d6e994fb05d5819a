/-
  DERIVED. GIVEN WITH THE SEED: THE CARDS: each row of YtnjcblagpoplnaaGreatDoorRows.lean that lists a variable, with what it lists TIED to the program's text (the seventh form; the later family's looks); each row that meets fmt, with fmt's text TOLD by the authors' own Lean function (tested against real Go, not proved from fmt's source: count such statements apart). THE CARD IS WHAT COUNTS. Prove the row's statement (the work); the ties are given (YtnjcblagpoplnaaGreatDoorTie.lean); close each card by the builder's one call (the guide's Derived/Test/ToyasCard.lean, 'card_holds'). Laid BY PROGRAM, IN A SANDBOX (cutbox-door.mjs). By AI agents, Wed Nov 11 2026. No macro, syntax, notation, axiom, sorry.
-/
import Derived.Test.YtnjcblagpoplnaaGreatDoorRows
import GoSem.ClaimSeven
namespace Go.Proofs.YtnjcblagpoplnaaGreatDoor
namespace Rows

/-- THE TIED CARD OF 'binderykeep.Stands'. -/
def standsCard : Claim7 := { stood := { row := standsRow, standIns := [], harness := (true, "0497367b8d5b624e8bf8bb835ec2f65ba3fde3590e6b1d33c12f3e359003871b"), looks := true }, kinds := [], alts := [], goes := true, laidByText := true, laidKinds := [.data, .data, .data, .data, .handle, .sentinel, .sentinel, .data, .sentinel, .sentinel, .sentinel, .sentinel, .sentinel, .sentinel, .sentinel, .sentinel, .sentinel, .sentinel, .sentinel, .sentinel, .sentinel, .data, .pinned], laidTests := true, laidLooks := .later }
def StandsCardSaid : Prop := Claim7.holds Tryz.pinned (.plain (OpenSpec.ofChange standsSpec)) standsCard

/-- THE SECOND FORM's CARD OF 'binderykeep.Stands'. -/
def standsUptoCard : Claim7 := { stood := { row := standsUptoRow, standIns := [], harness := (true, "0497367b8d5b624e8bf8bb835ec2f65ba3fde3590e6b1d33c12f3e359003871b"), looks := true }, kinds := [], alts := [], goes := true, laidByText := true, laidKinds := [.data, .data, .data, .data, .handle, .sentinel, .sentinel, .data, .sentinel, .sentinel, .sentinel, .sentinel, .sentinel, .sentinel, .sentinel, .sentinel, .sentinel, .sentinel, .sentinel, .sentinel, .sentinel, .data, .pinned], laidTests := true, laidLooks := .later }
def StandsUptoCardSaid : Prop := Claim7.holds Tryz.pinned (.plain (OpenSpec.upto standsSpec)) standsUptoCard
end Rows
end Go.Proofs.YtnjcblagpoplnaaGreatDoor
