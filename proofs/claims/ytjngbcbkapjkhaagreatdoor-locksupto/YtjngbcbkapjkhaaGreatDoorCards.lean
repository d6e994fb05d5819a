/-
  DERIVED. GIVEN WITH THE SEED: THE CARDS: each row of YtjngbcbkapjkhaaGreatDoorRows.lean that lists a variable, with what it lists TIED to the program's text (the seventh form; the later family's looks); each row that meets fmt, with fmt's text TOLD by the authors' own Lean function (tested against real Go, not proved from fmt's source: count such statements apart). THE CARD IS WHAT COUNTS. Prove the row's statement (the work); the ties are given (YtjngbcbkapjkhaaGreatDoorTie.lean); close each card by the builder's one call (the guide's Derived/Test/ToyasCard.lean, 'card_holds'). Laid BY PROGRAM, IN A SANDBOX (cutbox-door.mjs). By AI agents, Wed Nov 11 2026. No macro, syntax, notation, axiom, sorry.
-/
import Derived.Test.YtjngbcbkapjkhaaGreatDoorRows
import GoSem.ClaimSeven
namespace Go.Proofs.YtjngbcbkapjkhaaGreatDoor
namespace Rows

/-- THE TIED CARD OF 'binderylaw.Locks'. -/
def locksCard : Claim7 := { stood := { row := locksRow, standIns := [], harness := (true, "f839bfdd8ae369c3977a34f271a2c28f91fa3ab14d12bae9cda21d2870b8b3a3"), looks := true }, kinds := [], alts := [], goes := true, laidByText := true, laidKinds := [.data, .sentinel, .sentinel, .handle, .sentinel, .sentinel, .sentinel, .sentinel, .sentinel, .sentinel, .sentinel, .data, .sentinel, .sentinel, .sentinel, .sentinel, .pinned, .data, .data, .data, .data, .sentinel, .sentinel], laidTests := true, laidLooks := .later }
def LocksCardSaid : Prop := Claim7.holds Tryz.pinned (.plain (OpenSpec.ofChange locksSpec)) locksCard

/-- THE SECOND FORM's CARD OF 'binderylaw.Locks'. -/
def locksUptoCard : Claim7 := { stood := { row := locksUptoRow, standIns := [], harness := (true, "f839bfdd8ae369c3977a34f271a2c28f91fa3ab14d12bae9cda21d2870b8b3a3"), looks := true }, kinds := [], alts := [], goes := true, laidByText := true, laidKinds := [.data, .sentinel, .sentinel, .handle, .sentinel, .sentinel, .sentinel, .sentinel, .sentinel, .sentinel, .sentinel, .data, .sentinel, .sentinel, .sentinel, .sentinel, .pinned, .data, .data, .data, .data, .sentinel, .sentinel], laidTests := true, laidLooks := .later }
def LocksUptoCardSaid : Prop := Claim7.holds Tryz.pinned (.plain (OpenSpec.upto locksSpec)) locksUptoCard
end Rows
end Go.Proofs.YtjngbcbkapjkhaaGreatDoor
