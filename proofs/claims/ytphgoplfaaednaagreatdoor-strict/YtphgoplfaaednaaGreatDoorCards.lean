/-
  DERIVED. GIVEN WITH THE SEED: THE CARDS: each row of YtphgoplfaaednaaGreatDoorRows.lean that lists a variable, with what it lists TIED to the program's text (the seventh form; the later family's looks); each row that meets fmt, with fmt's text TOLD by the authors' own Lean function (tested against real Go, not proved from fmt's source: count such statements apart). THE CARD IS WHAT COUNTS. Prove the row's statement (the work); the ties are given (YtphgoplfaaednaaGreatDoorTie.lean); close each card by the builder's one call (the guide's Derived/Test/ToyasCard.lean, 'card_holds'). Laid BY PROGRAM, IN A SANDBOX (cutbox-door.mjs). By AI agents, Wed Nov 11 2026. No macro, syntax, notation, axiom, sorry.
-/
import Derived.Test.YtphgoplfaaednaaGreatDoorRows
import GoSem.ClaimSeven
namespace Go.Proofs.YtphgoplfaaednaaGreatDoor
namespace Rows

/-- THE TIED CARD OF 'binderykeep.Strict'. -/
def strictCard : Claim7 := { stood := { row := strictRow, standIns := [], harness := (true, "d16f71dac29d438f8c153fed0062ddfca5f32edf8fe515cf37ea0b5c29c82524"), looks := true }, kinds := [], alts := [], goes := true, laidByText := true, laidKinds := [.data, .data, .data, .data, .handle, .sentinel, .sentinel, .data, .sentinel, .sentinel, .sentinel, .sentinel, .sentinel, .sentinel, .sentinel, .sentinel, .sentinel, .sentinel, .sentinel, .sentinel, .sentinel, .data, .pinned], laidTests := true, laidLooks := .later }
def StrictCardSaid : Prop := Claim7.holds Tryz.pinned (.plain (OpenSpec.ofChange strictSpec)) strictCard

/-- THE SECOND FORM's CARD OF 'binderykeep.Strict'. -/
def strictUptoCard : Claim7 := { stood := { row := strictUptoRow, standIns := [], harness := (true, "d16f71dac29d438f8c153fed0062ddfca5f32edf8fe515cf37ea0b5c29c82524"), looks := true }, kinds := [], alts := [], goes := true, laidByText := true, laidKinds := [.data, .data, .data, .data, .handle, .sentinel, .sentinel, .data, .sentinel, .sentinel, .sentinel, .sentinel, .sentinel, .sentinel, .sentinel, .sentinel, .sentinel, .sentinel, .sentinel, .sentinel, .sentinel, .data, .pinned], laidTests := true, laidLooks := .later }
def StrictUptoCardSaid : Prop := Claim7.holds Tryz.pinned (.plain (OpenSpec.upto strictSpec)) strictUptoCard
end Rows
end Go.Proofs.YtphgoplfaaednaaGreatDoor
