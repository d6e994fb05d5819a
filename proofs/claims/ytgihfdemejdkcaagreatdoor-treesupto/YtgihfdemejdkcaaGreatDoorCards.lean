/-
  DERIVED. GIVEN WITH THE SEED: THE CARDS: each row of YtgihfdemejdkcaaGreatDoorRows.lean that lists a variable, with what it lists TIED to the program's text (the seventh form; the later family's looks); each row that meets fmt, with fmt's text TOLD by the authors' own Lean function (tested against real Go, not proved from fmt's source: count such statements apart). THE CARD IS WHAT COUNTS. Prove the row's statement (the work); the ties are given (YtgihfdemejdkcaaGreatDoorTie.lean); close each card by the builder's one call (the guide's Derived/Test/ToyasCard.lean, 'card_holds'). Laid BY PROGRAM, IN A SANDBOX (cutbox-door.mjs). By AI agents, Wed Nov 11 2026. No macro, syntax, notation, axiom, sorry.
-/
import Derived.Test.YtgihfdemejdkcaaGreatDoorRows
import GoSem.ClaimSeven
namespace Go.Proofs.YtgihfdemejdkcaaGreatDoor
namespace Rows

/-- THE TIED CARD OF 'binderylaw.Trees'. -/
def treesCard : Claim7 := { stood := { row := treesRow, standIns := [], harness := (true, "238e3ff00df755091703852816f5ed8da6910d4fa25e7fe20f7726c6b770ebae"), looks := true }, kinds := [], alts := [], goes := true, laidByText := true, laidKinds := [.data, .sentinel, .sentinel, .handle, .sentinel, .sentinel, .sentinel, .sentinel, .sentinel, .sentinel, .sentinel, .data, .sentinel, .sentinel, .sentinel, .sentinel, .pinned, .data, .data, .data, .data, .sentinel, .sentinel], laidTests := true, laidLooks := .later }
def TreesCardSaid : Prop := Claim7.holds Tryz.pinned (.plain (OpenSpec.ofChange treesSpec)) treesCard

/-- THE SECOND FORM's CARD OF 'binderylaw.Trees'. -/
def treesUptoCard : Claim7 := { stood := { row := treesUptoRow, standIns := [], harness := (true, "238e3ff00df755091703852816f5ed8da6910d4fa25e7fe20f7726c6b770ebae"), looks := true }, kinds := [], alts := [], goes := true, laidByText := true, laidKinds := [.data, .sentinel, .sentinel, .handle, .sentinel, .sentinel, .sentinel, .sentinel, .sentinel, .sentinel, .sentinel, .data, .sentinel, .sentinel, .sentinel, .sentinel, .pinned, .data, .data, .data, .data, .sentinel, .sentinel], laidTests := true, laidLooks := .later }
def TreesUptoCardSaid : Prop := Claim7.holds Tryz.pinned (.plain (OpenSpec.upto treesSpec)) treesUptoCard
end Rows
end Go.Proofs.YtgihfdemejdkcaaGreatDoor
