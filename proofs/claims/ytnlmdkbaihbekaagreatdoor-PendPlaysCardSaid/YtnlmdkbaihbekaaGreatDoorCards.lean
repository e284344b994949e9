/-
  DERIVED. GIVEN WITH THE SEED: THE CARDS: each row of YtnlmdkbaihbekaaGreatDoorRows.lean that lists a variable, with what it lists TIED to the program's text (the seventh form; the later family's looks); each row that meets fmt, with fmt's text TOLD by the authors' own Lean function (tested against real Go, not proved from fmt's source: count such statements apart). THE CARD IS WHAT COUNTS. Prove the row's statement (the work); the ties are given (YtnlmdkbaihbekaaGreatDoorTie.lean); close each card by the builder's one call (the guide's Derived/Test/ToyasCard.lean, 'card_holds'). Laid BY PROGRAM, IN A SANDBOX (cutbox-door.mjs). By AI agents, Wed Nov 11 2026. No macro, syntax, notation, axiom, sorry.
-/
import Derived.Test.YtnlmdkbaihbekaaGreatDoorRows
import GoSem.ClaimSeven
namespace Go.Proofs.YtnlmdkbaihbekaaGreatDoor
namespace Rows

/-- THE TIED CARD OF 'selvedgelaw07.PendPlays'. -/
def pendPlaysCard : Claim7 := { stood := { row := pendPlaysRow, standIns := [], harness := (true, "78492e2663d7d07d0281dfb7568a5db0ef234ea0a17b85a0826a37e6aa7de6d6"), looks := false }, kinds := [], alts := [], laidByText := true, laidKinds := [.data, .data, .data], laidTests := true, laidLooks := .later }
def PendPlaysCardSaid : Prop := Claim7.holds Tryz.pinned (.plain (OpenSpec.ofChange pendPlaysSpec)) pendPlaysCard

/-- THE SECOND FORM's CARD OF 'selvedgelaw07.PendPlays'. -/
def pendPlaysUptoCard : Claim7 := { stood := { row := pendPlaysUptoRow, standIns := [], harness := (true, "78492e2663d7d07d0281dfb7568a5db0ef234ea0a17b85a0826a37e6aa7de6d6"), looks := false }, kinds := [], alts := [], laidByText := true, laidKinds := [.data, .data, .data], laidTests := true, laidLooks := .later }
def PendPlaysUptoCardSaid : Prop := Claim7.holds Tryz.pinned (.plain (OpenSpec.upto pendPlaysSpec)) pendPlaysUptoCard
end Rows
end Go.Proofs.YtnlmdkbaihbekaaGreatDoor
