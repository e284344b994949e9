/-
  DERIVED. GIVEN WITH THE SEED: THE CARDS: each row of YtnlmdkbaihbekaaDoorRows.lean that lists a variable, with what it lists TIED to the program's text (the seventh form; the later family's looks); each row that meets fmt, with fmt's text TOLD by the authors' own Lean function (tested against real Go, not proved from fmt's source: count such statements apart). THE CARD IS WHAT COUNTS. Prove the row's statement (the work); the ties are given (YtnlmdkbaihbekaaDoorTie.lean); close each card by the builder's one call (the guide's Derived/Test/ToyasCard.lean, 'card_holds'). Laid BY PROGRAM, IN A SANDBOX (cutbox-door.mjs). By AI agents, Wed Nov 11 2026. No macro, syntax, notation, axiom, sorry.
-/
import Derived.Test.YtnlmdkbaihbekaaDoorRows
import GoSem.ClaimSeven
namespace Go.Proofs.YtnlmdkbaihbekaaDoor
namespace Rows

/-- THE TIED CARD OF 'selvedgelaw07.PendStays'. -/
def pendStaysCard : Claim7 := { stood := { row := pendStaysRow, standIns := [], harness := (true, "772d4a4c9b6239eebed90d592a13d42d64bb4ff88d9c4e710581d6cc9ca2bb71"), looks := false }, kinds := [], alts := [], laidByText := true, laidKinds := [.data, .data, .data], laidTests := true, laidLooks := .later }
def PendStaysCardSaid : Prop := Claim7.holds Tryd.pinned (.plain (OpenSpec.ofChange pendStaysSpec)) pendStaysCard

/-- THE SECOND FORM's CARD OF 'selvedgelaw07.PendStays'. -/
def pendStaysUptoCard : Claim7 := { stood := { row := pendStaysUptoRow, standIns := [], harness := (true, "772d4a4c9b6239eebed90d592a13d42d64bb4ff88d9c4e710581d6cc9ca2bb71"), looks := false }, kinds := [], alts := [], laidByText := true, laidKinds := [.data, .data, .data], laidTests := true, laidLooks := .later }
def PendStaysUptoCardSaid : Prop := Claim7.holds Tryd.pinned (.plain (OpenSpec.upto pendStaysSpec)) pendStaysUptoCard
end Rows
end Go.Proofs.YtnlmdkbaihbekaaDoor
