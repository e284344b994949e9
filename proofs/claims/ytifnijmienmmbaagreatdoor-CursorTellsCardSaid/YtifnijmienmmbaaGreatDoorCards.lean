/-
  DERIVED. GIVEN WITH THE SEED: THE CARDS: each row of YtifnijmienmmbaaGreatDoorRows.lean that lists a variable, with what it lists TIED to the program's text (the seventh form; the later family's looks); each row that meets fmt, with fmt's text TOLD by the authors' own Lean function (tested against real Go, not proved from fmt's source: count such statements apart). THE CARD IS WHAT COUNTS. Prove the row's statement (the work); the ties are given (YtifnijmienmmbaaGreatDoorTie.lean); close each card by the builder's one call (the guide's Derived/Test/ToyasCard.lean, 'card_holds'). Laid BY PROGRAM, IN A SANDBOX (cutbox-door.mjs). By AI agents, Wed Nov 11 2026. No macro, syntax, notation, axiom, sorry.
-/
import Derived.Test.YtifnijmienmmbaaGreatDoorRows
import GoSem.ClaimSeven
namespace Go.Proofs.YtifnijmienmmbaaGreatDoor
namespace Rows

/-- THE TIED CARD OF 'selvedgelaw11.CursorTells'. -/
def cursorTellsCard : Claim7 := { stood := { row := cursorTellsRow, standIns := [], harness := (true, "33031aa08eb3273923d2e0736f90daa13f7c4dbe58e998291090b67431be78bb"), looks := false }, kinds := [], alts := [], laidByText := true, laidKinds := [.data, .data, .data, .data, .pinned, .pinned], laidTests := true, laidLooks := .later }
def CursorTellsCardSaid : Prop := Claim7.holds Tryz.pinned (.plain (OpenSpec.ofChange cursorTellsSpec)) cursorTellsCard

/-- THE TIED CARD OF 'selvedgelaw11.CursorStays'. -/
def cursorStaysCard : Claim7 := { stood := { row := cursorStaysRow, standIns := [], harness := (true, "33031aa08eb3273923d2e0736f90daa13f7c4dbe58e998291090b67431be78bb"), looks := false }, kinds := [], alts := [], laidByText := true, laidKinds := [.data, .data, .data, .data, .pinned, .pinned], laidTests := true, laidLooks := .later }
def CursorStaysCardSaid : Prop := Claim7.holds Tryz.pinned (.plain (OpenSpec.ofChange cursorStaysSpec)) cursorStaysCard

/-- THE SECOND FORM's CARD OF 'selvedgelaw11.CursorTells'. -/
def cursorTellsUptoCard : Claim7 := { stood := { row := cursorTellsUptoRow, standIns := [], harness := (true, "33031aa08eb3273923d2e0736f90daa13f7c4dbe58e998291090b67431be78bb"), looks := false }, kinds := [], alts := [], laidByText := true, laidKinds := [.data, .data, .data, .data, .pinned, .pinned], laidTests := true, laidLooks := .later }
def CursorTellsUptoCardSaid : Prop := Claim7.holds Tryz.pinned (.plain (OpenSpec.upto cursorTellsSpec)) cursorTellsUptoCard

/-- THE SECOND FORM's CARD OF 'selvedgelaw11.CursorStays'. -/
def cursorStaysUptoCard : Claim7 := { stood := { row := cursorStaysUptoRow, standIns := [], harness := (true, "33031aa08eb3273923d2e0736f90daa13f7c4dbe58e998291090b67431be78bb"), looks := false }, kinds := [], alts := [], laidByText := true, laidKinds := [.data, .data, .data, .data, .pinned, .pinned], laidTests := true, laidLooks := .later }
def CursorStaysUptoCardSaid : Prop := Claim7.holds Tryz.pinned (.plain (OpenSpec.upto cursorStaysSpec)) cursorStaysUptoCard
end Rows
end Go.Proofs.YtifnijmienmmbaaGreatDoor
