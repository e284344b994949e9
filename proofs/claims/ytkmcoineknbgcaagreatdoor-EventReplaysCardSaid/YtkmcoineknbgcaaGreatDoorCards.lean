/-
  DERIVED. GIVEN WITH THE SEED: THE CARDS: each row of YtkmcoineknbgcaaGreatDoorRows.lean that lists a variable, with what it lists TIED to the program's text (the seventh form; the later family's looks); each row that meets fmt, with fmt's text TOLD by the authors' own Lean function (tested against real Go, not proved from fmt's source: count such statements apart). THE CARD IS WHAT COUNTS. Prove the row's statement (the work); the ties are given (YtkmcoineknbgcaaGreatDoorTie.lean); close each card by the builder's one call (the guide's Derived/Test/ToyasCard.lean, 'card_holds'). Laid BY PROGRAM, IN A SANDBOX (cutbox-door.mjs). By AI agents, Wed Nov 11 2026. No macro, syntax, notation, axiom, sorry.
-/
import Derived.Test.YtkmcoineknbgcaaGreatDoorRows
import GoSem.ClaimSeven
namespace Go.Proofs.YtkmcoineknbgcaaGreatDoor
namespace Rows

/-- THE TIED CARD OF 'selvedgelaw09.EventReplays'. -/
def eventReplaysCard : Claim7 := { stood := { row := eventReplaysRow, standIns := [], harness := (true, "9182d539d3d82e54dfb98dd85d9eb41afa191fecc72f75a7f72117c5ab62d491"), looks := true }, kinds := [], alts := [], laidByText := true, laidKinds := [.data, .data, .data, .data, .pinned, .pinned], laidTests := true, laidLooks := .later }
def EventReplaysCardSaid : Prop := Claim7.holds Tryz.pinned (.plain (OpenSpec.ofChange eventReplaysSpec)) eventReplaysCard

/-- THE SECOND FORM's CARD OF 'selvedgelaw09.EventReplays'. -/
def eventReplaysUptoCard : Claim7 := { stood := { row := eventReplaysUptoRow, standIns := [], harness := (true, "9182d539d3d82e54dfb98dd85d9eb41afa191fecc72f75a7f72117c5ab62d491"), looks := true }, kinds := [], alts := [], laidByText := true, laidKinds := [.data, .data, .data, .data, .pinned, .pinned], laidTests := true, laidLooks := .later }
def EventReplaysUptoCardSaid : Prop := Claim7.holds Tryz.pinned (.plain (OpenSpec.upto eventReplaysSpec)) eventReplaysUptoCard
end Rows
end Go.Proofs.YtkmcoineknbgcaaGreatDoor
