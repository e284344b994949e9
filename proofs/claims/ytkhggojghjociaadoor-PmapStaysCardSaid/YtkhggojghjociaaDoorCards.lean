/-
  DERIVED. GIVEN WITH THE SEED: THE CARDS: each row of YtkhggojghjociaaDoorRows.lean that lists a variable, with what it lists TIED to the program's text (the seventh form; the later family's looks); each row that meets fmt, with fmt's text TOLD by the authors' own Lean function (tested against real Go, not proved from fmt's source: count such statements apart). THE CARD IS WHAT COUNTS. Prove the row's statement (the work); the ties are given (YtkhggojghjociaaDoorTie.lean); close each card by the builder's one call (the guide's Derived/Test/ToyasCard.lean, 'card_holds'). Laid BY PROGRAM, IN A SANDBOX (cutbox-door.mjs). By AI agents, Wed Nov 11 2026. No macro, syntax, notation, axiom, sorry.
-/
import Derived.Test.YtkhggojghjociaaDoorRows
import GoSem.ClaimSeven
namespace Go.Proofs.YtkhggojghjociaaDoor
namespace Rows

/-- THE TIED CARD OF 'selvedgelaw04.PmapPlays'. -/
def pmapPlaysCard : Claim7 := { stood := { row := pmapPlaysRow, standIns := [], harness := (true, "2969f26cf597642f1c63a71aa1977bb284fc3a5b4988fca04adde7f07d9528fd"), looks := false }, kinds := [], alts := [], laidByText := true, laidKinds := [.data, .data, .data], laidTests := true, laidLooks := .later }
def PmapPlaysCardSaid : Prop := Claim7.holds Tryd.pinned (.plain (OpenSpec.ofChange pmapPlaysSpec)) pmapPlaysCard

/-- THE TIED CARD OF 'selvedgelaw04.PmapStays'. -/
def pmapStaysCard : Claim7 := { stood := { row := pmapStaysRow, standIns := [], harness := (true, "2969f26cf597642f1c63a71aa1977bb284fc3a5b4988fca04adde7f07d9528fd"), looks := false }, kinds := [], alts := [], laidByText := true, laidKinds := [.data, .data, .data], laidTests := true, laidLooks := .later }
def PmapStaysCardSaid : Prop := Claim7.holds Tryd.pinned (.plain (OpenSpec.ofChange pmapStaysSpec)) pmapStaysCard

/-- THE SECOND FORM's CARD OF 'selvedgelaw04.PmapPlays'. -/
def pmapPlaysUptoCard : Claim7 := { stood := { row := pmapPlaysUptoRow, standIns := [], harness := (true, "2969f26cf597642f1c63a71aa1977bb284fc3a5b4988fca04adde7f07d9528fd"), looks := false }, kinds := [], alts := [], laidByText := true, laidKinds := [.data, .data, .data], laidTests := true, laidLooks := .later }
def PmapPlaysUptoCardSaid : Prop := Claim7.holds Tryd.pinned (.plain (OpenSpec.upto pmapPlaysSpec)) pmapPlaysUptoCard

/-- THE SECOND FORM's CARD OF 'selvedgelaw04.PmapStays'. -/
def pmapStaysUptoCard : Claim7 := { stood := { row := pmapStaysUptoRow, standIns := [], harness := (true, "2969f26cf597642f1c63a71aa1977bb284fc3a5b4988fca04adde7f07d9528fd"), looks := false }, kinds := [], alts := [], laidByText := true, laidKinds := [.data, .data, .data], laidTests := true, laidLooks := .later }
def PmapStaysUptoCardSaid : Prop := Claim7.holds Tryd.pinned (.plain (OpenSpec.upto pmapStaysSpec)) pmapStaysUptoCard
end Rows
end Go.Proofs.YtkhggojghjociaaDoor
