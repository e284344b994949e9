/-
  DERIVED. GIVEN WITH THE SEED: THE CARDS: each row of YtbddljkajiimmaaDoorRows.lean that lists a variable, with what it lists TIED to the program's text (the seventh form; the later family's looks); each row that meets fmt, with fmt's text TOLD by the authors' own Lean function (tested against real Go, not proved from fmt's source: count such statements apart). THE CARD IS WHAT COUNTS. Prove the row's statement (the work); the ties are given (YtbddljkajiimmaaDoorTie.lean); close each card by the builder's one call (the guide's Derived/Test/ToyasCard.lean, 'card_holds'). Laid BY PROGRAM, IN A SANDBOX (cutbox-door.mjs). By AI agents, Wed Nov 11 2026. No macro, syntax, notation, axiom, sorry.
-/
import Derived.Test.YtbddljkajiimmaaDoorRows
import GoSem.ClaimSeven
namespace Go.Proofs.YtbddljkajiimmaaDoor
namespace Rows

/-- THE TIED CARD OF 'selvedgelaw02.TallyTurns'. -/
def tallyTurnsCard : Claim7 := { stood := { row := tallyTurnsRow, standIns := [], harness := (true, "be7697368fa91539dfc99d6c99fad84a6602ba4ea1b4586309717200c1e4eb40"), looks := false }, kinds := [], alts := [], laidByText := true, laidKinds := [.data, .data, .data, .data, .pinned, .pinned], laidTests := true, laidLooks := .later }
def TallyTurnsCardSaid : Prop := Claim7.holds Tryd.pinned (.plain (OpenSpec.ofChange tallyTurnsSpec)) tallyTurnsCard

/-- THE TIED CARD OF 'selvedgelaw02.TallyFull'. -/
def tallyFullCard : Claim7 := { stood := { row := tallyFullRow, standIns := [], harness := (true, "be7697368fa91539dfc99d6c99fad84a6602ba4ea1b4586309717200c1e4eb40"), looks := false }, kinds := [], alts := [], laidByText := true, laidKinds := [.data, .data, .data, .data, .pinned, .pinned], laidTests := true, laidLooks := .later }
def TallyFullCardSaid : Prop := Claim7.holds Tryd.pinned (.plain (OpenSpec.ofChange tallyFullSpec)) tallyFullCard

/-- THE SECOND FORM's CARD OF 'selvedgelaw02.TallyTurns'. -/
def tallyTurnsUptoCard : Claim7 := { stood := { row := tallyTurnsUptoRow, standIns := [], harness := (true, "be7697368fa91539dfc99d6c99fad84a6602ba4ea1b4586309717200c1e4eb40"), looks := false }, kinds := [], alts := [], laidByText := true, laidKinds := [.data, .data, .data, .data, .pinned, .pinned], laidTests := true, laidLooks := .later }
def TallyTurnsUptoCardSaid : Prop := Claim7.holds Tryd.pinned (.plain (OpenSpec.upto tallyTurnsSpec)) tallyTurnsUptoCard

/-- THE SECOND FORM's CARD OF 'selvedgelaw02.TallyFull'. -/
def tallyFullUptoCard : Claim7 := { stood := { row := tallyFullUptoRow, standIns := [], harness := (true, "be7697368fa91539dfc99d6c99fad84a6602ba4ea1b4586309717200c1e4eb40"), looks := false }, kinds := [], alts := [], laidByText := true, laidKinds := [.data, .data, .data, .data, .pinned, .pinned], laidTests := true, laidLooks := .later }
def TallyFullUptoCardSaid : Prop := Claim7.holds Tryd.pinned (.plain (OpenSpec.upto tallyFullSpec)) tallyFullUptoCard
end Rows
end Go.Proofs.YtbddljkajiimmaaDoor
