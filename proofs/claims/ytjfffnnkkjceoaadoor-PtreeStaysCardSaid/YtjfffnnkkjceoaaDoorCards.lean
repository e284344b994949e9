/-
  DERIVED. GIVEN WITH THE SEED: THE CARDS: each row of YtjfffnnkkjceoaaDoorRows.lean that lists a variable, with what it lists TIED to the program's text (the seventh form; the later family's looks); each row that meets fmt, with fmt's text TOLD by the authors' own Lean function (tested against real Go, not proved from fmt's source: count such statements apart). THE CARD IS WHAT COUNTS. Prove the row's statement (the work); the ties are given (YtjfffnnkkjceoaaDoorTie.lean); close each card by the builder's one call (the guide's Derived/Test/ToyasCard.lean, 'card_holds'). Laid BY PROGRAM, IN A SANDBOX (cutbox-door.mjs). By AI agents, Wed Nov 11 2026. No macro, syntax, notation, axiom, sorry.
-/
import Derived.Test.YtjfffnnkkjceoaaDoorRows
import GoSem.ClaimSeven
namespace Go.Proofs.YtjfffnnkkjceoaaDoor
namespace Rows

/-- THE TIED CARD OF 'selvedgelaw03.PtreeStays'. -/
def ptreeStaysCard : Claim7 := { stood := { row := ptreeStaysRow, standIns := [], harness := (true, "b6602133ab4f5ed62676932093df53af8b4ef13054e2530c5d0464e81e22172b"), looks := false }, kinds := [], alts := [], laidByText := true, laidKinds := [.data, .data, .data], laidTests := true, laidLooks := .later }
def PtreeStaysCardSaid : Prop := Claim7.holds Tryd.pinned (.plain (OpenSpec.ofChange ptreeStaysSpec)) ptreeStaysCard

/-- THE SECOND FORM's CARD OF 'selvedgelaw03.PtreeStays'. -/
def ptreeStaysUptoCard : Claim7 := { stood := { row := ptreeStaysUptoRow, standIns := [], harness := (true, "b6602133ab4f5ed62676932093df53af8b4ef13054e2530c5d0464e81e22172b"), looks := false }, kinds := [], alts := [], laidByText := true, laidKinds := [.data, .data, .data], laidTests := true, laidLooks := .later }
def PtreeStaysUptoCardSaid : Prop := Claim7.holds Tryd.pinned (.plain (OpenSpec.upto ptreeStaysSpec)) ptreeStaysUptoCard
end Rows
end Go.Proofs.YtjfffnnkkjceoaaDoor
