/-
  DERIVED. GIVEN WITH THE SEED: THE CARDS: each row of YtlnonnjpcajgjaaDoorRows.lean that lists a variable, with what it lists TIED to the program's text (the seventh form; the later family's looks); each row that meets fmt, with fmt's text TOLD by the authors' own Lean function (tested against real Go, not proved from fmt's source: count such statements apart). THE CARD IS WHAT COUNTS. Prove the row's statement (the work); the ties are given (YtlnonnjpcajgjaaDoorTie.lean); close each card by the builder's one call (the guide's Derived/Test/ToyasCard.lean, 'card_holds'). Laid BY PROGRAM, IN A SANDBOX (cutbox-door.mjs). By AI agents, Wed Nov 11 2026. No macro, syntax, notation, axiom, sorry.
-/
import Derived.Test.YtlnonnjpcajgjaaDoorRows
import GoSem.ClaimSeven
namespace Go.Proofs.YtlnonnjpcajgjaaDoor
namespace Rows

/-- THE TIED CARD OF 'selvedgelaw06.CoreFull'. -/
def coreFullCard : Claim7 := { stood := { row := coreFullRow, standIns := [], harness := (true, "1c546109eeebc6aed371a2113490d75a39209ed128afc69f66cf076fa750c47a"), looks := false }, kinds := [], alts := [], laidByText := true, laidKinds := [.data, .data, .data], laidTests := true, laidLooks := .later }
def CoreFullCardSaid : Prop := Claim7.holds Tryd.pinned (.plain (OpenSpec.ofChange coreFullSpec)) coreFullCard

/-- THE SECOND FORM's CARD OF 'selvedgelaw06.CoreFull'. -/
def coreFullUptoCard : Claim7 := { stood := { row := coreFullUptoRow, standIns := [], harness := (true, "1c546109eeebc6aed371a2113490d75a39209ed128afc69f66cf076fa750c47a"), looks := false }, kinds := [], alts := [], laidByText := true, laidKinds := [.data, .data, .data], laidTests := true, laidLooks := .later }
def CoreFullUptoCardSaid : Prop := Claim7.holds Tryd.pinned (.plain (OpenSpec.upto coreFullSpec)) coreFullUptoCard
end Rows
end Go.Proofs.YtlnonnjpcajgjaaDoor
