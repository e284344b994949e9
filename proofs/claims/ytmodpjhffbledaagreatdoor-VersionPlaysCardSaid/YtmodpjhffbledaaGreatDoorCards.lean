/-
  DERIVED. GIVEN WITH THE SEED: THE CARDS: each row of YtmodpjhffbledaaGreatDoorRows.lean that lists a variable, with what it lists TIED to the program's text (the seventh form; the later family's looks); each row that meets fmt, with fmt's text TOLD by the authors' own Lean function (tested against real Go, not proved from fmt's source: count such statements apart). THE CARD IS WHAT COUNTS. Prove the row's statement (the work); the ties are given (YtmodpjhffbledaaGreatDoorTie.lean); close each card by the builder's one call (the guide's Derived/Test/ToyasCard.lean, 'card_holds'). Laid BY PROGRAM, IN A SANDBOX (cutbox-door.mjs). By AI agents, Wed Nov 11 2026. No macro, syntax, notation, axiom, sorry.
-/
import Derived.Test.YtmodpjhffbledaaGreatDoorRows
import GoSem.ClaimSeven
namespace Go.Proofs.YtmodpjhffbledaaGreatDoor
namespace Rows

/-- THE TIED CARD OF 'selvedgelaw08.VersionPlays'. -/
def versionPlaysCard : Claim7 := { stood := { row := versionPlaysRow, standIns := [], harness := (true, "29d094ee1ff6767bca8bbabc5f1854afaba40a714570f96bfbd6ddd271ee595a"), looks := false }, kinds := [], alts := [], laidByText := true, laidKinds := [.data, .data, .data, .data, .pinned, .pinned], laidTests := true, laidLooks := .later }
def VersionPlaysCardSaid : Prop := Claim7.holds Tryz.pinned (.plain (OpenSpec.ofChange versionPlaysSpec)) versionPlaysCard

/-- THE TIED CARD OF 'selvedgelaw08.VersionEdits'. -/
def versionEditsCard : Claim7 := { stood := { row := versionEditsRow, standIns := [], harness := (true, "29d094ee1ff6767bca8bbabc5f1854afaba40a714570f96bfbd6ddd271ee595a"), looks := false }, kinds := [], alts := [], laidByText := true, laidKinds := [.data, .data, .data, .data, .pinned, .pinned], laidTests := true, laidLooks := .later }
def VersionEditsCardSaid : Prop := Claim7.holds Tryz.pinned (.plain (OpenSpec.ofChange versionEditsSpec)) versionEditsCard

/-- THE SECOND FORM's CARD OF 'selvedgelaw08.VersionPlays'. -/
def versionPlaysUptoCard : Claim7 := { stood := { row := versionPlaysUptoRow, standIns := [], harness := (true, "29d094ee1ff6767bca8bbabc5f1854afaba40a714570f96bfbd6ddd271ee595a"), looks := false }, kinds := [], alts := [], laidByText := true, laidKinds := [.data, .data, .data, .data, .pinned, .pinned], laidTests := true, laidLooks := .later }
def VersionPlaysUptoCardSaid : Prop := Claim7.holds Tryz.pinned (.plain (OpenSpec.upto versionPlaysSpec)) versionPlaysUptoCard

/-- THE SECOND FORM's CARD OF 'selvedgelaw08.VersionEdits'. -/
def versionEditsUptoCard : Claim7 := { stood := { row := versionEditsUptoRow, standIns := [], harness := (true, "29d094ee1ff6767bca8bbabc5f1854afaba40a714570f96bfbd6ddd271ee595a"), looks := false }, kinds := [], alts := [], laidByText := true, laidKinds := [.data, .data, .data, .data, .pinned, .pinned], laidTests := true, laidLooks := .later }
def VersionEditsUptoCardSaid : Prop := Claim7.holds Tryz.pinned (.plain (OpenSpec.upto versionEditsSpec)) versionEditsUptoCard
end Rows
end Go.Proofs.YtmodpjhffbledaaGreatDoor
