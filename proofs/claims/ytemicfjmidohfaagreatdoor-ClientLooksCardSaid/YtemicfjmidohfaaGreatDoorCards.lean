/-
  DERIVED. GIVEN WITH THE SEED: THE CARDS: each row of YtemicfjmidohfaaGreatDoorRows.lean that lists a variable, with what it lists TIED to the program's text (the seventh form; the later family's looks); each row that meets fmt, with fmt's text TOLD by the authors' own Lean function (tested against real Go, not proved from fmt's source: count such statements apart). THE CARD IS WHAT COUNTS. Prove the row's statement (the work); the ties are given (YtemicfjmidohfaaGreatDoorTie.lean); close each card by the builder's one call (the guide's Derived/Test/ToyasCard.lean, 'card_holds'). Laid BY PROGRAM, IN A SANDBOX (cutbox-door.mjs). By AI agents, Wed Nov 11 2026. No macro, syntax, notation, axiom, sorry.
-/
import Derived.Test.YtemicfjmidohfaaGreatDoorRows
import GoSem.ClaimSeven
namespace Go.Proofs.YtemicfjmidohfaaGreatDoor
namespace Rows

/-- THE TIED CARD OF 'selvedgelaw15.BoardPlays'. -/
def boardPlaysCard : Claim7 := { stood := { row := boardPlaysRow, standIns := [], harness := (true, "185305f597e8ff68834011deb4184432da11eb5546c90a8f7feb660e17d2aa1d"), looks := false }, kinds := [], alts := [], laidByText := true, laidKinds := [.data, .data, .data, .data, .pinned, .pinned], laidTests := true, laidLooks := .later }
def BoardPlaysCardSaid : Prop := Claim7.holds Tryz.pinned (.plain (OpenSpec.ofChange boardPlaysSpec)) boardPlaysCard

/-- THE TIED CARD OF 'selvedgelaw16.ClientPlays'. -/
def clientPlaysCard : Claim7 := { stood := { row := clientPlaysRow, standIns := [], harness := (true, "185305f597e8ff68834011deb4184432da11eb5546c90a8f7feb660e17d2aa1d"), looks := false }, kinds := [], alts := [], laidByText := true, laidKinds := [.data, .data, .data, .data, .data, .pinned, .pinned], laidTests := true, laidLooks := .later }
def ClientPlaysCardSaid : Prop := Claim7.holds Tryz.pinned (.plain (OpenSpec.ofChange clientPlaysSpec)) clientPlaysCard

/-- THE TIED CARD OF 'selvedgelaw16.ClientLooks'. -/
def clientLooksCard : Claim7 := { stood := { row := clientLooksRow, standIns := [], harness := (true, "185305f597e8ff68834011deb4184432da11eb5546c90a8f7feb660e17d2aa1d"), looks := false }, kinds := [], alts := [], laidByText := true, laidKinds := [.data, .data, .data, .data, .data, .pinned, .pinned], laidTests := true, laidLooks := .later }
def ClientLooksCardSaid : Prop := Claim7.holds Tryz.pinned (.plain (OpenSpec.ofChange clientLooksSpec)) clientLooksCard

/-- THE SECOND FORM's CARD OF 'selvedgelaw15.BoardPlays'. -/
def boardPlaysUptoCard : Claim7 := { stood := { row := boardPlaysUptoRow, standIns := [], harness := (true, "185305f597e8ff68834011deb4184432da11eb5546c90a8f7feb660e17d2aa1d"), looks := false }, kinds := [], alts := [], laidByText := true, laidKinds := [.data, .data, .data, .data, .pinned, .pinned], laidTests := true, laidLooks := .later }
def BoardPlaysUptoCardSaid : Prop := Claim7.holds Tryz.pinned (.plain (OpenSpec.upto boardPlaysSpec)) boardPlaysUptoCard

/-- THE SECOND FORM's CARD OF 'selvedgelaw16.ClientPlays'. -/
def clientPlaysUptoCard : Claim7 := { stood := { row := clientPlaysUptoRow, standIns := [], harness := (true, "185305f597e8ff68834011deb4184432da11eb5546c90a8f7feb660e17d2aa1d"), looks := false }, kinds := [], alts := [], laidByText := true, laidKinds := [.data, .data, .data, .data, .data, .pinned, .pinned], laidTests := true, laidLooks := .later }
def ClientPlaysUptoCardSaid : Prop := Claim7.holds Tryz.pinned (.plain (OpenSpec.upto clientPlaysSpec)) clientPlaysUptoCard

/-- THE SECOND FORM's CARD OF 'selvedgelaw16.ClientLooks'. -/
def clientLooksUptoCard : Claim7 := { stood := { row := clientLooksUptoRow, standIns := [], harness := (true, "185305f597e8ff68834011deb4184432da11eb5546c90a8f7feb660e17d2aa1d"), looks := false }, kinds := [], alts := [], laidByText := true, laidKinds := [.data, .data, .data, .data, .data, .pinned, .pinned], laidTests := true, laidLooks := .later }
def ClientLooksUptoCardSaid : Prop := Claim7.holds Tryz.pinned (.plain (OpenSpec.upto clientLooksSpec)) clientLooksUptoCard
end Rows
end Go.Proofs.YtemicfjmidohfaaGreatDoor
