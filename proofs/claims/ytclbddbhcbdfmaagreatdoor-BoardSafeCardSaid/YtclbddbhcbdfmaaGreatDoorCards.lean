/-
  DERIVED. GIVEN WITH THE SEED: THE CARDS: each row of YtclbddbhcbdfmaaGreatDoorRows.lean that lists a variable, with what it lists TIED to the program's text (the seventh form; the later family's looks); each row that meets fmt, with fmt's text TOLD by the authors' own Lean function (tested against real Go, not proved from fmt's source: count such statements apart). THE CARD IS WHAT COUNTS. Prove the row's statement (the work); the ties are given (YtclbddbhcbdfmaaGreatDoorTie.lean); close each card by the builder's one call (the guide's Derived/Test/ToyasCard.lean, 'card_holds'). Laid BY PROGRAM, IN A SANDBOX (cutbox-door.mjs). By AI agents, Wed Nov 11 2026. No macro, syntax, notation, axiom, sorry.
-/
import Derived.Test.YtclbddbhcbdfmaaGreatDoorRows
import GoSem.ClaimSeven
namespace Go.Proofs.YtclbddbhcbdfmaaGreatDoor
namespace Rows

/-- THE TIED CARD OF 'selvedgelaw15.BoardPlays'. -/
def boardPlaysCard : Claim7 := { stood := { row := boardPlaysRow, standIns := [], harness := (true, "a76fb59b6d07201f13fe33b913953ddfe378bc227f7419eebb9a465aedf3660d"), looks := false }, kinds := [], alts := [], laidByText := true, laidKinds := [.data, .data, .data, .data, .pinned, .pinned], laidTests := true, laidLooks := .later }
def BoardPlaysCardSaid : Prop := Claim7.holds Tryz.pinned (.plain (OpenSpec.ofChange boardPlaysSpec)) boardPlaysCard

/-- THE TIED CARD OF 'selvedgelaw15.BoardSafe'. -/
def boardSafeCard : Claim7 := { stood := { row := boardSafeRow, standIns := [], harness := (true, "a76fb59b6d07201f13fe33b913953ddfe378bc227f7419eebb9a465aedf3660d"), looks := false }, kinds := [], alts := [], laidByText := true, laidKinds := [.data, .data, .data, .data, .pinned, .pinned], laidTests := true, laidLooks := .later }
def BoardSafeCardSaid : Prop := Claim7.holds Tryz.pinned (.plain (OpenSpec.ofChange boardSafeSpec)) boardSafeCard

/-- THE SECOND FORM's CARD OF 'selvedgelaw15.BoardPlays'. -/
def boardPlaysUptoCard : Claim7 := { stood := { row := boardPlaysUptoRow, standIns := [], harness := (true, "a76fb59b6d07201f13fe33b913953ddfe378bc227f7419eebb9a465aedf3660d"), looks := false }, kinds := [], alts := [], laidByText := true, laidKinds := [.data, .data, .data, .data, .pinned, .pinned], laidTests := true, laidLooks := .later }
def BoardPlaysUptoCardSaid : Prop := Claim7.holds Tryz.pinned (.plain (OpenSpec.upto boardPlaysSpec)) boardPlaysUptoCard

/-- THE SECOND FORM's CARD OF 'selvedgelaw15.BoardSafe'. -/
def boardSafeUptoCard : Claim7 := { stood := { row := boardSafeUptoRow, standIns := [], harness := (true, "a76fb59b6d07201f13fe33b913953ddfe378bc227f7419eebb9a465aedf3660d"), looks := false }, kinds := [], alts := [], laidByText := true, laidKinds := [.data, .data, .data, .data, .pinned, .pinned], laidTests := true, laidLooks := .later }
def BoardSafeUptoCardSaid : Prop := Claim7.holds Tryz.pinned (.plain (OpenSpec.upto boardSafeSpec)) boardSafeUptoCard
end Rows
end Go.Proofs.YtclbddbhcbdfmaaGreatDoor
