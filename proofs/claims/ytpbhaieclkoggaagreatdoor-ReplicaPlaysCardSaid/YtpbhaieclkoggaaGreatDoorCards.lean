/-
  DERIVED. GIVEN WITH THE SEED: THE CARDS: each row of YtpbhaieclkoggaaGreatDoorRows.lean that lists a variable, with what it lists TIED to the program's text (the seventh form; the later family's looks); each row that meets fmt, with fmt's text TOLD by the authors' own Lean function (tested against real Go, not proved from fmt's source: count such statements apart). THE CARD IS WHAT COUNTS. Prove the row's statement (the work); the ties are given (YtpbhaieclkoggaaGreatDoorTie.lean); close each card by the builder's one call (the guide's Derived/Test/ToyasCard.lean, 'card_holds'). Laid BY PROGRAM, IN A SANDBOX (cutbox-door.mjs). By AI agents, Wed Nov 11 2026. No macro, syntax, notation, axiom, sorry.
-/
import Derived.Test.YtpbhaieclkoggaaGreatDoorRows
import GoSem.ClaimSeven
namespace Go.Proofs.YtpbhaieclkoggaaGreatDoor
namespace Rows

/-- THE TIED CARD OF 'selvedgelaw12.ReplicaPlays'. -/
def replicaPlaysCard : Claim7 := { stood := { row := replicaPlaysRow, standIns := [], harness := (true, "f2a9bb3b66531883338d33dedf2436358091cd93c8b8e96dc00856f671c879c7"), looks := false }, kinds := [], alts := [], laidByText := true, laidKinds := [.data, .data, .data, .data, .data, .pinned, .pinned], laidTests := true, laidLooks := .later }
def ReplicaPlaysCardSaid : Prop := Claim7.holds Tryz.pinned (.plain (OpenSpec.ofChange replicaPlaysSpec)) replicaPlaysCard

/-- THE TIED CARD OF 'selvedgelaw12.ReplicaLooks'. -/
def replicaLooksCard : Claim7 := { stood := { row := replicaLooksRow, standIns := [], harness := (true, "f2a9bb3b66531883338d33dedf2436358091cd93c8b8e96dc00856f671c879c7"), looks := false }, kinds := [], alts := [], laidByText := true, laidKinds := [.data, .data, .data, .data, .pinned, .pinned], laidTests := true, laidLooks := .later }
def ReplicaLooksCardSaid : Prop := Claim7.holds Tryz.pinned (.plain (OpenSpec.ofChange replicaLooksSpec)) replicaLooksCard

/-- THE SECOND FORM's CARD OF 'selvedgelaw12.ReplicaPlays'. -/
def replicaPlaysUptoCard : Claim7 := { stood := { row := replicaPlaysUptoRow, standIns := [], harness := (true, "f2a9bb3b66531883338d33dedf2436358091cd93c8b8e96dc00856f671c879c7"), looks := false }, kinds := [], alts := [], laidByText := true, laidKinds := [.data, .data, .data, .data, .data, .pinned, .pinned], laidTests := true, laidLooks := .later }
def ReplicaPlaysUptoCardSaid : Prop := Claim7.holds Tryz.pinned (.plain (OpenSpec.upto replicaPlaysSpec)) replicaPlaysUptoCard

/-- THE SECOND FORM's CARD OF 'selvedgelaw12.ReplicaLooks'. -/
def replicaLooksUptoCard : Claim7 := { stood := { row := replicaLooksUptoRow, standIns := [], harness := (true, "f2a9bb3b66531883338d33dedf2436358091cd93c8b8e96dc00856f671c879c7"), looks := false }, kinds := [], alts := [], laidByText := true, laidKinds := [.data, .data, .data, .data, .pinned, .pinned], laidTests := true, laidLooks := .later }
def ReplicaLooksUptoCardSaid : Prop := Claim7.holds Tryz.pinned (.plain (OpenSpec.upto replicaLooksSpec)) replicaLooksUptoCard
end Rows
end Go.Proofs.YtpbhaieclkoggaaGreatDoor
