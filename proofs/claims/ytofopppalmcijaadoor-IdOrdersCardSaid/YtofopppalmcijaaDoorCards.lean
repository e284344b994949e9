/-
  DERIVED. GIVEN WITH THE SEED: THE CARDS: each row of YtofopppalmcijaaDoorRows.lean that lists a variable, with what it lists TIED to the program's text (the seventh form; the later family's looks); each row that meets fmt, with fmt's text TOLD by the authors' own Lean function (tested against real Go, not proved from fmt's source: count such statements apart). THE CARD IS WHAT COUNTS. Prove the row's statement (the work); the ties are given (YtofopppalmcijaaDoorTie.lean); close each card by the builder's one call (the guide's Derived/Test/ToyasCard.lean, 'card_holds'). Laid BY PROGRAM, IN A SANDBOX (cutbox-door.mjs). By AI agents, Wed Nov 11 2026. No macro, syntax, notation, axiom, sorry.
-/
import Derived.Test.YtofopppalmcijaaDoorRows
import GoSem.ClaimSeven
namespace Go.Proofs.YtofopppalmcijaaDoor
namespace Rows

/-- THE TIED CARD OF 'selvedgelaw01.IdTells'. -/
def idTellsCard : Claim7 := { stood := { row := idTellsRow, standIns := [], harness := (true, "bf91875907d659b9b5dbd897d85b60ade7a36f9e54a1eebe60adeaaba69718bf"), looks := false }, kinds := [], alts := [], laidByText := true, laidKinds := [.data, .data, .data], laidTests := true, laidLooks := .later }
def IdTellsCardSaid : Prop := Claim7.holds Tryd.pinned (.plain (OpenSpec.ofChange idTellsSpec)) idTellsCard

/-- THE TIED CARD OF 'selvedgelaw01.IdOrders'. -/
def idOrdersCard : Claim7 := { stood := { row := idOrdersRow, standIns := [], harness := (true, "bf91875907d659b9b5dbd897d85b60ade7a36f9e54a1eebe60adeaaba69718bf"), looks := false }, kinds := [], alts := [], laidByText := true, laidKinds := [.data, .data, .data], laidTests := true, laidLooks := .later }
def IdOrdersCardSaid : Prop := Claim7.holds Tryd.pinned (.plain (OpenSpec.ofChange idOrdersSpec)) idOrdersCard

/-- THE SECOND FORM's CARD OF 'selvedgelaw01.IdTells'. -/
def idTellsUptoCard : Claim7 := { stood := { row := idTellsUptoRow, standIns := [], harness := (true, "bf91875907d659b9b5dbd897d85b60ade7a36f9e54a1eebe60adeaaba69718bf"), looks := false }, kinds := [], alts := [], laidByText := true, laidKinds := [.data, .data, .data], laidTests := true, laidLooks := .later }
def IdTellsUptoCardSaid : Prop := Claim7.holds Tryd.pinned (.plain (OpenSpec.upto idTellsSpec)) idTellsUptoCard

/-- THE SECOND FORM's CARD OF 'selvedgelaw01.IdOrders'. -/
def idOrdersUptoCard : Claim7 := { stood := { row := idOrdersUptoRow, standIns := [], harness := (true, "bf91875907d659b9b5dbd897d85b60ade7a36f9e54a1eebe60adeaaba69718bf"), looks := false }, kinds := [], alts := [], laidByText := true, laidKinds := [.data, .data, .data], laidTests := true, laidLooks := .later }
def IdOrdersUptoCardSaid : Prop := Claim7.holds Tryd.pinned (.plain (OpenSpec.upto idOrdersSpec)) idOrdersUptoCard
end Rows
end Go.Proofs.YtofopppalmcijaaDoor
