import Derived.Test.YtemicfjmidohfaaGreatDoorRows
import Derived.SevenTiedAt
namespace Go.Proofs.YtemicfjmidohfaaGreatDoor
open Go Go.Proofs
theorem jc_go:false=Rows.clientLooksRow.goesBy Tryz.prog:=by kernel_rfl
end Go.Proofs.YtemicfjmidohfaaGreatDoor
