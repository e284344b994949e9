import Derived.Test.YtclbddbhcbdfmaaGreatDoorRows
import Derived.SevenTiedAt
namespace Go.Proofs.YtclbddbhcbdfmaaGreatDoor
open Go Go.Proofs
theorem jc_go:false=Rows.boardSafeRow.goesBy Tryz.prog:=by kernel_rfl
end Go.Proofs.YtclbddbhcbdfmaaGreatDoor
