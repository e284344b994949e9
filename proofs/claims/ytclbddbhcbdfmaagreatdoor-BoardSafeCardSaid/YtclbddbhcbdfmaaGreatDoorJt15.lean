import Derived.Test.YtclbddbhcbdfmaaGreatDoorRows
import Derived.JoinedOf
namespace Go.Proofs.YtclbddbhcbdfmaaGreatDoor
open Go Go.Proofs
theorem jf_re:(Rows.boardSafeRow.recurses==Program.recurses Tryz.prog 4)=true:=by kernel_rfl
theorem jf_na:(Rows.boardSafeRow.named==Program.varsNamed Tryz.prog 4)=true:=by kernel_rfl
end Go.Proofs.YtclbddbhcbdfmaaGreatDoor
