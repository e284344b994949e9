import Derived.Test.YtclbddbhcbdfmaaGreatDoorRows
import Derived.JoinedOf
namespace Go.Proofs.YtclbddbhcbdfmaaGreatDoor
open Go Go.Proofs
theorem jf_in:(Rows.boardSafeRow.inPlace==Program.inPlace Tryz.prog 4)=true:=by kernel_rfl
theorem jf_un:(Rows.boardSafeRow.unfollowed==Program.unfollowed Tryz.prog 4)=true:=by kernel_rfl
end Go.Proofs.YtclbddbhcbdfmaaGreatDoor
