import Derived.Test.YtemicfjmidohfaaGreatDoorRows
import Derived.JoinedOf
namespace Go.Proofs.YtemicfjmidohfaaGreatDoor
open Go Go.Proofs
theorem jf_in:(Rows.clientLooksRow.inPlace==Program.inPlace Tryz.prog 5)=true:=by kernel_rfl
theorem jf_un:(Rows.clientLooksRow.unfollowed==Program.unfollowed Tryz.prog 5)=true:=by kernel_rfl
end Go.Proofs.YtemicfjmidohfaaGreatDoor
