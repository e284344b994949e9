import Derived.Test.YtemicfjmidohfaaGreatDoorRows
import Derived.JoinedOf
namespace Go.Proofs.YtemicfjmidohfaaGreatDoor
open Go Go.Proofs
theorem jf_re:(Rows.clientLooksRow.recurses==Program.recurses Tryz.prog 5)=true:=by kernel_rfl
theorem jf_na:(Rows.clientLooksRow.named==Program.varsNamed Tryz.prog 5)=true:=by kernel_rfl
end Go.Proofs.YtemicfjmidohfaaGreatDoor
