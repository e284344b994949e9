import Derived.Test.YtemicfjmidohfaaGreatDoorJs16
import Derived.Test.YtemicfjmidohfaaGreatDoorJt16
namespace Go.Proofs.YtemicfjmidohfaaGreatDoor
open Go Go.Proofs
theorem jf_all:joinedFacts Tryz.prog 5 Tryz.f5 Rows.clientLooksSpec Rows.clientLooksRow=true:=by
 unfold joinedFacts
 rw [jf_in,jf_un,jf_re,jf_na]
 kernel_rfl
end Go.Proofs.YtemicfjmidohfaaGreatDoor
