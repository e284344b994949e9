import Derived.Test.YtclbddbhcbdfmaaGreatDoorJs15
import Derived.Test.YtclbddbhcbdfmaaGreatDoorJt15
namespace Go.Proofs.YtclbddbhcbdfmaaGreatDoor
open Go Go.Proofs
theorem jf_all:joinedFacts Tryz.prog 4 Tryz.f4 Rows.boardSafeSpec Rows.boardSafeRow=true:=by
 unfold joinedFacts
 rw [jf_in,jf_un,jf_re,jf_na]
 kernel_rfl
end Go.Proofs.YtclbddbhcbdfmaaGreatDoor
