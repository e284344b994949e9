import Derived.Deep.DeepCutAuto
import Derived.Test.YtemicfjmidohfaaGreatDoorLRef
import Derived.Test.YtemicfjmidohfaaGreatDoorLText
namespace Go.Proofs.YtemicfjmidohfaaGreatDoor
open Go Go.Proofs Go.RowKit
def txtS (l:List El):ByteArray:=⟨(txtL l).toArray⟩
theorem alive_le (l:List El):(l.map El.al).sum≤l.length:=by
 induction l with
 | nil=>simp
 | cons x l ih=>have:=x.al_le; simp only [List.map_cons,List.sum_cons,List.length_cons]; omega
end Go.Proofs.YtemicfjmidohfaaGreatDoor
