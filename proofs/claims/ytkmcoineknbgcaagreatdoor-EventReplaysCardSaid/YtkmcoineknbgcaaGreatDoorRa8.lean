import Derived.Test.YtkmcoineknbgcaaGreatDoorLIs3
import Derived.Test.YtkmcoineknbgcaaGreatDoorVn8
namespace Go.Proofs.YtkmcoineknbgcaaGreatDoor
open Go Go.Proofs Go.RowKit
theorem rkL_len (L:List El):rkL L (L.length:Int)=(L.map El.al).sum:=by unfold rkL; rw [Int.toNat_natCast,List.take_length]
end Go.Proofs.YtkmcoineknbgcaaGreatDoor
