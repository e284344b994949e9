import Derived.Test.YtmodpjhffbledaaGreatDoorLIs3
import Derived.Test.YtmodpjhffbledaaGreatDoorVn8
namespace Go.Proofs.YtmodpjhffbledaaGreatDoor
open Go Go.Proofs Go.RowKit
theorem rkL_len (L : List El) : rkL L (L.length : Int) = (L.map El.al).sum := by unfold rkL; rw [Int.toNat_natCast, List.take_length]
theorem rkL_neg (L : List El) {i : Int} (h : i ≤ 0) : rkL L i = 0 := by unfold rkL; rw [show i.toNat = 0 by omega]; rfl
end Go.Proofs.YtmodpjhffbledaaGreatDoor
