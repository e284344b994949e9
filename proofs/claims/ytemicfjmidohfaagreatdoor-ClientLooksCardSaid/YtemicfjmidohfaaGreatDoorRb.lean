import Derived.Test.YtemicfjmidohfaaGreatDoorVn8
namespace Go.Proofs.YtemicfjmidohfaaGreatDoor
open Go Go.Proofs Go.RowKit
theorem rkL_len (L:List El):rkL L (L.length:Int)=(L.map El.al).sum:=by unfold rkL; rw [Int.toNat_natCast,List.take_length]
theorem rkL_neg (L:List El) {i:Int} (h:i≤0):rkL L i=0:=by unfold rkL; rw [show i.toNat=0 by omega]; rfl
end Go.Proofs.YtemicfjmidohfaaGreatDoor
namespace Go.Proofs.YtemicfjmidohfaaGreatDoor
open Go Go.Proofs Go.RowKit
theorem lsd {P:Program} {md:Region.Mode} {ops:Array Oper} {Q:Exit→Act→World→Prop} {S:World→Prop} {fuel:Nat} {l:Array Bool} {a:Act} {w:World} (l':Array Bool) (h:l=l') (k:wpAnyH P md ops Q S fuel l' a w):wpAnyH P md ops Q S fuel l a w:=by rw [h]; exact k
end Go.Proofs.YtemicfjmidohfaaGreatDoor
