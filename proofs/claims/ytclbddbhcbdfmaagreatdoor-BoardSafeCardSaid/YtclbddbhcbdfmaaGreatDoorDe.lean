import Derived.Test.YtclbddbhcbdfmaaGreatDoorDc
import Derived.Deep.CutRange
import Derived.Test.YtclbddbhcbdfmaaGreatDoorVm8
namespace Go.Proofs.YtclbddbhcbdfmaaGreatDoor
open Go Go.Proofs Go.RowKit
theorem nam_may {m:List Oq} (h:OkO m) (k:Int):noneB (namC (docR m) k).1 (namC (docR m) k).2=true∨mayB (namC (docR m) k).1 (namC (docR m) k).2=true:=by
 by_cases hn:namC (docR m) k=(0,0)
 ·left; rw [hn]; rfl
 ·right
  obtain ⟨h0,h1⟩:=nam_yes hn;obtain ⟨y,hy,hk,e,_⟩:=nam_in h h0 h1;rw [e]; exact h.may y hy hk
end Go.Proofs.YtclbddbhcbdfmaaGreatDoor
