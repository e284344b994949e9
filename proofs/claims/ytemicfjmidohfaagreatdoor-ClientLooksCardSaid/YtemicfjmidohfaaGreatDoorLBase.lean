import Derived.Below
import Derived.BigQuiet
import Derived.Deep.LoopGhost
import Derived.Deep.QuietTactic
import Derived.Deep.RegionHeld3
import Derived.Deep.Upon
import Derived.KernelRfl
import Derived.Lib.Hide
import Derived.LoopIn
import Derived.LoopNIn
import Derived.Maps.AppendAt
import Derived.OneCell
import Derived.OrdersIn
import Derived.OwnWalkIn
import Derived.RangeFuncBound
import Derived.RangeFuncBox
import Derived.RangeFuncCalls
import Derived.RangeFuncLeaves
import Derived.RangeFuncNested
import Derived.Shelf.Abstract
import Derived.Shelf.RegionOpen
import Derived.Tactics
import Derived.Tactics2
import Derived.TacticsInMore
import Derived.WalkKit
import Derived.Test.YtemicfjmidohfaaGreatDoorProg
set_option maxHeartbeats 12800000
namespace Go.Proofs.YtemicfjmidohfaaGreatDoor
instance : Coe Int Go.Value := ⟨fun x => .int .i64 x⟩
instance : Coe Nat Go.Value := ⟨fun x => .int .i64 (x : Int)⟩
open Go Go.Proofs Go.RowKit
def Blk (W:World) (b:Nat) (vs:List Value) (t:TypeId):Prop:=W.heap[b]? = some (.cells ⟨vs⟩ t (0,0))
theorem Blk.cell {W:World} {b:Nat} {vs:List Value} {t:TypeId} (h:Blk W b vs t) (i:Nat) {v:Value} (hv:vs[i]? = some v):W.cell? ⟨b,i,none⟩=some v:=by
 unfold Blk at h; simp [World.cell?,h,hv]
theorem Blk.free {W:World} {b:Nat} {vs:List Value} {t:TypeId} (h:Blk W b vs t) (i:Nat):W.frozen? ⟨b,i,none⟩=false:=by
 unfold Blk at h; simp [World.frozen?,h]
theorem Blk.c2 {W:World} {b:Nat} {a0 a1:Value} {l:List Value} {t:TypeId} (h:Blk W b (a0::a1::l) t):W.cell? ⟨b,0,none⟩=some a0∧W.cell? ⟨b,1,none⟩=some a1:=⟨h.cell 0 rfl,h.cell 1 rfl⟩
theorem Blk.f2 {W:World} {b:Nat} {vs:List Value} {t:TypeId} (h:Blk W b vs t):W.frozen? ⟨b,0,none⟩=false∧W.frozen? ⟨b,1,none⟩=false:=⟨h.free 0,h.free 1⟩
theorem Blk.d2 {W:World} {b:Nat} {a0 a1:Value} {l:List Value} {t:TypeId} {p:Prop} (h:Blk W b (a0::a1::l) t) (q:p):W.cell? ⟨b,0,none⟩=some a0∧W.cell? ⟨b,1,none⟩=some a1∧p:=⟨h.cell 0 rfl,h.cell 1 rfl,q⟩
theorem Blk.c3 {W:World} {b:Nat} {a0 a1 a2:Value} {l:List Value} {t:TypeId} (h:Blk W b (a0::a1::a2::l) t):W.cell? ⟨b,0,none⟩=some a0∧W.cell? ⟨b,1,none⟩=some a1∧W.cell? ⟨b,2,none⟩=some a2:=⟨h.cell 0 rfl,h.cell 1 rfl,h.cell 2 rfl⟩
theorem Blk.f3 {W:World} {b:Nat} {vs:List Value} {t:TypeId} (h:Blk W b vs t):W.frozen? ⟨b,0,none⟩=false∧W.frozen? ⟨b,1,none⟩=false∧W.frozen? ⟨b,2,none⟩=false:=⟨h.free 0,h.free 1,h.free 2⟩
theorem Blk.d3 {W:World} {b:Nat} {a0 a1 a2:Value} {l:List Value} {t:TypeId} {p:Prop} (h:Blk W b (a0::a1::a2::l) t) (q:p):W.cell? ⟨b,0,none⟩=some a0∧W.cell? ⟨b,1,none⟩=some a1∧W.cell? ⟨b,2,none⟩=some a2∧p:=⟨h.cell 0 rfl,h.cell 1 rfl,h.cell 2 rfl,q⟩
theorem Blk.c4 {W:World} {b:Nat} {a0 a1 a2 a3:Value} {l:List Value} {t:TypeId} (h:Blk W b (a0::a1::a2::a3::l) t):W.cell? ⟨b,0,none⟩=some a0∧W.cell? ⟨b,1,none⟩=some a1∧W.cell? ⟨b,2,none⟩=some a2∧W.cell? ⟨b,3,none⟩=some a3:=⟨h.cell 0 rfl,h.cell 1 rfl,h.cell 2 rfl,h.cell 3 rfl⟩
theorem Blk.f4 {W:World} {b:Nat} {vs:List Value} {t:TypeId} (h:Blk W b vs t):W.frozen? ⟨b,0,none⟩=false∧W.frozen? ⟨b,1,none⟩=false∧W.frozen? ⟨b,2,none⟩=false∧W.frozen? ⟨b,3,none⟩=false:=⟨h.free 0,h.free 1,h.free 2,h.free 3⟩
theorem Blk.d4 {W:World} {b:Nat} {a0 a1 a2 a3:Value} {l:List Value} {t:TypeId} {p:Prop} (h:Blk W b (a0::a1::a2::a3::l) t) (q:p):W.cell? ⟨b,0,none⟩=some a0∧W.cell? ⟨b,1,none⟩=some a1∧W.cell? ⟨b,2,none⟩=some a2∧W.cell? ⟨b,3,none⟩=some a3∧p:=⟨h.cell 0 rfl,h.cell 1 rfl,h.cell 2 rfl,h.cell 3 rfl,q⟩
theorem Blk.f5 {W:World} {b:Nat} {vs:List Value} {t:TypeId} (h:Blk W b vs t):W.frozen? ⟨b,0,none⟩=false∧W.frozen? ⟨b,1,none⟩=false∧W.frozen? ⟨b,2,none⟩=false∧W.frozen? ⟨b,3,none⟩=false∧W.frozen? ⟨b,4,none⟩=false:=⟨h.free 0,h.free 1,h.free 2,h.free 3,h.free 4⟩
theorem Blk.c6 {W:World} {b:Nat} {a0 a1 a2 a3 a4 a5:Value} {l:List Value} {t:TypeId} (h:Blk W b (a0::a1::a2::a3::a4::a5::l) t):W.cell? ⟨b,0,none⟩=some a0∧W.cell? ⟨b,1,none⟩=some a1∧W.cell? ⟨b,2,none⟩=some a2∧W.cell? ⟨b,3,none⟩=some a3∧W.cell? ⟨b,4,none⟩=some a4∧W.cell? ⟨b,5,none⟩=some a5:=⟨h.cell 0 rfl,h.cell 1 rfl,h.cell 2 rfl,h.cell 3 rfl,h.cell 4 rfl,h.cell 5 rfl⟩
theorem Blk.f6 {W:World} {b:Nat} {vs:List Value} {t:TypeId} (h:Blk W b vs t):W.frozen? ⟨b,0,none⟩=false∧W.frozen? ⟨b,1,none⟩=false∧W.frozen? ⟨b,2,none⟩=false∧W.frozen? ⟨b,3,none⟩=false∧W.frozen? ⟨b,4,none⟩=false∧W.frozen? ⟨b,5,none⟩=false:=⟨h.free 0,h.free 1,h.free 2,h.free 3,h.free 4,h.free 5⟩
theorem Blk.d6 {W:World} {b:Nat} {a0 a1 a2 a3 a4 a5:Value} {l:List Value} {t:TypeId} {p:Prop} (h:Blk W b (a0::a1::a2::a3::a4::a5::l) t) (q:p):W.cell? ⟨b,0,none⟩=some a0∧W.cell? ⟨b,1,none⟩=some a1∧W.cell? ⟨b,2,none⟩=some a2∧W.cell? ⟨b,3,none⟩=some a3∧W.cell? ⟨b,4,none⟩=some a4∧W.cell? ⟨b,5,none⟩=some a5∧p:=⟨h.cell 0 rfl,h.cell 1 rfl,h.cell 2 rfl,h.cell 3 rfl,h.cell 4 rfl,h.cell 5 rfl,q⟩
theorem Blk.c8 {W:World} {b:Nat} {a0 a1 a2 a3 a4 a5 a6 a7:Value} {l:List Value} {t:TypeId} (h:Blk W b (a0::a1::a2::a3::a4::a5::a6::a7::l) t):W.cell? ⟨b,0,none⟩=some a0∧W.cell? ⟨b,1,none⟩=some a1∧W.cell? ⟨b,2,none⟩=some a2∧W.cell? ⟨b,3,none⟩=some a3∧W.cell? ⟨b,4,none⟩=some a4∧W.cell? ⟨b,5,none⟩=some a5∧W.cell? ⟨b,6,none⟩=some a6∧W.cell? ⟨b,7,none⟩=some a7:=⟨h.cell 0 rfl,h.cell 1 rfl,h.cell 2 rfl,h.cell 3 rfl,h.cell 4 rfl,h.cell 5 rfl,h.cell 6 rfl,h.cell 7 rfl⟩
theorem Blk.f8 {W:World} {b:Nat} {vs:List Value} {t:TypeId} (h:Blk W b vs t):W.frozen? ⟨b,0,none⟩=false∧W.frozen? ⟨b,1,none⟩=false∧W.frozen? ⟨b,2,none⟩=false∧W.frozen? ⟨b,3,none⟩=false∧W.frozen? ⟨b,4,none⟩=false∧W.frozen? ⟨b,5,none⟩=false∧W.frozen? ⟨b,6,none⟩=false∧W.frozen? ⟨b,7,none⟩=false:=⟨h.free 0,h.free 1,h.free 2,h.free 3,h.free 4,h.free 5,h.free 6,h.free 7⟩
theorem Blk.d8 {W:World} {b:Nat} {a0 a1 a2 a3 a4 a5 a6 a7:Value} {l:List Value} {t:TypeId} {p:Prop} (h:Blk W b (a0::a1::a2::a3::a4::a5::a6::a7::l) t) (q:p):W.cell? ⟨b,0,none⟩=some a0∧W.cell? ⟨b,1,none⟩=some a1∧W.cell? ⟨b,2,none⟩=some a2∧W.cell? ⟨b,3,none⟩=some a3∧W.cell? ⟨b,4,none⟩=some a4∧W.cell? ⟨b,5,none⟩=some a5∧W.cell? ⟨b,6,none⟩=some a6∧W.cell? ⟨b,7,none⟩=some a7∧p:=⟨h.cell 0 rfl,h.cell 1 rfl,h.cell 2 rfl,h.cell 3 rfl,h.cell 4 rfl,h.cell 5 rfl,h.cell 6 rfl,h.cell 7 rfl,q⟩
theorem Blk.d9 {W:World} {b:Nat} {a0 a1 a2 a3 a4 a5 a6 a7 a8:Value} {l:List Value} {t:TypeId} {p:Prop} (h:Blk W b (a0::a1::a2::a3::a4::a5::a6::a7::a8::l) t) (q:p):W.cell? ⟨b,0,none⟩=some a0∧W.cell? ⟨b,1,none⟩=some a1∧W.cell? ⟨b,2,none⟩=some a2∧W.cell? ⟨b,3,none⟩=some a3∧W.cell? ⟨b,4,none⟩=some a4∧W.cell? ⟨b,5,none⟩=some a5∧W.cell? ⟨b,6,none⟩=some a6∧W.cell? ⟨b,7,none⟩=some a7∧W.cell? ⟨b,8,none⟩=some a8∧p:=⟨h.cell 0 rfl,h.cell 1 rfl,h.cell 2 rfl,h.cell 3 rfl,h.cell 4 rfl,h.cell 5 rfl,h.cell 6 rfl,h.cell 7 rfl,h.cell 8 rfl,q⟩
theorem Blk.c10 {W:World} {b:Nat} {a0 a1 a2 a3 a4 a5 a6 a7 a8 a9:Value} {l:List Value} {t:TypeId} (h:Blk W b (a0::a1::a2::a3::a4::a5::a6::a7::a8::a9::l) t):W.cell? ⟨b,0,none⟩=some a0∧W.cell? ⟨b,1,none⟩=some a1∧W.cell? ⟨b,2,none⟩=some a2∧W.cell? ⟨b,3,none⟩=some a3∧W.cell? ⟨b,4,none⟩=some a4∧W.cell? ⟨b,5,none⟩=some a5∧W.cell? ⟨b,6,none⟩=some a6∧W.cell? ⟨b,7,none⟩=some a7∧W.cell? ⟨b,8,none⟩=some a8∧W.cell? ⟨b,9,none⟩=some a9:=⟨h.cell 0 rfl,h.cell 1 rfl,h.cell 2 rfl,h.cell 3 rfl,h.cell 4 rfl,h.cell 5 rfl,h.cell 6 rfl,h.cell 7 rfl,h.cell 8 rfl,h.cell 9 rfl⟩
theorem Blk.f10 {W:World} {b:Nat} {vs:List Value} {t:TypeId} (h:Blk W b vs t):W.frozen? ⟨b,0,none⟩=false∧W.frozen? ⟨b,1,none⟩=false∧W.frozen? ⟨b,2,none⟩=false∧W.frozen? ⟨b,3,none⟩=false∧W.frozen? ⟨b,4,none⟩=false∧W.frozen? ⟨b,5,none⟩=false∧W.frozen? ⟨b,6,none⟩=false∧W.frozen? ⟨b,7,none⟩=false∧W.frozen? ⟨b,8,none⟩=false∧W.frozen? ⟨b,9,none⟩=false:=⟨h.free 0,h.free 1,h.free 2,h.free 3,h.free 4,h.free 5,h.free 6,h.free 7,h.free 8,h.free 9⟩
theorem Blk.d10 {W:World} {b:Nat} {a0 a1 a2 a3 a4 a5 a6 a7 a8 a9:Value} {l:List Value} {t:TypeId} {p:Prop} (h:Blk W b (a0::a1::a2::a3::a4::a5::a6::a7::a8::a9::l) t) (q:p):W.cell? ⟨b,0,none⟩=some a0∧W.cell? ⟨b,1,none⟩=some a1∧W.cell? ⟨b,2,none⟩=some a2∧W.cell? ⟨b,3,none⟩=some a3∧W.cell? ⟨b,4,none⟩=some a4∧W.cell? ⟨b,5,none⟩=some a5∧W.cell? ⟨b,6,none⟩=some a6∧W.cell? ⟨b,7,none⟩=some a7∧W.cell? ⟨b,8,none⟩=some a8∧W.cell? ⟨b,9,none⟩=some a9∧p:=⟨h.cell 0 rfl,h.cell 1 rfl,h.cell 2 rfl,h.cell 3 rfl,h.cell 4 rfl,h.cell 5 rfl,h.cell 6 rfl,h.cell 7 rfl,h.cell 8 rfl,h.cell 9 rfl,q⟩
theorem Blk.c11 {W:World} {b:Nat} {a0 a1 a2 a3 a4 a5 a6 a7 a8 a9 a10:Value} {l:List Value} {t:TypeId} (h:Blk W b (a0::a1::a2::a3::a4::a5::a6::a7::a8::a9::a10::l) t):W.cell? ⟨b,0,none⟩=some a0∧W.cell? ⟨b,1,none⟩=some a1∧W.cell? ⟨b,2,none⟩=some a2∧W.cell? ⟨b,3,none⟩=some a3∧W.cell? ⟨b,4,none⟩=some a4∧W.cell? ⟨b,5,none⟩=some a5∧W.cell? ⟨b,6,none⟩=some a6∧W.cell? ⟨b,7,none⟩=some a7∧W.cell? ⟨b,8,none⟩=some a8∧W.cell? ⟨b,9,none⟩=some a9∧W.cell? ⟨b,10,none⟩=some a10:=⟨h.cell 0 rfl,h.cell 1 rfl,h.cell 2 rfl,h.cell 3 rfl,h.cell 4 rfl,h.cell 5 rfl,h.cell 6 rfl,h.cell 7 rfl,h.cell 8 rfl,h.cell 9 rfl,h.cell 10 rfl⟩
theorem Blk.f11 {W:World} {b:Nat} {vs:List Value} {t:TypeId} (h:Blk W b vs t):W.frozen? ⟨b,0,none⟩=false∧W.frozen? ⟨b,1,none⟩=false∧W.frozen? ⟨b,2,none⟩=false∧W.frozen? ⟨b,3,none⟩=false∧W.frozen? ⟨b,4,none⟩=false∧W.frozen? ⟨b,5,none⟩=false∧W.frozen? ⟨b,6,none⟩=false∧W.frozen? ⟨b,7,none⟩=false∧W.frozen? ⟨b,8,none⟩=false∧W.frozen? ⟨b,9,none⟩=false∧W.frozen? ⟨b,10,none⟩=false:=⟨h.free 0,h.free 1,h.free 2,h.free 3,h.free 4,h.free 5,h.free 6,h.free 7,h.free 8,h.free 9,h.free 10⟩
theorem Blk.d11 {W:World} {b:Nat} {a0 a1 a2 a3 a4 a5 a6 a7 a8 a9 a10:Value} {l:List Value} {t:TypeId} {p:Prop} (h:Blk W b (a0::a1::a2::a3::a4::a5::a6::a7::a8::a9::a10::l) t) (q:p):W.cell? ⟨b,0,none⟩=some a0∧W.cell? ⟨b,1,none⟩=some a1∧W.cell? ⟨b,2,none⟩=some a2∧W.cell? ⟨b,3,none⟩=some a3∧W.cell? ⟨b,4,none⟩=some a4∧W.cell? ⟨b,5,none⟩=some a5∧W.cell? ⟨b,6,none⟩=some a6∧W.cell? ⟨b,7,none⟩=some a7∧W.cell? ⟨b,8,none⟩=some a8∧W.cell? ⟨b,9,none⟩=some a9∧W.cell? ⟨b,10,none⟩=some a10∧p:=⟨h.cell 0 rfl,h.cell 1 rfl,h.cell 2 rfl,h.cell 3 rfl,h.cell 4 rfl,h.cell 5 rfl,h.cell 6 rfl,h.cell 7 rfl,h.cell 8 rfl,h.cell 9 rfl,h.cell 10 rfl,q⟩
theorem Blk.lt {W:World} {b:Nat} {vs:List Value} {t:TypeId} (h:Blk W b vs t):b<W.heap.size:=lt_of_block h
theorem Blk.below {B:Nat} {W W':World} {b:Nat} {vs:List Value} {t:TypeId} (h:Blk W b vs t) (hb:Below B W W') (hB:b<B):Blk W' b vs t:=by
 unfold Blk at h ⊢; rw [hb.block b hB]; exact h
theorem Blk.next {W W':World} {b:Nat} {vs:List Value} {t:TypeId} (h:Blk W b vs t) (hb:Below W.heap.size W W'):Blk W' b vs t:=h.below hb h.lt
theorem Blk.alloc {W:World} {b:Nat} {vs:List Value} {t:TypeId} (h:Blk W b vs t) (o:Obj):Blk (W.alloc o) b vs t:=h.next ((Below.refl _ _).alloc (Nat.le_refl _) _)
theorem Blk.drew {W:World} {b:Nat} {vs:List Value} {t:TypeId} (h:Blk W b vs t):Blk W.drew b vs t:=h
theorem Blk.start (W:World) (vs:List Value) (t:TypeId):Blk (W.alloc (.cells ⟨vs⟩ t)) W.heap.size vs t:=by
 show (W.heap.push _)[W.heap.size]? = _
 simp
theorem Blk.startAt {W:World} {b:Nat} {vs:List Value} {t:TypeId} (h:b=W.heap.size):Blk (W.alloc (.cells ⟨vs⟩ t)) b vs t:=h▸Blk.start W vs t
theorem Blk.other {W:World} {b:Nat} {vs:List Value} {t:TypeId} (h:Blk W b vs t) (p:Addr) (hp:b≠p.block) (u:Value):Blk (W.setCell p u) b vs t:=by
 unfold Blk at h ⊢; rw [Below.heap_setCell _ _ _ _ hp]; exact h
theorem Blk.set {W:World} {b:Nat} {vs:List Value} {t:TypeId} (h:Blk W b vs t) (i:Nat) (u:Value):Blk (W.setCell ⟨b,i,none⟩ u) b (vs.set i u) t:=by
 unfold Blk at h ⊢
 have hlt:=lt_of_block h;have h':W.heap[b]=.cells ⟨vs⟩ t (0,0):=by simpa [Array.getElem?_eq_getElem hlt] using h
 show (W.heap.modify b _)[b]? = _
 rw [Array.getElem?_eq_getElem (by simpa using hlt),Array.getElem_modify_self,h'];simp
def cellAt (W:World) (p:Addr):Value:=(W.cell? p).getD undef
def Live (W:World) (p:Addr):Prop:=W.cell? p=some (cellAt W p)∧W.frozen? p=false
theorem cellAt_of {W:World} {p:Addr} {v:Value} (h:W.cell? p=some v):W.cell? p=some (cellAt W p):=by unfold cellAt; rw [h]; rfl
theorem Blk.live {W:World} {b:Nat} {vs:List Value} {t:TypeId} (h:Blk W b vs t) (i:Nat) (hi:i<vs.length):Live W ⟨b,i,none⟩:=
 ⟨cellAt_of (h.cell i (List.getElem?_eq_getElem hi)),h.free i⟩
theorem Live.next {W W':World} {p:Addr} (h:Live W p) (hb:Below W.heap.size W W') (hp:p.block<W.heap.size):Live W' p:=
 ⟨cellAt_of (by rw [hb.cell hp]; exact h.1),by rw [hb.frozen hp]; exact h.2⟩
structure Off (b:Nat) (W W':World):Prop where
 size:W.heap.size≤W'.heap.size
 cell:∀ p:Addr,p.block<W.heap.size→p.block≠b→W'.cell? p=W.cell? p
 frozen:∀ p:Addr,p.block<W.heap.size→W'.frozen? p=W.frozen? p
 live:∀ p:Addr,p.block<W.heap.size→Live W p→Live W' p
 below:∀ (B:Nat) (W0:World),B≤b→B≤W.heap.size→Below B W0 W→Below B W0 W'
theorem Off.of {b:Nat} {W W':World} (h:Below W.heap.size W W'):Off b W W' where
 size:=h.size
 cell _ hp _:=h.cell hp
 frozen _ hp:=h.frozen hp
 live _ hp hl:=hl.next h hp
 below _ _ _ hB h0:=h0.trans (h.mono hB)
theorem Off.trans {b:Nat} {W W' W'':World} (h:Off b W W') (h':Off b W' W''):Off b W W'' where
 size:=Nat.le_trans h.size h'.size
 cell p hp hb:=by rw [h'.cell p (Nat.lt_of_lt_of_le hp h.size) hb,h.cell p hp hb]
 frozen p hp:=by rw [h'.frozen p (Nat.lt_of_lt_of_le hp h.size),h.frozen p hp]
 live p hp hl:=h'.live p (Nat.lt_of_lt_of_le hp h.size) (h.live p hp hl)
 below B W0 hb hB h0:=h'.below B W0 hb (Nat.le_trans hB h.size) (h.below B W0 hb hB h0)
theorem Off.store (b i:Nat) (W:World) (u:Value):Off b W (W.setCell ⟨b,i,none⟩ u) where
 size:=by simp
 cell _ _ hb:=World.cell?_setCell_other _ _ _ _ (by rintro rfl; exact hb rfl)
 frozen _ _:=by simp
 live _ _ hl:=⟨by
  obtain ⟨v',hv⟩:=cell?_setCell_some (p:=⟨b,i,none⟩) (x:=u) hl.1;exact cellAt_of hv,by simpa using hl.2⟩
 below _ _ hb _ h0:=h0.setCell hb _
theorem Off.store3 (b:Nat) (W:World) (x y z:Value):Off b W (((W.setCell ⟨b,0,none⟩ x).setCell ⟨b,1,none⟩ y).setCell ⟨b,2,none⟩ z):=
 ((Off.store b 0 W x).trans (Off.store b 1 _ y)).trans (Off.store b 2 _ z)
theorem take1 {P:Program} {md:Region.Mode} {ops:Array Oper} {Q:Exit→Act→World→Prop} {S:World→Prop} {i:Nat} {oi:Oper} {v:Value} {fuel:Nat} {listed:Array Bool} {a:Act} {w:World} (hi:ops.toList[i]? = some oi)
  (hs:Region.noSelect ops=true) (hf:Region.free md ops listed i=true) (hr:(Region.ready md ops listed).contains i=true)
  (hQ:∀ c a w,Q (.panic c) (a.put oi.dst v) w→Q (.panic c) a w) (hy:YieldsIf P ops S oi v a) (hS:S w)
  (h:wpAnyH P md ops Q S fuel (listed.setIfInBounds i true) (a.put oi.dst v) w):wpAnyH P md ops Q S (fuel+1) listed a w:=
 wpAnyH_take (by simpa using hi) hs hf hr hQ hy hS h
theorem cons1 {P:Program} {md:Region.Mode} {ops:Array Oper} {Q:Exit→Act→World→Prop} {S:World→Prop} {fuel:Nat} {listed:Array Bool} {a:Act} {w:World} {i:Nat} {o:Oper} {rs:List Nat} (ho:ops.toList[i]? = some o)
  (h:∀ K':Act→World→Prop,Shut (∀ a w,S w→(S w→wpAnyH P md ops Q S fuel (listed.setIfInBounds i true) a w)→K' a w)→if Region.wanted o (yielded ops a.tmps)=true then Oper.wp P o a w K' Q else K' (a.put o.dst undef) w)
  (hs:AllReadyH P md ops Q S fuel listed a w rs):AllReadyH P md ops Q S fuel listed a w (i::rs):=
 AllReadyH.cons (by simpa using ho) h hs
def lessB (c s d t:Int):Bool:=decide (c<d∨c=d∧s<t)
def mayB (c s:Int):Bool:=decide (1≤c∧c≤1048576∧1≤s∧s≤1000)
def noneB (c s:Int):Bool:=decide (c=0∧s=0)
theorem ret_bool {a b:Bool} (h:a=b):Ending.returned (.bool a)=.returned (.bool b):=by rw [h]
theorem lessB_lt {c s d t:Int} (h:c<d):lessB c s d t=true:=by unfold lessB; simp; omega
theorem lessB_eq (c s t:Int):lessB c s c t=decide (s<t):=by unfold lessB; simp
theorem less_any (c s d t:Int) (w:World):
  Calls Tryz.prog 258 #[.agg #[c,s],.agg #[d,t]] w
   fun e w'=>e=.returned (.bool (lessB c s d t))∧Below w.heap.size w w':=by
 by_cases h:c=d;subst h;rw [lessB_eq];rotate_left;have hb:(c != d)=true:=by simpa using h
 have hl:lessB c s d t=decide (c<d):=by unfold lessB; simp; omega
 rw [hl];clear hl;rotate_left
 all_goals
  go_enter Tryz.func258,Tryz.ntmps258;go_wp2;go_ret;exact ⟨rfl,((Below.refl _ _).alloc (Nat.le_refl _) _).alloc (by simp) _⟩
theorem check_yes (c s:Int) (w:World) (h:mayB c s=true):
  Calls Tryz.prog 189 #[.agg #[c,s]] w
   fun e w'=>e=.returned (.int .i64 0)∧Below w.heap.size w w':=by
 have hm:1≤c∧c≤1048576∧1≤s∧s≤1000:=by simpa [mayB] using h
 obtain ⟨h1,h2,h3,h4⟩:=hm;clear h
 go_enter Tryz.func189,Tryz.ntmps189
 go_wp2
 go_ret
 exact ⟨rfl,(Below.refl _ _).alloc (Nat.le_refl _) _⟩
theorem mayB_no {c s:Int} (h:mayB c s=false):c<1∨(1≤c∧1048576<c)∨(1≤c∧c≤1048576∧s<1)∨(1≤c∧c≤1048576∧1≤s∧1000<s):=by
 simp only [mayB,decide_eq_false_iff_not] at h
 omega
theorem check_no (c s:Int) (w:World) (h:mayB c s=false):
  Calls Tryz.prog 189 #[.agg #[c,s]] w
   fun e w'=>e=.returned (.int .i64 2)∧Below w.heap.size w w':=by
 rcases mayB_no h with h1 | ⟨h1,h2⟩ | ⟨h1,h2,h3⟩ | ⟨h1,h2,h3,h4⟩ <;> clear h
 all_goals
  go_enter Tryz.func189,Tryz.ntmps189
  go_wp2
  go_ret
  exact ⟨rfl,(Below.refl _ _).alloc (Nat.le_refl _) _⟩
theorem none_any (c s:Int) (w:World):
  Calls Tryz.prog 188 #[.agg #[c,s]] w
   fun e w'=>e=.returned (.bool (noneB c s))∧Below w.heap.size w w':=by
 go_enter Tryz.func188,Tryz.ntmps188
 go_wp2
 all_goals
  go_ret
  exact ⟨ret_bool (by simp [noneB, *]),(Below.refl _ _).alloc (Nat.le_refl _) _⟩
end Go.Proofs.YtemicfjmidohfaaGreatDoor
namespace Go.Proofs.YtemicfjmidohfaaGreatDoor
structure Oq where
 k:Int
 c:Int
 s:Int
 a:Int
 n:Int
 ch:Int
 lo : -2147483648≤ch
 hi:ch≤2147483647
instance:Coe Oq (Array Value):=⟨fun x=>#[x.k,x.c,x.s,x.a,x.n,.int .i32 x.ch]⟩
instance:Coe Oq (List Value):=⟨fun x=>[x.k,x.c,x.s,x.a,x.n,.int .i32 x.ch]⟩
theorem Oq.same {x y:Oq} (h1:x.k=y.k) (h2:x.c=y.c) (h3:x.s=y.s) (h4:x.a=y.a) (h5:x.n=y.n) (h6:x.ch=y.ch):x=y:=by
 cases x; cases y; simp only at *; subst h1 h2 h3 h4 h5 h6; rfl
def Oq.eqI (x:Oq) (c s:Int):Prop:=x.c=c∧x.s=s
instance (x:Oq) (c s:Int):Decidable (x.eqI c s):=inferInstanceAs (Decidable (_∧_))
def insK (o:Oq):List Oq→List Oq
 | []=>[o]
 | y::l=>if lessB o.c o.s y.c y.s=true then y::insK o l else o::y::l
def kidB (a n:Int) (x:Oq):Bool:=decide (x.k=0∧x.a=a∧x.n=n)
def kids (m:List Oq) (a n:Int):List Oq:=m.foldl (fun l x=>if kidB a n x=true then insK x l else l) []
def fol:Nat→List Oq→Int→Int→List Oq
 | 0,_,_,_=>[]
 | f+1,m,a,n=>(kids m a n).flatMap fun k=>k::fol f m k.c k.s
def insA (o:Oq):List Oq→List Oq
 | []=>[o]
 | y::l=>if y.eqI o.a o.n then y::insK o l else y::insA o l
def insR (o:Oq) (l:List Oq):List Oq:=if o.a=0∧o.n=0 then insK o l else insA o l
def rowO (m:List Oq):List Oq:=fol 1048577 m 0 0
theorem less_trans {c s d t e u:Int} (h1:lessB c s d t=true) (h2:lessB d t e u=true):lessB c s e u=true:=by
 simp only [lessB,decide_eq_true_eq] at *; omega
theorem less_asymm {c s d t:Int} (h1:lessB c s d t=true):lessB d t c s=false:=by
 simp only [lessB,decide_eq_true_eq,decide_eq_false_iff_not] at *; omega
theorem less_conn {c s d t:Int} (h1:lessB c s d t=false) (hne:¬ (c=d∧s=t)):lessB d t c s=true:=by
 simp only [lessB,decide_eq_true_eq,decide_eq_false_iff_not] at *; omega
theorem kids_snoc (m:List Oq) (o:Oq) (a n:Int):kids (m++[o]) a n=if kidB a n o=true then insK o (kids m a n) else kids m a n:=by
 simp [kids]
theorem mem_insK {o x:Oq}:∀ {l:List Oq},x∈insK o l↔x=o∨x∈l
 | []=>by simp [insK]
 | y::l=>by
  unfold insK
  split
  ·simp only [List.mem_cons,mem_insK (l:=l)]
   constructor
   ·rintro (h | h | h) <;> simp [h]
   ·rintro (h | h | h) <;> simp [h]
  ·simp
theorem perm_insK (o:Oq):∀ l:List Oq,(insK o l).Perm (o::l)
 | []=>List.Perm.refl _
 | y::l=>by
  unfold insK
  split
  ·exact ((perm_insK o l).cons y).trans (List.Perm.swap o y l)
  ·exact List.Perm.refl _
theorem perm_insA (o:Oq):∀ l:List Oq,(insA o l).Perm (o::l)
 | []=>List.Perm.refl _
 | y::l=>by
  unfold insA
  split
  ·exact ((perm_insK o l).cons y).trans (List.Perm.swap o y l)
  ·exact ((perm_insA o l).cons y).trans (List.Perm.swap o y l)
theorem perm_insR (o:Oq) (l:List Oq):(insR o l).Perm (o::l):=by
 unfold insR; split
 ·exact perm_insK o l
 ·exact perm_insA o l
theorem mem_kids {x:Oq} {a n:Int}:∀ {m:List Oq},x∈kids m a n↔x∈m∧kidB a n x=true:=by
 intro m
 have H:∀ (m l:List Oq),x∈m.foldl (fun l x=>if kidB a n x=true then insK x l else l) l↔x∈l∨(x∈m∧kidB a n x=true):=by
  intro m
  induction m with
  | nil=>intro l; simp
  | cons y m ih=>
   intro l
   simp only [List.foldl_cons,ih]
   by_cases hy:kidB a n y=true
   ·rw [if_pos hy,mem_insK]
    constructor
    ·rintro ((rfl | h) | h)
     ·exact .inr ⟨by simp,hy⟩
     ·exact .inl h
     ·exact .inr ⟨by simp [h.1],h.2⟩
    ·rintro (h | ⟨h,h2⟩)
     ·exact .inl (.inr h)
     ·rcases List.mem_cons.1 h with rfl | h
      ·exact .inl (.inl rfl)
      ·exact .inr ⟨h,h2⟩
   ·rw [if_neg hy]
    constructor
    ·rintro (h | h)
     ·exact .inl h
     ·exact .inr ⟨by simp [h.1],h.2⟩
    ·rintro (h | ⟨h,h2⟩)
     ·exact .inl h
     ·rcases List.mem_cons.1 h with rfl | h
      ·exact absurd h2 hy
      ·exact .inr ⟨h,h2⟩
 rw [kids,H];simp
theorem kidB_spec {a n:Int} {x:Oq}:kidB a n x=true↔x.k=0∧x.a=a∧x.n=n:=by simp [kidB]
structure Rises (m:List Oq):Prop where
 anc:∀ x∈m,x.k=0→x.a<x.c
 lo:∀ x∈m,x.k=0→1≤x.c
 hi:∀ x∈m,x.k=0→x.c≤1048576
theorem mem_fol {m:List Oq} (h:Rises m) {x:Oq}:∀ {f:Nat} {a n:Int},x∈fol f m a n→x∈m∧x.k=0∧a<x.c
 | 0,_,_,hx=>by simp [fol] at hx
 | f+1,a,n,hx=>by
  simp only [fol,List.mem_flatMap,List.mem_cons] at hx
  obtain ⟨k,hk,hx⟩:=hx;obtain ⟨hkm,hkb⟩:=mem_kids.1 hk;obtain ⟨h0,h1,h2⟩:=kidB_spec.1 hkb;have hr:=h.anc k hkm h0;rcases hx with rfl | hx
  ·exact ⟨hkm,h0,by omega⟩
  ·obtain ⟨h3,h4,h5⟩:=mem_fol h hx
   exact ⟨h3,h4,by omega⟩
theorem flat_cong {α β:Type} {l:List α} {f g:α→List β} (h:∀ x∈l,f x=g x):l.flatMap f=l.flatMap g:=by
 induction l with
 | nil=>rfl
 | cons x l ih=>simp only [List.flatMap_cons,h x (by simp),ih (fun y hy=>h y (by simp [hy]))]
theorem fol_far {m:List Oq} {o:Oq}:∀ {f:Nat} {a n:Int},¬ (o.a=a∧o.n=n)→(∀ x∈fol f m a n,¬ x.eqI o.a o.n)→fol f (m++[o]) a n=fol f m a n
 | 0,_,_,_,_=>rfl
 | f+1,a,n,hne,hno=>by
  have hk:kids (m++[o]) a n=kids m a n:=by
   rw [kids_snoc,if_neg];rw [kidB_spec]
   rintro ⟨_,h⟩
   exact hne h
  simp only [fol,hk] at hno ⊢
  refine flat_cong fun k hk=>?_
  rw [fol_far]
  ·intro h
   exact hno k (List.mem_flatMap.2 ⟨k,hk,by simp⟩) ⟨h.1.symm,h.2.symm⟩
  ·intro x hx
   exact hno x (List.mem_flatMap.2 ⟨k,hk,by simp [hx]⟩)
theorem fol_none {m:List Oq} {c s:Int} (h:∀ x∈m,x.k=0→¬ (x.a=c∧x.n=s)):∀ f,fol f m c s=[]
 | 0=>rfl
 | f+1=>by
  have:kids m c s=[]:=List.eq_nil_iff_forall_not_mem.2 fun x hx=>by
   obtain ⟨h1,h2⟩:=mem_kids.1 hx;obtain ⟨h3,h4⟩:=kidB_spec.1 h2;exact h x h1 h3 h4
  simp [fol,this]
def Low (o:Oq) (t:List Oq):Prop:=∀ y l,t=y::l→lessB o.c o.s y.c y.s=false
theorem insK_low {o:Oq} {t:List Oq} (h:Low o t):insK o t=o::t:=by
 cases t with
 | nil=>rfl
 | cons y l=>unfold insK; rw [if_neg (by rw [h y l rfl]; simp)]
theorem insK_past {o:Oq}:∀ {l t:List Oq},(∀ x∈l,lessB o.c o.s x.c x.s=true)→insK o (l++t)=l++insK o t
 | [],_,_=>rfl
 | y::l,t,h=>by
  show insK o (y::(l++t))=y::(l++insK o t)
  rw [insK,if_pos (h y (by simp)),insK_past fun x hx=>h x (by simp [hx])]
theorem insA_past {o:Oq}:∀ {l t:List Oq},(∀ x∈l,¬ x.eqI o.a o.n)→insA o (l++t)=l++insA o t
 | [],_,_=>rfl
 | y::l,t,h=>by
  show insA o (y::(l++t))=y::(l++insA o t)
  rw [insA,if_neg (h y (by simp)),insA_past fun x hx=>h x (by simp [hx])]
structure NewI (m:List Oq) (o:Oq):Prop where
 k:o.k=0
 anc:o.a<o.c
 lo:1≤o.c
 hi:o.c≤1048576
 alone:∀ x∈m,x.k=0→¬ (x.a=o.c∧x.n=o.s)
theorem fol_new {m:List Oq} {o:Oq} (h:NewI m o) (f:Nat):fol f (m++[o]) o.c o.s=[]:=
 fol_none (fun x hx hk=>by
  rcases List.mem_append.1 hx with hx | hx
  ·exact h.alone x hx hk
  ·obtain rfl:=List.mem_singleton.1 hx
   intro e
   have:=h.anc
   omega) f
theorem fol_here {m:List Oq} {o:Oq} (hr:Rises m) (h:NewI m o) {f:Nat} {t:List Oq} (ht:Low o t):
  fol (f+1) (m++[o]) o.a o.n++t=insK o (fol (f+1) m o.a o.n++t):=by
 have hk:kids (m++[o]) o.a o.n=insK o (kids m o.a o.n):=by rw [kids_snoc,if_pos (kidB_spec.2 ⟨h.k,rfl,rfl⟩)]
 simp only [fol,hk]
 have hsame:∀ k∈kids m o.a o.n,fol f (m++[o]) k.c k.s=fol f m k.c k.s:=by
  intro k hk
  obtain ⟨h1,h2⟩:=mem_kids.1 hk;obtain ⟨h3,h4,h5⟩:=kidB_spec.1 h2;have:=hr.anc k h1 h3;refine fol_far (by omega) (fun x hx=>?_);have:=(mem_fol hr hx).2.2
  rintro ⟨e,_⟩
  omega
 have hgt:∀ k∈kids m o.a o.n,∀ x∈fol f m k.c k.s,lessB k.c k.s x.c x.s=true:=fun k _ x hx=>lessB_lt (mem_fol hr hx).2.2
 generalize kids m o.a o.n=K at hsame hgt
 induction K with
 | nil=>
  simp only [insK,List.flatMap_cons,List.flatMap_nil,fol_new h]
  rw [List.nil_append,insK_low ht];rfl
 | cons k K ih=>
  by_cases hl:lessB o.c o.s k.c k.s=true
  ·have e:insK o (k::K)=k::insK o K:=by rw [insK,if_pos hl]
   rw [e];simp only [List.flatMap_cons,List.cons_append,List.append_assoc]
   rw [insK,if_pos hl,insK_past (fun x hx=>less_trans hl (hgt k (by simp) x hx)),←ih (fun x hx=>hsame x (by simp [hx])) (fun x hx=>hgt x (by simp [hx])),hsame k (by simp)]
  ·have e:insK o (k::K)=o::k::K:=by rw [insK,if_neg hl]
   rw [e];simp only [List.flatMap_cons,List.cons_append,List.append_assoc,fol_new h,List.nil_append]
   rw [insK,if_neg hl,hsame k (by simp)];rw [flat_cong (f:=fun k=>k::fol f (m++[o]) k.c k.s) (g:=fun k=>k::fol f m k.c k.s) (fun x hx=>by rw [hsame x (by simp [hx])])]
def Nod (l:List Oq):Prop:=l.Pairwise fun x y=>¬ (x.c=y.c∧x.s=y.s)
def Falls (l:List Oq):Prop:=l.Pairwise fun x y=>lessB y.c y.s x.c x.s=true
theorem fol_deep {m:List Oq} {o:Oq} (hr:Rises m) (hf:∀ a n,Falls (kids m a n)) (h:NewI m o):∀ {f:Nat} {a n:Int} {t:List Oq},
  (1048577:Int)≤f+a→Low o t→Nod (fol f m a n)→(∃ x∈fol f m a n,x.eqI o.a o.n)→fol f (m++[o]) a n++t=insA o (fol f m a n++t)
 | 0,_,_,_,_,_,_,⟨x,hx,_⟩=>by simp [fol] at hx
 | f+1,a,n,t,hfuel,ht,hnod,hex=>by
  have hoa:a<o.a:=by
   obtain ⟨x,hx,hx1,_⟩:=hex;have:=(mem_fol hr hx).2.2;omega
  have hkid:∀ k∈kids m a n,k∈m∧k.k=0∧a<k.c:=fun k hk=>by
   obtain ⟨h1,h2⟩:=mem_kids.1 hk;obtain ⟨h3,h4,h5⟩:=kidB_spec.1 h2;have:=hr.anc k h1 h3;exact ⟨h1,h3,by omega⟩
  have hk:kids (m++[o]) a n=kids m a n:=by
   rw [kids_snoc,if_neg];rw [kidB_spec];omega
  have hfa:=hf a n;simp only [fol,hk] at hnod hex ⊢
  generalize kids m a n=K at hnod hex hkid hfa ⊢;clear hk
  induction K with
  | nil=>obtain ⟨x,hx,_⟩:=hex; simp at hx
  | cons k K ih=>
   simp only [List.flatMap_cons,List.cons_append,List.append_assoc] at hnod hex ⊢
   have hnod':=hnod;unfold Nod at hnod
   rw [List.pairwise_cons,List.pairwise_append] at hnod;obtain ⟨hn1,hn2,hn3,hn4⟩:=hnod;have hfk:=List.pairwise_cons.1 hfa;have hkm:=hkid k (by simp);have hgt:∀ x∈fol f m k.c k.s,lessB k.c k.s x.c x.s=true:=fun x hx=>lessB_lt (mem_fol hr hx).2.2
   have hrest:∀ (hno:∀ x∈K.flatMap (fun k=>k::fol f m k.c k.s),¬ x.eqI o.a o.n),K.flatMap (fun k=>k::fol f (m++[o]) k.c k.s)=K.flatMap (fun k=>k::fol f m k.c k.s):=by
    intro hno
    refine flat_cong fun x hx=>?_
    rw [fol_far]
    ·intro e
     exact hno x (List.mem_flatMap.2 ⟨x,hx,by simp⟩) ⟨e.1.symm,e.2.symm⟩
    ·intro y hy
     exact hno y (List.mem_flatMap.2 ⟨x,hx,by simp [hy]⟩)
   have hlow:lessB k.c k.s o.c o.s=true→Low o (K.flatMap (fun k=>k::fol f m k.c k.s)++t):=by
    intro hko
    intro y l e
    cases K with
    | nil=>exact ht y l (by simpa using e)
    | cons k2 K=>
     simp only [List.flatMap_cons,List.cons_append,List.cons.injEq] at e
     obtain ⟨rfl,_⟩:=e;exact less_asymm (less_trans (hfk.1 k2 (by simp)) hko)
   by_cases h1:k.eqI o.a o.n
   ·have hne:∀ x∈fol f m k.c k.s++K.flatMap (fun k=>k::fol f m k.c k.s),¬ x.eqI o.a o.n:=fun x hx e=>hn1 x hx ⟨h1.1.trans e.1.symm,h1.2.trans e.2.symm⟩
    rw [insA,if_pos h1,hrest (fun x hx=>hne x (by simp [hx]))];have hko:lessB k.c k.s o.c o.s=true:=lessB_lt (by have:=h1.1; have:=h.anc; omega);obtain ⟨f',rfl⟩:∃ f',f=f'+1:=⟨f - 1,by have:=h1.1; have:=h.anc; have:=h.hi; omega⟩
    have e:=fol_here hr h (f:=f') (hlow hko);rw [h1.1,h1.2,e]
   ·rw [insA,if_neg h1]
    congr 1
    by_cases h2:∃ x∈fol f m k.c k.s,x.eqI o.a o.n
    ·have hne:∀ x∈K.flatMap (fun k=>k::fol f m k.c k.s),¬ x.eqI o.a o.n:=by
      obtain ⟨y,hy,hye⟩:=h2;exact fun x hx e=>hn4 y hy x hx ⟨hye.1.trans e.1.symm,hye.2.trans e.2.symm⟩
     rw [hrest hne];have hko:lessB k.c k.s o.c o.s=true:=by
      obtain ⟨y,hy,hye⟩:=h2;have:=(mem_fol hr hy).2.2;have:=hye.1;exact lessB_lt (by have:=h.anc; omega)
     exact fol_deep hr hf h (by have:=hkm.2.2; omega) (hlow hko) hn2 h2
    ·have hne:∀ x∈fol f m k.c k.s,¬ x.eqI o.a o.n:=fun x hx e=>h2 ⟨x,hx,e⟩
     rw [fol_far (fun e=>h1 ⟨e.1.symm,e.2.symm⟩) hne,insA_past hne]
     congr 1
     refine ih hn3 ?_ (fun x hx=>hkid x (by simp [hx])) hfk.2;obtain ⟨x,hx,hxe⟩:=hex;simp only [List.mem_cons,List.mem_append] at hx
     rcases hx with rfl | hx | hx
     ·exact absurd hxe h1
     ·exact absurd hxe (hne x hx)
     ·exact ⟨x,hx,hxe⟩
theorem falls_insK {o:Oq}:∀ {l:List Oq},Falls l→(∀ x∈l,¬ (x.c=o.c∧x.s=o.s))→Falls (insK o l)
 | [],_,_=>by simp [insK,Falls]
 | y::l,h,hne=>by
  have h':=List.pairwise_cons.1 h;unfold insK
  split
  ·rename_i hl
   refine List.pairwise_cons.2 ⟨fun x hx=>?_,falls_insK h'.2 fun x hx=>hne x (by simp [hx])⟩;rcases mem_insK.1 hx with rfl | hx
   ·exact hl
   ·exact h'.1 x hx
  ·rename_i hl
   have hl':lessB o.c o.s y.c y.s=false:=by simpa using hl
   have hyo:lessB y.c y.s o.c o.s=true:=less_conn hl' (fun e=>hne y (by simp) ⟨e.1.symm,e.2.symm⟩);refine List.pairwise_cons.2 ⟨fun x hx=>?_,h⟩;rcases List.mem_cons.1 hx with rfl | hx
   ·exact hyo
   ·exact less_trans (h'.1 x hx) hyo
structure Gd (m:List Oq):Prop where
 rises:Rises m
 falls:∀ a n,Falls (kids m a n)
 mem:∀ x,x∈rowO m↔x∈m∧x.k=0
 nod:Nod (rowO m)
 anc:∀ x∈m,x.k=0→(x.a=0∧x.n=0)∨∃ y∈m,y.k=0∧y.eqI x.a x.n
theorem row_nil:rowO []=[]:=fol_none (by simp) _
theorem gd_nil:Gd [] where
 rises:=⟨by simp,by simp,by simp⟩
 falls a n:=by simp [kids,Falls]
 mem x:=by rw [row_nil]; simp
 nod:=by rw [row_nil]; simp [Nod]
 anc:=by simp
structure CanI (m:List Oq) (o:Oq):Prop where
 k:o.k=0
 anc:o.a<o.c
 lo:1≤o.c
 hi:o.c≤1048576
 new:∀ x∈m,x.k=0→¬ x.eqI o.c o.s
 there:(o.a=0∧o.n=0)∨∃ y∈m,y.k=0∧y.eqI o.a o.n
theorem CanI.newI {m:List Oq} {o:Oq} (h:CanI m o) (g:Gd m):NewI m o:=
 ⟨h.k,h.anc,h.lo,h.hi,fun x hx hk e=>by
  rcases g.anc x hx hk with h0 | ⟨y,hy,hy0,hye⟩
  ·have:=h.lo; omega
  ·exact h.new y hy hy0 ⟨hye.1.trans e.1,hye.2.trans e.2⟩⟩
theorem row_ins {m:List Oq} {o:Oq} (g:Gd m) (h:CanI m o):rowO (m++[o])=insR o (rowO m):=by
 have hN:=h.newI g;unfold insR
 by_cases h0:o.a=0∧o.n=0
 ·rw [if_pos h0]
  have e:=fol_here g.rises hN (f:=1048576) (t:=[]) (fun y l e=>by cases e);rw [h0.1,h0.2,List.append_nil,List.append_nil] at e;exact e
 ·rw [if_neg h0]
  have hex:∃ x∈rowO m,x.eqI o.a o.n:=by
   obtain ⟨y,hy,hy0,hye⟩:=h.there.resolve_left h0;exact ⟨y,(g.mem y).2 ⟨hy,hy0⟩,hye⟩
  have e:=fol_deep g.rises g.falls hN (f:=1048577) (a:=0) (n:=0) (t:=[]) (by decide) (fun y l e=>by cases e) g.nod hex;rw [List.append_nil,List.append_nil] at e;exact e
theorem nod_perm {l l':List Oq} (h:l.Perm l') (hn:Nod l'):Nod l:=
 (h.pairwise_iff (fun hh e=>hh ⟨e.1.symm,e.2.symm⟩)).2 hn
theorem gd_ins {m:List Oq} {o:Oq} (g:Gd m) (h:CanI m o):Gd (m++[o]) where
 rises:=⟨fun x hx hk=>by
   rcases List.mem_append.1 hx with hx | hx
   ·exact g.rises.anc x hx hk
   ·obtain rfl:=List.mem_singleton.1 hx; exact h.anc,fun x hx hk=>by
   rcases List.mem_append.1 hx with hx | hx
   ·exact g.rises.lo x hx hk
   ·obtain rfl:=List.mem_singleton.1 hx; exact h.lo,fun x hx hk=>by
   rcases List.mem_append.1 hx with hx | hx
   ·exact g.rises.hi x hx hk
   ·obtain rfl:=List.mem_singleton.1 hx; exact h.hi⟩
 falls a n:=by
  rw [kids_snoc];split
  ·exact falls_insK (g.falls a n) fun x hx=>by
    obtain ⟨h1,h2⟩:=mem_kids.1 hx;exact h.new x h1 (kidB_spec.1 h2).1
  ·exact g.falls a n
 mem x:=by
  rw [row_ins g h,(perm_insR o (rowO m)).mem_iff,List.mem_cons,g.mem,List.mem_append,List.mem_singleton]
  constructor
  ·rintro (rfl | h1)
   ·exact ⟨.inr rfl,h.k⟩
   ·exact ⟨.inl h1.1,h1.2⟩
  ·rintro ⟨h1 | rfl,h2⟩
   ·exact .inr ⟨h1,h2⟩
   ·exact .inl rfl
 nod:=by
  rw [row_ins g h];refine nod_perm (perm_insR o (rowO m)) (List.pairwise_cons.2 ⟨fun x hx e=>?_,g.nod⟩);obtain ⟨h1,h2⟩:=(g.mem x).1 hx;exact h.new x h1 h2 ⟨e.1.symm,e.2.symm⟩
 anc x hx hk:=by
  rcases List.mem_append.1 hx with hx | hx
  ·rcases g.anc x hx hk with h0 | ⟨y,hy,h1⟩
   ·exact .inl h0
   ·exact .inr ⟨y,by simp [hy],h1⟩
  ·obtain rfl:=List.mem_singleton.1 hx
   rcases h.there with h0 | ⟨y,hy,h1⟩
   ·exact .inl h0
   ·exact .inr ⟨y,by simp [hy],h1⟩
theorem kids_del {m:List Oq} {o:Oq} (h:o.k≠0) (a n:Int):kids (m++[o]) a n=kids m a n:=by
 rw [kids_snoc,if_neg];rw [kidB_spec];exact fun e=>h e.1
theorem fol_del {m:List Oq} {o:Oq} (h:o.k≠0):∀ (f:Nat) (a n:Int),fol f (m++[o]) a n=fol f m a n
 | 0,_,_=>rfl
 | f+1,a,n=>by
  simp only [fol,kids_del h]
  exact flat_cong fun k _=>by rw [fol_del h f]
theorem row_del {m:List Oq} {o:Oq} (h:o.k≠0):rowO (m++[o])=rowO m:=fol_del h _ _ _
theorem gd_del {m:List Oq} {o:Oq} (g:Gd m) (h:o.k≠0):Gd (m++[o]) where
 rises:=⟨fun x hx hk=>by
   rcases List.mem_append.1 hx with hx | hx
   ·exact g.rises.anc x hx hk
   ·obtain rfl:=List.mem_singleton.1 hx; exact absurd hk h,fun x hx hk=>by
   rcases List.mem_append.1 hx with hx | hx
   ·exact g.rises.lo x hx hk
   ·obtain rfl:=List.mem_singleton.1 hx; exact absurd hk h,fun x hx hk=>by
   rcases List.mem_append.1 hx with hx | hx
   ·exact g.rises.hi x hx hk
   ·obtain rfl:=List.mem_singleton.1 hx; exact absurd hk h⟩
 falls a n:=by rw [kids_del h]; exact g.falls a n
 mem x:=by
  rw [row_del h,g.mem,List.mem_append,List.mem_singleton]
  constructor
  ·exact fun h1=>⟨.inl h1.1,h1.2⟩
  ·rintro ⟨h1 | rfl,h2⟩
   ·exact ⟨h1,h2⟩
   ·exact absurd h2 h
 nod:=by rw [row_del h]; exact g.nod
 anc x hx hk:=by
  rcases List.mem_append.1 hx with hx | hx
  ·rcases g.anc x hx hk with h0 | ⟨y,hy,h1⟩
   ·exact .inl h0
   ·exact .inr ⟨y,by simp [hy],h1⟩
  ·obtain rfl:=List.mem_singleton.1 hx; exact absurd hk h
end Go.Proofs.YtemicfjmidohfaaGreatDoor
namespace Go.Proofs.YtemicfjmidohfaaGreatDoor
open Go Go.Proofs Go.RowKit
theorem tk {P:Program} {md:Region.Mode} {ops:Array Oper} {Q:Exit→Act→World→Prop} {S:World→Prop} (i:Nat) {oi:Oper} (v:Value) {fuel:Nat} {listed:Array Bool} {a:Act} {w:World} (hS:S w)
  (hy:∀ w,S w→(execOp a.eval oi).run P w=.ok (.value v) w)
  (h:wpAnyH P md ops Q S fuel (listed.setIfInBounds i true) (a.put oi.dst v) w)
  (hi:ops.toList[i]? = some oi:=by rfl) (hs:Region.noSelect ops=true:=by kernel_rfl) (hf:Region.free md ops listed i=true:=by kernel_rfl) (hr:(Region.ready md ops listed).contains i=true:=by kernel_rfl)
  (hw:Region.wanted oi (yielded ops a.tmps)=true:=by rfl)
  (hQ:∀ c a w,Q (.panic c) (a.put oi.dst v) w→Q (.panic c) a w:=by exact fun _ _ _ h=>h):wpAnyH P md ops Q S (fuel+1) listed a w:=
 take1 hi hs hf hr hQ (Or.inl ⟨hw,hy⟩) hS h
theorem sk {P:Program} {md:Region.Mode} {ops:Array Oper} {Q:Exit→Act→World→Prop} {S:World→Prop} (i:Nat) {oi:Oper} {fuel:Nat} {listed:Array Bool} {a:Act} {w:World} (hS:S w)
  (h:wpAnyH P md ops Q S fuel (listed.setIfInBounds i true) (a.put oi.dst undef) w)
  (hi:ops.toList[i]? = some oi:=by rfl) (hs:Region.noSelect ops=true:=by kernel_rfl) (hf:Region.free md ops listed i=true:=by kernel_rfl) (hr:(Region.ready md ops listed).contains i=true:=by kernel_rfl)
  (hw:Region.wanted oi (yielded ops a.tmps)=false:=by rfl)
  (hQ:∀ c a w,Q (.panic c) (a.put oi.dst undef) w→Q (.panic c) a w:=by exact fun _ _ _ h=>h):wpAnyH P md ops Q S (fuel+1) listed a w:=
 take1 hi hs hf hr hQ (Or.inr ⟨hw,rfl⟩) hS h
theorem rd1 {P:Program} {md:Region.Mode} {ops:Array Oper} {Q:Exit→Act→World→Prop} {S:World→Prop} {fuel:Nat} {listed:Array Bool} {a:Act} {w:World} (i:Nat) {o:Oper} (hr:Region.ready md ops listed=[i]) (ho:ops.toList[i]? = some o)
  (h:∀ K':Act→World→Prop,Shut (∀ a w,S w→(S w→wpAnyH P md ops Q S fuel (listed.setIfInBounds i true) a w)→K' a w)→if Region.wanted o (yielded ops a.tmps)=true then Oper.wp P o a w K' Q else K' (a.put o.dst undef) w):wpAnyH P md ops Q S (fuel+1) listed a w:=
 wpAnyH_ready hr (by simp) (cons1 ho h AllReadyH.nil)
theorem LAY:(∀ (a:Act) (d:Tmp) (v:Value),a.put (some d) v={ a with tmps:=a.tmps.setIfInBounds d v })∧(∀ (a:Act) (v:Value),a.put none v=a)∧(∀ (l:List Value) (i:Nat) (x:Value),l.toArray.setIfInBounds i x=(l.set i x).toArray) ∧
  (∀ (x y:Value) (l:List Value),(x::l).set 0 y=y::l)∧(∀ (x y:Value) (l:List Value) (n:Nat),(x::l).set (n+1) y=x::l.set n y) ∧
  (∀ (l:List Bool) (i:Nat) (x:Bool),l.toArray.setIfInBounds i x=(l.set i x).toArray)∧(∀ (x y:Bool) (l:List Bool),(x::l).set 0 y=y::l)∧(∀ (x y:Bool) (l:List Bool) (n:Nat),(x::l).set (n+1) y=x::l.set n y):=
 ⟨fun _ _ _=>rfl,fun _ _=>rfl,fun _ _ _=>by simp,fun _ _ _=>rfl,fun _ _ _ _=>rfl,fun _ _ _=>by simp,fun _ _ _=>rfl,fun _ _ _ _=>rfl⟩
theorem tq {P:Program} {md:Region.Mode} {ops:Array Oper} {Q:Exit→Act→World→Prop} {S:World→Prop} (i:Nat) {oi:Oper} (v:Value) {fuel:Nat} {listed:Array Bool} {a a':Act} {w:World} (hS:S w)
  (h:wpAnyH P md ops Q S fuel (listed.setIfInBounds i true) a' w)
  (hi:ops.toList[i]? = some oi:=by rfl) (ha:a.put oi.dst v=a':=by (try simp only [LAY]); rfl) (hs:Region.noSelect ops=true:=by kernel_rfl) (hf:Region.free md ops listed i=true:=by kernel_rfl) (hr:(Region.ready md ops listed).contains i=true:=by kernel_rfl)
  (hw:Region.wanted oi (yielded ops a.tmps)=true:=by rfl)
  (hQ:∀ c a w,Q (.panic c) (a.put oi.dst v) w→Q (.panic c) a w:=by exact fun _ _ _ h=>h)
  (hy:∀ w,S w→(execOp a.eval oi).run P w=.ok (.value v) w:=by intro w hSw; go_simp):wpAnyH P md ops Q S (fuel+1) listed a w:=
 take1 hi hs hf hr hQ (Or.inl ⟨hw,hy⟩) hS (ha▸h)
abbrev Ce (W:World) (b i:Nat) (v:Value):Prop:=W.cell? ⟨b,i,none⟩=some v
abbrev Cc2 (W:World) (b:Nat) (a0 a1:Value) (p:Prop):Prop:=Ce W b 0 a0∧Ce W b 1 a1∧p
abbrev Cc3 (W:World) (b:Nat) (a0 a1 a2:Value) (p:Prop):Prop:=Ce W b 0 a0∧Ce W b 1 a1∧Ce W b 2 a2∧p
abbrev Cz3 (W:World) (b:Nat) (a0 a1 a2:Value):Prop:=Ce W b 0 a0∧Ce W b 1 a1∧Ce W b 2 a2
abbrev Cc4 (W:World) (b:Nat) (a0 a1 a2 a3:Value) (p:Prop):Prop:=Ce W b 0 a0∧Ce W b 1 a1∧Ce W b 2 a2∧Ce W b 3 a3∧p
abbrev Cc6 (W:World) (b:Nat) (a0 a1 a2 a3 a4 a5:Value) (p:Prop):Prop:=Ce W b 0 a0∧Ce W b 1 a1∧Ce W b 2 a2∧Ce W b 3 a3∧Ce W b 4 a4∧Ce W b 5 a5∧p
abbrev Cz6 (W:World) (b:Nat) (a0 a1 a2 a3 a4 a5:Value):Prop:=Ce W b 0 a0∧Ce W b 1 a1∧Ce W b 2 a2∧Ce W b 3 a3∧Ce W b 4 a4∧Ce W b 5 a5
abbrev Cc8 (W:World) (b:Nat) (a0 a1 a2 a3 a4 a5 a6 a7:Value) (p:Prop):Prop:=Ce W b 0 a0∧Ce W b 1 a1∧Ce W b 2 a2∧Ce W b 3 a3∧Ce W b 4 a4∧Ce W b 5 a5∧Ce W b 6 a6∧Ce W b 7 a7∧p
abbrev Cz8 (W:World) (b:Nat) (a0 a1 a2 a3 a4 a5 a6 a7:Value):Prop:=Ce W b 0 a0∧Ce W b 1 a1∧Ce W b 2 a2∧Ce W b 3 a3∧Ce W b 4 a4∧Ce W b 5 a5∧Ce W b 6 a6∧Ce W b 7 a7
abbrev Cz10 (W:World) (b:Nat) (a0 a1 a2 a3 a4 a5 a6 a7 a8 a9:Value):Prop:=Ce W b 0 a0∧Ce W b 1 a1∧Ce W b 2 a2∧Ce W b 3 a3∧Ce W b 4 a4∧Ce W b 5 a5∧Ce W b 6 a6∧Ce W b 7 a7∧Ce W b 8 a8∧Ce W b 9 a9
abbrev Cc11 (W:World) (b:Nat) (a0 a1 a2 a3 a4 a5 a6 a7 a8 a9 a10:Value) (p:Prop):Prop:=Ce W b 0 a0∧Ce W b 1 a1∧Ce W b 2 a2∧Ce W b 3 a3∧Ce W b 4 a4∧Ce W b 5 a5∧Ce W b 6 a6∧Ce W b 7 a7∧Ce W b 8 a8∧Ce W b 9 a9∧Ce W b 10 a10∧p
abbrev Cz11 (W:World) (b:Nat) (a0 a1 a2 a3 a4 a5 a6 a7 a8 a9 a10:Value):Prop:=Ce W b 0 a0∧Ce W b 1 a1∧Ce W b 2 a2∧Ce W b 3 a3∧Ce W b 4 a4∧Ce W b 5 a5∧Ce W b 6 a6∧Ce W b 7 a7∧Ce W b 8 a8∧Ce W b 9 a9∧Ce W b 10 a10
theorem rgH {P:Program} {id:Nat} {ops:Array Oper} {Q:Exit→Act→World→Prop} {a:Act} {w:World} (S:World→Prop) (hS:S w.drew) (h:S w.drew→wpAnyH P .any ops (NoPanic Q) S ops.size (Array.replicate ops.size false) a w.drew) (hm:P.follows .mixedOrders=true:=by kernel_rfl):(Code.region id ops true).wp P Q a w:=
 wp_region_noPanic (wp_region_held_drew hm hS h)
theorem so {c:Value} (h:c.oneCell'=true) (W:World) (a:Addr) (md:Mode):(store a c md).run Tryz.prog W=stored Tryz.prog W a c md:=run_store Tryz.prog W a c md h
theorem ta {P:Program} {md:Region.Mode} {ops:Array Oper} {Q:Exit→Act→World→Prop} {S:World→Prop} (i:Nat) {oi:Oper} {v:Value} {fuel:Nat} {listed:Array Bool} {a a':Act} {w:World} (hS:S w)
  (h:wpAnyH P md ops Q S fuel (listed.setIfInBounds i true) a' w) (hi:ops.toList[i]? = some oi:=by rfl) (hy:∀ w,S w→(execOp a.eval oi).run P w=.ok (.value v) w:=by intro w hSw; go_simp; rfl)
  (ha:a.put oi.dst v=a':=by (try simp only [LAY]); rfl) (hs:Region.noSelect ops=true:=by kernel_rfl) (hf:Region.free md ops listed i=true:=by kernel_rfl) (hr:(Region.ready md ops listed).contains i=true:=by kernel_rfl)
  (hw:Region.wanted oi (yielded ops a.tmps)=true:=by rfl) (hQ:∀ c a w,Q (.panic c) (a.put oi.dst v) w→Q (.panic c) a w:=by exact fun _ _ _ h=>h):wpAnyH P md ops Q S (fuel+1) listed a w:=
 take1 hi hs hf hr hQ (Or.inl ⟨hw,hy⟩) hS (ha▸h)
def RP (P:Program) (md:Region.Mode) (ops:Array Oper) (Q:Exit→Act→World→Prop) (S:World→Prop) (fuel:Nat) (l:Array Bool) (d:Option Tmp) (a:Act) (e:Ending) (w:World):Prop:=∃ v,e=.returned v∧S w∧(S w→wpAnyH P md ops Q S fuel l (a.put d v) w)
theorem rc {P:Program} {md:Region.Mode} {ops:Array Oper} {Q:Exit→Act→World→Prop} {S:World→Prop} {fuel:Nat} {listed:Array Bool} {a:Act} {w:World} (i:Nat) {o:Oper} {f:FuncId} {args:Array Value} {R:Ending→World→Prop} (hC:Calls P f args w R)
  (h:∀ e w',R e w'→RP P md ops Q S fuel (listed.setIfInBounds i true) o.dst a e w') (hr:Region.ready md ops listed=[i]:=by kernel_rfl) (ho:ops.toList[i]? = some o:=by rfl) (hg:o.guard=none:=by rfl) (he:(execOp a.eval o).run P w=.ok (.enter f args) w:=by go_simp):wpAnyH P md ops Q S (fuel+1) listed a w:=by
 refine rd1 i hr ho fun K hK=>?_
 rw [if_pos (by simp [Region.wanted,hg])]
 unfold Oper.wp
 rw [he]
 refine hC.mono fun e w' hR=>?_
 obtain ⟨v,rfl,h1,h2⟩:=h e w' hR
 exact hK.out _ _ h1 h2
theorem rp {P:Program} {md:Region.Mode} {ops:Array Oper} {Q:Exit→Act→World→Prop} {S:World→Prop} {fuel:Nat} {l:Array Bool} {d:Option Tmp} {a a':Act} {v:Value} {w:World} (hS:S w) (h:S w→wpAnyH P md ops Q S fuel l a' w)
  (ha:a.put d v=a':=by (try simp only [LAY]); rfl):RP P md ops Q S fuel l d a (.returned v) w:=⟨v,rfl,hS,ha▸h⟩
abbrev Rt (v:Value) (w:World):Ending→World→Prop:=fun e w'=>e=.returned v∧Below w.heap.size w w'
theorem dnH {P:Program} {md:Region.Mode} {ops:Array Oper} {Q:Exit→Act→World→Prop} {S:World→Prop} {fuel:Nat} {listed:Array Bool} {a:Act} {w:World} (h:Q .normal a w) (hr:Region.ready md ops listed=[]:=by kernel_rfl):wpAnyH P md ops (NoPanic Q) S fuel listed a w:=wpAnyH_done hr (NoPanic.normal h) _
theorem Lh {p:Prop} (h:p):Hid p:=Lib.hid h
theorem bA {w:World} {o:Obj}:Below w.heap.size w (w.alloc o):=(Below.refl _ _).alloc (Nat.le_refl _) _
theorem bdq {n:Nat} {w:World}:Below n w w.drew:=(Below.refl _ _).drew
def Sl {α:Type} (t:TypeId) (m:Nat) (f:α→List Value) (W:World) (v:Value) (L:List α):Prop:=
 (v=.slice none 0 0∧L=[])∨∃ g cap cur,v=.slice (some ⟨g,0,none⟩) L.length cap∧W.heap[g]? = some (.cells cur t (0,0))∧L.length≤cap∧cap≤maxLen∧cur.toList.take (L.length * m)=L.flatMap f
theorem Sl.next {α:Type} {t:TypeId} {m:Nat} {f:α→List Value} {W W':World} {v:Value} {L:List α} (h:Sl t m f W v L) (hb:Below W.heap.size W W'):Sl t m f W' v L:=by
 rcases h with h | ⟨g,cap,cur,rfl,hg,h⟩
 ·exact Or.inl h
 ·exact Or.inr ⟨g,cap,cur,rfl,by rw [hb.block g (Array.getElem?_eq_some_iff.1 hg).1]; exact hg,h⟩
theorem Sl.form {α:Type} {t:TypeId} {m:Nat} {f:α→List Value} {W:World} {v:Value} {L:List α} (h:Sl t m f W v L):∃ a cap,v=.slice a L.length cap∧L.length≤cap∧cap≤9223372036854775807:=by
 rcases h with ⟨rfl,rfl⟩ | ⟨g,cap,cur,rfl,_,h1,h2,_⟩
 ·exact ⟨none,0,rfl,Nat.le_refl _,by omega⟩
 ·exact ⟨_,cap,rfl,h1,by unfold maxLen at h2; omega⟩
theorem flat_at {α:Type} {m:Nat} {f:α→List Value} (hf:∀ x,(f x).length=m):∀ (l:List α) (i j:Nat) (hi:i<l.length),j<m→(l.flatMap f)[i * m+j]? = (f l[i])[j]?
 | [],i,_,hi,_=>absurd hi (by simp)
 | x::l,0,j,_,hj=>by
  simp only [List.flatMap_cons,Nat.zero_mul,Nat.zero_add,List.getElem_cons_zero]
  rw [List.getElem?_append_left (by rw [hf]; exact hj)]
 | x::l,i+1,j,hi,hj=>by
  have ih:=flat_at hf l i j (by simpa using hi) hj;simp only [List.flatMap_cons,List.getElem_cons_succ]
  rw [List.getElem?_append_right (by rw [hf,Nat.add_mul]; omega),←ih]
  congr 1
  rw [hf,Nat.add_mul];omega
theorem flat_len {α:Type} {m:Nat} {f:α→List Value} (hf:∀ x,(f x).length=m):∀ l:List α,(l.flatMap f).length=l.length * m
 | []=>by simp
 | x::l=>by rw [List.flatMap_cons,List.length_append,hf,flat_len hf l,List.length_cons,Nat.add_mul]; omega
theorem flat_take {α:Type} {m:Nat} {f:α→List Value} (hf:∀ x,(f x).length=m) (l:List α) (i:Nat) (hi:i≤l.length):(l.flatMap f).take (i * m)=(l.take i).flatMap f:=by
 have e:l.flatMap f=(l.take i).flatMap f++(l.drop i).flatMap f:=by rw [←List.flatMap_append,List.take_append_drop]
 rw [e];have hl:((l.take i).flatMap f).length=i * m:=by rw [flat_len hf,List.length_take]; congr 1; omega
 rw [←hl,List.take_left]
theorem flat_drop {α:Type} {m:Nat} {f:α→List Value} (hf:∀ x,(f x).length=m) (l:List α) (i:Nat) (hi:i≤l.length):(l.flatMap f).drop (i * m)=(l.drop i).flatMap f:=by
 have e:l.flatMap f=(l.take i).flatMap f++(l.drop i).flatMap f:=by rw [←List.flatMap_append,List.take_append_drop]
 rw [e];have hl:((l.take i).flatMap f).length=i * m:=by rw [flat_len hf,List.length_take]; congr 1; omega
 rw [←hl,List.drop_left]
theorem Sl.cell {α:Type} {t:TypeId} {m:Nat} {f:α→List Value} (hf:∀ x,(f x).length=m) {W:World} {a:Option Addr} {n cap:Nat} {L:List α} (h:Sl t m f W (.slice a n cap) L) (i:Nat) (hi:i<L.length):∃ g,a=some ⟨g,0,none⟩∧g<W.heap.size∧∀ j,j<m→W.cell? ⟨g,i * m+j,none⟩=(f L[i])[j]? := by
 rcases h with ⟨_,rfl⟩ | ⟨g,cap',cur,hv,hg,h1,h2,h3⟩
 ·cases hi
 ·simp only [Value.slice.injEq] at hv
  obtain ⟨rfl,rfl,rfl⟩:=hv;refine ⟨g,rfl,(Array.getElem?_eq_some_iff.1 hg).1,fun j hj=>?_⟩;have hlt:i * m+j<L.length * m:=by
   have:(i+1) * m≤L.length * m:=Nat.mul_le_mul_right m hi;rw [Nat.add_mul] at this;omega
  rw [←flat_at hf L i j hi hj,←h3,List.getElem?_take_of_lt hlt];simp [World.cell?,hg]
theorem Sl.of {α:Type} {t:TypeId} {m:Nat} {f:α→List Value} {W:World} {b:Nat} {v:Value} {L:List α} (h:W.ownsRow b t m v L.length (L.flatMap f)):Sl t m f W v L:=by
 rcases h.2 with ⟨rfl,h0⟩ | ⟨g,cap,cur,rfl,_,hg,h1,h2,_,h3⟩
 ·exact Or.inl ⟨rfl,List.eq_nil_of_length_eq_zero h0⟩
 ·exact Or.inr ⟨g,cap,cur,rfl,hg,h1,h2,h3⟩
theorem Sl.set {α:Type} {t u:TypeId} {m:Nat} {f:α→List Value} {W:World} {b:Nat} {vs:List Value} (hB:Blk W b vs u) (ht:u≠t) (i:Nat) (x:Value) {v:Value} {L:List α} (h:Sl t m f W v L):Sl t m f (W.setCell ⟨b,i,none⟩ x) v L:=by
 rcases h with h | ⟨g,cap,cur,rfl,hg,h⟩
 ·exact .inl h
 ·refine .inr ⟨g,cap,cur,rfl,?_,h⟩
  rw [Below.heap_setCell _ _ _ _ (by
   rintro rfl
   unfold Blk at hB
   rw [hB] at hg
   cases hg
   exact ht rfl)]
  exact hg
theorem Below.of_grown {B:Nat} {W W':World} {row:Option Nat} (hg:W.grownBy W' row) (hB:B≤W.heap.size) (hrow:∀ r,row=some r→B≤r):Below B W W':=
 ⟨hg.os,hg.tape,hg.output,hg.size,fun c hc=>hg.block c (by omega) (fun e=>by
  have:=hrow c e.symm
  omega)⟩
theorem own_ge {W:World} {b size n:Nat} {e:TypeId} {v:Value} {xs:List Value} (h:W.ownsRow b e size v n xs):∀ r,v.ownBlock=some r→b≤r:=by
 rcases h.2 with ⟨rfl,_⟩ | ⟨g,cap,cur,rfl,hb,_⟩
 ·exact fun r e=>by cases e
 ·exact fun r e=>by cases e; exact hb
theorem ownsRow_next {W W':World} {b size n:Nat} {e:TypeId} {v:Value} {xs:List Value} (h:W.ownsRow b e size v n xs) (hb:Below W.heap.size W W'):W'.ownsRow b e size v n xs:=by
 refine ⟨h.1,?_⟩;rcases h.2 with h | ⟨g,cap,cur,hv,hg,hh,h⟩
 ·exact .inl h
 ·exact .inr ⟨g,cap,cur,hv,hg,by rw [hb.block g (Array.getElem?_eq_some_iff.1 hh).1]; exact hh,h⟩
theorem cells_new (w:World) (vs:List Value) (t:TypeId):∀ j u,vs[j]? = some u→(w.alloc (.cells ⟨vs⟩ t)).cell? ((⟨w.heap.size,0,none⟩:Addr).add j)=some u:=by
 intro j u hj
 have:=(Blk.start w vs t).cell j hj;rw [show (⟨w.heap.size,0,none⟩:Addr).add j=⟨w.heap.size,j,none⟩ by unfold Addr.add; split <;> simp_all];exact this
theorem Sl.news {α:Type} {t:TypeId} {m:Nat} {f:α→List Value} (hf:∀ x,(f x).length=m) {W:World} {g n cap:Nat} {L:List α} (h:Sl t m f W (.slice (some ⟨g,0,none⟩) n cap) L) (i:Nat) (hi:i≤L.length):
  ∀ j u,((L.drop i).flatMap f)[j]? = some u→W.cell? ((⟨g,i * m,none⟩:Addr).add j)=some u:=by
 intro j u hj
 rcases h with ⟨h0,_⟩ | ⟨g',cap',cur,hv,hg,h1,h2,h3⟩
 ·cases h0
 ·simp only [Value.slice.injEq,Option.some.injEq,Addr.mk.injEq] at hv
  obtain ⟨⟨rfl,_,_⟩,rfl,rfl⟩:=hv;rw [show (⟨g,i * m,none⟩:Addr).add j=⟨g,i * m+j,none⟩ by unfold Addr.add; split <;> simp_all];have hl:j<((L.drop i).flatMap f).length:=(List.getElem?_eq_some_iff.1 hj).1;rw [flat_len hf,List.length_drop,Nat.sub_mul] at hl;have hm:i * m≤L.length * m:=Nat.mul_le_mul_right m hi;rw [←flat_drop hf L i hi,List.getElem?_drop,←h3,List.getElem?_take_of_lt (by omega)] at hj;simp [World.cell?,hg]
  simpa using hj
theorem slice_head {P:Program} {t e:TypeId} (ht:P.underlying t=some (.slice (P.elem t))) (he:(sizeOf (P.elem t)).run P=fun w=>.ok e w) (a:Option Addr) (n cap j:Nat) (h:j≤cap) (w:World):
  (Instr.slice t (.slice a n cap) none (some (.int .i64 (j:Int))) none).run P w=.ok (.slice a j cap) w:=by
 rw [run_slice_h w t a n cap ht .i64 (j:Int) (by omega) (by omega),he];simp only [Result.andThen,sliced,Int.toNat_natCast,Nat.sub_zero,Nat.zero_mul]
 congr 2
 split
 ·rfl
 ·cases a <;> simp [Addr.add]
def tailA (a:Option Addr) (k cap:Nat) (m:Nat):Option Addr:=if cap=k then a else a.map (·.add (k * m))
theorem slice_tail {P:Program} {t:TypeId} {e:Nat} (ht:P.underlying t=some (.slice (P.elem t))) (he:(sizeOf (P.elem t)).run P=fun w=>.ok e w) (a:Option Addr) (n cap j:Nat) (h:j≤n) (w:World):
  (Instr.slice t (.slice a n cap) (some (.int .i64 (j:Int))) none none).run P w=.ok (.slice (tailA a j cap e) (n-j) (cap-j)) w:=by
 rw [run_slice_l w t a n cap ht .i64 (j:Int) (by omega) (by omega),he];simp only [Result.andThen,sliced,Int.toNat_natCast]
 rfl
structure En where
 ac:Int
 an:Int
 ch:Int
 d:Bool
deriving DecidableEq
def En.zero:En:=⟨0,0,0,false⟩
inductive Pt where
 | nil
 | part (nx:Nat→Pt) (e:En)
def Pt.nx:Pt→Nat→Pt
 | .nil,_=>.nil
 | .part f _,d=>f d
def Pt.en:Pt→En
 | .nil=>.zero
 | .part _ e=>e
def Pt.isNil:Pt→Bool
 | .nil=>true
 | .part _ _=>false
theorem Pt.isNil_true {T:Pt} (h:T.isNil=true):T=.nil:=by cases T with | nil=>rfl | part=>cases h
theorem Pt.isNil_false {T:Pt} (h:T.isNil=false):∃ f e,T=.part f e:=by cases T with | nil=>cases h | part f e=>exact ⟨f,e,rfl⟩
def getT:Nat→Pt→Nat→Option En
 | 0,.nil,_=>none
 | 0,.part _ e,_=>some e
 | i+1,T,at_=>getT i (T.nx (at_ / 8 ^ i % 8)) at_
def putT:Nat→Pt→Nat→En→Pt
 | 0,T,_,e=>.part T.nx e
 | i+1,T,at_,e=>.part (fun d=>if d=at_ / 8 ^ i % 8 then putT i (T.nx d) at_ e else T.nx d) T.en
def elsT:Nat→Nat→Pt→List (Nat×En)
 | 0,k,T=>match T with | .nil=>[] | .part _ e=>[(k,e)]
 | i+1,k,T=>match T with | .nil=>[] | .part nx _=>(List.range 8).flatMap fun d=>elsT i (k * 8+d) (nx d)
theorem put_nx (i:Nat) (T:Pt) (at_:Nat) (e:En) (d:Nat):(putT (i+1) T at_ e).nx d=if d=at_ / 8 ^ i % 8 then putT i (T.nx d) at_ e else T.nx d:=rfl
theorem elsT_nil:∀ (i k:Nat),elsT i k .nil=[]
 | 0,_=>rfl
 | _+1,_=>rfl
theorem elsT_succ (i k:Nat) (T:Pt):elsT (i+1) k T=(List.range 8).flatMap fun d=>elsT i (k * 8+d) (T.nx d):=by
 cases T with
 | nil=>simp [elsT,Pt.nx,elsT_nil]
 | part f e=>rfl
theorem getT_nil:∀ (i at_:Nat),getT i .nil at_=none
 | 0,_=>rfl
 | i+1,at_=>getT_nil i at_
theorem els_bound:∀ (i k:Nat) (T:Pt) (x:Nat×En),x∈elsT i k T→k * 8 ^ i≤x.1∧x.1<(k+1) * 8 ^ i
 | 0,k,.nil,x,h=>by cases h
 | 0,k,.part _ e,x,h=>by simp only [elsT,List.mem_singleton] at h; subst h; simp
 | i+1,k,T,x,h=>by
  rw [elsT_succ] at h;simp only [List.mem_flatMap,List.mem_range] at h
  obtain ⟨d,hd,hx⟩:=h;obtain ⟨h1,h2⟩:=els_bound i _ _ x hx;rw [Nat.pow_succ];generalize 8 ^ i=P at *
  have e1:k * (P * 8)=(k * 8) * P:=by rw [Nat.mul_comm P 8,Nat.mul_assoc]
  have e2:(k+1) * (P * 8)=(k * 8+8) * P:=by rw [Nat.mul_comm P 8,←Nat.mul_assoc,Nat.add_mul,Nat.one_mul]
  rw [e1,e2];have m1:(k * 8) * P≤(k * 8+d) * P:=Nat.mul_le_mul_right _ (by omega);have m2:(k * 8+d+1) * P≤(k * 8+8) * P:=Nat.mul_le_mul_right _ (by omega);omega
theorem range_split {α:Type} (f:Nat→List α) (D n:Nat) (h:D<n):(List.range n).flatMap f=(List.range D).flatMap f++(f D++(List.range' (D+1) (n-D - 1)).flatMap f):=by
 have e:List.range n=List.range D++D::List.range' (D+1) (n-D - 1):=by
  rw [List.range_eq_range',List.range_eq_range'];have:=List.range'_append (s:=0) (m:=D) (n:=n-D) (step:=1);rw [show D+(n-D)=n by omega] at this;rw [←this]
  congr 1
  rw [show n-D=(n-D - 1)+1 by omega,List.range'_succ];simp
 rw [e,List.flatMap_append,List.flatMap_cons]
def insL (at_:Nat) (e:En):List (Nat×En)→List (Nat×En)
 | []=>[(at_,e)]
 | x::l=>if x.1<at_ then x::insL at_ e l else if x.1=at_ then (at_,e)::l else (at_,e)::x::l
def getL (at_:Nat):List (Nat×En)→Option En
 | []=>none
 | x::l=>if x.1=at_ then some x.2 else getL at_ l
theorem insL_left {at_:Nat} {e:En}:∀ (A L:List (Nat×En)),(∀ x∈A,x.1<at_)→insL at_ e (A++L)=A++insL at_ e L
 | [],_,_=>rfl
 | x::A,L,h=>by
  have h1:=h x (by simp);simp only [List.cons_append,insL,if_pos h1]
  rw [insL_left A L fun y hy=>h y (by simp [hy])]
theorem insL_right {at_:Nat} {e:En}:∀ (M B:List (Nat×En)),(∀ x∈B,at_<x.1)→insL at_ e (M++B)=insL at_ e M++B
 | [],[],_=>rfl
 | [],y::B,h=>by
  have h1:=h y (by simp);simp only [List.nil_append,insL]
  rw [if_neg (by omega),if_neg (by omega)];rfl
 | x::M,B,h=>by
  simp only [List.cons_append,insL]
  rw [insL_right M B h];split
  ·rfl
  ·split <;> rfl
theorem getL_left {at_:Nat}:∀ (A L:List (Nat×En)),(∀ x∈A,x.1≠at_)→getL at_ (A++L)=getL at_ L
 | [],_,_=>rfl
 | x::A,L,h=>by
  simp only [List.cons_append,getL]
  rw [if_neg (h x (by simp)),getL_left A L fun y hy=>h y (by simp [hy])]
theorem getL_none {at_:Nat}:∀ (B:List (Nat×En)),(∀ x∈B,x.1≠at_)→getL at_ B=none
 | [],_=>rfl
 | x::B,h=>by
  simp only [getL]
  rw [if_neg (h x (by simp)),getL_none B fun y hy=>h y (by simp [hy])]
theorem getL_right {at_:Nat}:∀ (M B:List (Nat×En)),(∀ x∈B,x.1≠at_)→getL at_ (M++B)=getL at_ M
 | [],B,h=>getL_none B h
 | x::M,B,h=>by
  simp only [List.cons_append,getL]
  rw [getL_right M B h]
theorem key_succ (i k at_:Nat):k * 8 ^ (i+1)+at_ % 8 ^ (i+1)=(k * 8+at_ / 8 ^ i % 8) * 8 ^ i+at_ % 8 ^ i:=by
 have h:at_ % 8 ^ (i+1)=at_ % 8 ^ i+8 ^ i * (at_ / 8 ^ i % 8):=by rw [Nat.pow_succ,Nat.mod_mul]
 rw [h,Nat.pow_succ,Nat.add_mul];have e1:k * (8 ^ i * 8)=k * 8 * 8 ^ i:=by rw [Nat.mul_comm (8 ^ i) 8,Nat.mul_assoc]
 have e2:8 ^ i * (at_ / 8 ^ i % 8)=at_ / 8 ^ i % 8 * 8 ^ i:=Nat.mul_comm _ _;omega
theorem below_key {i k D m:Nat} {x:Nat×En} {f:Nat→Pt} (hx:x∈(List.range D).flatMap fun d=>elsT i (k * 8+d) (f d)):x.1<(k * 8+D) * 8 ^ i+m:=by
 simp only [List.mem_flatMap,List.mem_range] at hx
 obtain ⟨d,hd,hx⟩:=hx;have h:=(els_bound i _ _ x hx).2;have:(k * 8+d+1) * 8 ^ i≤(k * 8+D) * 8 ^ i:=Nat.mul_le_mul_right _ (by omega);omega
theorem above_key {i k D m n:Nat} {x:Nat×En} {f:Nat→Pt} (hm:m<8 ^ i) (hx:x∈(List.range' (D+1) n).flatMap fun d=>elsT i (k * 8+d) (f d)):(k * 8+D) * 8 ^ i+m<x.1:=by
 simp only [List.mem_flatMap,List.mem_range'_1] at hx
 obtain ⟨d,hd,hx⟩:=hx;have h:=(els_bound i _ _ x hx).1;have:(k * 8+D+1) * 8 ^ i≤(k * 8+d) * 8 ^ i:=Nat.mul_le_mul_right _ (by omega);rw [Nat.add_mul (k * 8+D) 1,Nat.one_mul] at this;omega
theorem flat_same {α:Type} (f g:Nat→List α) (l:List Nat) (h:∀ d∈l,f d=g d):l.flatMap f=l.flatMap g:=by
 induction l with
 | nil=>rfl
 | cons d l ih=>simp only [List.flatMap_cons,h d (by simp),ih fun x hx=>h x (by simp [hx])]
theorem els_put (at_:Nat) (e:En):∀ (i k:Nat) (T:Pt),elsT i k (putT i T at_ e)=insL (k * 8 ^ i+at_ % 8 ^ i) e (elsT i k T)
 | 0,k,.nil=>by simp [elsT,putT,insL,Nat.mod_one]
 | 0,k,.part f e'=>by simp [elsT,putT,insL,Nat.mod_one]
 | i+1,k,T=>by
  have hD:at_ / 8 ^ i % 8<8:=Nat.mod_lt _ (by decide);have hm:at_ % 8 ^ i<8 ^ i:=Nat.mod_lt _ (Nat.pow_pos (by decide));rw [elsT_succ,elsT_succ,key_succ,range_split _ _ 8 hD,range_split (fun d=>elsT i (k * 8+d) (T.nx d)) _ 8 hD];rw [insL_left _ _ fun x hx=>below_key hx,insL_right _ _ fun x hx=>above_key hm hx];simp only [put_nx]
  rw [flat_same _ (fun d=>elsT i (k * 8+d) (T.nx d)) (List.range _) fun d hd=>by
   have:=List.mem_range.1 hd;rw [if_neg (by omega)]]
  rw [flat_same _ (fun d=>elsT i (k * 8+d) (T.nx d)) (List.range' _ _) fun d hd=>by
   have:=List.mem_range'_1.1 hd;rw [if_neg (by omega)]]
  rw [if_pos trivial,els_put at_ e i]
theorem getT_els (at_:Nat):∀ (i k:Nat) (T:Pt),getT i T at_=getL (k * 8 ^ i+at_ % 8 ^ i) (elsT i k T)
 | 0,k,.nil=>rfl
 | 0,k,.part f e'=>by simp [elsT,getT,getL,Nat.mod_one]
 | i+1,k,T=>by
  have hD:at_ / 8 ^ i % 8<8:=Nat.mod_lt _ (by decide);have hm:at_ % 8 ^ i<8 ^ i:=Nat.mod_lt _ (Nat.pow_pos (by decide));rw [elsT_succ,key_succ,range_split _ _ 8 hD];rw [getL_left _ _ fun x hx=>Nat.ne_of_lt (below_key hx),getL_right _ _ fun x hx=>Nat.ne_of_gt (above_key hm hx)];rw [getT,getT_els at_ i]
def Ris (l:List (Nat×En)):Prop:=l.Pairwise fun x y=>x.1<y.1
theorem ris_flat (i k:Nat) (f:Nat→Pt) (h:∀ k T,Ris (elsT i k T)):∀ (n s:Nat),Ris ((List.range' s n).flatMap fun d=>elsT i (k * 8+d) (f d))
 | 0,_=>List.Pairwise.nil
 | n+1,s=>by
  rw [List.range'_succ,List.flatMap_cons];refine List.pairwise_append.2 ⟨h _ _,ris_flat i k f h n (s+1),fun x hx y hy=>?_⟩;have h1:=(els_bound i _ _ x hx).2;simp only [List.mem_flatMap,List.mem_range'_1] at hy
  obtain ⟨d,hd,hy⟩:=hy;have h2:=(els_bound i _ _ y hy).1;have:(k * 8+s+1) * 8 ^ i≤(k * 8+d) * 8 ^ i:=Nat.mul_le_mul_right _ (by omega);omega
theorem els_ris:∀ (i k:Nat) (T:Pt),Ris (elsT i k T)
 | 0,k,.nil=>List.Pairwise.nil
 | 0,k,.part _ _=>by simp [Ris,elsT]
 | i+1,k,T=>by
  rw [elsT_succ,List.range_eq_range'];exact ris_flat i k _ (fun k T=>els_ris i k T) 8 0
def Full:Nat→Pt→Prop
 | 0,_=>True
 | i+1,T=>(∀ d,d<8→Full i (T.nx d))∧(T=.nil∨∃ d,d<8∧(T.nx d).isNil=false)
theorem full_nil:∀ i:Nat,Full i .nil
 | 0=>trivial
 | i+1=>⟨fun _ _=>full_nil i,.inl rfl⟩
theorem put_notNil (at_:Nat) (e:En):∀ (i:Nat) (T:Pt),(putT i T at_ e).isNil=false
 | 0,_=>rfl
 | _+1,_=>rfl
theorem full_put (at_:Nat) (e:En):∀ (i:Nat) (T:Pt),Full i T→Full i (putT i T at_ e)
 | 0,_,_=>trivial
 | i+1,T,h=>by
  refine ⟨fun d hd=>?_,.inr ⟨at_ / 8 ^ i % 8,Nat.mod_lt _ (by decide),?_⟩⟩
  ·rw [put_nx]
   split
   ·exact full_put at_ e i _ (h.1 d hd)
   ·exact h.1 d hd
  ·rw [put_nx,if_pos rfl]
   exact put_notNil _ _ _ _
def lastD (f:Nat→Pt):Nat→Nat
 | 0=>0
 | d+1=>if (f (d+1)).isNil=true then lastD f d else d+1
theorem lastD_le (f:Nat→Pt):∀ n:Nat,lastD f n≤n
 | 0=>Nat.le_refl _
 | n+1=>by simp only [lastD]; split; exact Nat.le_succ_of_le (lastD_le f n); exact Nat.le_refl _
theorem lastD_spec (f:Nat→Pt):∀ (n:Nat),(∃ d,d≤n∧(f d).isNil=false)→(f (lastD f n)).isNil=false∧∀ d,lastD f n<d→d≤n→f d=.nil
 | 0,⟨d,hd,h⟩=>by
  obtain rfl:d=0:=by omega
  exact ⟨h,fun d h1 h2=>by simp only [lastD] at h1; omega⟩
 | n+1,⟨d,hd,h⟩=>by
  simp only [lastD]
  by_cases hn:(f (n+1)).isNil=true
  ·rw [if_pos hn]
   have hne:d≠n+1:=by rintro rfl; rw [h] at hn; cases hn
   obtain ⟨h1,h2⟩:=lastD_spec f n ⟨d,by omega,h⟩;refine ⟨h1,fun d' ha hb=>?_⟩;by_cases hd':d'=n+1
   ·subst hd'; exact Pt.isNil_true hn
   ·exact h2 d' ha (by omega)
  ·rw [if_neg hn]
   exact ⟨by simpa using hn,fun d' ha hb=>by omega⟩
def lastP:Nat→Nat→Pt→Nat
 | 0,k,_=>k
 | i+1,k,T=>lastP i (k * 8+lastD T.nx 7) (T.nx (lastD T.nx 7))
theorem els_last:∀ (i k:Nat) (T:Pt),Full i T→T.isNil=false→∃ l e,elsT i k T=l++[(lastP i k T,e)]
 | 0,k,.nil,_,h=>by cases h
 | 0,k,.part _ e,_,_=>⟨[],e,rfl⟩
 | i+1,k,T,hf,h=>by
  have hex:∃ d,d≤7∧(T.nx d).isNil=false:=by
   rcases hf.2 with rfl | ⟨d,hd,hh⟩
   ·cases h
   ·exact ⟨d,by omega,hh⟩
  obtain ⟨h1,h2⟩:=lastD_spec T.nx 7 hex;have hle:=lastD_le T.nx 7;obtain ⟨l,e,he⟩:=els_last i (k * 8+lastD T.nx 7) (T.nx (lastD T.nx 7)) (hf.1 _ (by omega)) h1;rw [elsT_succ,range_split _ (lastD T.nx 7) 8 (by omega),he];rw [flat_same _ (fun _=>[]) (List.range' _ _) fun d hd=>by
   have:=List.mem_range'_1.1 hd;rw [h2 d (by omega) (by omega),elsT_nil]]
  refine ⟨(List.range (lastD T.nx 7)).flatMap (fun d=>elsT i (k * 8+d) (T.nx d))++l,e,?_⟩;have hz:∀ m:List Nat,m.flatMap (fun _=>([]:List (Nat×En)))=[]:=fun m=>by induction m with | nil=>rfl | cons _ _ ih=>simp
  rw [hz];simp [lastP]
def els (T:Pt):List (Nat×En):=elsT 10 0 T
theorem els_insL (T:Pt) {at_:Nat} (e:En) (h:at_<1073741824):els (putT 10 T at_ e)=insL at_ e (els T):=by
 have:=els_put at_ e 10 0 T;rw [show 0 * 8 ^ 10+at_ % 8 ^ 10=at_ by rw [Nat.zero_mul,Nat.zero_add]; exact Nat.mod_eq_of_lt h] at this;exact this
theorem getT_getL (T:Pt) {at_:Nat} (h:at_<1073741824):getT 10 T at_=getL at_ (els T):=by
 have:=getT_els at_ 10 0 T;rw [show 0 * 8 ^ 10+at_ % 8 ^ 10=at_ by rw [Nat.zero_mul,Nat.zero_add]; exact Nat.mod_eq_of_lt h] at this;exact this
theorem els_rising (T:Pt):Ris (els T):=els_ris 10 0 T
theorem getL_gt {at_:Nat} {l:List (Nat×En)} (h:∀ x∈l,at_<x.1):getL at_ l=none:=getL_none l fun x hx=>Nat.ne_of_gt (h x hx)
theorem insL_length {at_:Nat} {e:En}:∀ {l:List (Nat×En)},Ris l→(insL at_ e l).length=l.length+if (getL at_ l).isSome=true then 0 else 1
 | [],_=>rfl
 | x::l,h=>by
  obtain ⟨h1,h2⟩:=List.pairwise_cons.1 h;simp only [insL]
  by_cases c1:x.1<at_
  ·have hg:getL at_ (x::l)=getL at_ l:=by simp only [getL]; rw [if_neg (by omega)]
   rw [if_pos c1,hg,List.length_cons,List.length_cons,insL_length h2]; omega
  ·rw [if_neg c1]
   by_cases c2:x.1=at_
   ·have hg:getL at_ (x::l)=some x.2:=by simp only [getL]; rw [if_pos c2]
    rw [if_pos c2,hg]; rfl
   ·have hg:getL at_ (x::l)=none:=by simp only [getL]; rw [if_neg c2]; exact getL_gt fun y hy=>by have:=h1 y hy; omega
    rw [if_neg c2,hg]; rfl
def placeI (c s:Int):Nat:=((c - 1) * 1024+(s - 1)).toNat
def nmC (x:Nat):Int:=(x / 1024:Nat)+1
def nmS (x:Nat):Int:=(x % 1024:Nat)+1
theorem place_lt {c s:Int} (h:mayB c s=true):placeI c s<1073741824:=by
 simp only [mayB,decide_eq_true_eq] at h; unfold placeI; omega
theorem place_nm {c s:Int} (h:mayB c s=true):nmC (placeI c s)=c∧nmS (placeI c s)=s:=by
 simp only [mayB,decide_eq_true_eq] at h; unfold placeI nmC nmS; omega
end Go.Proofs.YtemicfjmidohfaaGreatDoor
namespace Go.Proofs.YtemicfjmidohfaaGreatDoor
open Go Go.Proofs Go.RowKit Go.Shelf
theorem room_of_none {F:Fence} (hd:F.depth=none) (k:Nat):F.room k:=fun d h=>by rw [hd] at h; cases h
theorem RoundIn.anyDepth {F:Fence} (hd:F.depth=none) {m m':Nat} {P:Program} {l:Nat} {f:FuncId} {tmps:Array Value} {assign body:Code} {w:World} {R:Ending→World→Prop}
  (h:RoundIn F m P l f tmps assign body w R):RoundIn F m' P l f tmps assign body w R:=⟨h.1,fun c cs _=>h.2 c cs (room_of_none hd _)⟩
theorem YieldAt.anyDepth {F:Fence} (hd:F.depth=none) {m:Nat} (m':Nat) {P:Program} {l:Nat} {args:Array Value} {W:World} {R:Ending→World→Prop} (h:YieldAt F m P l args W R):YieldAt F m' P l args W R:=by
 obtain ⟨fn,tmps,assign,body,hy,hR⟩:=h;exact ⟨fn,tmps,assign,body,hy,RoundIn.anyDepth hd hR⟩
theorem Blk.grown {W W':World} {row:Option Nat} {b:Nat} {vs:List Value} {t:TypeId} (h:Blk W b vs t) (hg:W.grownBy W' row) (hr:∀ r,row=some r→∃ o:Obj,W.heap[r]? = some o∧o.isCells=false):Blk W' b vs t:=by
 refine (hg.block b h.lt fun e=>?_).trans h;obtain ⟨o,ho,hc⟩:=hr b e.symm;unfold Blk at h
 rw [h] at ho; cases ho; cases hc
def OnlyN (Q:Act→World→Prop):Exit→Act→World→Prop
 | .normal,a,w=>Q a w
 | _,_,_=>False
theorem oper_round {l n:Nat} {P:Program} {o:Oper} {a:Act} {w:World} {K K':Act→World→Prop} {Q:Exit→Act→World→Prop} {Q':Act→World→Prop} (hd:∀ c,o.op≠.defer c) (hK:∀ a w,K a w→K' a w)
  (h:o.wp P a w K (OnlyN Q')):o.wpIn (Fence.wide.inRound l) n P a w K' Q:=by
 refine ⟨fun _ _=>trivial,?_⟩;rw [Oper.semAt_plain _ _ _ hd];unfold Oper.wp at h
 have hdep:∀ k:Nat,((Fence.wide.inRound l).depth.isSome=true→1≤k):=fun k h=>by cases h
 generalize (execOp a.eval o).run P w=r at *
 cases r with
 | ok x w'=>
  cases x <;> simp only [Oper.upon,Oper.uponIn] at h ⊢
  case value v=>exact hK _ _ h
  case skip=>exact hK _ _ h
  case defer d=>exact hK _ _ h
  case enter f args=>
   refine ⟨hdep _,CallsIn.inRound l (callsIn_wide.2 (h.mono fun e w'' he=>?_))⟩
   cases e with
   | returned v=>exact hK _ _ he
   | panicked c=>exact he.elim
   | outgrown=>exact he.elim fun _ he=>he.elim fun _ he=>he.elim
  case row row args=>exact ⟨hdep _,fun c cs _=>let ⟨v,w2,hv,hs⟩:=h c cs; ⟨v,w2,hK _ _ hv,stepsIn_wide.2 hs⟩⟩
 | halt x w'=>
  cases x <;> simp only [Oper.upon] at h
  case panic v=>exact h.elim
theorem any_round {l n:Nat} {P:Program} {md:Region.Mode} {ops:Array Oper} {Q:Exit→Act→World→Prop} {S:World→Prop} (hd:∀ (i:Nat) (o:Oper),ops[i]? = some o→∀ c,o.op≠.defer c):
  ∀ (fuel:Nat) (listed:Array Bool) (a:Act) (w:World),wpAnyH P md ops (OnlyN (Q .normal)) S fuel listed a w→wpAnyIn (Fence.wide.inRound l) n P md ops Q fuel listed a w
 | 0,_,_,_,h=>h
 | fuel+1,listed,a,w,h=>by
  refine ⟨h.1,fun i hi=>?_⟩;have h1:=h.2 i hi;unfold wpOp at h1
  unfold wpOpIn
  cases ho:ops[i]? with
  | none=>
   simp only [ho] at h1 ⊢
   exact any_round hd fuel _ _ _ h1.2
  | some o=>
   simp only [ho] at h1 ⊢
   split
   ·rename_i hw
    simp only [hw,if_true] at h1
    rcases h1 with h1 | ⟨_,hl⟩
    ·exact oper_round (hd i o ho) (fun a' w' h'=>any_round hd fuel _ a' w' h'.2) h1
    ·exact hl.elim fun _ hl=>hl.elim fun _ hl=>hl.elim
   ·rename_i hw
    simp only [hw] at h1
    exact ⟨fun _ _=>trivial,any_round hd fuel _ _ _ h1.2⟩
def noDefer (ops:List Oper):Bool:=ops.all fun o=>match o.op with | .defer _=>false | _=>true
theorem noDefer_spec {ops:Array Oper} (h:noDefer ops.toList=true) (i:Nat) (o:Oper) (ho:ops[i]? = some o) (c:_):o.op≠.defer c:=by
 intro e
 have hm:o∈ops.toList:=by
  have:=Array.mem_of_getElem? ho
  simpa using this
 have:=List.all_eq_true.1 h o hm;simp [e] at this
theorem region_round {l n id:Nat} {P:Program} {ops:Array Oper} {Q:Exit→Act→World→Prop} {S:World→Prop} {a:Act} {w:World} (hm:P.follows .mixedOrders=true) (hd:noDefer ops.toList=true) (hS:S w.drew)
  (h:S w.drew→wpAnyH P .any ops (OnlyN (Q .normal)) S ops.size (Array.replicate ops.size false) a w.drew):(Code.region id ops true).wpIn (Fence.wide.inRound l) n P Q a w:=
 wpIn_region_any hm (any_round (S:=S) (noDefer_spec hd) _ _ _ _ (h hS))
theorem OnlyN.normal {Q:Act→World→Prop} {a:Act} {w:World} (h:Q a w):OnlyN Q .normal a w:=h
end Go.Proofs.YtemicfjmidohfaaGreatDoor
