import Derived.Test.YtemicfjmidohfaaGreatDoorLBase
import Derived.Maps.OwnSet
import Derived.Maps.Views
import Derived.Carry
namespace Go.Proofs.YtemicfjmidohfaaGreatDoor
open Go Go.Proofs Go.RowKit
def heldR (v:Value):Option (DataW Value×List MemPlace):=some (.held v,[])
def MapI (P:Program) (kt:TypeId) (b n:Nat) (z:Value) (F:Int→Value) (K:Int→Bool) (W:World):Prop:=∃ D,W.ownsMap P kt heldR b n D∧∀ i,D.atKey (Lit.int .i64 i) (.held z)=.held (F i)∧Maps.has D (Lit.int .i64 i)=K i
theorem MapI.start {P:Program} {kt:TypeId} {z:Value} (W:World):MapI P kt W.heap.size 0 z (fun _=>z) (fun _=>false) (W.alloc (.map #[] 0)):=⟨_,World.ownsMap_made W P kt heldR,fun _=>⟨rfl,rfl⟩⟩
theorem MapI.next {P:Program} {kt:TypeId} {b n:Nat} {z:Value} {F:Int→Value} {K:Int→Bool} {W W':World} (h:MapI P kt b n z F K W) (hb:Below W.heap.size W W'):MapI P kt b n z F K W':=by
 obtain ⟨D,h,ha⟩:=h;have hlt:=h.lt;obtain ⟨es,clock,hb',r⟩:=h;exact ⟨D,⟨es,clock,(hb.block b hlt).trans hb',r⟩,ha⟩
theorem keyI {P:Program} {kt:TypeId} (hk:P.underlying kt=some (.int .i64)) {i:Int} (hi:(Lit.int .i64 i).wf=true):keyOf P kt i=some (.int .i64 i):=by
 simp [keyOf,mapKey,hk,hi]
theorem MapI.look {P:Program} {kt t e:TypeId} {b n:Nat} {z:Value} {F:Int→Value} {K:Int→Bool} {W:World} (h:MapI P kt b n z F K W) (hk:P.underlying kt=some (.int .i64)) (ht:P.underlying t=some (.map kt e)) (hz:(zeroValue e).run P W=.ok z W) {i:Int} (hi:(Lit.int .i64 i).wf=true):
  (Instr.lookup t (.map (some b)) i false).run P W=.ok (F i) W∧(Instr.lookup t (.map (some b)) i true).run P W=.ok (.tuple #[F i,.bool (K i)]) W:=by
 obtain ⟨D,h,ha⟩:=h;obtain ⟨v,ps,hr,hv⟩:=h.lookup (zd:=.held z) (zp:=[]) (Maps.int_keyed hk) ht hz rfl (keyI hk hi);obtain ⟨u,qs,hr2,hu⟩:=h.look_ok (zd:=.held z) (zp:=[]) (Maps.int_keyed hk) ht hz rfl (keyI hk hi);rw [(ha i).1] at hv hu;simp only [heldR,Option.some.injEq,Prod.mk.injEq,DataW.held.injEq] at hv hu
 rw [←(ha i).2,←hv.1];exact ⟨hr,by rw [hv.1,←hu.1]; exact hr2⟩
theorem MapI.put {P:Program} {kt t e:TypeId} {b n:Nat} {z:Value} {F:Int→Value} {K:Int→Bool} {W:World} (h:MapI P kt b n z F K W) (hk:P.underlying kt=some (.int .i64)) (ht:P.underlying t=some (.map kt e)) (hn:n≤1000000) {i:Int} (hi:(Lit.int .i64 i).wf=true) (v:Value):
  ∃ W',(Instr.mapUpdate t (.map (some b)) i v).run P W=.ok () W'∧MapI P kt b (n+1) z (fun j=>if j=i then v else F j) (fun j=>if j=i then true else K j) W'∧W.grownBy W' (some b):=by
 obtain ⟨D,h,ha⟩:=h;obtain ⟨W',hr,ho,hg⟩:=h.update (d:=.held v) (ps:=[]) (Maps.int_keyed hk) ht (by unfold maxLen; omega) (keyI hk hi) rfl;have hK:=(Maps.int_keyed hk).key (keyI hk hi);refine ⟨W',hr,⟨_,ho,fun j=>?_⟩,hg⟩
 show _=DataW.held (if j=i then v else F j)∧_=(if j=i then true else K j)
 by_cases e:j=i
 ·subst e; rw [if_pos rfl,if_pos rfl]; exact ⟨Maps.atKey_put_same h.isMap hK _ _,Maps.has_put_same h.isMap hK _⟩
 ·have hne:Lit.int .i64 j≠Lit.int .i64 i:=by simpa using e
  rw [if_neg e,if_neg e,Maps.atKey_put_other hne,Maps.has_put_other hne]; exact ha j
theorem MapI.lt {P:Program} {kt:TypeId} {b n:Nat} {z:Value} {F:Int→Value} {K:Int→Bool} {W:World} (h:MapI P kt b n z F K W):b<W.heap.size:=by obtain ⟨D,h,_⟩:=h; exact h.lt
theorem MapI.stay {P:Program} {kt:TypeId} {b n:Nat} {z:Value} {F:Int→Value} {K:Int→Bool} {W W':World} (h:MapI P kt b n z F K W) (e:W'.heap[b]? = W.heap[b]?):MapI P kt b n z F K W':=by
 obtain ⟨D,⟨es,cl,hb,r⟩,ha⟩:=h;exact ⟨D,⟨es,cl,e.trans hb,r⟩,ha⟩
end Go.Proofs.YtemicfjmidohfaaGreatDoor
