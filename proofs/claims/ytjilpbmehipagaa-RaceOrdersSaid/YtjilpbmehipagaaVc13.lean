import Derived.Test.YtjilpbmehipagaaVt13
import Derived.Deep.DeepCutAuto
namespace Go.Proofs.Ytjilpbmehipagaa
open Go Go.Proofs Go.RowKit
def OwnL (B:Nat) (W:World) (v:Value) (A:List Int):Prop:=∃ ad cap,v=.slice ad A.length cap∧A.length≤cap∧cap≤9223372036854775807 ∧
 (A≠[]→∃ b off cells t,ad=some ⟨b,off,none⟩∧B≤b∧Blk W b cells t∧∀ j (hj:j<A.length),cells[off+j]? = some (.int .i64 A[j]))
theorem OwnL.isL {B:Nat} {W:World} {v:Value} {A:List Int} (h:OwnL B W v A):IsL W v A:=by
 obtain ⟨ad,cap,e,h1,h2,h3⟩:=h;refine ⟨ad,cap,e,h1,h2,fun hA=>?_⟩;obtain ⟨b,off,cells,t,e2,_,hb,hc⟩:=h3 hA;exact ⟨b,off,e2,hb.lt,fun j hj=>hb.cell _ (hc j hj)⟩
theorem OwnL.next {B:Nat} {W W':World} {v:Value} {A:List Int} (h:OwnL B W v A) (hb:Below W.heap.size W W'):OwnL B W' v A:=by
 obtain ⟨ad,cap,e,h1,h2,h3⟩:=h;refine ⟨ad,cap,e,h1,h2,fun hA=>?_⟩;obtain ⟨b,off,cells,t,e2,h4,hB,hc⟩:=h3 hA;exact ⟨b,off,cells,t,e2,h4,hB.next hb,hc⟩
theorem OwnL.mono {B B':Nat} {W:World} {v:Value} {A:List Int} (h:OwnL B W v A) (hB:B'≤B):OwnL B' W v A:=by
 obtain ⟨ad,cap,e,h1,h2,h3⟩:=h;refine ⟨ad,cap,e,h1,h2,fun hA=>?_⟩;obtain ⟨b,off,cells,t,e2,h4,r⟩:=h3 hA;exact ⟨b,off,cells,t,e2,Nat.le_trans hB h4,r⟩
def atL (A:List Int) (i:Int):Int:=if 0≤i then A.getD i.toNat 0 else 0
def MedA (A:List Int):Prop:=A.length≤16∧∀ x∈A,0≤x∧x≤2199023255552
theorem MayA.med {A:List Int} (h:MayA A):MedA A:=⟨h.1,fun x hx=>⟨(h.2 x hx).1,by have:=(h.2 x hx).2; omega⟩⟩
def VAtOk:Prop:=∀ (A:List Int) (v:Value) (i:Int) (w:World),-9223372036854775808≤i→i≤9223372036854775807→MedA A→IsL w v A→Calls Try.prog 27 #[v,.int .i64 i] w fun e w'=>e=.returned (.int .i64 (atL A i))∧Below w.heap.size w w'
def VTickOk:Prop:=∀ (A:List Int) (v:Value) (i:Int) (w:World),-9223372036854775808≤i→i≤9223372036854775807→MedA A→IsL w v A→Calls Try.prog 26 #[v,.int .i64 i] w fun e w'=>∃ u T,e=.returned u∧T.length≤16∧pad T=tickL (pad A) i∧OwnL w.heap.size w' u T∧Below w.heap.size w w'
def VJoinOk:Prop:=∀ (A B:List Int) (v u:Value) (w:World),MedA A→MedA B→IsL w v A→IsL w u B→Calls Try.prog 23 #[v,u] w fun e w'=>∃ x T,e=.returned x∧T.length≤16∧pad T=joinL (pad A) (pad B)∧OwnL w.heap.size w' x T∧Below w.heap.size w w'
def VLeqOk:Prop:=∀ (A B:List Int) (v u:Value) (w:World),MedA A→MedA B→IsL w v A→IsL w u B→Calls Try.prog 18 #[v,u] w fun e w'=>e=.returned (.bool (leqL (pad A) (pad B)))∧Below w.heap.size w w'
def VSameOk:Prop:=∀ (A B:List Int) (v u:Value) (w:World),MedA A→MedA B→IsL w v A→IsL w u B→Calls Try.prog 24 #[v,u] w fun e w'=>e=.returned (.bool (decide (pad A=pad B)))∧Below w.heap.size w w'
structure VCAll:Prop where
 at_:VAtOk
 tick:VTickOk
 join:VJoinOk
 leq:VLeqOk
 same:VSameOk
theorem pad_at {A:List Int} (_:A.length≤16) (k:Nat):(pad A).getD k 0=A.getD k 0:=by
 unfold pad
 rw [List.getD_eq_getElem?_getD,List.getD_eq_getElem?_getD];by_cases hk:k<A.length
 ·rw [List.getElem?_append_left hk]
 ·rw [List.getElem?_append_right (by omega),List.getElem?_eq_none (by omega:A.length≤k)]
  cases h2:(List.replicate (16-A.length) (0:Int))[k-A.length]? with
  | none=>rfl
  | some x=>rw [List.getElem?_replicate] at h2; split at h2 <;> simp_all
theorem ext16 {M N:List Int} (hM:M.length=16) (hN:N.length=16) (h:∀ j,j<16→M.getD j 0=N.getD j 0):M=N:=by
 refine List.ext_getElem (by omega) fun j h1 h2=>?_
 have:=h j (by omega)
 rwa [List.getD_eq_getElem?_getD,List.getD_eq_getElem?_getD,List.getElem?_eq_getElem h1,List.getElem?_eq_getElem h2] at this
end Go.Proofs.Ytjilpbmehipagaa
