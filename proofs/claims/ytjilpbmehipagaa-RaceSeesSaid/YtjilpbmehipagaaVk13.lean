import Derived.Test.YtjilpbmehipagaaLBase
import Derived.Deep.CutRange
namespace Go.Proofs.Ytjilpbmehipagaa
open Go Go.Proofs Go.RowKit
abbrev arL (M:List Int):List Value:=M.map (Value.int .i64)
def IsL (W:World) (v:Value) (A:List Int):Prop:=∃ ad cap,v=.slice ad A.length cap∧A.length≤cap∧cap≤9223372036854775807 ∧
 (A≠[]→∃ b off,ad=some ⟨b,off,none⟩∧b<W.heap.size∧∀ j (hj:j<A.length),W.cell? ⟨b,off+j,none⟩=some (.int .i64 A[j]))
theorem IsL.next {W W':World} {v:Value} {A:List Int} (h:IsL W v A) (hb:Below W.heap.size W W'):IsL W' v A:=by
 obtain ⟨ad,cap,e,h1,h2,h3⟩:=h;refine ⟨ad,cap,e,h1,h2,fun hA=>?_⟩;obtain ⟨b,off,e2,h4,h5⟩:=h3 hA;exact ⟨b,off,e2,Nat.lt_of_lt_of_le h4 hb.size,fun j hj=>(hb.cell (p:=⟨b,off+j,none⟩) h4).trans (h5 j hj)⟩
def MayA (A:List Int):Prop:=A.length≤16∧∀ x∈A,0≤x∧x≤1099511627776
def mayL (A:List Int):Bool:=decide (A.length≤16)&&A.all fun x=>decide (0≤x)&&decide (x≤1099511627776)
theorem may_iff {A:List Int}:mayL A=true↔MayA A:=by simp [mayL,MayA,List.all_eq_true]
def leqL (M N:List Int):Bool:=(List.range 16).all fun j=>decide (M.getD j 0≤N.getD j 0)
theorem leq_iff {M N:List Int}:leqL M N=true↔∀ j,j<16→M.getD j 0≤N.getD j 0:=by simp only [leqL,List.all_eq_true,List.mem_range,decide_eq_true_eq]
theorem ar_cell {W:World} {b:Nat} {M:List Int} {t:TypeId} (h:Blk W b (arL M) t) (k:Nat) (hk:k<M.length):W.cell? ⟨b,k,none⟩=some (.int .i64 (M.getD k 0)):=by
 refine h.cell k ?_;rw [List.getElem?_map,List.getElem?_eq_getElem hk,List.getD_eq_getElem?_getD,List.getElem?_eq_getElem hk];rfl
def pad (A:List Int):List Int:=A++List.replicate (16-A.length) 0
theorem pad_len {A:List Int} (h:A.length≤16):(pad A).length=16:=by simp [pad]; omega
theorem pad_step {A:List Int} {k:Nat} (hk:k<A.length) (hl:A.length≤16):(A.take k++List.replicate (16-k) 0).set k A[k]=A.take (k+1)++List.replicate (16-(k+1)) 0:=by
 rw [List.take_succ_eq_append_getElem hk,show 16-k=(16-(k+1))+1 by omega,List.replicate_succ,List.set_append_right _ _ (by simp; omega),show k-(A.take k).length=0 by simp; omega,List.set_cons_zero,List.append_assoc];rfl
end Go.Proofs.Ytjilpbmehipagaa
