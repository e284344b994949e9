import Derived.Test.YtkmcoineknbgcaaGreatDoorRn8
import Derived.Test.YtkmcoineknbgcaaGreatDoorLBase
import Derived.Test.YtkmcoineknbgcaaGreatDoorLRef
namespace Go.Proofs.YtkmcoineknbgcaaGreatDoor
open Go Go.Proofs Go.RowKit
def rn1 (r:Int):List Value:=[.int .i32 r]
theorem rn1_len (r:Int):(rn1 r).length=1:=rfl
def IsRn (W:World) (v:Value) (T:List Int):Prop:=Sl 21 1 rn1 W v T
theorem rn_flat:∀ T:List Int,T.flatMap rn1=T.map (Value.int .i32)
 | []=>rfl
 | r::T=>by rw [List.flatMap_cons,rn_flat T]; rfl
theorem flat_le:∀ T:List Int,T.length≤(T.flatMap Lib.encodeRune).length
 | []=>Nat.le_refl _
 | r::T=>by
  have:=flat_le T;have:=(enc_len r).1;rw [List.flatMap_cons,List.length_append,List.length_cons]; omega
theorem str_head {T:List Int} (hT:∀ r∈T,ChrB r) {a:Option Addr} {cap:Nat} (W:World) (h:IsRn W (.slice a T.length cap) T) {k:Nat} (hk:k≤T.length):
  (convert 79 9 (.slice a k cap)).run Tryz.prog W=.ok (.string ⟨((T.take k).flatMap Lib.encodeRune).toArray⟩) W:=by
 have hv:∀ r∈T.take k,ChrB r:=fun r hr=>hT r (List.mem_of_mem_take hr)
 rcases h with ⟨hs,rfl⟩ | ⟨g,cp,cur,hs,hg,h1,h2,h3⟩
 ·cases hs
  rw [run_convert_runes_nil (P:=Tryz.prog) W 79 9 21 k 0 Tryz.underlying79 Tryz.underlying21 Tryz.underlying9];simp
  rfl
 ·cases hs
  have hcell:∀ j,j<T.length→W.cell? ((⟨g,0,none⟩:Addr).add j)=some (.int .i32 (T.getD j 0)):=fun j hj=>by
   obtain ⟨g',e,_,hc⟩:=Sl.cell rn1_len (show Sl 21 1 rn1 W (.slice (some ⟨g,0,none⟩) T.length cap) T from .inr ⟨g,cap,cur,rfl,hg,h1,h2,h3⟩) j hj
   cases e
   have:=hc 0 (by omega);rw [Lib.add_plain,Nat.zero_add];rw [Nat.mul_one,Nat.add_zero] at this;rw [this,List.getD_eq_getElem?_getD,List.getElem?_eq_getElem hj];rfl
  rw [run_convert_runes (P:=Tryz.prog) W 79 9 21 ⟨g,0,none⟩ k cap T hk Tryz.underlying79 Tryz.underlying21 Tryz.underlying9 hcell,bytes_of hv]
end Go.Proofs.YtkmcoineknbgcaaGreatDoor
