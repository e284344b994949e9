import Derived.Test.YtkmcoineknbgcaaGreatDoorVd8
import Derived.Test.YtkmcoineknbgcaaGreatDoorPend
namespace Go.Proofs.YtkmcoineknbgcaaGreatDoor
open Go Go.Proofs Go.RowKit
theorem Sl.kt {α:Type} {t:TypeId} {m:Nat} {f:α→List Value} {W W':World} (hk:KT t W W') {v:Value} {L:List α} (h:Sl t m f W v L):Sl t m f W' v L:=by
 rcases h with h | ⟨g,cap,cur,rfl,hg,h⟩
 ·exact .inl h
 ·exact .inr ⟨g,cap,cur,rfl,hk g cur.toList hg,h⟩
theorem IsV.kt {W W':World} {m l:List Oq} {cs:List Value} (h:IsV W m l cs) (h1:KT 135 W W') (h2:KT 133 W W') (h3:KT 45 W W') (hs:W.heap.size≤W'.heap.size):IsV W' m l cs:=by
 obtain ⟨p,q,T,P,s,a,b,c⟩:=h.ex;exact ⟨p,q,T,P,s,a.kt h1 h2 hs,Sl.kt h3 b,c⟩
theorem Sl.setZ {t:TypeId} {W:World} {b:Nat} (hB:Blk W b (oqL zeroO) t) {v:Value} {L:List Oq} (h:Sl t 6 oqL W v L) (hr:RmO L) (x:Oq):Sl t 6 oqL (setN W b 0 (oqL x)) v L:=by
 rcases h with h | ⟨g,cap,cur,rfl,hg,h1,h2,h3⟩
 ·exact .inl h
 ·by_cases hgb:g=b
  ·subst hgb
   cases L with
   | nil=>exact .inr ⟨g,cap,_,rfl,setN_blk (oqL x) 0 hB,h1,h2,rfl⟩
   | cons y L=>
    exfalso
    have hy:=hr y (List.mem_cons_self ..);unfold Blk at hB
    rw [hB] at hg;simp only [Option.some.injEq,Obj.cells.injEq] at hg
    obtain ⟨hg,_⟩:=hg;rw [←hg] at h3;have h5:(oqL zeroO).take ((y::L).length * 6)=oqL zeroO:=List.take_of_length_le (by rw [oqL_len,List.length_cons]; omega);have h6:oqL zeroO=(y::L).flatMap oqL:=h5.symm.trans h3;have h4:=congrArg (fun l:List Value=>l[1]?) h6;simp [oqL,zeroO] at h4
    rw [mayB] at hy;simp at hy
    omega
  ·exact .inr ⟨g,cap,cur,rfl,by rw [setN_other (oqL x) 0 hgb]; exact hg,h1,h2,h3⟩
theorem IsV.setO {W:World} {b:Nat} {m l:List Oq} {cs:List Value} (hB:Blk W b (oqL zeroO) 45) (h:IsV W m l cs) (hr:RmO l) (x:Oq):IsV (setN W b 0 (oqL x)) m l cs:=by
 obtain ⟨p,q,T,P,s,h1,h2,h3⟩:=h.ex;exact ⟨p,q,T,P,s,h1.kt (KT.setN (by decide) _ 0 hB) (KT.setN (by decide) _ 0 hB) (Nat.le_of_eq (setN_size _ 0).symm),Sl.setZ hB h2 hr x,h3⟩
theorem VOk.ins {m l:List Oq} {n:Nat} (h:VOk m l n) (site at_ ch:Int) (lo : -2147483648≤ch) (hi:ch≤2147483647):VOk (inT8 m l site at_ ch lo hi).1 (inT8 m l site at_ ch lo hi).2.1 (n+1):=by
 unfold inT8
 split
 ·exact h.more (by omega)
 ·exact h.rem _
theorem VOk.del {m l:List Oq} {n:Nat} (h:VOk m l n) (k:Int):VOk (deT8 m l k).1 (deT8 m l k).2.1 (n+1):=by
 unfold deT8
 split
 ·exact h.more (by omega)
 ·exact h.rem _
end Go.Proofs.YtkmcoineknbgcaaGreatDoor
