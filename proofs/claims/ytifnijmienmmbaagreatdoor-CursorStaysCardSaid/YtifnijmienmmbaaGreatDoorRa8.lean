import Derived.Test.YtifnijmienmmbaaGreatDoorVn8
set_option maxHeartbeats 12800000
namespace Go.Proofs.YtifnijmienmmbaaGreatDoor
open Go Go.Proofs Go.RowKit
theorem rkL_len (L:List El):rkL L (L.length:Int)=(L.map El.al).sum:=by unfold rkL; rw [Int.toNat_natCast,List.take_length]
theorem rkL_neg (L:List El) {i:Int} (h:i≤0):rkL L i=0:=by unfold rkL; rw [show i.toNat=0 by omega]; rfl
theorem refRank_any (L:List El) (i:Int) (v0:Value) (w:World) (hL:IsE w v0 L) (hl:L.length≤20000):
  Calls Tryz.prog 23 #[v0,i] w fun e w'=>e=.returned (.int .i64 (rkL L i:Int))∧Below w.heap.size w w':=by
 have HL:=Lh hL;obtain ⟨a,cap,rfl,hc1,hc2⟩:=Sl.form hL;clear hL;obtain ⟨R,hR⟩:∃ R:Nat,R=rkL L i:=⟨_,rfl⟩
 rw [←hR];have HR:=Lh hR;clear hR
 go_enter Tryz.func23,Tryz.ntmps23
 go_wp2_with fail
 go_loopg [5,6] L.length (fun g tn ti wr=>∃ k:Nat,k≤L.length∧k≤i.toNat∧g=L.length-k∧ti=.int .i64 (k:Int)∧tn=.int .i64 (((L.take k).map El.al).sum:Int)∧Below w.heap.size w wr)
 case atStart=>exact ⟨0,Nat.zero_le _,Nat.zero_le _,rfl,rfl,rfl,Below.refl _ _⟩
 case round=>
  obtain ⟨k,hk,hki,rfl,rfl,rfl,hB⟩:=hrel;by_cases hlt:k<L.length
  ·by_cases hi:(k:Int)<i
   ·obtain ⟨g,rfl,hg,hC⟩:=HL.out.at k hlt
    have HT:=Lh (alive_take hlt);have hsz:=alive_le (L.take k);generalize L[k]=x at *
    have hll:(L.take k).length≤20000:=by rw [List.length_take]; omega
    generalize ((L.take k).map El.al).sum=s at *
    have x3:=(hC wr hB).2.2.2;have HB:=Lh hB;clear hC hB
    cases hd:x.d with
    | true=>
     rw [hd] at x3;go_wp2_with fail
     go_roundg (L.length-(k+1))
     case measure=>omega
     case rel=>exact ⟨k+1,by omega,by omega,rfl,by go_num,by rw [HT.out]; simp [El.al,hd],HB.out⟩
    | false=>
     rw [hd] at x3;go_wp2_with fail
     go_roundg (L.length-(k+1))
     case measure=>omega
     case rel=>exact ⟨k+1,by omega,by omega,rfl,by go_num,by rw [HT.out]; simp [El.al,hd],HB.out⟩
   ·have HE:=Lh (show ((L.take k).map El.al).sum=R by rw [HR.out]; unfold rkL; rw [show i.toNat=k by omega])
    have hi2:decide ((k:Int)<i)=false:=decide_eq_false hi;clear hi;generalize ((L.take k).map El.al).sum=s at *
    go_wp2_with fail
    go_ret
    exact ⟨by rw [HE.out]; rfl,hB⟩
  ·obtain rfl:k=L.length:=by omega
   have HE:=Lh (show ((L.take L.length).map El.al).sum=R by rw [HR.out]; unfold rkL; rw [List.take_of_length_le hki,List.take_length]);generalize ((L.take L.length).map El.al).sum=s at *
   go_wp2_with fail
   go_ret
   exact ⟨by rw [HE.out]; rfl,hB⟩
theorem slL_le:∀ (L:List El) (k:Nat),slL L k≤L.length
 | [],_=>Nat.le_refl _
 | x::l,k=>by
  have h1:=slL_le l k;have h2:=slL_le l (k - 1);unfold slL
  simp only [List.length_cons]
  split
  ·omega
  ·split <;> omega
theorem refSelect_any (L:List El) (k0:Int) (hk0 : -9223372036854775808≤k0) (hk1:k0≤9223372036854775807) (v0:Value) (w:World) (hL:IsE w v0 L) (hl:L.length≤20000):
  Calls Tryz.prog 24 #[v0,k0] w fun e w'=>∃ r:Nat,e=.returned (.int .i64 (r:Int))∧r≤L.length∧(0≤k0→r=slL L k0.toNat)∧Below w.heap.size w w':=by
 have HL:=Lh hL;obtain ⟨a,cap,rfl,hc1,hc2⟩:=Sl.form hL;clear hL
 go_enter Tryz.func24,Tryz.ntmps24
 go_wp2_with fail
 go_loopg [1,5] L.length (fun g tk ti wr=>∃ (i:Nat) (q:Int),i≤L.length∧g=L.length-i∧ti=.int .i64 (i:Int)∧tk=.int .i64 q ∧ -9223372036854775808≤q∧q≤9223372036854775807∧Hid (0≤k0→0≤q∧slL L k0.toNat=i+slL (L.drop i) q.toNat)∧Below w.heap.size w wr)
 case atStart=>exact ⟨0,k0,Nat.zero_le _,rfl,rfl,rfl,hk0,hk1,Lh (fun h=>⟨h,by simp⟩),Below.refl _ _⟩
 case round=>
  obtain ⟨i,q,hi,rfl,rfl,rfl,hq0,hq1,HQ,hB⟩:=hrel;by_cases hlt:i<L.length
  ·obtain ⟨g,rfl,hg,hC⟩:=HL.out.at i hlt
   have HD:=Lh (List.drop_eq_getElem_cons hlt);generalize L[i]=x at *
   have x3:=(hC wr hB).2.2.2;have HB:=Lh hB;clear hC hB
   cases hd:x.d with
   | true=>
    have HQ2:Hid (0≤k0→0≤q∧slL L k0.toNat=(i+1:Nat)+slL (L.drop (i+1)) q.toNat):=Lh (fun h=>by
     obtain ⟨h1,h2⟩:=HQ.out h;refine ⟨h1,?_⟩;rw [h2,HD.out,slL,if_pos hd]; omega)
    rw [hd] at x3;clear HQ;go_wp2_with fail
    go_roundg (L.length-(i+1))
    case measure=>omega
    case rel=>exact ⟨i+1,q,by omega,rfl,by go_num,rfl,hq0,hq1,HQ2,HB.out⟩
   | false=>
    rw [hd] at x3;by_cases hz:q=0
    ·subst hz
     have HQ2:Hid (0≤k0→i=slL L k0.toNat):=Lh (fun h=>by
      obtain ⟨h1,h2⟩:=HQ.out h;rw [h2,HD.out,slL,if_neg (by simp [hd])]; simp)
     clear HQ;go_wp2_with fail
     go_ret
     exact ⟨i,rfl,by omega,HQ2.out,HB.out⟩
    ·by_cases hm:q = -9223372036854775808
     ·subst hm
      have HQ2:Hid (0≤k0→0≤(9223372036854775807:Int)∧slL L k0.toNat=(i+1:Nat)+slL (L.drop (i+1)) (9223372036854775807:Int).toNat):=Lh (fun h=>by have h1:=(HQ.out h).1; omega);clear HQ;go_wp2_with fail
      go_roundg (L.length-(i+1))
      case measure=>omega
      case rel=>exact ⟨i+1,9223372036854775807,by omega,rfl,by go_num,congrArg (Value.int .i64) (show wrap64 (-9223372036854775809)=9223372036854775807 by simp only [wrap64]; decide),by decide,by decide,HQ2,HB.out⟩
     ·have HQ2:Hid (0≤k0→0≤q - 1∧slL L k0.toNat=(i+1:Nat)+slL (L.drop (i+1)) (q - 1).toNat):=Lh (fun h=>by
       obtain ⟨h1,h2⟩:=HQ.out h;refine ⟨by omega,?_⟩;rw [h2,HD.out,slL,if_neg (by simp [hd]),if_neg (by omega),show (q - 1).toNat=q.toNat - 1 by omega]; omega)
      clear HQ;go_wp2_with fail
      go_roundg (L.length-(i+1))
      case measure=>omega
      case rel=>exact ⟨i+1,q - 1,by omega,rfl,by go_num,rfl,by omega,by omega,HQ2,HB.out⟩
  ·obtain rfl:i=L.length:=by omega
   have HQ2:Hid (0≤k0→L.length=slL L k0.toNat):=Lh (fun h=>by
    obtain ⟨h1,h2⟩:=HQ.out h;rw [h2,List.drop_length]; rfl)
   clear HQ;go_wp2_with fail
   go_ret
   exact ⟨L.length,rfl,Nat.le_refl _,HQ2.out,hB⟩
end Go.Proofs.YtifnijmienmmbaaGreatDoor
