import Derived.Test.YtgpfbgmdahmpkaaVt13
import Derived.Deep.DeepCutAuto
set_option maxRecDepth 100000
set_option maxHeartbeats 12800000
namespace Go.Proofs.Ytgpfbgmdahmpkaa
open Go Go.Proofs Go.RowKit
def OwnL (B:Nat) (W:World) (v:Value) (A:List Int):Prop:=∃ ad cap,v=.slice ad A.length cap∧A.length≤cap∧cap≤9223372036854775807 ∧
 (A≠[]→∃ b off cells t,ad=some ⟨b,off,none⟩∧B≤b∧Blk W b cells t∧∀ j (hj:j<A.length),cells[off+j]? = some (.int .i64 A[j]))
theorem OwnL.isL {B:Nat} {W:World} {v:Value} {A:List Int} (h:OwnL B W v A):IsL W v A:=by
 obtain ⟨ad,cap,e,h1,h2,h3⟩:=h;refine ⟨ad,cap,e,h1,h2,fun hA=>?_⟩;obtain ⟨b,off,cells,t,e2,_,hb,hc⟩:=h3 hA;exact ⟨b,off,e2,hb.lt,fun j hj=>hb.cell _ (hc j hj)⟩
theorem OwnL.next {B:Nat} {W W':World} {v:Value} {A:List Int} (h:OwnL B W v A) (hb:Below W.heap.size W W'):OwnL B W' v A:=by
 obtain ⟨ad,cap,e,h1,h2,h3⟩:=h;refine ⟨ad,cap,e,h1,h2,fun hA=>?_⟩;obtain ⟨b,off,cells,t,e2,h4,hB,hc⟩:=h3 hA;exact ⟨b,off,cells,t,e2,h4,hB.next hb,hc⟩
theorem OwnL.mono {B B':Nat} {W:World} {v:Value} {A:List Int} (h:OwnL B W v A) (hB:B'≤B):OwnL B' W v A:=by
 obtain ⟨ad,cap,e,h1,h2,h3⟩:=h;refine ⟨ad,cap,e,h1,h2,fun hA=>?_⟩;obtain ⟨b,off,cells,t,e2,h4,r⟩:=h3 hA;exact ⟨b,off,cells,t,e2,Nat.le_trans hB h4,r⟩
def atL (A:List Int) (i:Int):Int:=if 0≤i then A.getD i.toNat 0 else 0
def MedA (A:List Int):Prop:=A.length≤16∧∀ x∈A,0≤x∧x≤2199023255552
theorem MayA.med {A:List Int} (h:MayA A):MedA A:=⟨h.1,fun x hx=>⟨(h.2 x hx).1,by have:=(h.2 x hx).2; omega⟩⟩
def VAtOk:Prop:=∀ (A:List Int) (v:Value) (i:Int) (w:World),-9223372036854775808≤i→i≤9223372036854775807→MedA A→IsL w v A→Calls Try.prog 17 #[v,.int .i64 i] w fun e w'=>e=.returned (.int .i64 (atL A i))∧Below w.heap.size w w'
def VTickOk:Prop:=∀ (A:List Int) (v:Value) (i:Int) (w:World),-9223372036854775808≤i→i≤9223372036854775807→MedA A→IsL w v A→Calls Try.prog 8 #[v,.int .i64 i] w fun e w'=>∃ u T,e=.returned u∧T.length≤16∧pad T=tickL (pad A) i∧OwnL w.heap.size w' u T∧Below w.heap.size w w'
def VJoinOk:Prop:=∀ (A B:List Int) (v u:Value) (w:World),MedA A→MedA B→IsL w v A→IsL w u B→Calls Try.prog 9 #[v,u] w fun e w'=>∃ x T,e=.returned x∧T.length≤16∧pad T=joinL (pad A) (pad B)∧OwnL w.heap.size w' x T∧Below w.heap.size w w'
def VLeqOk:Prop:=∀ (A B:List Int) (v u:Value) (w:World),MedA A→MedA B→IsL w v A→IsL w u B→Calls Try.prog 13 #[v,u] w fun e w'=>e=.returned (.bool (leqL (pad A) (pad B)))∧Below w.heap.size w w'
def VSameOk:Prop:=∀ (A B:List Int) (v u:Value) (w:World),MedA A→MedA B→IsL w v A→IsL w u B→Calls Try.prog 15 #[v,u] w fun e w'=>e=.returned (.bool (decide (pad A=pad B)))∧Below w.heap.size w w'
structure VCAll:Prop where
 at_:VAtOk
 tick:VTickOk
 join:VJoinOk
 leq:VLeqOk
 same:VSameOk
theorem pad_at {A:List Int} (_:A.length≤16) (k:Nat):(pad A).getD k 0=A.getD k 0:=by
 unfold pad
 rw [List.getD_eq_getElem?_getD,List.getD_eq_getElem?_getD];by_cases hk:k<A.length
 ·rw [List.getElem?_append_left hk]
 ·rw [List.getElem?_append_right (by omega),List.getElem?_eq_none (by omega:A.length≤k)]
  cases h2:(List.replicate (16-A.length) (0:Int))[k-A.length]? with
  | none=>rfl
  | some x=>rw [List.getElem?_replicate] at h2; split at h2 <;> simp_all
theorem ext16 {M N:List Int} (hM:M.length=16) (hN:N.length=16) (h:∀ j,j<16→M.getD j 0=N.getD j 0):M=N:=by
 refine List.ext_getElem (by omega) fun j h1 h2=>?_
 have:=h j (by omega)
 rwa [List.getD_eq_getElem?_getD,List.getD_eq_getElem?_getD,List.getElem?_eq_getElem h1,List.getElem?_eq_getElem h2] at this
theorem is13_any (hAt:VAtOk) (A M:List Int) (hA:MedA A) (hM:M.length=16) (v:Value) (w:World) (h:IsL w v A):
  Calls Try.prog 10 #[v,.agg ⟨arL M⟩] w fun e w'=>e=.returned (.bool (decide (pad A=M)))∧Below w.heap.size w w':=by
 have HL:=Lh h;have HAT:=Lh (fun i h1 h2 v W hv=>hAt A v i W h1 h2 hA hv);have hp:=pad_len hA.1;have H0:=Lh (And.intro ((Below.refl w.heap.size w).alloc (Nat.le_refl _) (.cells ⟨arL M⟩ 27)) (Blk.start w (arL M) 27));have HP:=Lh (fun k=>pad_at hA.1 k);have HPA:=Lh hp;clear h hAt hp
 go_enter Try.func10,Try.ntmps10
 go_wp2_with fail
 go_loopg [5] 18 (fun g ti wr=>∃ i:Int,-1≤i∧i≤17∧g=(17-i).toNat∧ti=.int .i64 i∧Hid (∀ j:Nat,j<16→(j:Int)<i→(pad A).getD j 0=M.getD j 0)∧Below w.heap.size w wr∧Blk wr w.heap.size (arL M) 27)
 case atStart=>exact ⟨-1,by omega,by omega,rfl,rfl,Lh (fun j _ hj=>by omega),H0.out⟩
 case round=>
  obtain ⟨i,hi1,hi2,rfl,rfl,HT,hb,hBM⟩:=hrel;clear H0;by_cases hlt:i<17
  ·have HV:=Lh (HL.out.next hb)
   have HQ:=Lh (HAT.out i (by omega) (by omega));have hw1:IntKind.i64.wrap (i+1)=i+1:=IntWalk.i64_in _ (by omega);by_cases h0:0≤i
   ·by_cases h16:i<16
    ·obtain ⟨k,rfl⟩:∃ k:Nat,i=(k:Int):=⟨i.toNat,by omega⟩
     have hk16:k<16:=by omega
     have hm:=ar_cell hBM k (by omega);have HE:=Lh (show atL A (k:Int)=(pad A).getD k 0 by unfold atL; rw [if_pos h0,Int.toNat_natCast,HP.out]);rw [HE.out] at HQ;have HX:=Lh (fun (h:(pad A).getD k 0≠M.getD k 0)=>show decide (pad A=M)=false from decide_eq_false (fun e=>h (by rw [e])));have HY:=Lh (fun (h:(pad A).getD k 0=M.getD k 0)=>show ∀ j:Nat,j<16→(j:Int)<(k:Int)+1→(pad A).getD j 0=M.getD j 0 by
      intro j hj hjk
      by_cases e:j=k
      ·subst e; exact h
      ·exact HT.out j hj (by omega))
     have HB:=Lh (And.intro hb hBM);clear HE hb hBM HL HAT HP HT;generalize (pad A).getD k 0=x at *
     generalize M.getD k 0=y at *
     by_cases hc:x=y
     ·have HN:=Lh (HY.out hc)
      clear HX HY;subst hc;go_wp2_with (go_at_call 17; refine (HQ.out _ _ HV.out).mono ?_; rintro e w5 ⟨rfl,hb5⟩)
      go_roundg (17-((k:Int)+1)).toNat
      case measure=>omega
      case rel=>exact ⟨(k:Int)+1,by omega,by omega,rfl,by go_num,HN,HB.out.1.trans (hb5.mono HB.out.1.size),HB.out.2.next hb5⟩
     ·have HN:=Lh (HX.out hc)
      have hne:(x != y)=true:=by simpa using hc
      clear HX HY;go_wp2_with (go_at_call 17; refine (HQ.out _ _ HV.out).mono ?_; rintro e w5 ⟨rfl,hb5⟩)
      go_ret
      exact ⟨by rw [HN.out]; rfl,HB.out.1.trans (hb5.mono HB.out.1.size)⟩
    ·obtain rfl:i=16:=by omega
     have HE:=Lh (show atL A 16=0 by unfold atL; rw [if_pos (by omega)]; show A.getD 16 0=0; rw [List.getD_eq_getElem?_getD,List.getElem?_eq_none (by have:=hA.1; omega)]; rfl);rw [HE.out] at HQ;have HN:=Lh (show ∀ j:Nat,j<16→(j:Int)<17→(pad A).getD j 0=M.getD j 0 from fun j hj _=>HT.out j hj (by omega));have HB:=Lh (And.intro hb hBM);clear HE hb hBM HL HAT HP HT;go_wp2_with (go_at_call 17; refine (HQ.out _ _ HV.out).mono ?_; rintro e w5 ⟨rfl,hb5⟩)
     go_roundg 0
     case measure=>omega
     case rel=>exact ⟨17,by omega,by omega,rfl,by go_num,HN,HB.out.1.trans (hb5.mono HB.out.1.size),HB.out.2.next hb5⟩
   ·obtain rfl:i = -1:=by omega
    have HE:=Lh (show atL A (-1)=0 by unfold atL; rw [if_neg (by omega)]);rw [HE.out] at HQ;have HN:=Lh (show ∀ j:Nat,j<16→(j:Int)<0→(pad A).getD j 0=M.getD j 0 from fun j hj _=>HT.out j hj (by omega));have HB:=Lh (And.intro hb hBM);clear HE hb hBM HL HAT HP HT;go_wp2_with (go_at_call 17; refine (HQ.out _ _ HV.out).mono ?_; rintro e w5 ⟨rfl,hb5⟩)
    go_roundg 17
    case measure=>omega
    case rel=>exact ⟨0,by omega,by omega,rfl,by go_num,HN,HB.out.1.trans (hb5.mono HB.out.1.size),HB.out.2.next hb5⟩
  ·obtain rfl:i=17:=by omega
   have HN:=Lh (show decide (pad A=M)=true from decide_eq_true (ext16 HPA.out hM fun j hj=>HT.out j hj (by omega)));clear HT;go_wp2_with fail
   go_ret
   exact ⟨by rw [HN.out]; rfl,hb⟩
end Go.Proofs.Ytgpfbgmdahmpkaa
