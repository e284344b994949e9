import Derived.Test.YtjilpbmehipagaaVw13
import Derived.Test.YtjilpbmehipagaaCn13
set_option maxRecDepth 100000
set_option maxHeartbeats 12800000
namespace Go.Proofs.Ytjilpbmehipagaa
open Go Go.Proofs Go.RowKit
theorem atL_nat {A:List Int} (k:Nat):atL A (k:Int)=A.getD k 0:=by unfold atL; rw [if_pos (by omega),Int.toNat_natCast]
theorem vat_ok:VAtOk:=by
 intro A v i w hi0 hi1 hA h
 obtain ⟨ad,cap,rfl,h1,h2,h3⟩:=h;have hl:=hA.1
 go_enter Try.func27,Try.ntmps27
 by_cases c1:i<0
 ·have HE:=Lh (show atL A i=0 from if_neg (by omega))
  clear h3;go_wp2_with fail
  go_ret
  exact ⟨by rw [HE.out]; rfl,Below.refl _ _⟩
 obtain ⟨k,rfl⟩:∃ k:Nat,i=(k:Int):=⟨i.toNat,by omega⟩
 have HE:=Lh (atL_nat (A:=A) k);by_cases c2:k<A.length
 ·obtain ⟨b,off,rfl,hb,hc⟩:=h3 (fun e=>by rw [e] at c2; cases c2)
  have hk:=hc k c2;have HG:=Lh (show A.getD k 0=A[k] by rw [List.getD_eq_getElem?_getD,List.getElem?_eq_getElem c2]; rfl);generalize A[k]=x at *
  clear h3 hc;go_wp2_with fail
  go_ret
  exact ⟨by rw [HE.out,HG.out]; rfl,Below.refl _ _⟩
 ·have HG:=Lh (show A.getD k 0=0 by rw [List.getD_eq_getElem?_getD,List.getElem?_eq_none (by omega)]; rfl)
  clear h3;go_wp2_with fail
  go_ret
  exact ⟨by rw [HE.out,HG.out]; rfl,Below.refl _ _⟩
theorem vleq_ok:VLeqOk:=by
 intro A B v u w hA hB h hu
 have HU:=Lh (fun i h0 h1 W (hb:Below w.heap.size w W)=>vat_ok B u i W h0 h1 hB (hu.next hb));have HW:=Lh (fun i h0 h1 W (hb:Below w.heap.size w W)=>vat_ok A v i W h0 h1 hA (h.next hb));obtain ⟨ad,cap,rfl,h1,h2,-⟩:=h;obtain ⟨bd,cap2,rfl,g1,g2,-⟩:=hu;have hl:=hA.1;have hl2:=hB.1;have HPA:=Lh (fun k=>pad_at hA.1 k);have HPB:=Lh (fun k=>pad_at hB.1 k);obtain ⟨n,hna,hnb,hn16,hnc⟩:∃ n,A.length≤n∧B.length≤n∧n≤16∧(A.length<B.length∧n=B.length∨B.length≤A.length∧n=A.length):=by
  by_cases e:A.length<B.length
  ·exact ⟨B.length,by omega,Nat.le_refl _,hl2,.inl ⟨e,rfl⟩⟩
  ·exact ⟨A.length,Nat.le_refl _,by omega,hl,.inr ⟨by omega,rfl⟩⟩
 obtain ⟨nn,hnn⟩:∃ nn,nn=n:=⟨_,rfl⟩
 have HN:=Lh (And.intro hnn (And.intro hna (And.intro hnb hn16)));clear hnn
 go_enter Try.func18,Try.ntmps18
 rcases hnc with ⟨hle,rfl⟩ | ⟨hle,rfl⟩
 all_goals
  go_wp2_with fail
  go_loopg [11] nn (fun g t11 wr=>∃ k:Nat,k≤nn∧g=nn-k∧t11=.int .i64 (k:Int)∧Hid (∀ j,j<k→A.getD j 0≤B.getD j 0)∧Below w.heap.size w wr)
  case atStart=>exact ⟨0,Nat.zero_le _,rfl,rfl,Lh (fun j hj=>by omega),Below.refl _ _⟩
  case round=>
   obtain ⟨k,hk,rfl,rfl,HT,hb⟩:=hrel;by_cases hlt:k<nn
   ·have hlt2:=hlt
    rw [HN.out.1] at hlt2;have hk16:k<16:=by have:=HN.out.2.2.2; omega
    have HAA:=Lh (fun W hb=>HW.out (k:Int) (by omega) (by omega) W hb);have HAT:=Lh (fun W hb=>HU.out (k:Int) (by omega) (by omega) W hb);rw [atL_nat] at HAT HAA;have HX:=Lh (fun (h:B.getD k 0<A.getD k 0)=>show leqL (pad A) (pad B)=false by
     rw [←Bool.not_eq_true,leq_iff]; intro h2; have h3:=h2 k hk16; rw [HPA.out,HPB.out] at h3; omega)
    have HY:=Lh (fun (h:A.getD k 0≤B.getD k 0)=>show ∀ j,j<k+1→A.getD j 0≤B.getD j 0 by
     intro j hj
     by_cases e:j=k
     ·subst e; omega
     ·exact HT.out j (by omega))
    have HB:=Lh hb;generalize A.getD k 0=x at *
    generalize B.getD k 0=y at *
    clear hb;by_cases hc:y<x
    ·have HN:=Lh (HX.out hc)
     go_wp2_with (go_at_call 27; first | (refine (HAA.out _ HB.out).mono ?_; clear HAA; rintro e w1 ⟨rfl,hb1⟩; have H2:=Lh (HB.out.trans (hb1.mono HB.out.size)); clear HB hb1) | (refine (HAT.out _ H2.out).mono ?_; clear HAT; rintro e w2 ⟨rfl,hb2⟩; have H3:=Lh (H2.out.trans (hb2.mono H2.out.size)); clear hb2))
     go_ret
     exact ⟨by rw [HN.out]; rfl,H3.out⟩
    ·have hc2:x≤y:=by omega
     have HN:=Lh (HY.out hc2);clear hc;go_wp2_with (go_at_call 27; first | (refine (HAA.out _ HB.out).mono ?_; clear HAA; rintro e w1 ⟨rfl,hb1⟩; have H2:=Lh (HB.out.trans (hb1.mono HB.out.size)); clear HB hb1) | (refine (HAT.out _ H2.out).mono ?_; clear HAT; rintro e w2 ⟨rfl,hb2⟩; have H3:=Lh (H2.out.trans (hb2.mono H2.out.size)); clear hb2))
     go_roundg (nn-(k+1))
     case measure=>omega
     case rel=>exact ⟨k+1,by omega,rfl,by go_num,HN,H3.out⟩
   ·obtain rfl:k=nn:=by omega
    have HF:=Lh (show leqL (pad A) (pad B)=true from leq_of fun j _=>by
     rw [HPA.out,HPB.out];by_cases e:j<k
     ·exact HT.out j e
     ·have h1:=HN.out.1
      have h2:=HN.out.2.1;have h3:=HN.out.2.2.1;rw [List.getD_eq_getElem?_getD,List.getElem?_eq_none (by omega),List.getD_eq_getElem?_getD,List.getElem?_eq_none (by omega)];exact Int.le_refl _)
    have hkn:=HN.out.1;go_wp2_with fail
    go_ret
    exact ⟨by rw [HF.out]; rfl,hb⟩
theorem vsame_ok:VSameOk:=by
 intro A B v u w hA hB h hu
 have q1:=Lh (vleq_ok A B v u w hA hB h hu);have q2:=Lh (fun W (hb:Below w.heap.size w W)=>onto hb (vleq_ok B A u v W hB hA (hu.next hb) (h.next hb)));have HE:=Lh (show decide (pad A=pad B)=(leqL (pad A) (pad B)&&leqL (pad B) (pad A)) by
  rw [Bool.eq_iff_iff,Bool.and_eq_true,decide_eq_true_eq,leq_iff,leq_iff];exact ⟨fun e=>by rw [e]; exact ⟨fun _ _=>Int.le_refl _,fun _ _=>Int.le_refl _⟩,fun ⟨a,b⟩=>ext16 (pad_len hA.1) (pad_len hB.1) fun j hj=>by have:=a j hj; have:=b j hj; omega⟩)
 generalize leqL (pad A) (pad B)=z1 at *
 generalize leqL (pad B) (pad A)=z2 at *
 clear h hu
 go_enter Try.func24,Try.ntmps24
 cases z1 <;> cases z2
 all_goals
  go_wp2_with (go_at_call 18; first | (refine q1.out.mono ?_; clear q1; rintro e w1 ⟨rfl,hb⟩) | (refine (q2.out _ hb).mono ?_; rintro e w2 ⟨rfl,hb⟩))
  go_ret
  exact ⟨by rw [HE.out]; rfl,hb⟩
theorem getD_rep (A:List Int) (m j:Nat):(A++List.replicate m 0).getD j 0=A.getD j 0:=by
 rw [List.getD_eq_getElem?_getD,List.getD_eq_getElem?_getD];by_cases hj:j<A.length
 ·rw [List.getElem?_append_left hj]
 ·rw [List.getElem?_append_right (by omega),List.getElem?_replicate,List.getElem?_eq_none (by omega:A.length≤j)]
  split <;> rfl
theorem own_blk {B:Nat} {W:World} {g cap:Nat} {T:List Int} {t:TypeId} (hB:Blk W g (arL T) t) (hg:B≤g) (h1:T.length≤cap) (h2:cap≤9223372036854775807):OwnL B W (.slice (some ⟨g,0,none⟩) T.length cap) T:=
 ⟨_,_,rfl,h1,h2,fun _=>⟨g,0,_,t,rfl,hg,hB,fun j hj=>by rw [Nat.zero_add,List.getElem?_map,List.getElem?_eq_getElem hj]; rfl⟩⟩
theorem vown_ok (A:List Int) (v:Value) (n:Nat) (w:World) (h:IsL w v A) (hl:A.length≤n) (hn:n≤16):Calls Try.prog 29 #[v,.int .i64 (n:Int)] w fun e w'=>e=.returned (.slice (some ⟨w.heap.size,0,none⟩) n n)∧Blk w' w.heap.size (arL (A++List.replicate (n-A.length) 0)) 3∧Below w.heap.size w w':=by
 have hmk:=mk_nums n (by omega) w;have hB1:=Blk.start w (arL (List.replicate n 0)) 3;have hb1:Below w.heap.size w (w.alloc (.cells ⟨arL (List.replicate n 0)⟩ 3)):=bA;generalize w.alloc (.cells ⟨arL (List.replicate n 0)⟩ 3)=W1 at *
 obtain ⟨W2,r,hcp,hB2,hbel,hsz⟩:=cp_nums (n:=n) (h.next hb1) hB1 (by simp) hl;rw [List.drop_replicate] at hB2;have HO:=Lh (And.intro hB2 (hbel _ _ (Nat.le_refl _) hb1));have HCP:=Lh hcp;clear hB1 hb1 hcp hB2 hbel hsz;obtain ⟨ad,cap,rfl,h1,h2,-⟩:=h
 go_enter Try.func29,Try.ntmps29
 go_wp2_with (refine wpl_cpy (by rfl) (by rfl) (by rfl) (by rfl) (HCP.out _) ?_)
 go_ret
 exact ⟨rfl,HO.out.1,HO.out.2⟩
theorem vtick_ok:VTickOk:=by
 intro A v i w hi0 hi1 hA h
 have hl:=hA.1;have HPA:=Lh (pad_len hl);have HV:=Lh hA.2;have hform:=h;obtain ⟨ad,cap,rfl,h1,h2,-⟩:=hform;have HI:=Lh h;clear h
 go_enter Try.func26,Try.ntmps26
 by_cases c1:0≤i∧i<16
 ·obtain ⟨k,rfl⟩:∃ k:Nat,i=(k:Int):=⟨i.toNat,by omega⟩
  have hk16:k<16:=by omega
  obtain ⟨n,hn,hn16,hkn,hnc⟩:∃ n,A.length≤n∧n≤16∧k<n∧((A.length<k+1∧n=k+1)∨(k+1≤A.length∧n=A.length)):=by
   by_cases e:k<A.length
   ·exact ⟨A.length,Nat.le_refl _,hl,e,.inr ⟨e,rfl⟩⟩
   ·exact ⟨k+1,by omega,by omega,by omega,.inl ⟨by omega,rfl⟩⟩
  have HOWN:=Lh (fun W (hb:Below w.heap.size w W)=>vown_ok A _ n W (HI.out.next hb) hn hn16);have HX:=Lh (show A.getD k 0≤2199023255552∧0≤A.getD k 0 by
   by_cases e:k<A.length
   ·exact (HV.out _ (getD_mem e)).symm
   ·rw [List.getD_eq_getElem?_getD,List.getElem?_eq_none (by omega)]; exact ⟨by decide,Int.le_refl _⟩)
  have hw1:IntKind.i64.wrap (A.getD k 0+1)=A.getD k 0+1:=IntWalk.i64_in _ (by have:=HX.out; omega);have hwk:IntKind.i64.wrap ((k:Int)+1)=(k:Int)+1:=IntWalk.i64_in _ (by omega);have HALL:=Lh (fun (W2:World) (hB2:Blk W2 w.heap.size (arL (A++List.replicate (n-A.length) 0)) 3) (hbel:Below w.heap.size w W2)=>show W2.cell? ⟨w.heap.size,k,none⟩=some (.int .i64 (A.getD k 0))∧W2.frozen? ⟨w.heap.size,k,none⟩=false∧∃ T:List Int,T.length=n∧pad T=tickL (pad A) (k:Int)∧OwnL w.heap.size (W2.setCell ⟨w.heap.size,k,none⟩ (.int .i64 (A.getD k 0+1))) (.slice (some ⟨w.heap.size,0,none⟩) n n) T∧Below w.heap.size w (W2.setCell ⟨w.heap.size,k,none⟩ (.int .i64 (A.getD k 0+1))) by
   have hlen:(A++List.replicate (n-A.length) 0).length=n:=by simp; omega
   have hcell:=ar_cell hB2 k (by rw [hlen]; exact hkn);rw [getD_rep] at hcell;have hB3:=hB2.set k (.int .i64 (A.getD k 0+1));have hset:(arL (A++List.replicate (n-A.length) 0)).set k (.int .i64 (A.getD k 0+1))=arL ((A++List.replicate (n-A.length) 0).set k (A.getD k 0+1)):=by simp [arL,List.map_set]
   rw [hset] at hB3;have hlen3:((A++List.replicate (n-A.length) 0).set k (A.getD k 0+1)).length=n:=by rw [List.length_set,hlen]
   refine ⟨hcell,hB2.free k,_,hlen3,?_,?_,hbel.setCell (p:=⟨w.heap.size,k,none⟩) (Nat.le_refl _) _⟩
   ·refine ext16 (pad_len (by omega)) (tick_len HPA.out _) fun j hj=>?_
    rw [pad_at (by omega),tick_at HPA.out (by omega) (by omega) j hj,Int.toNat_natCast,pad_at hl];by_cases e:j=k
    ·subst e
     rw [if_pos rfl,List.getD_eq_getElem?_getD,List.getElem?_set_self (by omega)]; rfl
    ·rw [if_neg e,List.getD_eq_getElem?_getD,List.getElem?_set_ne (by omega),←List.getD_eq_getElem?_getD,getD_rep]
   ·have ho:=own_blk (B:=w.heap.size) (cap:=n) hB3 (Nat.le_refl _) (by omega) (by omega)
    rwa [hlen3] at ho)
  clear HX HPA HI HV;generalize A.getD k 0=x at *
  have HN:=Lh hn16;rcases hnc with ⟨hc,hnc⟩ | ⟨hc,hnc⟩
  ·have hkn1:(k:Int)+1=(n:Int):=by omega
   clear hnc;go_wp2_with (go_at_call 29; refine (HOWN.out _ (Below.refl _ _)).mono ?_; rintro e w1 ⟨rfl,hB,hb⟩; obtain ⟨hcell,hf,T,hT⟩:=HALL.out _ hB hb; have HT:=Lh hT; clear hT hB hb HALL)
   go_ret
   exact ⟨_,T,rfl,by have:=HT.out.1; have:=HN.out; omega,HT.out.2.1,HT.out.2.2.1,HT.out.2.2.2⟩
  ·subst hnc
   go_wp2_with (go_at_call 29; refine (HOWN.out _ (Below.refl _ _)).mono ?_; rintro e w1 ⟨rfl,hB,hb⟩; obtain ⟨hcell,hf,T,hT⟩:=HALL.out _ hB hb; have HT:=Lh hT; clear hT hB hb HALL)
   go_ret
   exact ⟨_,T,rfl,by have:=HT.out.1; have:=HN.out; omega,HT.out.2.1,HT.out.2.2.1,HT.out.2.2.2⟩
 ·have HOWN:=Lh (fun W (hb:Below w.heap.size w W)=>vown_ok A _ A.length W (HI.out.next hb) (Nat.le_refl _) hl)
  have HP:=Lh (show pad A=tickL (pad A) i from (if_neg c1).symm);have HO:=Lh (fun (W:World) (h:Blk W w.heap.size (arL (A++List.replicate (A.length-A.length) 0)) 3)=>show OwnL w.heap.size W (.slice (some ⟨w.heap.size,0,none⟩) A.length A.length) A by
   rw [Nat.sub_self,List.replicate_zero,List.append_nil] at h;exact own_blk (B:=w.heap.size) (cap:=A.length) h (Nat.le_refl _) (Nat.le_refl _) (by omega))
  clear HI HV HPA;have hd:(decide (i<0)||decide (16≤i))=true:=by simp; omega
  by_cases c2:0≤i
  ·have c3:16≤i:=by omega
   clear c1 hd;go_wp2_with (go_at_call 29; refine (HOWN.out _ (Below.refl _ _)).mono ?_; rintro e w1 ⟨rfl,hB,hb⟩; have HB:=Lh hB; clear hB)
   go_ret
   exact ⟨_,A,rfl,hl,HP.out,HO.out _ HB.out,hb⟩
  ·have c3:i<0:=by omega
   clear c1 c2 hd;go_wp2_with (go_at_call 29; refine (HOWN.out _ (Below.refl _ _)).mono ?_; rintro e w1 ⟨rfl,hB,hb⟩; have HB:=Lh hB; clear hB)
   go_ret
   exact ⟨_,A,rfl,hl,HP.out,HO.out _ HB.out,hb⟩
theorem getD_nn {A:List Int} (h:MedA A) (j:Nat):0≤A.getD j 0:=by
 by_cases e:j<A.length
 ·exact (h.2 _ (getD_mem e)).1
 ·rw [List.getD_eq_getElem?_getD,List.getElem?_eq_none (by omega)]; exact Int.le_refl _
def Jk (A B E:List Int) (n k:Nat):Prop:=E.length=n∧∀ j,j<n→E.getD j 0=if j<k then (if A.getD j 0<B.getD j 0 then B.getD j 0 else A.getD j 0) else A.getD j 0
theorem Jk.put {A B E:List Int} {n k:Nat} (h:Jk A B E n k) (hk:k<n):Jk A B (E.set k (if A.getD k 0<B.getD k 0 then B.getD k 0 else A.getD k 0)) n (k+1):=by
 refine ⟨by rw [List.length_set]; exact h.1,fun j hj=>?_⟩;by_cases e:k=j
 ·subst e
  rw [List.getD_eq_getElem?_getD,List.getElem?_set_self (by rw [h.1]; exact hk),if_pos (by omega:k<k+1)]; rfl
 ·rw [List.getD_eq_getElem?_getD,List.getElem?_set_ne e,←List.getD_eq_getElem?_getD,h.2 j hj]
  by_cases e2:j<k
  ·simp only [if_pos e2,if_pos (show j<k+1 by omega)]
  ·simp only [if_neg e2,if_neg (show ¬ j<k+1 by omega)]
theorem Jk.pad {A B E:List Int} {n:Nat} (hA:MedA A) (hB:MedA B) (h:Jk A B E n n) (hn:n≤16) (hb:B.length≤n) (ha:A.length≤n):pad E=joinL (pad A) (pad B):=by
 have hl:=h.1;refine ext16 (pad_len (by omega)) (join_len (pad_len hA.1) (pad_len hB.1)) fun j hj=>?_
 rw [pad_at (by omega),join_at (pad_len hA.1) (pad_len hB.1) hj,pad_at hA.1,pad_at hB.1];by_cases e:j<n
 ·rw [h.2 j e,if_pos e]
 ·have he:E.getD j 0=0:=by rw [List.getD_eq_getElem?_getD,List.getElem?_eq_none (by omega)]; rfl
  have ha0:A.getD j 0=0:=by rw [List.getD_eq_getElem?_getD,List.getElem?_eq_none (by omega)]; rfl
  have hb0:B.getD j 0=0:=by rw [List.getD_eq_getElem?_getD,List.getElem?_eq_none (by omega)]; rfl
  rw [he,ha0,hb0,if_neg (by omega)]
theorem vjoin_ok:VJoinOk:=by
 intro A B v u w hA hB h hu
 have ha:=hA.1;have hb:=hB.1;have HI:=Lh h;have HU:=Lh (fun i h0 h1 W (hb:Below w.heap.size w W)=>vat_ok B u i W h0 h1 hB (hu.next hb));obtain ⟨ad,cap,rfl,h1,h2,-⟩:=h;obtain ⟨bd,cap2,rfl,g1,g2,-⟩:=hu;obtain ⟨n,hna,hnb,hn16,hnc⟩:∃ n,A.length≤n∧B.length≤n∧n≤16∧(A.length<B.length∧n=B.length∨B.length≤A.length∧n=A.length):=by
  by_cases e:A.length<B.length
  ·exact ⟨B.length,by omega,Nat.le_refl _,hb,.inl ⟨e,rfl⟩⟩
  ·exact ⟨A.length,Nat.le_refl _,by omega,ha,.inr ⟨by omega,rfl⟩⟩
 have HOWN:=Lh (fun W (hb:Below w.heap.size w W)=>vown_ok A _ n W (HI.out.next hb) hna hn16);have hj:Jk A B (A++List.replicate (n-A.length) 0) n 0:=⟨by simp; omega,fun j _=>by rw [getD_rep,if_neg (Nat.not_lt_zero _)]⟩
 have HJ0:=Lh hj;have HA:=Lh (And.intro hA hB);clear hj HI hA hB;generalize A++List.replicate (n-A.length) 0=E0 at *
 obtain ⟨nn,hnn⟩:∃ nn,nn=n:=⟨_,rfl⟩
 rw [←hnn] at HJ0;have HN:=Lh (And.intro hnn (And.intro hna (And.intro hnb hn16)));clear hnn
 go_enter Try.func23,Try.ntmps23
 rcases hnc with ⟨hle,rfl⟩ | ⟨hle,rfl⟩
 ·go_wp2_with (go_at_call 29; refine (HOWN.out _ (Below.refl _ _)).mono ?_; rintro e w1 ⟨rfl,hB,hb⟩; have HB2:=Lh hB; have HBL:=Lh hb; clear hB hb HOWN)
  go_loopg [17] nn (fun g t17 wr=>∃ k:Nat,k≤nn∧g=nn-k∧t17=.int .i64 (k:Int)∧Below w.heap.size w wr∧∃ E,Jk A B E nn k∧Blk wr w.heap.size (arL E) 3)
  case atStart=>exact ⟨0,Nat.zero_le _,rfl,rfl,HBL.out,E0,HJ0.out,HB2.out⟩
  case round=>
   obtain ⟨k,hk,rfl,rfl,hbel,E,hJ,hE⟩:=hrel;clear HJ0 HB2 HBL;by_cases hkn:k<nn
   ·have hlt2:=hkn
    rw [HN.out.1] at hlt2;have hk16:k<16:=by have:=HN.out.2.2.2; omega
    have HAT:=Lh (fun W hb=>HU.out (k:Int) (by omega) (by omega) W hb);rw [atL_nat] at HAT;have HZ:=Lh (hJ.put hkn);have HS:=Lh (fun (W:World) (z:Int) (h:Blk W w.heap.size (arL E) 3)=>show Blk (W.setCell ⟨w.heap.size,k,none⟩ (.int .i64 z)) w.heap.size (arL (E.set k z)) 3 by
     have h:=h.set k (.int .i64 z); rwa [show (arL E).set k (.int .i64 z)=arL (E.set k z) by simp [arL,List.map_set]] at h)
    have HC:=Lh (fun (W:World) (h:Blk W w.heap.size (arL E) 3)=>show W.cell? ⟨w.heap.size,k,none⟩=some (.int .i64 (A.getD k 0))∧W.frozen? ⟨w.heap.size,k,none⟩=false by
     have hcE:=ar_cell h k (by rw [hJ.1]; exact hkn);rw [hJ.2 k hkn,if_neg (Nat.lt_irrefl k)] at hcE;exact ⟨hcE,h.free k⟩)
    have HE1:=Lh (bDN (n:=1) hbel);have HE:=Lh (show Blk wr.drew w.heap.size (arL E) 3 from hE.drew);clear hbel hE hJ;generalize A.getD k 0=x at *
    generalize B.getD k 0=y at *
    obtain ⟨z,hz,hzz⟩:∃ z,(if x<y then y else x)=z∧((x<y∧z=y)∨(y≤x∧z=x)):=by
     by_cases e:x<y
     ·exact ⟨y,if_pos e,.inl ⟨e,rfl⟩⟩
     ·exact ⟨x,if_neg e,.inr ⟨by omega,rfl⟩⟩
    rw [hz] at HZ;clear hz;have HM:=Lh hzz;clear hzz;go_wp2_with fail
    refine rgH (fun _=>True) trivial fun hH=>?_
    refine tq 0 (.slice (some ⟨w.heap.size,0,none⟩) B.length B.length) hH ?_;refine tq 1 (.int .i64 (k:Int)) hH ?_;refine tq 2 (.slice (some ⟨w.heap.size,0,none⟩) B.length B.length) hH ?_;refine tq 3 (.int .i64 (k:Int)) hH ?_;refine tq 4 (.pointer (some ⟨w.heap.size,k,none⟩)) hH ?_;refine tq 6 (.slice bd B.length cap2) hH ?_;refine tq 7 (.int .i64 (k:Int)) hH ?_;refine wpAnyH_ready (rs:=[5,8]) (by kernel_rfl) (by simp) ?_;refine cons1 rfl (fun K hK=>?_) (cons1 rfl (fun K hK=>?_) AllReadyH.nil)
    ·have hcl:=(HC.out _ HE.out).1
     rw [if_pos (by rfl)];go_wp2_with fail
     refine hK.out _ _ trivial (fun hH=>?_);clear hK K hcl
     try simp only [LAY]
     refine rd1 8 (by kernel_rfl) rfl fun K hK=>?_
     go_simp
     refine (HAT.out _ HE1.out).mono ?_
     rintro e w2 ⟨rfl,hb2⟩
     have HE2:=Lh (HE.out.next hb2);have HBL2:=Lh (HE1.out.trans (hb2.mono HE1.out.size));clear hb2;go_wp2_with fail
     refine hK.out _ _ trivial (fun hH=>?_);clear hK K
     try simp only [LAY]
     obtain ⟨hcl,hfr⟩:=HC.out _ HE2.out;have HR:=Lh (And.intro (HBL2.out.setCell (p:=⟨w.heap.size,k,none⟩) (Nat.le_refl _) (.int .i64 z)) (And.intro HZ.out (HS.out _ z HE2.out)));clear HZ HS HBL2 HE2 HC;rcases HM.out with ⟨hm,hzz⟩ | ⟨hm,hzz⟩
     all_goals
      rw [hzz] at HR;clear hzz HM z;refine rd1 9 (by kernel_rfl) rfl fun K hK=>?_
      go_simp
      refine hK.out _ _ trivial (fun hH=>?_);clear hK K
      try simp only [LAY]
      refine tq 10 (.pointer (some ⟨w.heap.size,k,none⟩)) hH ?_;refine rd1 11 (by kernel_rfl) rfl fun K hK=>?_
      go_simp
      go_wp2_with fail
      refine hK.out _ _ trivial (fun hH=>?_);clear hK K hcl hfr
      try simp only [LAY]
      refine dnH ?_;go_wp2_with fail
      go_roundg (nn-(k+1))
      case measure=>omega
      case rel=>exact ⟨k+1,by omega,rfl,by go_num,HR.out.1,_,HR.out.2.1,HR.out.2.2⟩
    ·rw [if_pos (by rfl)]
     go_wp2_with fail
     refine (HAT.out _ HE1.out).mono ?_
     rintro e w2 ⟨rfl,hb2⟩
     have HE2:=Lh (HE.out.next hb2);have HBL2:=Lh (HE1.out.trans (hb2.mono HE1.out.size));clear hb2;go_wp2_with fail
     refine hK.out _ _ trivial (fun hH=>?_);clear hK K
     try simp only [LAY]
     have hcl:=(HC.out _ HE2.out).1;refine rd1 5 (by kernel_rfl) rfl fun K hK=>?_
     go_simp
     go_wp2_with fail
     refine hK.out _ _ trivial (fun hH=>?_);clear hK K hcl
     try simp only [LAY]
     obtain ⟨hcl,hfr⟩:=HC.out _ HE2.out;have HR:=Lh (And.intro (HBL2.out.setCell (p:=⟨w.heap.size,k,none⟩) (Nat.le_refl _) (.int .i64 z)) (And.intro HZ.out (HS.out _ z HE2.out)));clear HZ HS HBL2 HE2 HC;rcases HM.out with ⟨hm,hzz⟩ | ⟨hm,hzz⟩
     all_goals
      rw [hzz] at HR;clear hzz HM z;refine rd1 9 (by kernel_rfl) rfl fun K hK=>?_
      go_simp
      refine hK.out _ _ trivial (fun hH=>?_);clear hK K
      try simp only [LAY]
      refine tq 10 (.pointer (some ⟨w.heap.size,k,none⟩)) hH ?_;refine rd1 11 (by kernel_rfl) rfl fun K hK=>?_
      go_simp
      go_wp2_with fail
      refine hK.out _ _ trivial (fun hH=>?_);clear hK K hcl hfr
      try simp only [LAY]
      refine dnH ?_;go_wp2_with fail
      go_roundg (nn-(k+1))
      case measure=>omega
      case rel=>exact ⟨k+1,by omega,rfl,by go_num,HR.out.1,_,HR.out.2.1,HR.out.2.2⟩
   ·obtain rfl:k=nn:=by omega
    have hkn:=HN.out.1;have hp:=hJ.pad HA.out.1 HA.out.2 (by rw [HN.out.1]; exact HN.out.2.2.2) (by rw [HN.out.1]; exact HN.out.2.2.1) (by rw [HN.out.1]; exact HN.out.2.1);have ho:=own_blk (B:=w.heap.size) (cap:=k) hE (Nat.le_refl _) (by rw [hJ.1]; exact Nat.le_refl _) (by have:=HN.out.2.2.2; omega);have hlen:=hJ.1;rw [hJ.1] at ho;have HO:=Lh (And.intro hp (And.intro ho (And.intro hlen hbel)));clear hp ho hlen hJ hE hbel;go_wp2_with fail
    go_ret
    exact ⟨_,E,rfl,by rw [HO.out.2.2.1,HN.out.1]; exact HN.out.2.2.2,HO.out.1,(by have h:=HO.out.2.1; rw [HN.out.1] at h; exact h),HO.out.2.2.2⟩
 ·go_wp2_with (go_at_call 29; refine (HOWN.out _ (Below.refl _ _)).mono ?_; rintro e w1 ⟨rfl,hB,hb⟩; have HB2:=Lh hB; have HBL:=Lh hb; clear hB hb HOWN)
  go_loopg [17] nn (fun g t17 wr=>∃ k:Nat,k≤nn∧g=nn-k∧t17=.int .i64 (k:Int)∧Below w.heap.size w wr∧∃ E,Jk A B E nn k∧Blk wr w.heap.size (arL E) 3)
  case atStart=>exact ⟨0,Nat.zero_le _,rfl,rfl,HBL.out,E0,HJ0.out,HB2.out⟩
  case round=>
   obtain ⟨k,hk,rfl,rfl,hbel,E,hJ,hE⟩:=hrel;clear HJ0 HB2 HBL;by_cases hkn:k<nn
   ·have hlt2:=hkn
    rw [HN.out.1] at hlt2;have hk16:k<16:=by have:=HN.out.2.2.2; omega
    have HAT:=Lh (fun W hb=>HU.out (k:Int) (by omega) (by omega) W hb);rw [atL_nat] at HAT;have HZ:=Lh (hJ.put hkn);have HS:=Lh (fun (W:World) (z:Int) (h:Blk W w.heap.size (arL E) 3)=>show Blk (W.setCell ⟨w.heap.size,k,none⟩ (.int .i64 z)) w.heap.size (arL (E.set k z)) 3 by
     have h:=h.set k (.int .i64 z); rwa [show (arL E).set k (.int .i64 z)=arL (E.set k z) by simp [arL,List.map_set]] at h)
    have HC:=Lh (fun (W:World) (h:Blk W w.heap.size (arL E) 3)=>show W.cell? ⟨w.heap.size,k,none⟩=some (.int .i64 (A.getD k 0))∧W.frozen? ⟨w.heap.size,k,none⟩=false by
     have hcE:=ar_cell h k (by rw [hJ.1]; exact hkn);rw [hJ.2 k hkn,if_neg (Nat.lt_irrefl k)] at hcE;exact ⟨hcE,h.free k⟩)
    have HE1:=Lh (bDN (n:=1) hbel);have HE:=Lh (show Blk wr.drew w.heap.size (arL E) 3 from hE.drew);clear hbel hE hJ;generalize A.getD k 0=x at *
    generalize B.getD k 0=y at *
    obtain ⟨z,hz,hzz⟩:∃ z,(if x<y then y else x)=z∧((x<y∧z=y)∨(y≤x∧z=x)):=by
     by_cases e:x<y
     ·exact ⟨y,if_pos e,.inl ⟨e,rfl⟩⟩
     ·exact ⟨x,if_neg e,.inr ⟨by omega,rfl⟩⟩
    rw [hz] at HZ;clear hz;have HM:=Lh hzz;clear hzz;go_wp2_with fail
    refine rgH (fun _=>True) trivial fun hH=>?_
    refine tq 0 (.slice (some ⟨w.heap.size,0,none⟩) A.length A.length) hH ?_;refine tq 1 (.int .i64 (k:Int)) hH ?_;refine tq 2 (.slice (some ⟨w.heap.size,0,none⟩) A.length A.length) hH ?_;refine tq 3 (.int .i64 (k:Int)) hH ?_;refine tq 4 (.pointer (some ⟨w.heap.size,k,none⟩)) hH ?_;refine tq 6 (.slice bd B.length cap2) hH ?_;refine tq 7 (.int .i64 (k:Int)) hH ?_;refine wpAnyH_ready (rs:=[5,8]) (by kernel_rfl) (by simp) ?_;refine cons1 rfl (fun K hK=>?_) (cons1 rfl (fun K hK=>?_) AllReadyH.nil)
    ·have hcl:=(HC.out _ HE.out).1
     rw [if_pos (by rfl)];go_wp2_with fail
     refine hK.out _ _ trivial (fun hH=>?_);clear hK K hcl
     try simp only [LAY]
     refine rd1 8 (by kernel_rfl) rfl fun K hK=>?_
     go_simp
     refine (HAT.out _ HE1.out).mono ?_
     rintro e w2 ⟨rfl,hb2⟩
     have HE2:=Lh (HE.out.next hb2);have HBL2:=Lh (HE1.out.trans (hb2.mono HE1.out.size));clear hb2;go_wp2_with fail
     refine hK.out _ _ trivial (fun hH=>?_);clear hK K
     try simp only [LAY]
     obtain ⟨hcl,hfr⟩:=HC.out _ HE2.out;have HR:=Lh (And.intro (HBL2.out.setCell (p:=⟨w.heap.size,k,none⟩) (Nat.le_refl _) (.int .i64 z)) (And.intro HZ.out (HS.out _ z HE2.out)));clear HZ HS HBL2 HE2 HC;rcases HM.out with ⟨hm,hzz⟩ | ⟨hm,hzz⟩
     all_goals
      rw [hzz] at HR;clear hzz HM z;refine rd1 9 (by kernel_rfl) rfl fun K hK=>?_
      go_simp
      refine hK.out _ _ trivial (fun hH=>?_);clear hK K
      try simp only [LAY]
      refine tq 10 (.pointer (some ⟨w.heap.size,k,none⟩)) hH ?_;refine rd1 11 (by kernel_rfl) rfl fun K hK=>?_
      go_simp
      go_wp2_with fail
      refine hK.out _ _ trivial (fun hH=>?_);clear hK K hcl hfr
      try simp only [LAY]
      refine dnH ?_;go_wp2_with fail
      go_roundg (nn-(k+1))
      case measure=>omega
      case rel=>exact ⟨k+1,by omega,rfl,by go_num,HR.out.1,_,HR.out.2.1,HR.out.2.2⟩
    ·rw [if_pos (by rfl)]
     go_wp2_with fail
     refine (HAT.out _ HE1.out).mono ?_
     rintro e w2 ⟨rfl,hb2⟩
     have HE2:=Lh (HE.out.next hb2);have HBL2:=Lh (HE1.out.trans (hb2.mono HE1.out.size));clear hb2;go_wp2_with fail
     refine hK.out _ _ trivial (fun hH=>?_);clear hK K
     try simp only [LAY]
     have hcl:=(HC.out _ HE2.out).1;refine rd1 5 (by kernel_rfl) rfl fun K hK=>?_
     go_simp
     go_wp2_with fail
     refine hK.out _ _ trivial (fun hH=>?_);clear hK K hcl
     try simp only [LAY]
     obtain ⟨hcl,hfr⟩:=HC.out _ HE2.out;have HR:=Lh (And.intro (HBL2.out.setCell (p:=⟨w.heap.size,k,none⟩) (Nat.le_refl _) (.int .i64 z)) (And.intro HZ.out (HS.out _ z HE2.out)));clear HZ HS HBL2 HE2 HC;rcases HM.out with ⟨hm,hzz⟩ | ⟨hm,hzz⟩
     all_goals
      rw [hzz] at HR;clear hzz HM z;refine rd1 9 (by kernel_rfl) rfl fun K hK=>?_
      go_simp
      refine hK.out _ _ trivial (fun hH=>?_);clear hK K
      try simp only [LAY]
      refine tq 10 (.pointer (some ⟨w.heap.size,k,none⟩)) hH ?_;refine rd1 11 (by kernel_rfl) rfl fun K hK=>?_
      go_simp
      go_wp2_with fail
      refine hK.out _ _ trivial (fun hH=>?_);clear hK K hcl hfr
      try simp only [LAY]
      refine dnH ?_;go_wp2_with fail
      go_roundg (nn-(k+1))
      case measure=>omega
      case rel=>exact ⟨k+1,by omega,rfl,by go_num,HR.out.1,_,HR.out.2.1,HR.out.2.2⟩
   ·obtain rfl:k=nn:=by omega
    have hkn:=HN.out.1;have hp:=hJ.pad HA.out.1 HA.out.2 (by rw [HN.out.1]; exact HN.out.2.2.2) (by rw [HN.out.1]; exact HN.out.2.2.1) (by rw [HN.out.1]; exact HN.out.2.1);have ho:=own_blk (B:=w.heap.size) (cap:=k) hE (Nat.le_refl _) (by rw [hJ.1]; exact Nat.le_refl _) (by have:=HN.out.2.2.2; omega);have hlen:=hJ.1;rw [hJ.1] at ho;have HO:=Lh (And.intro hp (And.intro ho (And.intro hlen hbel)));clear hp ho hlen hJ hE hbel;go_wp2_with fail
    go_ret
    exact ⟨_,E,rfl,by rw [HO.out.2.2.1,HN.out.1]; exact HN.out.2.2.2,HO.out.1,(by have h:=HO.out.2.1; rw [HN.out.1] at h; exact h),HO.out.2.2.2⟩
theorem vc_ok:VCAll:=⟨vat_ok,vtick_ok,vjoin_ok,vleq_ok,vsame_ok⟩
end Go.Proofs.Ytjilpbmehipagaa
