import Derived.Test.YtjilpbmehipagaaRl14
set_option maxRecDepth 100000
set_option maxHeartbeats 12800000
namespace Go.Proofs.Ytjilpbmehipagaa
open Go Go.Proofs Go.RowKit
theorem istrace_any (L:List Ac) (v:Value) (w:World) (h:IsAc w v L):Calls Try.prog 15 #[v] w fun e w'=>e=.returned (.bool (mayAc L))∧Below w.heap.size w w':=by
 obtain ⟨ad,cap,rfl,h1,h2,h3⟩:=h;have HL:=Lh h3;clear h3;have hl:L.length≤9223372036854775807:=by omega
 have HI:=Lh (fun t k l W=>show Calls Try.prog 25 #[.agg #[.int .i64 t,.int .i64 k,.int .i64 l]] W fun e w'=>e=.returned (.bool (mayA1 ⟨t,k,l⟩))∧Below W.heap.size W w' from isact_any ⟨t,k,l⟩ W)
 go_enter Try.func15,Try.ntmps15
 go_wp2_with fail
 go_loopg [7] L.length (fun g t7 wr=>∃ k:Nat,k≤L.length∧g=L.length-k∧t7=.int .i64 (k:Int)∧Hid (∀ x∈L.take k,mayA1 x=true)∧Below w.heap.size w wr)
 case atStart=>exact ⟨0,Nat.zero_le _,rfl,rfl,Lh (fun x hx=>by cases hx),Below.refl _ _⟩
 case round=>
  obtain ⟨k,hk,rfl,rfl,HT,hb⟩:=hrel;by_cases hlt:k<L.length
  ·obtain ⟨b,off,rfl,hbw,hc⟩:=HL.out (fun e=>by rw [e] at hlt; cases hlt)
   have c0:=(hb.cell (p:=⟨b,off+k * 3,none⟩) hbw).trans (hc k hlt).1;have c1:=(hb.cell (p:=⟨b,off+k * 3+1,none⟩) hbw).trans (hc k hlt).2.1;have c2:=(hb.cell (p:=⟨b,off+k * 3+2,none⟩) hbw).trans (hc k hlt).2.2;have HTK:=Lh (show L.take (k+1)=L.take k++[L[k]] from List.take_succ_eq_append_getElem hlt);have HM:=Lh (show ¬ mayA1 L[k]=true→mayAc L=false from fun h=>by
    rw [←Bool.not_eq_true,mayAc,List.all_eq_true]; exact fun hh=>h (hh _ (List.getElem_mem hlt)))
   generalize L[k]=x at *
   obtain ⟨xt,xk,xl⟩:=x;simp only at c0 c1 c2
   have HB:=Lh (hb.trans ((bA (w:=wr) (o:=.cells #[.int .i64 xt,.int .i64 xk,.int .i64 xl] 31)).mono hb.size));have HQ:=Lh (HI.out xt xk xl);clear hc hb
   cases hx:mayA1 ⟨xt,xk,xl⟩ with
   | true=>
    rw [hx] at HQ;have HX:=Lh hx;clear hx HM;go_wp2_with (go_at_call 25; refine (HQ.out _).mono ?_; rintro e w2 ⟨rfl,hb2⟩)
    go_roundg (L.length-(k+1))
    case measure=>omega
    case rel=>exact ⟨k+1,by omega,rfl,by go_num,Lh (by
     intro y hy
     rw [HTK.out,List.mem_append] at hy;rcases hy with hy | hy
     ·exact HT.out y hy
     ·rw [List.mem_singleton] at hy; subst hy; exact HX.out),HB.out.trans (hb2.mono HB.out.size)⟩
   | false=>
    rw [hx] at HQ;have HN:=Lh (HM.out (by rw [hx]; decide));clear hx HM HT HTK;go_wp2_with (go_at_call 25; refine (HQ.out _).mono ?_; rintro e w2 ⟨rfl,hb2⟩)
    go_ret
    exact ⟨by rw [HN.out]; rfl,HB.out.trans (hb2.mono HB.out.size)⟩
  ·obtain rfl:k=L.length:=by omega
   have hall:mayAc L=true:=by
    have h:=HT.out;rw [List.take_length] at h;rw [mayAc,List.all_eq_true]; exact h
   have HN:=Lh hall;clear hall HT;go_wp2_with fail
   go_ret
   exact ⟨by rw [HN.out]; rfl,hb⟩
theorem kno_of {L:List Ac} {B b g:Nat} {K:Int→Bool} {W:World} (hb:b<B) (hg:g<B) (ne:b≠g) (hs:B≤W.heap.size) (hB:Blk W b (List.replicate 16 zCk++[.map (some g)]) KNT) (hm:MapI Try.prog 3 g 0 zCk (fun _=>zCk) K W):KnO L 0 B b g (List.replicate 16 zCk) W:=by
 refine ⟨hb,hg,ne,hs,by simp,hB,fun u hu=>?_,0,_,_,Nat.le_refl _,hm,fun l=>?_⟩
 ·rw [List.getD_eq_getElem?_getD,List.getElem?_replicate,if_pos hu]
  rw [vec_none fun i ⟨j,hj,_⟩=>absurd hj (Nat.not_lt_zero _)];exact Clk.nil
 ·rw [vec_none fun i ⟨j,hj,_⟩=>absurd hj (Nat.not_lt_zero _)]
  exact Clk.nil
theorem unknowing_any (w:World):Calls Try.prog 16 #[] w fun e w'=>∃ b g K,e=.returned (.pointer (some ⟨b,0,none⟩))∧w.heap.size≤b∧w.heap.size≤g∧b≠g∧b<w'.heap.size∧g<w'.heap.size∧Blk w' b (List.replicate 16 zCk++[.map (some g)]) KNT∧MapI Try.prog 3 g 0 zCk (fun _=>zCk) K w'∧Below w.heap.size w w':=by
 have H:=Lh (And.intro (Blk.startAt (W:=w.alloc (.map #[] 0)) (vs:=List.replicate 16 zCk++[.map (some w.heap.size)]) (t:=KNT) (b:=w.heap.size+1) (by simp)) ((MapI.start (P:=Try.prog) (kt:=3) (z:=zCk) w).next (bA (o:=.cells ⟨List.replicate 16 zCk++[.map (some w.heap.size)]⟩ KNT))));have hmm := @run_makeMap Try.prog;have hb:=Lh (show Below w.heap.size w ((w.alloc (.map #[] 0)).alloc (.cells ⟨List.replicate 16 zCk++[.map (some w.heap.size)]⟩ KNT)) from bA.trans (bA.mono (by simp)))
 go_enter Try.func16,Try.ntmps16
 go_wp2_with fail
 go_ret
 exact ⟨_,_,_,rfl,by omega,Nat.le_refl _,by omega,by simp,by simp; omega,H.out.1,H.out.2,hb.out⟩
end Go.Proofs.Ytjilpbmehipagaa
