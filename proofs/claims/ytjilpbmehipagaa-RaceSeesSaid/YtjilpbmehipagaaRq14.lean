import Derived.Test.YtjilpbmehipagaaRp14
set_option maxRecDepth 100000
set_option maxHeartbeats 12800000
namespace Go.Proofs.Ytjilpbmehipagaa
open Go Go.Proofs Go.RowKit
theorem wrap_some (k:IntKind) (x:Int):∃ y,k.wrap x=y:=⟨_,rfl⟩
def Cnt (b:Nat) (W:World):Prop:=∃ D:List Int,D.length=16∧Blk W b (arL D) 65
theorem Cnt.at {b:Nat} {W:World} (h:Cnt b W) {u:Nat} (hu:u<16):∃ d,W.cell? ⟨b,u,none⟩=some (.int .i64 d)∧W.frozen? ⟨b,u,none⟩=false∧∀ z,Cnt b (W.setCell ⟨b,u,none⟩ (.int .i64 z)):=by
 obtain ⟨D,h1,h2⟩:=h;refine ⟨_,ar_cell h2 u (by omega),h2.free u,fun z=>⟨D.set u z,by rw [List.length_set]; exact h1,?_⟩⟩;have:=h2.set u (.int .i64 z)
 rwa [show (arL D).set u (.int .i64 z)=arL (D.set u z) by simp [arL,List.map_set]] at this
theorem Cnt.next {b:Nat} {W W':World} (h:Cnt b W) (hb:Below W.heap.size W W'):Cnt b W':=by
 obtain ⟨D,h1,h2⟩:=h; exact ⟨D,h1,h2.next hb⟩
theorem firstunknown_any (L:List Ac) (v:Value) (y:Ac) (C:List Int) (c:Value) (w:World) (hm:mayAc L=true) (h:IsAc w v L) (hc:IsL w c C) (hC:MedA C):
  Calls Try.prog 21 #[v,acV y,c] w fun e w'=>∃ a,e=.returned (.int .i64 a)∧Below w.heap.size w w':=by
 obtain ⟨yt,yk,yl⟩:=y;obtain ⟨ad,cap,rfl,h1,h2,h3⟩:=h;have HL:=Lh h3;have HM:=Lh (fun i (hi:i<L.length)=>show 0≤L[i].t∧L[i].t≤15 from by have:=may_at hm hi; rw [←acA_eq hi] at this; exact ⟨this.1,this.2.1⟩);clear h3 hm;have hl:L.length≤9223372036854775807:=by omega
 have HA:=Lh (fun t k l W=>show Calls Try.prog 28 #[.agg #[.int .i64 t,.int .i64 k,.int .i64 l],.agg #[.int .i64 yt,.int .i64 yk,.int .i64 yl]] W fun e w'=>e=.returned (.bool (claB ⟨t,k,l⟩ ⟨yt,yk,yl⟩))∧Below W.heap.size W w' from clashes_any ⟨t,k,l⟩ ⟨yt,yk,yl⟩ W);have HT:=Lh (fun (i:Nat) (hi:i<16) W (hb:Below w.heap.size w W)=>vat_ok C c (i:Int) W (by omega) (by omega) hC (hc.next hb));have HB0:=Lh (show Below w.heap.size w ((w.alloc (.cells #[.int .i64 yt,.int .i64 yk,.int .i64 yl] 31)).alloc (.cells ⟨arL (List.replicate 16 0)⟩ 65)) from bA.trans (bA.mono (by simp)));have HY0:=Lh (Blk.alloc (Blk.start w [.int .i64 yt,.int .i64 yk,.int .i64 yl] 31) (.cells ⟨arL (List.replicate 16 0)⟩ 65));have HC0:Hid (Cnt (w.heap.size+1) ((w.alloc (.cells #[.int .i64 yt,.int .i64 yk,.int .i64 yl] 31)).alloc (.cells ⟨arL (List.replicate 16 0)⟩ 65))):=Lh ⟨List.replicate 16 0,by simp,Blk.startAt (by simp)⟩;clear hc hC
 dsimp only [acV]
 go_enter Try.func21,Try.ntmps21
 go_upto_region 2 with fail
 generalize hW0:(w.alloc (.cells #[.int .i64 yt,.int .i64 yk,.int .i64 yl] 31)).alloc (.cells _ 65)=W0
 replace HB0:Hid (Below w.heap.size w W0):=by rw [←hW0]; exact HB0
 replace HY0:Hid (Blk W0 w.heap.size [.int .i64 yt,.int .i64 yk,.int .i64 yl] 31):=by rw [←hW0]; exact HY0
 replace HC0:Hid (Cnt (w.heap.size+1) W0):=by rw [←hW0]; exact HC0
 clear hW0;go_wp2_with fail
 go_loopg [12] L.length (fun g t12 wr=>∃ k:Nat,k≤L.length∧g=L.length-k∧t12=.int .i64 (k:Int)∧Below w.heap.size w wr∧Blk wr w.heap.size [.int .i64 yt,.int .i64 yk,.int .i64 yl] 31∧Cnt (w.heap.size+1) wr)
 case atStart=>exact ⟨0,Nat.zero_le _,rfl,rfl,HB0.out,HY0.out,HC0.out⟩
 case round=>
  obtain ⟨k,hk,rfl,rfl,hb,hy,hcn⟩:=hrel;clear HB0 HY0 HC0;by_cases hlt:k<L.length
  ·obtain ⟨b,off,rfl,hbw,hc⟩:=HL.out (fun e=>by rw [e] at hlt; cases hlt)
   have c0:=(hb.cell (p:=⟨b,off+k * 3,none⟩) hbw).trans (hc k hlt).1;have c1:=(hb.cell (p:=⟨b,off+k * 3+1,none⟩) hbw).trans (hc k hlt).2.1;have c2:=(hb.cell (p:=⟨b,off+k * 3+2,none⟩) hbw).trans (hc k hlt).2.2;have hmk:=HM.out k hlt;generalize L[k]=x at *
   obtain ⟨xt,xk,xl⟩:=x;simp only at c0 c1 c2 hmk
   obtain ⟨u,rfl⟩:∃ u:Nat,xt=(u:Int):=⟨xt.toNat,by omega⟩
   have hu:u<16:=by omega
   clear hc hmk;have HB1:=Lh (And.intro (hb.trans ((bA (w:=wr) (o:=.cells #[.int .i64 (u:Int),.int .i64 xk,.int .i64 xl] 31)).mono hb.size)) (And.intro (hy.next (bA (o:=.cells #[.int .i64 (u:Int),.int .i64 xk,.int .i64 xl] 31))) (And.intro (hcn.next (bA (o:=.cells #[.int .i64 (u:Int),.int .i64 xk,.int .i64 xl] 31))) (Blk.start wr [.int .i64 (u:Int),.int .i64 xk,.int .i64 xl] 31))));have HNE:=Lh (show w.heap.size+1≠wr.heap.size∧w.heap.size+1≠w.heap.size from ⟨by obtain ⟨D,_,hD⟩:=hcn; have:=hD.lt; omega,by omega⟩);have HE:=Lh (HA.out (u:Int) xk xl);clear hb hy hcn
   go_upto_region 5 with fail
   generalize hq:wr.heap.size=bx at *
   generalize wr.alloc (.cells #[.int .i64 (u:Int),.int .i64 xk,.int .i64 xl] 31)=w1 at *
   clear hq c0 c1 c2;obtain ⟨d,hd,hf,hs⟩:=HB1.out.2.2.1.at hu;obtain ⟨x0,x1,x2⟩:=blk3 HB1.out.2.2.2;obtain ⟨d1,hd1⟩:=wrap_some .i64 (d+1);have HB2:=Lh (And.intro (HB1.out.1.setCell (p:=⟨w.heap.size+1,u,none⟩) (Nat.le_succ _) (.int .i64 d1)) (And.intro (HB1.out.2.1.other ⟨w.heap.size+1,u,none⟩ (Ne.symm HNE.out.2) (.int .i64 d1)) (And.intro (hs d1) (HB1.out.2.2.2.other ⟨w.heap.size+1,u,none⟩ (Ne.symm HNE.out.1) (.int .i64 d1)))));clear hs HB1
   go_upto_region 6 with fail
   generalize w1.setCell ⟨w.heap.size+1,u,none⟩ (.int .i64 d1)=w2 at *
   clear hd hf x0 x1 x2 hd1;obtain ⟨e,he,-⟩:=HB2.out.2.2.1.at hu;have HTT:=Lh (fun W (hb:Below w.heap.size w W)=>HT.out u hu W hb);obtain ⟨at_,hat⟩:∃ a,a=atL C (u:Int):=⟨_,rfl⟩
   rw [←hat] at HTT;clear hat;have HK:=Lh (fun W (h:Below w2.heap.size w2 W)=>show Below w.heap.size w W∧Blk W w.heap.size [.int .i64 yt,.int .i64 yk,.int .i64 yl] 31∧Cnt (w.heap.size+1) W from ⟨HB2.out.1.trans (h.mono HB2.out.1.size),HB2.out.2.1.next h,HB2.out.2.2.1.next h⟩);have HK2:=Lh (fun W (h:Below w2.heap.size w2 W)=>show (W.cell? ⟨bx,0,none⟩=some (.int .i64 (u:Int))∧W.cell? ⟨bx,1,none⟩=some (.int .i64 xk)∧W.cell? ⟨bx,2,none⟩=some (.int .i64 xl))∧(W.cell? ⟨w.heap.size,0,none⟩=some (.int .i64 yt)∧W.cell? ⟨w.heap.size,1,none⟩=some (.int .i64 yk)∧W.cell? ⟨w.heap.size,2,none⟩=some (.int .i64 yl))∧W.cell? ⟨w.heap.size+1,u,none⟩=some (.int .i64 e) from ⟨blk3 (HB2.out.2.2.2.next h),blk3 (HB2.out.2.1.next h),by obtain ⟨D,_,hD⟩:=HB2.out.2.2.1; exact (h.cell (p:=⟨w.heap.size+1,u,none⟩) hD.lt).trans he⟩);clear HB2 HA HT he;refine rgH (fun W=>(W.cell? ⟨bx,0,none⟩=some (.int .i64 (u:Int))∧W.cell? ⟨bx,1,none⟩=some (.int .i64 xk)∧W.cell? ⟨bx,2,none⟩=some (.int .i64 xl))∧(W.cell? ⟨w.heap.size,0,none⟩=some (.int .i64 yt)∧W.cell? ⟨w.heap.size,1,none⟩=some (.int .i64 yk)∧W.cell? ⟨w.heap.size,2,none⟩=some (.int .i64 yl))∧W.cell? ⟨w.heap.size+1,u,none⟩=some (.int .i64 e)) (HK2.out _ bdq) fun hH=>?_
   refine tq 0 (.agg #[.int .i64 (u:Int),.int .i64 xk,.int .i64 xl]) hH ?_;refine tq 1 (.agg #[.int .i64 yt,.int .i64 yk,.int .i64 yl]) hH ?_;refine rd1 2 (by kernel_rfl) rfl fun K hK=>?_
   go_simp
   refine (HE.out _).mono ?_
   rintro ee w3 ⟨rfl,hb3⟩
   go_wp2_with fail
   refine hK.out _ _ (HK2.out _ (bdq.trans hb3)) (fun hH2=>?_);clear hK K hH;have hH:=hH2;clear hH2
   try simp only [LAY]
   have HB3:=Lh (bdq.trans hb3);clear hb3;generalize claB ⟨(u:Int),xk,xl⟩ ⟨yt,yk,yl⟩=z at *
   cases z with
   | false=>
    refine tq 3 (.bool false) hH ?_;refine sk 4 hH ?_
    try simp only [LAY]
    refine sk 5 hH ?_
    try simp only [LAY]
    refine sk 6 hH ?_
    try simp only [LAY]
    refine sk 7 hH ?_
    try simp only [LAY]
    refine sk 8 hH ?_
    try simp only [LAY]
    refine sk 9 hH ?_
    try simp only [LAY]
    refine sk 10 hH ?_
    try simp only [LAY]
    refine sk 11 hH ?_
    try simp only [LAY]
    refine sk 12 hH ?_
    try simp only [LAY]
    refine tq 13 (.bool false) hH ?_;refine dnH ?_;go_wp2_with fail
    go_roundg (L.length-(k+1))
    case measure=>omega
    case rel=>exact ⟨k+1,by omega,rfl,by go_num,HK.out _ HB3.out⟩
   | true=>
    refine tq 3 (.bool true) hH ?_;refine tq 4 (.pointer (some ⟨bx,0,none⟩)) hH ?_;refine tq 5 (.int .i64 (u:Int)) hH ?_;refine tq 6 (.pointer (some ⟨w.heap.size+1,u,none⟩)) hH ?_ (hy:=by intro w hSw; go_simp; intro hh; omega);refine tq 7 (.int .i64 e) hH ?_;refine tq 8 (c) hH ?_;refine tq 9 (.pointer (some ⟨bx,0,none⟩)) hH ?_;refine tq 10 (.int .i64 (u:Int)) hH ?_;refine rd1 11 (by kernel_rfl) rfl fun K hK=>?_
    go_simp
    refine (HTT.out _ (HK.out _ HB3.out).1).mono ?_
    rintro ee w4 ⟨rfl,hb4⟩
    go_wp2_with fail
    refine hK.out _ _ (HK2.out _ (HB3.out.trans (hb4.mono HB3.out.size))) (fun hH2=>?_);clear hK K hH;have hH:=hH2;clear hH2
    try simp only [LAY]
    have HB4:=Lh (HK.out _ (HB3.out.trans (hb4.mono HB3.out.size)));clear hb4 HB3;by_cases hz:at_<e
    ·have hz2:decide (at_<e)=true:=decide_eq_true hz
     refine tq 12 (.bool true) hH ?_;refine tq 13 (.bool true) hH ?_;refine dnH ?_;go_wp2_with fail
     go_ret
     exact ⟨_,rfl,HB4.out.1⟩
    ·have hz2:decide (at_<e)=false:=decide_eq_false hz
     have hz3:e≤at_:=by omega
     refine tq 12 (.bool false) hH ?_;refine tq 13 (.bool false) hH ?_;refine dnH ?_;go_wp2_with fail
     go_roundg (L.length-(k+1))
     case measure=>omega
     case rel=>exact ⟨k+1,by omega,rfl,by go_num,HB4.out⟩
  ·obtain rfl:k=L.length:=by omega
   go_wp2_with fail
   go_ret
   exact ⟨_,rfl,hb⟩
end Go.Proofs.Ytjilpbmehipagaa
