import Derived.Test.YtgpfbgmdahmpkaaVl13
set_option maxRecDepth 100000
set_option maxHeartbeats 12800000
namespace Go.Proofs.Ytgpfbgmdahmpkaa
open Go Go.Proofs Go.RowKit
abbrev zs16:List Int:=List.replicate 16 0
theorem d13_start (w:World) (T:List Int):D13 w (w.heap.size+1) w.heap.size (arL zs16) (arL T) ((w.alloc (.cells (arL T).toArray 27)).alloc (.cells #[.int .i64 0,.int .i64 0,.int .i64 0,.int .i64 0,.int .i64 0,.int .i64 0,.int .i64 0,.int .i64 0,.int .i64 0,.int .i64 0,.int .i64 0,.int .i64 0,.int .i64 0,.int .i64 0,.int .i64 0,.int .i64 0] 27)):=
 ⟨(bA).alloc (by simp) _,by omega,Nat.le_refl _,Blk.startAt (vs:=arL zs16) (by simp),(Blk.start w _ _).alloc _⟩
theorem D13.stored {w:World} {o p:Nat} {Z M:List Value} {W:World} (h:D13 w o p Z M W) {T:List Int} (hl:(arL T).length=Z.length) {w2:World} (e:w2=W.setCells o 0 (arL T)):Below w.heap.size w w2∧Blk w2 o (arL T) 27:=
 ⟨e▸belC h.go _ 0 h.bel,e▸blkC0 h.bz hl⟩
structure D13j (w:World) (M N:List Int) (W:World):Prop where
 d:D13 w (w.heap.size+1+1) w.heap.size (arL zs16) (arL M) W
 bn:Blk W (w.heap.size+1) (arL N) 27
theorem d13j_start (w:World) (M N:List Int):D13j w M N (((w.alloc (.cells (arL M).toArray 27)).alloc (.cells (arL N).toArray 27)).alloc (.cells #[.int .i64 0,.int .i64 0,.int .i64 0,.int .i64 0,.int .i64 0,.int .i64 0,.int .i64 0,.int .i64 0,.int .i64 0,.int .i64 0,.int .i64 0,.int .i64 0,.int .i64 0,.int .i64 0,.int .i64 0,.int .i64 0] 27)):=
 ⟨⟨((bA).alloc (by simp) _).alloc (by simp; omega) _,by omega,Nat.le_refl _,Blk.startAt (vs:=arL zs16) (by simp),((Blk.start w _ _).alloc _).alloc _⟩,(Blk.startAt (W:=w.alloc _) (by simp)).alloc _⟩
theorem D13j.drew {w:World} {M N:List Int} {W:World} (h:D13j w M N W):D13j w M N W.drew:=⟨⟨h.d.bel.drew,h.d.go,h.d.gp,h.d.bz,h.d.bm⟩,h.bn⟩
theorem D13j.set {w:World} {M N:List Int} {W:World} (h:D13j w M N W) (k:Nat) (x:Value):D13 w (w.heap.size+1+1) w.heap.size (arL zs16) ((arL M).set k x) (W.setCell ⟨w.heap.size,k,none⟩ x)∧Blk (W.setCell ⟨w.heap.size,k,none⟩ x) (w.heap.size+1) (arL N) 27:=
 ⟨h.d.set (by omega) k x,h.bn.other _ (by simp) x⟩
theorem rf13Of_any (A:List Int) (v:Value) (w:World) (h:IsL w v A) (hl:A.length≤16):
  Calls Try.prog 7 #[v] w fun e w'=>e=.returned (.agg ⟨arL (pad A)⟩)∧Below w.heap.size w w':=by
 have U:Try.prog.underlying 27=some (.array 16 3):=Try.underlying27;obtain ⟨ad,cap,rfl,h1,h2,h3⟩:=h;have HL:=Lh h3;have hb0:Below w.heap.size w ((w.alloc (.cells ⟨arL (List.replicate 16 0)⟩ 27)).alloc (.cells ⟨arL (List.replicate 16 0)⟩ 27)):=(bA).alloc (by simp) _;have H0:=Lh (show D13 w w.heap.size (w.heap.size+1) (arL (List.replicate 16 0)) (arL (List.replicate 16 0)) _ from ⟨hb0,Nat.le_refl _,by omega,(Blk.start w _ _).alloc _,Blk.startAt (by simp)⟩);clear h3 hb0
 go_enter Try.func7,Try.ntmps7
 go_wp2_with fail
 go_loopg [4] A.length (fun g ti wr=>∃ k:Nat,k≤A.length∧g=A.length-k∧ti=.int .i64 (k:Int)∧D13 w w.heap.size (w.heap.size+1) (arL (List.replicate 16 0)) (arL (A.take k++List.replicate (16-k) 0)) wr)
 case atStart=>exact ⟨0,Nat.zero_le _,rfl,rfl,H0.out⟩
 case round=>
  obtain ⟨k,hk,rfl,rfl,hD⟩:=hrel;clear H0;by_cases hlt:k<A.length
  ·obtain ⟨b,off,rfl,hbw,hc⟩:=HL.out (fun e=>by rw [e] at hlt; cases hlt)
   have hcell:=(hD.bel.cell (p:=⟨b,off+k,none⟩) hbw).trans (hc k hlt);have hk16:k<16:=by omega
   have hz:wr.cell? ⟨w.heap.size+1,k,none⟩=some (.int .i64 ((A.take k++List.replicate (16-k) 0).getD k 0)):=ar_cell hD.bm k (by simp; omega);have hfz:=hD.bm.free k;have HS:=Lh (hD.set (by omega) k (.int .i64 A[k]));rw [show (arL (A.take k++List.replicate (16-k) 0)).set k (Value.int .i64 A[k])=arL (A.take (k+1)++List.replicate (16-(k+1)) 0) by rw [←pad_step hlt hl]; simp [arL,List.map_set]] at HS;generalize A[k]=x at *
   generalize (A.take k++List.replicate (16-k) 0).getD k 0=y at *
   clear hc hD;go_wp2_with fail
   go_roundg (A.length-(k+1))
   case measure=>omega
   case rel=>exact ⟨k+1,by omega,rfl,by go_num,HS.out⟩
  ·obtain rfl:k=A.length:=by omega
   rw [List.take_length] at hD;have HD:=Lh (show D13 w w.heap.size (w.heap.size+1) (arL (List.replicate 16 0)) (arL (pad A)) wr from hD);have hsz:Hid ((Try.prog.info? 27).map (·.size)=some (arL (pad A)).length):=Lh (by rw [show (arL (pad A)).length=16 by simp [arL,pad_len hl]]; kernel_rfl);have hl16:(arL (pad A)).length=(arL zs16).length:=by simp [arL,pad_len hl]
   clear hD HL;go_wp2_with (first | (refine ld_blk HD.out.bm (by rfl) (by rfl) (by rfl) U hsz.out ?_; simp only [LAY]) | (refine st_blk HD.out.bz (by rfl) (by rfl) (by rfl) (by rfl) hl16.symm hsz.out (fun w2 hw2=>?_); simp only [LAY]))
   exact bodyPost_ret (v:=.agg (arL (pad A)).toArray) (res_arr (HD.out.stored hl16 hw2.out).2 rfl rfl U hsz.out) rfl ⟨rfl,(HD.out.stored hl16 hw2.out).1⟩
theorem rf13Tick_any (L:List Int) (hL:L.length=16) (hB:∀ x∈L,0≤x∧x≤4611686018427387904) (i:Int) (w:World):
  Calls Try.prog 11 #[.agg ⟨arL L⟩,.int .i64 i] w fun e w'=>e=.returned (.agg ⟨arL (tickL L i)⟩)∧Below w.heap.size w w':=by
 have U:Try.prog.underlying 27=some (.array 16 3):=Try.underlying27;have HD0:=Lh (d13_start w L);have HB:=Lh hB;clear hB;by_cases hi:0≤i∧i<16
 ·obtain ⟨k,rfl⟩:∃ k:Nat,i=(k:Int):=⟨i.toNat,by omega⟩
  have hk:k<L.length:=by omega
  have hk16:k<16:=by omega
  have HN:=Lh (show tickL L (k:Int)=L.set k (L[k]+1) by unfold tickL; rw [if_pos hi,Int.toNat_natCast,List.getD_eq_getElem?_getD,List.getElem?_eq_getElem hk]; rfl);have hw1:IntKind.i64.wrap (L[k]+1)=L[k]+1:=IntWalk.i64_in _ (by have:=HB.out _ (List.getElem_mem hk); omega);have hT:(arL L).set k (Value.int .i64 (L[k]+1))=arL (L.set k (L[k]+1)):=by simp [arL,List.map_set]
  have hln:(L.set k (L[k]+1)).length=16:=by rw [List.length_set]; exact hL
  have HT:=Lh hT;clear hi hT
  go_enter Try.func11,Try.ntmps11
  go_upto_region 3 with fail
  rw [HT.out];clear HT hw1 HD0 HB;generalize L.set k (L[k]+1)=T at *
  have HD:=Lh (d13_start w T);generalize (w.alloc (.cells (arL T).toArray 27)).alloc (.cells #[.int .i64 0,.int .i64 0,.int .i64 0,.int .i64 0,.int .i64 0,.int .i64 0,.int .i64 0,.int .i64 0,.int .i64 0,.int .i64 0,.int .i64 0,.int .i64 0,.int .i64 0,.int .i64 0,.int .i64 0,.int .i64 0] 27)=wr at *
  have hsz:Hid ((Try.prog.info? 27).map (·.size)=some (arL T).length):=Lh (by rw [show (arL T).length=16 by simp [arL,hln]]; kernel_rfl);go_wp2_with (first | (refine ld_blk HD.out.bm (by rfl) (by rfl) (by rfl) U hsz.out ?_; simp only [LAY]) | (refine st_blk HD.out.bz (by rfl) (by rfl) (by rfl) (by rfl) (by simp [arL,hln]) hsz.out (fun w2 hw2=>?_); simp only [LAY]))
  exact bodyPost_ret (v:=.agg (arL T).toArray) (res_arr (HD.out.stored (by simp [arL,hln]) hw2.out).2 rfl rfl U hsz.out) rfl ⟨by rw [HN.out],(HD.out.stored (by simp [arL,hln]) hw2.out).1⟩
 ·have HN:=Lh (show tickL L i=L from if_neg hi)
  have hi2:¬ 0≤i∨¬ i<16:=by omega
  have hsz:Hid ((Try.prog.info? 27).map (·.size)=some (arL L).length):=Lh (by rw [show (arL L).length=16 by simp [arL,hL]]; kernel_rfl);clear hi HB
  go_enter Try.func11,Try.ntmps11
  go_upto_region 1 with fail
  generalize (w.alloc (.cells (arL L).toArray 27)).alloc (.cells #[.int .i64 0,.int .i64 0,.int .i64 0,.int .i64 0,.int .i64 0,.int .i64 0,.int .i64 0,.int .i64 0,.int .i64 0,.int .i64 0,.int .i64 0,.int .i64 0,.int .i64 0,.int .i64 0,.int .i64 0,.int .i64 0] 27)=wr at *
  by_cases hi:0≤i
  ·have hi3:¬ i<16:=by omega
   go_wp2_with (first | (refine ld_blk HD0.out.bm (by rfl) (by rfl) (by rfl) U hsz.out ?_; simp only [LAY]) | (refine st_blk HD0.out.bz (by rfl) (by rfl) (by rfl) (by rfl) (by simp [arL,hL]) hsz.out (fun w2 hw2=>?_); simp only [LAY]))
   exact bodyPost_ret (v:=.agg (arL L).toArray) (res_arr (HD0.out.stored (by simp [arL,hL]) hw2.out).2 rfl rfl U hsz.out) rfl ⟨by rw [HN.out],(HD0.out.stored (by simp [arL,hL]) hw2.out).1⟩
  ·go_wp2_with (first | (refine ld_blk HD0.out.bm (by rfl) (by rfl) (by rfl) U hsz.out ?_; simp only [LAY]) | (refine st_blk HD0.out.bz (by rfl) (by rfl) (by rfl) (by rfl) (by simp [arL,hL]) hsz.out (fun w2 hw2=>?_); simp only [LAY]))
   exact bodyPost_ret (v:=.agg (arL L).toArray) (res_arr (HD0.out.stored (by simp [arL,hL]) hw2.out).2 rfl rfl U hsz.out) rfl ⟨by rw [HN.out],(HD0.out.stored (by simp [arL,hL]) hw2.out).1⟩
theorem rf13Join_any (M N:List Int) (hM:M.length=16) (hN:N.length=16) (w:World):
  Calls Try.prog 12 #[.agg ⟨arL M⟩,.agg ⟨arL N⟩] w fun e w'=>e=.returned (.agg ⟨arL (joinL M N)⟩)∧Below w.heap.size w w':=by
 have U:Try.prog.underlying 27=some (.array 16 3):=Try.underlying27;have HD0:=Lh (d13j_start w M N);have hsz:Hid ((Try.prog.info? 27).map (·.size)=some (arL (joinL M N)).length):=Lh (by rw [show (arL (joinL M N)).length=16 by simp [arL,join_len hM hN]]; kernel_rfl)
 go_enter Try.func12,Try.ntmps12
 go_upto_region 1 with fail
 generalize ((w.alloc (.cells (arL M).toArray 27)).alloc (.cells (arL N).toArray 27)).alloc (.cells #[.int .i64 0,.int .i64 0,.int .i64 0,.int .i64 0,.int .i64 0,.int .i64 0,.int .i64 0,.int .i64 0,.int .i64 0,.int .i64 0,.int .i64 0,.int .i64 0,.int .i64 0,.int .i64 0,.int .i64 0,.int .i64 0] 27)=w0 at *
 go_wp2_with fail
 go_loopg [5] 16 (fun g ti wr=>∃ k:Nat,k≤16∧g=16-k∧ti=.int .i64 (k:Int)∧D13j w (joinK M N k) N wr)
 case atStart=>exact ⟨0,Nat.zero_le _,rfl,rfl,by rw [show joinK M N 0=M by simp [joinK]]; exact HD0.out⟩
 case round=>
  obtain ⟨k,hk,rfl,rfl,hD⟩:=hrel;have HD:=Lh hD;clear hD HD0;by_cases hlt:k<16
  ·have hm:=ar_cell HD.out.d.bm k (by rw [joinK_len hM hN hk]; exact hlt)
   have hn:=ar_cell HD.out.bn k (by omega);have hf:=HD.out.d.bm.free k;have HJ:=Lh (joinK_at hM hN hlt);rw [HJ.out] at hm;have HX:=Lh (fun (h:M.getD k 0<N.getD k 0)=>show arL (joinK M N (k+1))=(arL (joinK M N k)).set k (.int .i64 (N.getD k 0)) by
    rw [←joinK_step hM hN hlt,join_at hM hN hlt,if_pos h]; simp [arL,List.map_set])
   have HY:=Lh (fun (h:¬ M.getD k 0<N.getD k 0)=>joinK_stay hM hN hlt h);generalize M.getD k 0=x at *
   generalize N.getD k 0=y at *
   by_cases hc:x<y
   ·have HE:=Lh (HX.out hc)
    have HD2:=Lh (HD.out.set k (.int .i64 y));clear HX HY;go_wp2_with fail
    go_region
    go_wp2_with fail
    go_roundg (16-(k+1))
    case measure=>omega
    case rel=>exact ⟨k+1,by omega,rfl,by go_num,by have h:=HD2.out; rw [←HE.out] at h; exact D13j.drew ⟨h.1,h.2⟩⟩
   ·have HE:=Lh (HY.out hc)
    clear HX HY;go_wp2_with fail
    go_region
    go_wp2_with fail
    go_roundg (16-(k+1))
    case measure=>omega
    case rel=>exact ⟨k+1,by omega,rfl,by go_num,by rw [←HE.out]; exact HD.out.drew⟩
  ·obtain rfl:k=16:=by omega
   rw [joinK_end hM hN] at HD;go_wp2_with (first | (refine ld_blk HD.out.d.bm (by rfl) (by rfl) (by rfl) U hsz.out ?_; simp only [LAY]) | (refine st_blk HD.out.d.bz (by rfl) (by rfl) (by rfl) (by rfl) (by simp [arL,join_len hM hN]) hsz.out (fun w2 hw2=>?_); simp only [LAY]))
   exact bodyPost_ret (v:=.agg (arL (joinL M N)).toArray) (res_arr (HD.out.d.stored (by simp [arL,join_len hM hN]) hw2.out).2 rfl rfl U hsz.out) rfl ⟨rfl,(HD.out.d.stored (by simp [arL,join_len hM hN]) hw2.out).1⟩
end Go.Proofs.Ytgpfbgmdahmpkaa
