import Derived.Test.YtifnijmienmmbaaGreatDoorDo8
set_option maxRecDepth 100000
set_option maxHeartbeats 12800000
namespace Go.Proofs.YtifnijmienmmbaaGreatDoor
open Go Go.Proofs Go.RowKit
structure R8 (w:World) (cs:List Value) (vm vl:Value) (m l:List Oq) (z1 z2:List Value) (W:World):Prop where
 bel:Below w.heap.size w W
 bv:Blk W (w.heap.size) cs 41
 bm:Blk W (w.heap.size+1) [vm,vl] 44
 r1:Blk W (w.heap.size+1+1+1) z1 41
 r2:Blk W (w.heap.size+1+1+1+1) z2 44
 iv:IsV W m l cs
 io:IsO W vm m
 il:IsO W vl l
theorem R8.next {w:World} {cs:List Value} {vm vl:Value} {m l:List Oq} {z1 z2:List Value} {W W':World} (h:R8 w cs vm vl m l z1 z2 W) (hb:Below W.heap.size W W'):R8 w cs vm vl m l z1 z2 W':=
 ⟨h.bel.trans (hb.mono h.bel.size),h.bv.next hb,h.bm.next hb,h.r1.next hb,h.r2.next hb,h.iv.next hb,h.io.next hb,h.il.next hb⟩
theorem R8.set1 {w:World} {c0 c1 c2 c3 c4 c5 c6 c7 vm vl:Value} {m l:List Oq} {z2:List Value} {W:World} (h:R8 w [c0,c1,c2,c3,c4,c5,c6,c7] vm vl m l [.pointer none,.pointer none,.int .i64 0,.slice none 0 0,.int .i64 0,.int .i64 0,.complex .f64 0 0,.complex .f64 0 0] z2 W):R8 w [c0,c1,c2,c3,c4,c5,c6,c7] vm vl m l [c0,c1,c2,c3,c4,c5,c6,c7] z2 (setN W (w.heap.size+1+1+1) 0 [c0,c1,c2,c3,c4,c5,c6,c7]):=by
 have k:∀ t,41≠t→KT t W (setN W (w.heap.size+1+1+1) 0 [c0,c1,c2,c3,c4,c5,c6,c7]):=fun t ht=>KT.setN ht _ 0 h.r1
 exact ⟨setN_below (by omega) _ 0 h.bel,h.bv.setN (by omega) _ 0,k _ (by decide) _ _ h.bm,setN_blk [c0,c1,c2,c3,c4,c5,c6,c7] 0 h.r1,k _ (by decide) _ _ h.r2,h.iv.kt (k _ (by decide)) (k _ (by decide)) (k _ (by decide)) (Nat.le_of_eq (setN_size _ 0).symm),Sl.kt (k _ (by decide)) h.io,Sl.kt (k _ (by decide)) h.il⟩
theorem R8.set2 {w:World} {cs:List Value} {vm vl:Value} {m l:List Oq} {z1:List Value} {W:World} (h:R8 w cs vm vl m l z1 [.slice none 0 0,.slice none 0 0] W):R8 w cs vm vl m l z1 [vm,vl] (setN W (w.heap.size+1+1+1+1) 0 [vm,vl]):=by
 have k:∀ t,44≠t→KT t W (setN W (w.heap.size+1+1+1+1) 0 [vm,vl]):=fun t ht=>KT.setN ht _ 0 h.r2
 exact ⟨setN_below (by omega) _ 0 h.bel,k _ (by decide) _ _ h.bv,h.bm.setN (by omega) _ 0,k _ (by decide) _ _ h.r1,setN_blk [vm,vl] 0 h.r2,h.iv.kt (k _ (by decide)) (k _ (by decide)) (k _ (by decide)) (Nat.le_of_eq (setN_size _ 0).symm),Sl.kt (k _ (by decide)) h.io,Sl.kt (k _ (by decide)) h.il⟩
theorem do8_x (m l:List Oq) (n:Nat) (hV:VOk m l n) (kd:Int) (h0:kd≠0) (h1:kd≠1) (h2:kd≠2) (o:Oq) (site at_ ch:Int) (c0 c1 c2 c3 c4 c5 c6 c7 vm vl:Value) (w:World) (hS:IsV w m l [c0,c1,c2,c3,c4,c5,c6,c7]) (hM:IsO w vm m) (hL:IsO w vl l):
  Calls Tryz.prog 20 #[.agg #[c0,c1,c2,c3,c4,c5,c6,c7],.agg #[vm,vl],.agg #[.int .u8 kd,o.k,o.c,o.s,o.a,o.n,.int .i32 o.ch,site,at_,.int .i32 ch]] w fun e w'=>Below w.heap.size w w'∧∃ d0 d1 d2 d3 d4 d5 d6 d7 vm' vl' m' l',e=.returned (.tuple #[.agg #[d0,d1,d2,d3,d4,d5,d6,d7],.agg #[vm',vl'],.bool true])∧(VOk m' l' (n+1)∧(Qt m l→Qt m' l'))∧IsV w' m' l' [d0,d1,d2,d3,d4,d5,d6,d7]∧IsO w' vm' m'∧IsO w' vl' l':=by
 obtain ⟨a1,p1,rfl,e1,e2⟩:=hM.form;obtain ⟨a2,p2,rfl,e3,e4⟩:=hL.form;have h:=D8.start w c0 c1 c2 c3 c4 c5 c6 c7 (.slice a1 m.length p1) (.slice a2 l.length p2) kd o site at_ ch;have H0:=Lh (show R8 w [c0,c1,c2,c3,c4,c5,c6,c7] (.slice a1 m.length p1) (.slice a2 l.length p2) m l [.pointer none,.pointer none,.int .i64 0,.slice none 0 0,.int .i64 0,.int .i64 0,.complex .f64 0 0,.complex .f64 0 0] [.slice none 0 0,.slice none 0 0] (((((((((w.alloc (.cells #[c0,c1,c2,c3,c4,c5,c6,c7] 41)).alloc (.cells #[.slice a1 m.length p1,.slice a2 l.length p2] 44)).alloc (.cells #[.int .u8 kd,o.k,o.c,o.s,o.a,o.n,.int .i32 o.ch,site,at_,.int .i32 ch] 75)).alloc (.cells #[.pointer none,.pointer none,.int .i64 0,.slice none 0 0,.int .i64 0,.int .i64 0,.complex .f64 0 0,.complex .f64 0 0] 41)).alloc (.cells #[.slice none 0 0,.slice none 0 0] 44)).alloc (.cells #[.pointer none,.pointer none,.int .i64 0,.slice none 0 0,.int .i64 0,.int .i64 0,.complex .f64 0 0,.complex .f64 0 0] 41)).alloc (.cells #[.slice none 0 0,.slice none 0 0] 44)).alloc (.cells #[.int .i64 0,.int .i64 0,.int .i64 0,.int .i64 0,.int .i64 0,.int .i32 0] 68)).alloc (.cells #[.int .i64 0,.int .i64 0,.int .i64 0,.int .i64 0,.int .i64 0,.int .i32 0] 95)) from ⟨h.bel,h.bv,h.bm,h.r1,h.r2,hS.next h.bel,hM.next h.bel,hL.next h.bel⟩);have HA:=Lh h.ba;have hon:=hS.one;have sd0:=fun (W:World) (a:Addr) (md:Mode)=>run_store Tryz.prog W a c0 md (hon c0 (by simp))
 have sd1:=fun (W:World) (a:Addr) (md:Mode)=>run_store Tryz.prog W a c1 md (hon c1 (by simp))
 have sd2:=fun (W:World) (a:Addr) (md:Mode)=>run_store Tryz.prog W a c2 md (hon c2 (by simp))
 have sd3:=fun (W:World) (a:Addr) (md:Mode)=>run_store Tryz.prog W a c3 md (hon c3 (by simp))
 have sd4:=fun (W:World) (a:Addr) (md:Mode)=>run_store Tryz.prog W a c4 md (hon c4 (by simp))
 have sd5:=fun (W:World) (a:Addr) (md:Mode)=>run_store Tryz.prog W a c5 md (hon c5 (by simp))
 have sd6:=fun (W:World) (a:Addr) (md:Mode)=>run_store Tryz.prog W a c6 md (hon c6 (by simp))
 have sd7:=fun (W:World) (a:Addr) (md:Mode)=>run_store Tryz.prog W a c7 md (hon c7 (by simp))
 have HV:=Lh (hV.more (Nat.le_succ n));have k0:(kd==0)=false:=by simpa using h0
 have k1:(kd==1)=false:=by simpa using h1
 have k2:(kd==2)=false:=by simpa using h2
 clear h hon hS hM hL hV h0 h1 h2
 go_enter Tryz.func20,Tryz.ntmps20
 generalize hW0:((((((((w.alloc (.cells #[c0,c1,c2,c3,c4,c5,c6,c7] 41)).alloc (.cells #[.slice a1 m.length p1,.slice a2 l.length p2] 44)).alloc (.cells #[.int .u8 kd,o.k,o.c,o.s,o.a,o.n,.int .i32 o.ch,site,at_,.int .i32 ch] 75)).alloc (.cells #[.pointer none,.pointer none,.int .i64 0,.slice none 0 0,.int .i64 0,.int .i64 0,.complex .f64 0 0,.complex .f64 0 0] 41)).alloc (.cells #[.slice none 0 0,.slice none 0 0] 44)).alloc (.cells #[.pointer none,.pointer none,.int .i64 0,.slice none 0 0,.int .i64 0,.int .i64 0,.complex .f64 0 0,.complex .f64 0 0] 41)).alloc (.cells #[.slice none 0 0,.slice none 0 0] 44)).alloc (.cells #[.int .i64 0,.int .i64 0,.int .i64 0,.int .i64 0,.int .i64 0,.int .i32 0] 68)).alloc (.cells #[.int .i64 0,.int .i64 0,.int .i64 0,.int .i64 0,.int .i64 0,.int .i32 0] 95)=w0 at *
 have a0:=HA.out.cell 0 rfl;go_wp2_with fail
 have H1:=Lh (H0.out.next bdq);have hdum:=trivial;clear HA hW0 a0;refine rgH (fun W=>Cc8 W w.heap.size c0 c1 c2 c3 c4 c5 c6 c7 (Cz2 W (w.heap.size+1) (.slice a1 m.length p1) (.slice a2 l.length p2))) (let h:=H1.out; (h.bv.d8 h.bm.c2)) fun hH=>?_
 clear hdum H0;generalize w0.drew=x1 at *
 obtain ⟨r0,r1,r2,r3,r4,r5,r6,r7⟩:=H1.out.r1.c8;have fr0 := H1.out.r1.f8;refine tq 0 (.agg #[c0,c1,c2,c3,c4,c5,c6,c7]) hH ?_;refine tq 1 (.agg #[.slice a1 m.length p1,.slice a2 l.length p2]) hH ?_;refine rd1 2 (by kernel_rfl) rfl fun KK hK=>?_
 go_simp
 go_wp2_with fail
 refine hK.out _ _ ((let h:=H1.out.set1; (h.bv.d8 h.bm.c2))) ?_;clear hK KK hH;intro hH
 try simp only [LAY]
 have H2:=Lh H1.out.set1
 change Hid (R8 _ _ _ _ _ _ _ _ ((((((((x1.setCell ⟨w.heap.size+1+1+1,0,none⟩ (c0)).setCell ⟨w.heap.size+1+1+1,1,none⟩ (c1)).setCell ⟨w.heap.size+1+1+1,2,none⟩ (c2)).setCell ⟨w.heap.size+1+1+1,3,none⟩ (c3)).setCell ⟨w.heap.size+1+1+1,4,none⟩ (c4)).setCell ⟨w.heap.size+1+1+1,5,none⟩ (c5)).setCell ⟨w.heap.size+1+1+1,6,none⟩ (c6)).setCell ⟨w.heap.size+1+1+1,7,none⟩ (c7))) at H2
 clear H1 r0 fr0 r1 r2 r3 r4 r5 r6 r7;generalize (((((((x1.setCell ⟨w.heap.size+1+1+1,0,none⟩ (c0)).setCell ⟨w.heap.size+1+1+1,1,none⟩ (c1)).setCell ⟨w.heap.size+1+1+1,2,none⟩ (c2)).setCell ⟨w.heap.size+1+1+1,3,none⟩ (c3)).setCell ⟨w.heap.size+1+1+1,4,none⟩ (c4)).setCell ⟨w.heap.size+1+1+1,5,none⟩ (c5)).setCell ⟨w.heap.size+1+1+1,6,none⟩ (c6)).setCell ⟨w.heap.size+1+1+1,7,none⟩ (c7)=x2 at *
 have s0 := H2.out.r2.c2;have fs0 := H2.out.r2.f2;refine rd1 3 (by kernel_rfl) rfl fun KK hK=>?_
 go_simp
 go_wp2_with fail
 refine hK.out _ _ ((let h:=H2.out.set2; (h.bv.d8 h.bm.c2))) ?_;clear hK KK hH;intro hH
 try simp only [LAY]
 have H3:=Lh H2.out.set2
 change Hid (R8 _ _ _ _ _ _ _ _ ((x2.setCell ⟨w.heap.size+1+1+1+1,0,none⟩ (.slice a1 m.length p1)).setCell ⟨w.heap.size+1+1+1+1,1,none⟩ (.slice a2 l.length p2))) at H3
 clear H2 s0 fs0;generalize (x2.setCell ⟨w.heap.size+1+1+1+1,0,none⟩ (.slice a1 m.length p1)).setCell ⟨w.heap.size+1+1+1+1,1,none⟩ (.slice a2 l.length p2)=x3 at *
 refine tq 4 (.bool true) hH ?_;refine dnH ?_;clear hH;obtain ⟨r0,r1,r2,r3,r4,r5,r6,r7⟩:=H3.out.r1.c8;have s0 := H3.out.r2.c2;go_wp2_with fail
 refine bodyPost_ret (v:=.tuple #[.agg #[c0,c1,c2,c3,c4,c5,c6,c7],.agg #[.slice a1 m.length p1,.slice a2 l.length p2],.bool true]) (by simp [results, Tryz.results20, go_sem, s0, r0, r1, r2, r3, r4, r5, r6, r7]) rfl ?_;exact ⟨H3.out.bel,_,_,_,_,_,_,_,_,_,_,m,l,rfl,⟨HV.out,id⟩,H3.out.iv,H3.out.io,H3.out.il⟩
end Go.Proofs.YtifnijmienmmbaaGreatDoor
