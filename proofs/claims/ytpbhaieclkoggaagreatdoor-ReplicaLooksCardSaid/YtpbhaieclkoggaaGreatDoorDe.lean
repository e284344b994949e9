import Derived.Test.YtpbhaieclkoggaaGreatDoorDq
import Derived.Test.YtpbhaieclkoggaaGreatDoorEb
import Derived.Test.YtpbhaieclkoggaaGreatDoorVm8
namespace Go.Proofs.YtpbhaieclkoggaaGreatDoor
open Go Go.Proofs Go.RowKit
structure E12 (w:World) (s:Int) (z:Bool) (vm vl vc:Value) (m l:List Oq) (cs:List Chg) (W:World):Prop where
 bel:Below w.heap.size w W
 br:Blk W w.heap.size [s,vm,vl,.bool z] 49
 b1:∃ a0 a1 a2 a3:Value,Blk W (w.heap.size+1+1) [a0,a1,a2,a3] 49
 b2:∃ a0 a1 a2:Value,Blk W (w.heap.size+1+1+1) [a0,a1,a2] 64
 io:IsO W vm m
 il:IsO W vl l
 ic:IsC W vc cs
theorem E12.next {w:World} {s:Int} {z:Bool} {vm vl vc:Value} {m l:List Oq} {cs:List Chg} {W W':World} (h:E12 w s z vm vl vc m l cs W) (hb:Below W.heap.size W W'):E12 w s z vm vl vc m l cs W':=by
 obtain ⟨a0,a1,a2,a3,h1⟩:=h.b1;obtain ⟨e0,e1,e2,h2⟩:=h.b2;exact ⟨h.bel.trans (hb.mono h.bel.size),h.br.next hb,⟨_,_,_,_,h1.next hb⟩,⟨_,_,_,h2.next hb⟩,h.io.next hb,h.il.next hb,h.ic.next hb⟩
theorem E12.start {w:World} {k s:Int} {z:Bool} {c:Cal} {vm vl:Value} {m l:List Oq} (hM:IsO w vm m) (hL:IsO w vl l):E12 w s z vm vl (.slice none 0 0) m l [] ((((w.alloc (.cells #[s,vm,vl,.bool z] 49)).alloc (.cells #[k,c.p,.int .i32 c.ch,c.o.k,c.o.c,c.o.s,c.o.a,c.o.n,.int .i32 c.o.ch,c.a,c.b] 72)).alloc (.cells #[.int .i64 0,.slice none 0 0,.slice none 0 0,.bool false] 49)).alloc (.cells #[.int .i64 0,.int .i64 0,.string ⟨#[]⟩] 64))∧Blk ((((w.alloc (.cells #[s,vm,vl,.bool z] 49)).alloc (.cells #[k,c.p,.int .i32 c.ch,c.o.k,c.o.c,c.o.s,c.o.a,c.o.n,.int .i32 c.o.ch,c.a,c.b] 72)).alloc (.cells #[.int .i64 0,.slice none 0 0,.slice none 0 0,.bool false] 49)).alloc (.cells #[.int .i64 0,.int .i64 0,.string ⟨#[]⟩] 64)) (w.heap.size+1) [k,c.p,.int .i32 c.ch,c.o.k,c.o.c,c.o.s,c.o.a,c.o.n,.int .i32 c.o.ch,c.a,c.b] 72:=by
 have hb:Below w.heap.size w ((((w.alloc (.cells #[s,vm,vl,.bool z] 49)).alloc (.cells #[k,c.p,.int .i32 c.ch,c.o.k,c.o.c,c.o.s,c.o.a,c.o.n,.int .i32 c.o.ch,c.a,c.b] 72)).alloc (.cells #[.int .i64 0,.slice none 0 0,.slice none 0 0,.bool false] 49)).alloc (.cells #[.int .i64 0,.int .i64 0,.string ⟨#[]⟩] 64)):=(((bA).alloc (by simp) _).alloc (by simp; omega) _).alloc (by simp; omega) _;exact ⟨⟨hb,(((Blk.startAt (b:=w.heap.size) rfl).alloc _).alloc _).alloc _,⟨_,_,_,_,(Blk.startAt (b:=w.heap.size+1+1) (by simp)).alloc _⟩,⟨_,_,_,Blk.startAt (b:=w.heap.size+1+1+1) (by simp)⟩,hM.next hb,hL.next hb,.inl ⟨rfl,rfl⟩⟩,((Blk.startAt (b:=w.heap.size+1) (by simp)).alloc _).alloc _⟩
theorem E12.st1 {w:World} {s:Int} {z:Bool} {vm vl vc:Value} {m l:List Oq} {cs:List Chg} {W:World} (h:E12 w s z vm vl vc m l cs W) (x0 x1 x2 x3:Value):
  E12 w s z vm vl vc m l cs (setN W (w.heap.size+1+1) 0 [x0,x1,x2,x3])∧Blk (setN W (w.heap.size+1+1) 0 [x0,x1,x2,x3]) (w.heap.size+1+1) [x0,x1,x2,x3] 49:=by
 obtain ⟨a0,a1,a2,a3,h1⟩:=h.b1;obtain ⟨e0,e1,e2,h2⟩:=h.b2;have h3:=setN_blk [x0,x1,x2,x3] 0 h1;exact ⟨⟨setN_below (by omega) _ 0 h.bel,h.br.setN (by omega) _ 0,⟨_,_,_,_,h3⟩,⟨_,_,_,h2.setN (by omega) _ 0⟩,Sl.kt (KT.setN (by decide) _ 0 h1) h.io,Sl.kt (KT.setN (by decide) _ 0 h1) h.il,Sl.kt (KT.setN (by decide) _ 0 h1) h.ic⟩,h3⟩
theorem E12.st2 {w:World} {s:Int} {z:Bool} {vm vl vc:Value} {m l:List Oq} {cs:List Chg} {W:World} (h:E12 w s z vm vl vc m l cs W) (y0 y1 y2:Value):
  E12 w s z vm vl vc m l cs (setN W (w.heap.size+1+1+1) 0 [y0,y1,y2])∧Blk (setN W (w.heap.size+1+1+1) 0 [y0,y1,y2]) (w.heap.size+1+1+1) [y0,y1,y2] 64:=by
 obtain ⟨a0,a1,a2,a3,h1⟩:=h.b1;obtain ⟨e0,e1,e2,h2⟩:=h.b2;have h3:=setN_blk [y0,y1,y2] 0 h2;exact ⟨⟨setN_below (by omega) _ 0 h.bel,h.br.setN (by omega) _ 0,⟨_,_,_,_,h1.setN (by omega) _ 0⟩,⟨_,_,_,h3⟩,Sl.kt (KT.setN (by decide) _ 0 h2) h.io,Sl.kt (KT.setN (by decide) _ 0 h2) h.il,Sl.kt (KT.setN (by decide) _ 0 h2) h.ic⟩,h3⟩
theorem E12.fin {w:World} {s:Int} {z:Bool} {vm vl vc:Value} {m l:List Oq} {cs:List Chg} {W:World} (h:E12 w s z vm vl vc m l cs W) (x0 x1 x2 x3 y0 y1 y2:Value):
  (Blk (setN (setN W (w.heap.size+1+1) 0 [x0,x1,x2,x3]) (w.heap.size+1+1+1) 0 [y0,y1,y2]) (w.heap.size+1+1) [x0,x1,x2,x3] 49 ∧
  Blk (setN (setN W (w.heap.size+1+1) 0 [x0,x1,x2,x3]) (w.heap.size+1+1+1) 0 [y0,y1,y2]) (w.heap.size+1+1+1) [y0,y1,y2] 64) ∧
  E12 w s z vm vl vc m l cs (setN (setN W (w.heap.size+1+1) 0 [x0,x1,x2,x3]) (w.heap.size+1+1+1) 0 [y0,y1,y2]):=
 have h1:=h.st1 x0 x1 x2 x3;have h2:=h1.1.st2 y0 y1 y2
 ⟨⟨h1.2.setN (by omega) _ 0,h2.2⟩,h2.1⟩
theorem E12.take {w:World} {s:Int} {z:Bool} {vm vl vc vm' vl' vc':Value} {m l m' l':List Oq} {cs cs':List Chg} {W:World} (h:E12 w s z vm vl vc m l cs W) (h1:IsO W vm' m') (h2:IsO W vl' l') (h3:IsC W vc' cs'):
  E12 w s z vm' vl' vc' m' l' cs' (setN W w.heap.size 1 [vm',vl']):=by
 obtain ⟨a0,a1,a2,a3,e1⟩:=h.b1;obtain ⟨e0,e1',e2,e3⟩:=h.b2;exact ⟨setN_below (Nat.le_refl _) _ 1 h.bel,setN_blk [vm',vl'] 1 h.br,⟨_,_,_,_,e1.setN (by omega) _ 1⟩,⟨_,_,_,e3.setN (by omega) _ 1⟩,Sl.kt (KT.setN (by decide) _ 1 h.br) h1,Sl.kt (KT.setN (by decide) _ 1 h.br) h2,Sl.kt (KT.setN (by decide) _ 1 h.br) h3⟩
theorem E12.shut {w:World} {s:Int} {z:Bool} {vm vl vc:Value} {m l:List Oq} {cs:List Chg} {W:World} (h:E12 w s z vm vl vc m l cs W):
  E12 w s true vm vl vc m l cs (setN W w.heap.size 3 [.bool true]):=by
 obtain ⟨a0,a1,a2,a3,e1⟩:=h.b1;obtain ⟨e0,e1',e2,e3⟩:=h.b2;exact ⟨setN_below (Nat.le_refl _) _ 3 h.bel,setN_blk [.bool true] 3 h.br,⟨_,_,_,_,e1.setN (by omega) _ 3⟩,⟨_,_,_,e3.setN (by omega) _ 3⟩,Sl.kt (KT.setN (by decide) _ 3 h.br) h.io,Sl.kt (KT.setN (by decide) _ 3 h.br) h.il,Sl.kt (KT.setN (by decide) _ 3 h.br) h.ic⟩
abbrev DoA (w:World) (s:Int) (z:Bool) (m l:List Oq) (e n:Int) (t:ByteArray) (cs:List Chg):Ending→World→Prop:=fun r w'=>∃ um ul vc,r=.returned (.tuple #[.agg #[s,um,ul,.bool z],.agg #[e,n,.string t],vc])∧IsO w' um m∧IsO w' ul l∧IsC w' vc cs∧Below w.heap.size w w'
theorem nam_may {m:List Oq} (h:OkO m) (k:Int):noneB (namC (docR m) k).1 (namC (docR m) k).2=true∨mayB (namC (docR m) k).1 (namC (docR m) k).2=true:=by
 by_cases hn:namC (docR m) k=(0,0)
 ·left; rw [hn]; rfl
 ·right
  obtain ⟨h0,h1⟩:=nam_yes hn;obtain ⟨y,hy,hk,e,_⟩:=nam_in h h0 h1;rw [e]; exact h.may y hy hk
theorem sg (a:Option Addr) (n p:Nat):StG (Value.slice a n p):=fun W a m=>run_store Tryz.prog W a _ m rfl
end Go.Proofs.YtpbhaieclkoggaaGreatDoor
set_option maxRecDepth 100000
set_option maxHeartbeats 12800000
namespace Go.Proofs.YtpbhaieclkoggaaGreatDoor
open Go Go.Proofs Go.RowKit
theorem doLo (m l:List Oq) (c:Cal) (s:Int) (z:Bool) (h0:c.k<0) (vm vl:Value) (w:World) (hM:IsO w vm m) (hL:IsO w vl l):
  Calls Tryz.prog 8 #[.agg #[s,vm,vl,.bool z],.agg #[c.k,c.p,.int .i32 c.ch,c.o.k,c.o.c,c.o.s,c.o.a,c.o.n,.int .i32 c.o.ch,c.a,c.b]] w (DoA w s z m l 1 0 ⟨#[]⟩ []):=by
 obtain ⟨aq1,pq1,rfl,e1,e2⟩:=Sl.form hM;obtain ⟨aq2,pq2,rfl,e3,e4⟩:=Sl.form hL;have H0:=Lh (E12.start (k:=c.k) (s:=s) (z:=z) (c:=c) hM hL);have sv0:=sg aq1 m.length pq1;have sv1:=sg aq2 l.length pq2;generalize Value.slice aq1 m.length pq1=vm at *
 generalize Value.slice aq2 l.length pq2=vl at *
 clear hM hL e1 e2 e3 e4
 go_enter Tryz.func8,Tryz.ntmps8
 go_upto_region 1 with fail
 generalize ((((w.alloc (.cells #[s,vm,vl,.bool z] 49)).alloc (.cells #[c.k,c.p,.int .i32 c.ch,c.o.k,c.o.c,c.o.s,c.o.a,c.o.n,.int .i32 c.o.ch,c.a,c.b] 72)).alloc (.cells #[.int .i64 0,.slice none 0 0,.slice none 0 0,.bool false] 49)).alloc (.cells #[.int .i64 0,.int .i64 0,.string ⟨#[]⟩] 64))=X0 at *
 have x0 := H0.out.1.br.c4;have y0 := H0.out.2.c11;obtain ⟨a0,a1,a2,a3,hb1⟩:=H0.out.1.b1;obtain ⟨d0,d1,d2,hb2⟩:=H0.out.1.b2;have n0 := hb1.c4;have fn0 := hb1.f4;have q0 := hb2.c3;have fq0 := hb2.f3;have HP:=Lh (H0.out.1.fin s vm vl (.bool z) (.int .i64 1) (.int .i64 0) (.string ⟨#[]⟩));simp only [setN, Nat.zero_add, Nat.reduceAdd] at HP
 skip
 go_wp2_with fail
 have p0 := HP.out.1.1.c4;have t0 := HP.out.1.2.c3;exact bodyPost_ret (v:=.tuple #[.agg #[s,vm,vl,.bool z],.agg #[.int .i64 1,.int .i64 0,.string ⟨#[]⟩],(.slice none 0 0)]) (by simp [results, Tryz.results8, go_sem, p0, t0]) rfl ⟨vm,vl,(.slice none 0 0),rfl,HP.out.2.io,HP.out.2.il,HP.out.2.ic,HP.out.2.bel⟩
theorem doHi (m l:List Oq) (c:Cal) (s:Int) (z:Bool) (h0:8<c.k) (vm vl:Value) (w:World) (hM:IsO w vm m) (hL:IsO w vl l):
  Calls Tryz.prog 8 #[.agg #[s,vm,vl,.bool z],.agg #[c.k,c.p,.int .i32 c.ch,c.o.k,c.o.c,c.o.s,c.o.a,c.o.n,.int .i32 c.o.ch,c.a,c.b]] w (DoA w s z m l 1 0 ⟨#[]⟩ []):=by
 obtain ⟨aq1,pq1,rfl,e1,e2⟩:=Sl.form hM;obtain ⟨aq2,pq2,rfl,e3,e4⟩:=Sl.form hL;have H0:=Lh (E12.start (k:=c.k) (s:=s) (z:=z) (c:=c) hM hL);have sv0:=sg aq1 m.length pq1;have sv1:=sg aq2 l.length pq2;generalize Value.slice aq1 m.length pq1=vm at *
 generalize Value.slice aq2 l.length pq2=vl at *
 clear hM hL e1 e2 e3 e4
 go_enter Tryz.func8,Tryz.ntmps8
 go_upto_region 1 with fail
 generalize ((((w.alloc (.cells #[s,vm,vl,.bool z] 49)).alloc (.cells #[c.k,c.p,.int .i32 c.ch,c.o.k,c.o.c,c.o.s,c.o.a,c.o.n,.int .i32 c.o.ch,c.a,c.b] 72)).alloc (.cells #[.int .i64 0,.slice none 0 0,.slice none 0 0,.bool false] 49)).alloc (.cells #[.int .i64 0,.int .i64 0,.string ⟨#[]⟩] 64))=X0 at *
 have x0 := H0.out.1.br.c4;have y0 := H0.out.2.c11;obtain ⟨a0,a1,a2,a3,hb1⟩:=H0.out.1.b1;obtain ⟨d0,d1,d2,hb2⟩:=H0.out.1.b2;have n0 := hb1.c4;have fn0 := hb1.f4;have q0 := hb2.c3;have fq0 := hb2.f3;have HP:=Lh (H0.out.1.fin s vm vl (.bool z) (.int .i64 1) (.int .i64 0) (.string ⟨#[]⟩));simp only [setN, Nat.zero_add, Nat.reduceAdd] at HP
 skip
 go_wp2_with fail
 have p0 := HP.out.1.1.c4;have t0 := HP.out.1.2.c3;exact bodyPost_ret (v:=.tuple #[.agg #[s,vm,vl,.bool z],.agg #[.int .i64 1,.int .i64 0,.string ⟨#[]⟩],(.slice none 0 0)]) (by simp [results, Tryz.results8, go_sem, p0, t0]) rfl ⟨vm,vl,(.slice none 0 0),rfl,HP.out.2.io,HP.out.2.il,HP.out.2.ic,HP.out.2.bel⟩
theorem doCl (m l:List Oq) (c:Cal) (s:Int) (h0:0≤c.k) (h1:c.k≤8) (vm vl:Value) (w:World) (hM:IsO w vm m) (hL:IsO w vl l):
  Calls Tryz.prog 8 #[.agg #[s,vm,vl,.bool true],.agg #[c.k,c.p,.int .i32 c.ch,c.o.k,c.o.c,c.o.s,c.o.a,c.o.n,.int .i32 c.o.ch,c.a,c.b]] w (DoA w s true m l 9 0 ⟨#[]⟩ []):=by
 obtain ⟨aq1,pq1,rfl,e1,e2⟩:=Sl.form hM;obtain ⟨aq2,pq2,rfl,e3,e4⟩:=Sl.form hL;have H0:=Lh (E12.start (k:=c.k) (s:=s) (z:=true) (c:=c) hM hL);have sv0:=sg aq1 m.length pq1;have sv1:=sg aq2 l.length pq2;generalize Value.slice aq1 m.length pq1=vm at *
 generalize Value.slice aq2 l.length pq2=vl at *
 clear hM hL e1 e2 e3 e4
 go_enter Tryz.func8,Tryz.ntmps8
 go_upto_region 1 with fail
 generalize ((((w.alloc (.cells #[s,vm,vl,.bool true] 49)).alloc (.cells #[c.k,c.p,.int .i32 c.ch,c.o.k,c.o.c,c.o.s,c.o.a,c.o.n,.int .i32 c.o.ch,c.a,c.b] 72)).alloc (.cells #[.int .i64 0,.slice none 0 0,.slice none 0 0,.bool false] 49)).alloc (.cells #[.int .i64 0,.int .i64 0,.string ⟨#[]⟩] 64))=X0 at *
 have x0 := H0.out.1.br.c4;have y0 := H0.out.2.c11;obtain ⟨a0,a1,a2,a3,hb1⟩:=H0.out.1.b1;obtain ⟨d0,d1,d2,hb2⟩:=H0.out.1.b2;have n0 := hb1.c4;have fn0 := hb1.f4;have q0 := hb2.c3;have fq0 := hb2.f3;have HP:=Lh (H0.out.1.fin s vm vl (.bool true) (.int .i64 9) (.int .i64 0) (.string ⟨#[]⟩));simp only [setN, Nat.zero_add, Nat.reduceAdd] at HP
 skip
 go_wp2_with fail
 have p0 := HP.out.1.1.c4;have t0 := HP.out.1.2.c3;exact bodyPost_ret (v:=.tuple #[.agg #[s,vm,vl,.bool true],.agg #[.int .i64 9,.int .i64 0,.string ⟨#[]⟩],(.slice none 0 0)]) (by simp [results, Tryz.results8, go_sem, p0, t0]) rfl ⟨vm,vl,(.slice none 0 0),rfl,HP.out.2.io,HP.out.2.il,HP.out.2.ic,HP.out.2.bel⟩
theorem doNo (m l:List Oq) (c:Cal) (h0:0≤c.k) (h1:c.k≤8) (vm vl:Value) (w:World) (hM:IsO w vm m) (hL:IsO w vl l):
  Calls Tryz.prog 8 #[.agg #[.int .i64 0,vm,vl,.bool false],.agg #[c.k,c.p,.int .i32 c.ch,c.o.k,c.o.c,c.o.s,c.o.a,c.o.n,.int .i32 c.o.ch,c.a,c.b]] w (DoA w 0 false m l 9 0 ⟨#[]⟩ []):=by
 obtain ⟨aq1,pq1,rfl,e1,e2⟩:=Sl.form hM;obtain ⟨aq2,pq2,rfl,e3,e4⟩:=Sl.form hL;have H0:=Lh (E12.start (k:=c.k) (s:=0) (z:=false) (c:=c) hM hL);have sv0:=sg aq1 m.length pq1;have sv1:=sg aq2 l.length pq2;generalize Value.slice aq1 m.length pq1=vm at *
 generalize Value.slice aq2 l.length pq2=vl at *
 clear hM hL e1 e2 e3 e4
 go_enter Tryz.func8,Tryz.ntmps8
 go_upto_region 1 with fail
 generalize ((((w.alloc (.cells #[.int .i64 0,vm,vl,.bool false] 49)).alloc (.cells #[c.k,c.p,.int .i32 c.ch,c.o.k,c.o.c,c.o.s,c.o.a,c.o.n,.int .i32 c.o.ch,c.a,c.b] 72)).alloc (.cells #[.int .i64 0,.slice none 0 0,.slice none 0 0,.bool false] 49)).alloc (.cells #[.int .i64 0,.int .i64 0,.string ⟨#[]⟩] 64))=X0 at *
 have x0 := H0.out.1.br.c4;have y0 := H0.out.2.c11;obtain ⟨a0,a1,a2,a3,hb1⟩:=H0.out.1.b1;obtain ⟨d0,d1,d2,hb2⟩:=H0.out.1.b2;have n0 := hb1.c4;have fn0 := hb1.f4;have q0 := hb2.c3;have fq0 := hb2.f3;have HP:=Lh (H0.out.1.fin (.int .i64 0) vm vl (.bool false) (.int .i64 9) (.int .i64 0) (.string ⟨#[]⟩));simp only [setN, Nat.zero_add, Nat.reduceAdd] at HP
 skip
 go_wp2_with fail
 have p0 := HP.out.1.1.c4;have t0 := HP.out.1.2.c3;exact bodyPost_ret (v:=.tuple #[.agg #[.int .i64 0,vm,vl,.bool false],.agg #[.int .i64 9,.int .i64 0,.string ⟨#[]⟩],(.slice none 0 0)]) (by simp [results, Tryz.results8, go_sem, p0, t0]) rfl ⟨vm,vl,(.slice none 0 0),rfl,HP.out.2.io,HP.out.2.il,HP.out.2.ic,HP.out.2.bel⟩
theorem do8 (m l:List Oq) (c:Cal) (s:Int) (hs:(s==0)=false) (vm vl:Value) (w:World) (hM:IsO w vm m) (hL:IsO w vl l):
  Calls Tryz.prog 8 #[.agg #[s,vm,vl,.bool false],.agg #[.int .i64 8,c.p,.int .i32 c.ch,c.o.k,c.o.c,c.o.s,c.o.a,c.o.n,.int .i32 c.o.ch,c.a,c.b]] w (DoA w s true m l 0 0 ⟨#[]⟩ []):=by
 obtain ⟨aq1,pq1,rfl,e1,e2⟩:=Sl.form hM;obtain ⟨aq2,pq2,rfl,e3,e4⟩:=Sl.form hL;have H0:=Lh (E12.start (k:=8) (s:=s) (z:=false) (c:=c) hM hL);have sv0:=sg aq1 m.length pq1;have sv1:=sg aq2 l.length pq2;generalize Value.slice aq1 m.length pq1=vm at *
 generalize Value.slice aq2 l.length pq2=vl at *
 clear hM hL e1 e2 e3 e4
 go_enter Tryz.func8,Tryz.ntmps8
 go_upto_region 1 with fail
 generalize ((((w.alloc (.cells #[s,vm,vl,.bool false] 49)).alloc (.cells #[.int .i64 8,c.p,.int .i32 c.ch,c.o.k,c.o.c,c.o.s,c.o.a,c.o.n,.int .i32 c.o.ch,c.a,c.b] 72)).alloc (.cells #[.int .i64 0,.slice none 0 0,.slice none 0 0,.bool false] 49)).alloc (.cells #[.int .i64 0,.int .i64 0,.string ⟨#[]⟩] 64))=X0 at *
 have x0 := H0.out.1.br.c4;have y0 := H0.out.2.c11;obtain ⟨a0,a1,a2,a3,hb1⟩:=H0.out.1.b1;obtain ⟨d0,d1,d2,hb2⟩:=H0.out.1.b2;have n0 := hb1.c4;have fn0 := hb1.f4;have q0 := hb2.c3;have fq0 := hb2.f3;have f3:=H0.out.1.br.free 3;have H1:=Lh (H0.out.1.shut);have HP:=Lh (H1.out.fin s vm vl (.bool true) (.int .i64 0) (.int .i64 0) (.string ⟨#[]⟩));simp only [setN, Nat.zero_add, Nat.reduceAdd] at HP
 skip
 simp only [setN] at H1
 go_wp2_with fail
 have p0 := HP.out.1.1.c4;have t0 := HP.out.1.2.c3;exact bodyPost_ret (v:=.tuple #[.agg #[s,vm,vl,.bool true],.agg #[.int .i64 0,.int .i64 0,.string ⟨#[]⟩],(.slice none 0 0)]) (by simp [results, Tryz.results8, go_sem, p0, t0]) rfl ⟨vm,vl,(.slice none 0 0),rfl,HP.out.2.io,HP.out.2.il,HP.out.2.ic,HP.out.2.bel⟩
theorem do6 (m l:List Oq) (n:Nat) (hV:VOk m l n) (hn:n≤60) (c:Cal) (s:Int) (hs:(s==0)=false) (vm vl:Value) (w:World) (hM:IsO w vm m) (hL:IsO w vl l):
  Calls Tryz.prog 8 #[.agg #[s,vm,vl,.bool false],.agg #[.int .i64 6,c.p,.int .i32 c.ch,c.o.k,c.o.c,c.o.s,c.o.a,c.o.n,.int .i32 c.o.ch,c.a,c.b]] w (DoA w s false m l (reE (docR m) c.a c.b) (reN (docR m) c.a c.b) ⟨#[]⟩ []):=by
 obtain ⟨aq1,pq1,rfl,e1,e2⟩:=Sl.form hM;obtain ⟨aq2,pq2,rfl,e3,e4⟩:=Sl.form hL;have H0:=Lh (E12.start (k:=6) (s:=s) (z:=false) (c:=c) hM hL);have sv0:=sg aq1 m.length pq1;have sv1:=sg aq2 l.length pq2;generalize Value.slice aq1 m.length pq1=vm at *
 generalize Value.slice aq2 l.length pq2=vl at *
 have HR:=Lh (fun W (h:IsO W vm m)=>rcRe_any (l:=l) hV hn c.a c.b vm vl W h);generalize reE (docR m) c.a c.b=E at *
 generalize reN (docR m) c.a c.b=N at *
 clear hM hL e1 e2 e3 e4 hV hn
 go_enter Tryz.func8,Tryz.ntmps8
 go_upto_region 1 with fail
 generalize ((((w.alloc (.cells #[s,vm,vl,.bool false] 49)).alloc (.cells #[.int .i64 6,c.p,.int .i32 c.ch,c.o.k,c.o.c,c.o.s,c.o.a,c.o.n,.int .i32 c.o.ch,c.a,c.b] 72)).alloc (.cells #[.int .i64 0,.slice none 0 0,.slice none 0 0,.bool false] 49)).alloc (.cells #[.int .i64 0,.int .i64 0,.string ⟨#[]⟩] 64))=X0 at *
 have x0 := H0.out.1.br.c4;have y0 := H0.out.2.c11;obtain ⟨a0,a1,a2,a3,hb1⟩:=H0.out.1.b1;obtain ⟨d0,d1,d2,hb2⟩:=H0.out.1.b2;have n0 := hb1.c4;have fn0 := hb1.f4;have q0 := hb2.c3;have fq0 := hb2.f3;clear hb1 hb2 n0 fn0 q0 fq0;go_wp2_with (go_at_call 31; refine (HR.out _ H0.out.1.io).mono ?_; rintro e w1 ⟨rfl,hb⟩; refine Hid.out ?_)
 have H1:=Lh (H0.out.1.next hb);clear H0 hb HR x0 y0;have x0 := H1.out.br.c4;obtain ⟨a0,a1,a2,a3,hb1⟩:=H1.out.b1;obtain ⟨d0,d1,d2,hb2⟩:=H1.out.b2;have n0 := hb1.c4;have fn0 := hb1.f4;have q0 := hb2.c3;have fq0 := hb2.f3;refine Lh ?_;have HP:=Lh (H1.out.fin s vm vl (.bool false) E N (.string ⟨#[]⟩));simp only [setN, Nat.zero_add, Nat.reduceAdd] at HP
 skip
 go_wp2_with fail
 have p0 := HP.out.1.1.c4;have t0 := HP.out.1.2.c3;exact bodyPost_ret (v:=.tuple #[.agg #[s,vm,vl,.bool false],.agg #[E,N,.string ⟨#[]⟩],(.slice none 0 0)]) (by simp [results, Tryz.results8, go_sem, p0, t0]) rfl ⟨vm,vl,(.slice none 0 0),rfl,HP.out.2.io,HP.out.2.il,HP.out.2.ic,HP.out.2.bel⟩
end Go.Proofs.YtpbhaieclkoggaaGreatDoor
set_option maxRecDepth 100000
set_option maxHeartbeats 12800000
namespace Go.Proofs.YtpbhaieclkoggaaGreatDoor
open Go Go.Proofs Go.RowKit
theorem do3 (m l:List Oq) (n:Nat) (hV:VOk m l n) (hn:n≤60) (c:Cal) (s:Int) (hs:(s==0)=false) (vm vl:Value) (w:World) (hM:IsO w vm m) (hL:IsO w vl l):
  Calls Tryz.prog 8 #[.agg #[s,vm,vl,.bool false],.agg #[.int .i64 3,c.p,.int .i32 c.ch,c.o.k,c.o.c,c.o.s,c.o.a,c.o.n,.int .i32 c.o.ch,c.a,c.b]] w (DoA w s false m l 0 0 (txtS (docR m)) []):=by
 obtain ⟨aq1,pq1,rfl,e1,e2⟩:=Sl.form hM;obtain ⟨aq2,pq2,rfl,e3,e4⟩:=Sl.form hL;have H0:=Lh (E12.start (k:=3) (s:=s) (z:=false) (c:=c) hM hL);have sv0:=sg aq1 m.length pq1;have sv1:=sg aq2 l.length pq2;generalize Value.slice aq1 m.length pq1=vm at *
 generalize Value.slice aq2 l.length pq2=vl at *
 have HTX:=Lh (fun W (h:IsO W vm m)=>ref8Text_any m (by have:=hV.len; omega) hV.ok.gd vm vl W h);generalize txtS (docR m)=tx at *
 clear hM hL e1 e2 e3 e4 hV hn
 go_enter Tryz.func8,Tryz.ntmps8
 go_upto_region 1 with fail
 generalize ((((w.alloc (.cells #[s,vm,vl,.bool false] 49)).alloc (.cells #[.int .i64 3,c.p,.int .i32 c.ch,c.o.k,c.o.c,c.o.s,c.o.a,c.o.n,.int .i32 c.o.ch,c.a,c.b] 72)).alloc (.cells #[.int .i64 0,.slice none 0 0,.slice none 0 0,.bool false] 49)).alloc (.cells #[.int .i64 0,.int .i64 0,.string ⟨#[]⟩] 64))=X0 at *
 have x0 := H0.out.1.br.c4;have y0 := H0.out.2.c11;obtain ⟨a0,a1,a2,a3,hb1⟩:=H0.out.1.b1;obtain ⟨d0,d1,d2,hb2⟩:=H0.out.1.b2;have n0 := hb1.c4;have fn0 := hb1.f4;have q0 := hb2.c3;have fq0 := hb2.f3;clear hb1 hb2 n0 fn0 q0 fq0;go_wp2_with fail
 have HD:=Lh (H0.out.1.next bdq);clear H0 x0 y0;refine rgH (fun W=>(E12 w s false vm vl (.slice none 0 0) m l [] W∧True)∧Cz4 W w.heap.size s vm vl (.bool false)) (let h:=And.intro (HD.out) (trivial); ⟨h,h.1.br.c4⟩) fun hH=>?_
 clear HD;generalize X0.drew=X9 at *
 refine tq 0 (.agg #[s,vm,vl,.bool false]) hH ?_;refine tq 1 (.pointer (some ⟨w.heap.size,1,none⟩)) hH ?_;refine tq 2 (.agg #[vm,vl]) hH ?_;refine rd1 3 (by kernel_rfl) rfl fun K hK=>?_
 go_simp
 refine (HTX.out _ hH.1.1.io).mono ?_
 rintro e u ⟨rfl,hb⟩
 go_wp2_with fail
 refine hK.out _ _ (let h:=And.intro (hH.1.1.next hb) (trivial); ⟨h,h.1.br.c4⟩) ?_;clear hK K hH;intro hH
 try simp only [LAY]
 clear hb HTX;refine tq 4 (.agg #[.int .i64 0,.int .i64 0,.string tx]) hH ?_;have HQ:=Lh (hH.1);obtain ⟨r0,r1,r2,r3,hb1⟩:=HQ.out.1.b1;have n0 := hb1.c4;have fn0 := hb1.f4;have HP:=Lh (HQ.out.1.st1 s vm vl (.bool false));obtain ⟨wz,hwz⟩:∃ wz,wz=setN u (w.heap.size+1+1) 0 [s,vm,vl,.bool false]:=⟨_,rfl⟩
 rw [←hwz] at HP;simp only [setN, Nat.zero_add, Nat.reduceAdd] at hwz
 have HWZ:=Lh hwz;clear hwz;refine rd1 5 (by kernel_rfl) rfl fun K hK=>?_
 go_simp
 go_wp2_with fail
 rw [←HWZ.out];refine hK.out _ _ (let h:=And.intro (HP.out.1) (trivial); ⟨h,h.1.br.c4⟩) ?_;clear hK K hH HWZ HQ hb1 n0 fn0;intro hH
 try simp only [LAY]
 have HQ:=Lh (hH.1);obtain ⟨r0,r1,r2,hb2⟩:=HQ.out.1.b2;have n0 := hb2.c3;have fn0 := hb2.f3;have HP2:=Lh (And.intro (HP.out.1.st2 (.int .i64 0) (.int .i64 0) (.string tx)) (HP.out.2.setN (b:=w.heap.size+1+1+1) (by omega) [.int .i64 0,.int .i64 0,.string tx] 0));obtain ⟨wy,hwy⟩:∃ wy,wy=setN wz (w.heap.size+1+1+1) 0 [.int .i64 0,.int .i64 0,.string tx]:=⟨_,rfl⟩
 rw [←hwy] at HP2;simp only [setN, Nat.zero_add, Nat.reduceAdd] at hwy
 have HWZ:=Lh hwy;clear hwy;refine rd1 6 (by kernel_rfl) rfl fun K hK=>?_
 go_simp
 go_wp2_with fail
 rw [←HWZ.out];refine hK.out _ _ (let h:=And.intro (HP2.out.1.1) (trivial); ⟨h,h.1.br.c4⟩) ?_;clear hK K hH HWZ HQ hb2 HP n0 fn0;intro hH
 try simp only [LAY]
 refine tq 7 ((.slice none 0 0)) hH ?_;refine dnH ?_;clear hH;have p0 := HP2.out.2.c4;have t0 := HP2.out.1.2.c3;go_wp2_with fail
 exact bodyPost_ret (v:=.tuple #[.agg #[s,vm,vl,.bool false],.agg #[.int .i64 0,.int .i64 0,.string tx],(.slice none 0 0)]) (by simp [results, Tryz.results8, go_sem, p0, t0]) rfl ⟨vm,vl,(.slice none 0 0),rfl,HP2.out.1.1.io,HP2.out.1.1.il,HP2.out.1.1.ic,HP2.out.1.1.bel⟩
theorem do4 (m l:List Oq) (n:Nat) (hV:VOk m l n) (hn:n≤60) (c:Cal) (s:Int) (hs:(s==0)=false) (vm vl:Value) (w:World) (hM:IsO w vm m) (hL:IsO w vl l):
  Calls Tryz.prog 8 #[.agg #[s,vm,vl,.bool false],.agg #[.int .i64 4,c.p,.int .i32 c.ch,c.o.k,c.o.c,c.o.s,c.o.a,c.o.n,.int .i32 c.o.ch,c.a,c.b]] w (DoA w s false m l 0 (aliN (docR m)) ⟨#[]⟩ []):=by
 obtain ⟨aq1,pq1,rfl,e1,e2⟩:=Sl.form hM;obtain ⟨aq2,pq2,rfl,e3,e4⟩:=Sl.form hL;have H0:=Lh (E12.start (k:=4) (s:=s) (z:=false) (c:=c) hM hL);have sv0:=sg aq1 m.length pq1;have sv1:=sg aq2 l.length pq2;generalize Value.slice aq1 m.length pq1=vm at *
 generalize Value.slice aq2 l.length pq2=vl at *
 have hdl:(docR m).length≤20000:=by rw [docR_len]; have:=row_len hV.ok.gd; have:=hV.len; omega
 have HLI:=Lh (fun W (h:IsO W vm m)=>ref8List_any m (by have:=hV.len; omega) hV.ok.gd vm vl W h);have HRK:=Lh (fun v W (h:IsE W v (docR m))=>show Calls Tryz.prog 28 #[v,.int .i64 ((docR m).length:Int)] W fun e w'=>e=.returned (.int .i64 (aliN (docR m)))∧Below W.heap.size W w' from refRank_any (docR m) _ v W h hdl);generalize aliN (docR m)=N at *
 generalize docR m=L at *
 clear hM hL e1 e2 e3 e4 hV hn hdl
 go_enter Tryz.func8,Tryz.ntmps8
 go_upto_region 1 with fail
 generalize ((((w.alloc (.cells #[s,vm,vl,.bool false] 49)).alloc (.cells #[.int .i64 4,c.p,.int .i32 c.ch,c.o.k,c.o.c,c.o.s,c.o.a,c.o.n,.int .i32 c.o.ch,c.a,c.b] 72)).alloc (.cells #[.int .i64 0,.slice none 0 0,.slice none 0 0,.bool false] 49)).alloc (.cells #[.int .i64 0,.int .i64 0,.string ⟨#[]⟩] 64))=X0 at *
 have x0 := H0.out.1.br.c4;have y0 := H0.out.2.c11;obtain ⟨a0,a1,a2,a3,hb1⟩:=H0.out.1.b1;obtain ⟨d0,d1,d2,hb2⟩:=H0.out.1.b2;have n0 := hb1.c4;have fn0 := hb1.f4;have q0 := hb2.c3;have fq0 := hb2.f3;clear hb1 hb2 n0 fn0 q0 fq0;go_wp2_with (go_at_call 27; refine (HLI.out _ H0.out.1.io).mono ?_; rintro e w1 ⟨v,rfl,hE,hb⟩; refine Hid.out ?_)
 obtain ⟨ae,pe,rfl,e5,e6⟩:=Sl.form hE;have HD:=Lh (And.intro ((H0.out.1.next hb).next bdq) (IsE.next hE bdq));clear H0 hb hE HLI e5 e6 x0 y0;refine Lh ?_;go_wp2_with fail
 refine rgH (fun W=>(E12 w s false vm vl (.slice none 0 0) m l [] W∧IsE W (.slice ae L.length pe) L)∧Cz4 W w.heap.size s vm vl (.bool false)) (let h:=And.intro (HD.out.1) (HD.out.2); ⟨h,h.1.br.c4⟩) fun hH=>?_
 clear HD;generalize w1.drew=X9 at *
 refine tq 0 (.agg #[s,vm,vl,.bool false]) hH ?_;refine tq 1 (.slice ae L.length pe) hH ?_;refine tq 2 (.slice ae L.length pe) hH ?_;refine tq 3 (.int .i64 (L.length:Int)) hH ?_;refine rd1 4 (by kernel_rfl) rfl fun K hK=>?_
 go_simp
 refine (HRK.out _ _ hH.1.2).mono ?_
 rintro e u ⟨rfl,hb⟩
 go_wp2_with fail
 refine hK.out _ _ (let h:=And.intro (hH.1.1.next hb) (IsE.next hH.1.2 hb); ⟨h,h.1.br.c4⟩) ?_;clear hK K hH;intro hH
 try simp only [LAY]
 clear hb HRK;refine tq 5 (.agg #[.int .i64 0,N,.string ⟨#[]⟩]) hH ?_;have HQ:=Lh (hH.1);obtain ⟨r0,r1,r2,r3,hb1⟩:=HQ.out.1.b1;have n0 := hb1.c4;have fn0 := hb1.f4;have HP:=Lh (HQ.out.1.st1 s vm vl (.bool false));have HR:=Lh (show IsE (setN u (w.heap.size+1+1) 0 [s,vm,vl,.bool false]) (.slice ae L.length pe) L from Sl.kt (KT.setN (by decide) _ 0 hb1) HQ.out.2);obtain ⟨wz,hwz⟩:∃ wz,wz=setN u (w.heap.size+1+1) 0 [s,vm,vl,.bool false]:=⟨_,rfl⟩
 rw [←hwz] at HP HR;simp only [setN, Nat.zero_add, Nat.reduceAdd] at hwz
 have HWZ:=Lh hwz;clear hwz;refine rd1 6 (by kernel_rfl) rfl fun K hK=>?_
 go_simp
 go_wp2_with fail
 rw [←HWZ.out];refine hK.out _ _ (let h:=And.intro (HP.out.1) (HR.out); ⟨h,h.1.br.c4⟩) ?_;clear hK K hH HWZ HQ hb1 n0 fn0 HR;intro hH
 try simp only [LAY]
 have HQ:=Lh (hH.1);obtain ⟨r0,r1,r2,hb2⟩:=HQ.out.1.b2;have n0 := hb2.c3;have fn0 := hb2.f3;have HP2:=Lh (And.intro (HP.out.1.st2 (.int .i64 0) N (.string ⟨#[]⟩)) (HP.out.2.setN (b:=w.heap.size+1+1+1) (by omega) [.int .i64 0,N,.string ⟨#[]⟩] 0));have HR:=Lh (show IsE (setN wz (w.heap.size+1+1+1) 0 [.int .i64 0,N,.string ⟨#[]⟩]) (.slice ae L.length pe) L from Sl.kt (KT.setN (by decide) _ 0 hb2) HQ.out.2);obtain ⟨wy,hwy⟩:∃ wy,wy=setN wz (w.heap.size+1+1+1) 0 [.int .i64 0,N,.string ⟨#[]⟩]:=⟨_,rfl⟩
 rw [←hwy] at HP2 HR;simp only [setN, Nat.zero_add, Nat.reduceAdd] at hwy
 have HWZ:=Lh hwy;clear hwy;refine rd1 7 (by kernel_rfl) rfl fun K hK=>?_
 go_simp
 go_wp2_with fail
 rw [←HWZ.out];refine hK.out _ _ (let h:=And.intro (HP2.out.1.1) (HR.out); ⟨h,h.1.br.c4⟩) ?_;clear hK K hH HWZ HQ hb2 HP n0 fn0 HR;intro hH
 try simp only [LAY]
 refine tq 8 ((.slice none 0 0)) hH ?_;refine dnH ?_;clear hH;have p0 := HP2.out.2.c4;have t0 := HP2.out.1.2.c3;go_wp2_with fail
 exact bodyPost_ret (v:=.tuple #[.agg #[s,vm,vl,.bool false],.agg #[.int .i64 0,N,.string ⟨#[]⟩],(.slice none 0 0)]) (by simp [results, Tryz.results8, go_sem, p0, t0]) rfl ⟨vm,vl,(.slice none 0 0),rfl,HP2.out.1.1.io,HP2.out.1.1.il,HP2.out.1.1.ic,HP2.out.1.1.bel⟩
theorem do7 (m l:List Oq) (n:Nat) (hV:VOk m l n) (hn:n≤60) (c:Cal) (s:Int) (hs:(s==0)=false) (vm vl:Value) (w:World) (hM:IsO w vm m) (hL:IsO w vl l):
  Calls Tryz.prog 8 #[.agg #[s,vm,vl,.bool false],.agg #[.int .i64 7,c.p,.int .i32 c.ch,c.o.k,c.o.c,c.o.s,c.o.a,c.o.n,.int .i32 c.o.ch,c.a,c.b]] w (DoA w s false m l 0 (m.length:Int) (sumT m) []):=by
 obtain ⟨aq1,pq1,rfl,e1,e2⟩:=Sl.form hM;obtain ⟨aq2,pq2,rfl,e3,e4⟩:=Sl.form hL;have H0:=Lh (E12.start (k:=7) (s:=s) (z:=false) (c:=c) hM hL);have sv0:=sg aq1 m.length pq1;have sv1:=sg aq2 l.length pq2;generalize Value.slice aq2 l.length pq2=vl at *
 have HSU:=Lh (fun W (h:IsO W (.slice aq1 m.length pq1) m)=>refSum12_any m l n hV hn (.slice aq1 m.length pq1) vl W h);generalize sumT m=tx at *
 clear hM hL e1 e2 e3 e4 hV hn
 go_enter Tryz.func8,Tryz.ntmps8
 go_upto_region 1 with fail
 generalize ((((w.alloc (.cells #[s,.slice aq1 m.length pq1,vl,.bool false] 49)).alloc (.cells #[.int .i64 7,c.p,.int .i32 c.ch,c.o.k,c.o.c,c.o.s,c.o.a,c.o.n,.int .i32 c.o.ch,c.a,c.b] 72)).alloc (.cells #[.int .i64 0,.slice none 0 0,.slice none 0 0,.bool false] 49)).alloc (.cells #[.int .i64 0,.int .i64 0,.string ⟨#[]⟩] 64))=X0 at *
 have x0 := H0.out.1.br.c4;have y0 := H0.out.2.c11;obtain ⟨a0,a1,a2,a3,hb1⟩:=H0.out.1.b1;obtain ⟨d0,d1,d2,hb2⟩:=H0.out.1.b2;have n0 := hb1.c4;have fn0 := hb1.f4;have q0 := hb2.c3;have fq0 := hb2.f3;clear hb1 hb2 n0 fn0 q0 fq0;go_wp2_with fail
 have HD:=Lh (H0.out.1.next bdq);clear H0 x0 y0;refine rgH (fun W=>(E12 w s false (.slice aq1 m.length pq1) vl (.slice none 0 0) m l [] W∧True)∧Cz4 W w.heap.size s (.slice aq1 m.length pq1) vl (.bool false)) (let h:=And.intro (HD.out) (trivial); ⟨h,h.1.br.c4⟩) fun hH=>?_
 clear HD;generalize X0.drew=X9 at *
 refine tq 0 (.agg #[s,.slice aq1 m.length pq1,vl,.bool false]) hH ?_;refine tq 1 (.pointer (some ⟨w.heap.size,1,none⟩)) hH ?_;refine tq 2 (.pointer (some ⟨w.heap.size,1,none⟩)) hH ?_;refine tq 3 (.slice aq1 m.length pq1) hH ?_;refine tq 4 (.int .i64 (m.length:Int)) hH ?_;refine tq 5 (.pointer (some ⟨w.heap.size,1,none⟩)) hH ?_;refine tq 6 (.agg #[.slice aq1 m.length pq1,vl]) hH ?_;refine rd1 7 (by kernel_rfl) rfl fun K hK=>?_
 go_simp
 refine (HSU.out _ hH.1.1.io).mono ?_
 rintro e u ⟨rfl,hb⟩
 go_wp2_with fail
 refine hK.out _ _ (let h:=And.intro (hH.1.1.next hb) (trivial); ⟨h,h.1.br.c4⟩) ?_;clear hK K hH;intro hH
 try simp only [LAY]
 clear hb HSU;refine tq 8 (.agg #[.int .i64 0,.int .i64 (m.length:Int),.string tx]) hH ?_;have HQ:=Lh (hH.1);obtain ⟨r0,r1,r2,r3,hb1⟩:=HQ.out.1.b1;have n0 := hb1.c4;have fn0 := hb1.f4;have HP:=Lh (HQ.out.1.st1 s (.slice aq1 m.length pq1) vl (.bool false));obtain ⟨wz,hwz⟩:∃ wz,wz=setN u (w.heap.size+1+1) 0 [s,(.slice aq1 m.length pq1),vl,.bool false]:=⟨_,rfl⟩
 rw [←hwz] at HP;simp only [setN, Nat.zero_add, Nat.reduceAdd] at hwz
 have HWZ:=Lh hwz;clear hwz;refine rd1 9 (by kernel_rfl) rfl fun K hK=>?_
 go_simp
 go_wp2_with fail
 rw [←HWZ.out];refine hK.out _ _ (let h:=And.intro (HP.out.1) (trivial); ⟨h,h.1.br.c4⟩) ?_;clear hK K hH HWZ HQ hb1 n0 fn0;intro hH
 try simp only [LAY]
 have HQ:=Lh (hH.1);obtain ⟨r0,r1,r2,hb2⟩:=HQ.out.1.b2;have n0 := hb2.c3;have fn0 := hb2.f3;have HP2:=Lh (And.intro (HP.out.1.st2 (.int .i64 0) (.int .i64 (m.length:Int)) (.string tx)) (HP.out.2.setN (b:=w.heap.size+1+1+1) (by omega) [.int .i64 0,.int .i64 (m.length:Int),.string tx] 0));obtain ⟨wy,hwy⟩:∃ wy,wy=setN wz (w.heap.size+1+1+1) 0 [.int .i64 0,.int .i64 (m.length:Int),.string tx]:=⟨_,rfl⟩
 rw [←hwy] at HP2;simp only [setN, Nat.zero_add, Nat.reduceAdd] at hwy
 have HWZ:=Lh hwy;clear hwy;refine rd1 10 (by kernel_rfl) rfl fun K hK=>?_
 go_simp
 go_wp2_with fail
 rw [←HWZ.out];refine hK.out _ _ (let h:=And.intro (HP2.out.1.1) (trivial); ⟨h,h.1.br.c4⟩) ?_;clear hK K hH HWZ HQ hb2 HP n0 fn0;intro hH
 try simp only [LAY]
 refine tq 11 ((.slice none 0 0)) hH ?_;refine dnH ?_;clear hH;have p0 := HP2.out.2.c4;have t0 := HP2.out.1.2.c3;go_wp2_with fail
 exact bodyPost_ret (v:=.tuple #[.agg #[s,(.slice aq1 m.length pq1),vl,.bool false],.agg #[.int .i64 0,.int .i64 (m.length:Int),.string tx],(.slice none 0 0)]) (by simp [results, Tryz.results8, go_sem, p0, t0]) rfl ⟨(.slice aq1 m.length pq1),vl,(.slice none 0 0),rfl,HP2.out.1.1.io,HP2.out.1.1.il,HP2.out.1.1.ic,HP2.out.1.1.bel⟩
end Go.Proofs.YtpbhaieclkoggaaGreatDoor
set_option maxRecDepth 100000
set_option maxHeartbeats 12800000
namespace Go.Proofs.YtpbhaieclkoggaaGreatDoor
open Go Go.Proofs Go.RowKit
theorem do5e (m l:List Oq) (n:Nat) (hV:VOk m l n) (hn:n≤60) (c:Cal) (s:Int) (hs:(s==0)=false) (hE:(cuE (docR m) c.p==0)=false) (vm vl:Value) (w:World) (hM:IsO w vm m) (hL:IsO w vl l):
  Calls Tryz.prog 8 #[.agg #[s,vm,vl,.bool false],.agg #[.int .i64 5,c.p,.int .i32 c.ch,c.o.k,c.o.c,c.o.s,c.o.a,c.o.n,.int .i32 c.o.ch,c.a,c.b]] w (DoA w s false m l (cuE (docR m) c.p) 0 ⟨#[]⟩ []):=by
 obtain ⟨aq1,pq1,rfl,e1,e2⟩:=Sl.form hM;obtain ⟨aq2,pq2,rfl,e3,e4⟩:=Sl.form hL;have H0:=Lh (E12.start (k:=5) (s:=s) (z:=false) (c:=c) hM hL);have sv0:=sg aq1 m.length pq1;have sv1:=sg aq2 l.length pq2;generalize Value.slice aq1 m.length pq1=vm at *
 generalize Value.slice aq2 l.length pq2=vl at *
 have HAT:=Lh (fun W (h:IsO W vm m)=>rcAt_any (l:=l) hV hn c.p c.p0 c.p1 vm vl W h);generalize namC (docR m) c.p=q at *
 generalize cuE (docR m) c.p=E at *
 clear hM hL e1 e2 e3 e4 hV hn
 go_enter Tryz.func8,Tryz.ntmps8
 go_upto_region 1 with fail
 generalize ((((w.alloc (.cells #[s,vm,vl,.bool false] 49)).alloc (.cells #[.int .i64 5,c.p,.int .i32 c.ch,c.o.k,c.o.c,c.o.s,c.o.a,c.o.n,.int .i32 c.o.ch,c.a,c.b] 72)).alloc (.cells #[.int .i64 0,.slice none 0 0,.slice none 0 0,.bool false] 49)).alloc (.cells #[.int .i64 0,.int .i64 0,.string ⟨#[]⟩] 64))=X0 at *
 have x0 := H0.out.1.br.c4;have y0 := H0.out.2.c11;obtain ⟨a0,a1,a2,a3,hb1⟩:=H0.out.1.b1;obtain ⟨d0,d1,d2,hb2⟩:=H0.out.1.b2;have n0 := hb1.c4;have fn0 := hb1.f4;have q0 := hb2.c3;have fq0 := hb2.f3;clear hb1 hb2 n0 fn0 q0 fq0;go_wp2_with (go_at_call 29; refine (HAT.out _ H0.out.1.io).mono ?_; rintro e w1 ⟨rfl,hb⟩; refine Hid.out ?_)
 have hA:=bl1 w1 [q.1,q.2] 68;have H1:=Lh (And.intro ((H0.out.1.next hb).next hA) (Blk.start w1 [q.1,q.2] 68));clear H0 hb hA HAT x0 y0;refine Lh ?_
 go_upto_region 31 with fail
 generalize w1.alloc (.cells #[q.1,q.2] 68)=W1 at *
 generalize w1.heap.size=bA at *
 have x0 := H1.out.1.br.c4;obtain ⟨a0,a1,a2,a3,hb1⟩:=H1.out.1.b1;obtain ⟨d0,d1,d2,hb2⟩:=H1.out.1.b2;have n0 := hb1.c4;have fn0 := hb1.f4;have q0 := hb2.c3;have fq0 := hb2.f3;have HP:=Lh (H1.out.1.fin s vm vl (.bool false) E (.int .i64 0) (.string ⟨#[]⟩));simp only [setN, Nat.zero_add, Nat.reduceAdd] at HP
 skip
 go_wp2_with fail
 obtain ⟨p0,p1,p2,p3⟩:=HP.out.1.1.c4;have t0 := HP.out.1.2.c3;exact bodyPost_ret (v:=.tuple #[.agg #[s,vm,vl,.bool false],.agg #[E,.int .i64 0,.string ⟨#[]⟩],(.slice none 0 0)]) (by simp [results, Tryz.results8, go_sem, p0, p1, p2, p3, t0]) rfl ⟨vm,vl,(.slice none 0 0),rfl,HP.out.2.io,HP.out.2.il,HP.out.2.ic,HP.out.2.bel⟩
theorem do5 (m l:List Oq) (n:Nat) (hV:VOk m l n) (hn:n≤60) (c:Cal) (s:Int) (hs:(s==0)=false) (hE:cuE (docR m) c.p=0) (vm vl:Value) (w:World) (hM:IsO w vm m) (hL:IsO w vl l) (ht:Tabs w):
  Calls Tryz.prog 8 #[.agg #[s,vm,vl,.bool false],.agg #[.int .i64 5,c.p,.int .i32 c.ch,c.o.k,c.o.c,c.o.s,c.o.a,c.o.n,.int .i32 c.o.ch,c.a,c.b]] w (DoA w s false m l 0 0 (ancT (namC (docR m) c.p).1 (namC (docR m) c.p).2) []):=by
 obtain ⟨aq1,pq1,rfl,e1,e2⟩:=Sl.form hM;obtain ⟨aq2,pq2,rfl,e3,e4⟩:=Sl.form hL;have H0:=Lh (E12.start (k:=5) (s:=s) (z:=false) (c:=c) hM hL);have sv0:=sg aq1 m.length pq1;have sv1:=sg aq2 l.length pq2;generalize Value.slice aq1 m.length pq1=vm at *
 generalize Value.slice aq2 l.length pq2=vl at *
 have HAT:=Lh (fun W (h:IsO W vm m)=>rcAt_any (l:=l) hV hn c.p c.p0 c.p1 vm vl W h);have HTX:=Lh (fun W (h:Below w.heap.size w W)=>ancText_any _ _ W (nam_may hV.ok c.p) (ht.next h));rw [hE] at HAT;generalize namC (docR m) c.p=q at *
 generalize ancT q.1 q.2=tx at *
 clear hM hL e1 e2 e3 e4 hV hn hE ht
 go_enter Tryz.func8,Tryz.ntmps8
 go_upto_region 1 with fail
 generalize ((((w.alloc (.cells #[s,vm,vl,.bool false] 49)).alloc (.cells #[.int .i64 5,c.p,.int .i32 c.ch,c.o.k,c.o.c,c.o.s,c.o.a,c.o.n,.int .i32 c.o.ch,c.a,c.b] 72)).alloc (.cells #[.int .i64 0,.slice none 0 0,.slice none 0 0,.bool false] 49)).alloc (.cells #[.int .i64 0,.int .i64 0,.string ⟨#[]⟩] 64))=X0 at *
 have x0 := H0.out.1.br.c4;have y0 := H0.out.2.c11;obtain ⟨a0,a1,a2,a3,hb1⟩:=H0.out.1.b1;obtain ⟨d0,d1,d2,hb2⟩:=H0.out.1.b2;have n0 := hb1.c4;have fn0 := hb1.f4;have q0 := hb2.c3;have fq0 := hb2.f3;clear hb1 hb2 n0 fn0 q0 fq0;go_wp2_with (go_at_call 29; refine (HAT.out _ H0.out.1.io).mono ?_; rintro e w1 ⟨rfl,hb⟩; refine Hid.out ?_)
 have hA:=bl1 w1 [q.1,q.2] 68;have hlt:w.heap.size+1+1+1<w1.heap.size:=by obtain ⟨_,_,_,h2⟩:=(H0.out.1.next hb).b2; exact h2.lt
 have H1:=Lh (And.intro ((H0.out.1.next hb).next hA) (Blk.start w1 [q.1,q.2] 68));clear H0 hb hA HAT x0 y0;refine Lh ?_
 go_upto_region 31 with fail
 generalize w1.alloc (.cells #[q.1,q.2] 68)=W1 at *
 generalize w1.heap.size=bA at *
 have x0 := H1.out.1.br.c4;go_wp2_with fail
 have HD:=Lh (And.intro (H1.out.1.next bdq) (H1.out.2.next bdq));clear H1 x0;refine rgH (fun W=>(E12 w s false vm vl (.slice none 0 0) m l [] W∧Blk W bA [q.1,q.2] 68∧w.heap.size+1+1+1<bA)∧Cz4 W w.heap.size s vm vl (.bool false)∧Cz2 W bA q.1 q.2) (let h:=And.intro (HD.out.1) (And.intro HD.out.2 hlt); ⟨h,h.1.br.c4,h.2.1.c2⟩) fun hH=>?_
 clear HD;generalize W1.drew=X9 at *
 refine tq 0 (.agg #[s,vm,vl,.bool false]) hH ?_;refine tq 1 (.agg #[q.1,q.2]) hH ?_;refine rd1 2 (by kernel_rfl) rfl fun K hK=>?_
 go_simp
 refine (HTX.out _ hH.1.1.bel).mono ?_
 rintro e u ⟨rfl,hb⟩
 go_wp2_with fail
 refine hK.out _ _ (let h:=And.intro (hH.1.1.next hb) (And.intro (hH.1.2.1.next hb) hlt); ⟨h,h.1.br.c4,h.2.1.c2⟩) ?_;clear hK K hH;intro hH
 try simp only [LAY]
 clear hb HTX;refine tq 3 (.agg #[.int .i64 0,.int .i64 0,.string tx]) hH ?_;have HQ:=Lh (hH.1);obtain ⟨r0,r1,r2,r3,hb1⟩:=HQ.out.1.b1;have n0 := hb1.c4;have fn0 := hb1.f4;have HP:=Lh (HQ.out.1.st1 s vm vl (.bool false));have HR:=Lh (show Blk (setN u (w.heap.size+1+1) 0 [s,vm,vl,.bool false]) bA [q.1,q.2] 68∧w.heap.size+1+1+1<bA from ⟨HQ.out.2.1.setN (by omega) [s,vm,vl,.bool false] 0,hlt⟩);obtain ⟨wz,hwz⟩:∃ wz,wz=setN u (w.heap.size+1+1) 0 [s,vm,vl,.bool false]:=⟨_,rfl⟩
 rw [←hwz] at HP HR;simp only [setN, Nat.zero_add, Nat.reduceAdd] at hwz
 have HWZ:=Lh hwz;clear hwz;refine rd1 4 (by kernel_rfl) rfl fun K hK=>?_
 go_simp
 go_wp2_with fail
 rw [←HWZ.out];refine hK.out _ _ (let h:=And.intro (HP.out.1) (HR.out); ⟨h,h.1.br.c4,h.2.1.c2⟩) ?_;clear hK K hH HWZ HQ hb1 n0 fn0 HR;intro hH
 try simp only [LAY]
 have HQ:=Lh (hH.1);obtain ⟨r0,r1,r2,hb2⟩:=HQ.out.1.b2;have n0 := hb2.c3;have fn0 := hb2.f3;have HP2:=Lh (And.intro (HP.out.1.st2 (.int .i64 0) (.int .i64 0) (.string tx)) (HP.out.2.setN (b:=w.heap.size+1+1+1) (by omega) [.int .i64 0,.int .i64 0,.string tx] 0));have HR:=Lh (show Blk (setN wz (w.heap.size+1+1+1) 0 [.int .i64 0,.int .i64 0,.string tx]) bA [q.1,q.2] 68∧w.heap.size+1+1+1<bA from ⟨HQ.out.2.1.setN (by omega) [.int .i64 0,.int .i64 0,.string tx] 0,hlt⟩);obtain ⟨wy,hwy⟩:∃ wy,wy=setN wz (w.heap.size+1+1+1) 0 [.int .i64 0,.int .i64 0,.string tx]:=⟨_,rfl⟩
 rw [←hwy] at HP2 HR;simp only [setN, Nat.zero_add, Nat.reduceAdd] at hwy
 have HWZ:=Lh hwy;clear hwy;refine rd1 5 (by kernel_rfl) rfl fun K hK=>?_
 go_simp
 go_wp2_with fail
 rw [←HWZ.out];refine hK.out _ _ (let h:=And.intro (HP2.out.1.1) (HR.out); ⟨h,h.1.br.c4,h.2.1.c2⟩) ?_;clear hK K hH HWZ HQ hb2 HP n0 fn0 HR;intro hH
 try simp only [LAY]
 refine tq 6 ((.slice none 0 0)) hH ?_;refine dnH ?_;clear hH;obtain ⟨p0,p1,p2,p3⟩:=HP2.out.2.c4;have t0 := HP2.out.1.2.c3;go_wp2_with fail
 exact bodyPost_ret (v:=.tuple #[.agg #[s,vm,vl,.bool false],.agg #[.int .i64 0,.int .i64 0,.string tx],(.slice none 0 0)]) (by simp [results, Tryz.results8, go_sem, p0, p1, p2, p3, t0]) rfl ⟨vm,vl,(.slice none 0 0),rfl,HP2.out.1.1.io,HP2.out.1.1.il,HP2.out.1.1.ic,HP2.out.1.1.bel⟩
end Go.Proofs.YtpbhaieclkoggaaGreatDoor
