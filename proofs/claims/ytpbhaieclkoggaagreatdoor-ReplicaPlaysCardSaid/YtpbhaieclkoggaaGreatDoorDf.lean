import Derived.Test.YtpbhaieclkoggaaGreatDoorDe
set_option maxRecDepth 100000
set_option maxHeartbeats 12800000
namespace Go.Proofs.YtpbhaieclkoggaaGreatDoor
open Go Go.Proofs Go.RowKit
theorem do0e (m l:List Oq) (n:Nat) (hV:VOk m l n) (hn:n≤60) (c:Cal) (s:Int) (hs:(s==0)=false) (hE:(inE8 m l s c.p c.ch c.lo c.hi==0)=false) (vm vl:Value) (w:World) (hM:IsO w vm m) (hL:IsO w vl l):
  Calls Tryz.prog 8 #[.agg #[s,vm,vl,.bool false],.agg #[.int .i64 0,c.p,.int .i32 c.ch,c.o.k,c.o.c,c.o.s,c.o.a,c.o.n,.int .i32 c.o.ch,c.a,c.b]] w (DoA w s false m l (inE8 m l s c.p c.ch c.lo c.hi) 0 ⟨#[]⟩ []):=by
 obtain ⟨aq1,pq1,rfl,e1,e2⟩:=Sl.form hM;obtain ⟨aq2,pq2,rfl,e3,e4⟩:=Sl.form hL;have H0:=Lh (E12.start (k:=0) (s:=s) (z:=false) (c:=c) hM hL);have sv0:=sg aq1 m.length pq1;have sv1:=sg aq2 l.length pq2;generalize Value.slice aq1 m.length pq1=vm at *
 generalize Value.slice aq2 l.length pq2=vl at *
 have HC:=Lh (fun W (h1:IsO W vm m) (h2:IsO W vl l)=>refInsert_any m l n hV (by omega) s c.p c.ch c.p0 c.p1 c.lo c.hi vm vl W h1 h2);generalize inT8 m l s c.p c.ch c.lo c.hi=tt at *
 generalize opP (inE8 m l s c.p c.ch c.lo c.hi) (inV8 m l s c.p c.ch c.lo c.hi)=oz at *
 generalize inE8 m l s c.p c.ch c.lo c.hi=E at *
 obtain ⟨tm,tl,tc⟩:=tt
 skip
 clear hM hL e1 e2 e3 e4 hV hn
 go_enter Tryz.func8,Tryz.ntmps8
 go_upto_region 1 with fail
 generalize ((((w.alloc (.cells #[s,vm,vl,.bool false] 49)).alloc (.cells #[.int .i64 0,c.p,.int .i32 c.ch,c.o.k,c.o.c,c.o.s,c.o.a,c.o.n,.int .i32 c.o.ch,c.a,c.b] 72)).alloc (.cells #[.int .i64 0,.slice none 0 0,.slice none 0 0,.bool false] 49)).alloc (.cells #[.int .i64 0,.int .i64 0,.string ⟨#[]⟩] 64))=X0 at *
 have x0 := H0.out.1.br.c4;have y0 := H0.out.2.c11;obtain ⟨a0,a1,a2,a3,hb1⟩:=H0.out.1.b1;obtain ⟨d0,d1,d2,hb2⟩:=H0.out.1.b2;have n0 := hb1.c4;have fn0 := hb1.f4;have q0 := hb2.c3;have fq0 := hb2.f3;clear hb1 hb2 n0 fn0 q0 fq0;go_wp2_with (go_at_call 22; refine (HC.out _ H0.out.1.io H0.out.1.il).mono ?_; rintro e w1 ⟨um,ul,vc,rfl,hm1,hl1,hc1,hb⟩; refine Hid.out ?_)
 obtain ⟨a3_,pw3,rfl,e5,e6⟩:=Sl.form hm1;obtain ⟨a4,pw4,rfl,e7,e8⟩:=Sl.form hl1;obtain ⟨a5,pw5,rfl,e9,e10⟩:=Sl.form hc1;have sv2:=sg a3_ tm.length pw3;have sv3:=sg a4 tl.length pw4;have sv4:=sg a5 tc.length pw5
 change IsO w1 (.slice a3_ tm.length pw3) tm at hm1
 change IsO w1 (.slice a4 tl.length pw4) tl at hl1
 change IsC w1 (.slice a5 tc.length pw5) tc at hc1
 generalize Value.slice a4 tl.length pw4=ul at *
 generalize Value.slice a5 tc.length pw5=vc at *
 have hA:=bl2 w1 [.slice a3_ tm.length pw3,ul] [oz.k,oz.c,oz.s,oz.a,oz.n,.int .i32 oz.ch] 47 70;have hlt:w.heap.size+1+1+1<w1.heap.size:=by obtain ⟨_,_,_,h2⟩:=(H0.out.1.next hb).b2; exact h2.lt
 have H1:=Lh (show E12 w s false vm vl (.slice none 0 0) m l [] ((w1.alloc (.cells #[.slice a3_ tm.length pw3,ul] 47)).alloc (.cells #[oz.k,oz.c,oz.s,oz.a,oz.n,.int .i32 oz.ch] 70))∧IsO ((w1.alloc (.cells #[.slice a3_ tm.length pw3,ul] 47)).alloc (.cells #[oz.k,oz.c,oz.s,oz.a,oz.n,.int .i32 oz.ch] 70)) (.slice a3_ tm.length pw3) tm∧IsO ((w1.alloc (.cells #[.slice a3_ tm.length pw3,ul] 47)).alloc (.cells #[oz.k,oz.c,oz.s,oz.a,oz.n,.int .i32 oz.ch] 70)) ul tl∧IsC ((w1.alloc (.cells #[.slice a3_ tm.length pw3,ul] 47)).alloc (.cells #[oz.k,oz.c,oz.s,oz.a,oz.n,.int .i32 oz.ch] 70)) vc tc∧Blk ((w1.alloc (.cells #[.slice a3_ tm.length pw3,ul] 47)).alloc (.cells #[oz.k,oz.c,oz.s,oz.a,oz.n,.int .i32 oz.ch] 70)) w1.heap.size [.slice a3_ tm.length pw3,ul] 47∧Blk ((w1.alloc (.cells #[.slice a3_ tm.length pw3,ul] 47)).alloc (.cells #[oz.k,oz.c,oz.s,oz.a,oz.n,.int .i32 oz.ch] 70)) (w1.heap.size+1) [oz.k,oz.c,oz.s,oz.a,oz.n,.int .i32 oz.ch] 70 from ⟨(H0.out.1.next hb).next hA,hm1.next hA,hl1.next hA,hc1.next hA,(Blk.start w1 _ _).alloc _,Blk.startAt (by simp)⟩);clear H0 hb hA HC hm1 hl1 hc1 e5 e6 e7 e8 e9 e10 x0 y0;refine Lh ?_
 go_upto_region 8 with fail
 generalize (w1.alloc (.cells #[.slice a3_ tm.length pw3,ul] 47)).alloc (.cells #[oz.k,oz.c,oz.s,oz.a,oz.n,.int .i32 oz.ch] 70)=W1 at *
 generalize w1.heap.size=bV at *
 have x0 := H1.out.1.br.c4;have fx0 := H1.out.1.br.f4;obtain ⟨a0,a1,a2,a3,hb1⟩:=H1.out.1.b1;obtain ⟨d0,d1,d2,hb2⟩:=H1.out.1.b2;have n0 := hb1.c4;have fn0 := hb1.f4;have q0 := hb2.c3;have fq0 := hb2.f3;have HP:=Lh (H1.out.1.fin s vm vl (.bool false) E (.int .i64 0) (.string ⟨#[]⟩));simp only [setN, Nat.zero_add, Nat.reduceAdd] at HP
 skip
 go_wp2_with fail
 obtain ⟨p0,p1,p2,p3⟩:=HP.out.1.1.c4;have t0 := HP.out.1.2.c3;exact bodyPost_ret (v:=.tuple #[.agg #[s,vm,vl,.bool false],.agg #[E,.int .i64 0,.string ⟨#[]⟩],(.slice none 0 0)]) (by simp [results, Tryz.results8, go_sem, p0, p1, p2, p3, t0]) rfl ⟨vm,vl,(.slice none 0 0),rfl,HP.out.2.io,HP.out.2.il,HP.out.2.ic,HP.out.2.bel⟩
theorem do0 (m l:List Oq) (n:Nat) (hV:VOk m l n) (hn:n≤60) (c:Cal) (s:Int) (hs:(s==0)=false) (hE:inE8 m l s c.p c.ch c.lo c.hi=0) (vm vl:Value) (w:World) (hM:IsO w vm m) (hL:IsO w vl l) (ht:Tabs w):
  Calls Tryz.prog 8 #[.agg #[s,vm,vl,.bool false],.agg #[.int .i64 0,c.p,.int .i32 c.ch,c.o.k,c.o.c,c.o.s,c.o.a,c.o.n,.int .i32 c.o.ch,c.a,c.b]] w (DoA w s false (inT8 m l s c.p c.ch c.lo c.hi).1 (inT8 m l s c.p c.ch c.lo c.hi).2.1 0 ((inT8 m l s c.p c.ch c.lo c.hi).1.length:Int) (oT (inV8 m l s c.p c.ch c.lo c.hi)) (inT8 m l s c.p c.ch c.lo c.hi).2.2):=by
 obtain ⟨aq1,pq1,rfl,e1,e2⟩:=Sl.form hM;obtain ⟨aq2,pq2,rfl,e3,e4⟩:=Sl.form hL;have H0:=Lh (E12.start (k:=0) (s:=s) (z:=false) (c:=c) hM hL);have sv0:=sg aq1 m.length pq1;have sv1:=sg aq2 l.length pq2;generalize Value.slice aq1 m.length pq1=vm at *
 generalize Value.slice aq2 l.length pq2=vl at *
 have HC:=Lh (fun W (h1:IsO W vm m) (h2:IsO W vl l)=>refInsert_any m l n hV (by omega) s c.p c.ch c.p0 c.p1 c.lo c.hi vm vl W h1 h2);have hO:opP (inE8 m l s c.p c.ch c.lo c.hi) (inV8 m l s c.p c.ch c.lo c.hi)=inV8 m l s c.p c.ch c.lo c.hi:=if_pos hE;rw [hO,hE] at HC;clear hO;generalize inT8 m l s c.p c.ch c.lo c.hi=tt at *
 generalize inV8 m l s c.p c.ch c.lo c.hi=oz at *
 have HTX:=Lh (fun W (h:Below w.heap.size w W)=>show Calls Tryz.prog 23 #[.agg #[oz.k,oz.c,oz.s,oz.a,oz.n,.int .i32 oz.ch]] W fun e w'=>e=.returned (.string (oT oz))∧Below W.heap.size W w' from optext_any oz.k oz.c oz.s oz.a oz.n oz.ch W (ht.next h));generalize oT oz=tx at *
 obtain ⟨tm,tl,tc⟩:=tt
 skip
 clear hM hL e1 e2 e3 e4 hV hn hE ht
 go_enter Tryz.func8,Tryz.ntmps8
 go_upto_region 1 with fail
 generalize ((((w.alloc (.cells #[s,vm,vl,.bool false] 49)).alloc (.cells #[.int .i64 0,c.p,.int .i32 c.ch,c.o.k,c.o.c,c.o.s,c.o.a,c.o.n,.int .i32 c.o.ch,c.a,c.b] 72)).alloc (.cells #[.int .i64 0,.slice none 0 0,.slice none 0 0,.bool false] 49)).alloc (.cells #[.int .i64 0,.int .i64 0,.string ⟨#[]⟩] 64))=X0 at *
 have x0 := H0.out.1.br.c4;have y0 := H0.out.2.c11;obtain ⟨a0,a1,a2,a3,hb1⟩:=H0.out.1.b1;obtain ⟨d0,d1,d2,hb2⟩:=H0.out.1.b2;have n0 := hb1.c4;have fn0 := hb1.f4;have q0 := hb2.c3;have fq0 := hb2.f3;clear hb1 hb2 n0 fn0 q0 fq0;go_wp2_with (go_at_call 22; refine (HC.out _ H0.out.1.io H0.out.1.il).mono ?_; rintro e w1 ⟨um,ul,vc,rfl,hm1,hl1,hc1,hb⟩; refine Hid.out ?_)
 obtain ⟨a3_,pw3,rfl,e5,e6⟩:=Sl.form hm1;obtain ⟨a4,pw4,rfl,e7,e8⟩:=Sl.form hl1;obtain ⟨a5,pw5,rfl,e9,e10⟩:=Sl.form hc1;have sv2:=sg a3_ tm.length pw3;have sv3:=sg a4 tl.length pw4;have sv4:=sg a5 tc.length pw5
 change IsO w1 (.slice a3_ tm.length pw3) tm at hm1
 change IsO w1 (.slice a4 tl.length pw4) tl at hl1
 change IsC w1 (.slice a5 tc.length pw5) tc at hc1
 generalize Value.slice a4 tl.length pw4=ul at *
 generalize Value.slice a5 tc.length pw5=vc at *
 have hA:=bl2 w1 [.slice a3_ tm.length pw3,ul] [oz.k,oz.c,oz.s,oz.a,oz.n,.int .i32 oz.ch] 47 70;have hlt:w.heap.size+1+1+1<w1.heap.size:=by obtain ⟨_,_,_,h2⟩:=(H0.out.1.next hb).b2; exact h2.lt
 have H1:=Lh (show E12 w s false vm vl (.slice none 0 0) m l [] ((w1.alloc (.cells #[.slice a3_ tm.length pw3,ul] 47)).alloc (.cells #[oz.k,oz.c,oz.s,oz.a,oz.n,.int .i32 oz.ch] 70))∧IsO ((w1.alloc (.cells #[.slice a3_ tm.length pw3,ul] 47)).alloc (.cells #[oz.k,oz.c,oz.s,oz.a,oz.n,.int .i32 oz.ch] 70)) (.slice a3_ tm.length pw3) tm∧IsO ((w1.alloc (.cells #[.slice a3_ tm.length pw3,ul] 47)).alloc (.cells #[oz.k,oz.c,oz.s,oz.a,oz.n,.int .i32 oz.ch] 70)) ul tl∧IsC ((w1.alloc (.cells #[.slice a3_ tm.length pw3,ul] 47)).alloc (.cells #[oz.k,oz.c,oz.s,oz.a,oz.n,.int .i32 oz.ch] 70)) vc tc∧Blk ((w1.alloc (.cells #[.slice a3_ tm.length pw3,ul] 47)).alloc (.cells #[oz.k,oz.c,oz.s,oz.a,oz.n,.int .i32 oz.ch] 70)) w1.heap.size [.slice a3_ tm.length pw3,ul] 47∧Blk ((w1.alloc (.cells #[.slice a3_ tm.length pw3,ul] 47)).alloc (.cells #[oz.k,oz.c,oz.s,oz.a,oz.n,.int .i32 oz.ch] 70)) (w1.heap.size+1) [oz.k,oz.c,oz.s,oz.a,oz.n,.int .i32 oz.ch] 70 from ⟨(H0.out.1.next hb).next hA,hm1.next hA,hl1.next hA,hc1.next hA,(Blk.start w1 _ _).alloc _,Blk.startAt (by simp)⟩);clear H0 hb hA HC hm1 hl1 hc1 e5 e6 e7 e8 e9 e10 x0 y0;refine Lh ?_
 go_upto_region 8 with fail
 generalize (w1.alloc (.cells #[.slice a3_ tm.length pw3,ul] 47)).alloc (.cells #[oz.k,oz.c,oz.s,oz.a,oz.n,.int .i32 oz.ch] 70)=W1 at *
 generalize w1.heap.size=bV at *
 have x0 := H1.out.1.br.c4;have fx0 := H1.out.1.br.f4;obtain ⟨b0,b1⟩:=H1.out.2.2.2.2.1.c2;have HT:=Lh (H1.out.1.take H1.out.2.1 H1.out.2.2.1 H1.out.2.2.2.1);have HU:=Lh (And.intro (H1.out.2.2.2.2.1.setN (b:=w.heap.size) (by omega) [.slice a3_ tm.length pw3,ul] 1) (H1.out.2.2.2.2.2.setN (b:=w.heap.size) (by omega) [.slice a3_ tm.length pw3,ul] 1));simp only [setN, Nat.reduceAdd] at HT HU
 go_wp2_with fail
 have HD:=Lh (And.intro (HT.out.next bdq) (And.intro (HU.out.1.next bdq) (And.intro (HU.out.2.next bdq) hlt)));clear HT HU H1 x0 fx0 b0 b1;refine rgH (fun W=>(E12 w s false (.slice a3_ tm.length pw3) ul vc tm tl tc W∧Blk W bV [.slice a3_ tm.length pw3,ul] 47∧Blk W (bV+1) [oz.k,oz.c,oz.s,oz.a,oz.n,.int .i32 oz.ch] 70∧w.heap.size+1+1+1<bV)∧Cz4 W w.heap.size s (.slice a3_ tm.length pw3) ul (.bool false)∧Cz2 W bV (.slice a3_ tm.length pw3) ul∧Cz6 W (bV+1) oz.k oz.c oz.s oz.a oz.n (.int .i32 oz.ch)) (let h:=And.intro (HD.out.1) (HD.out.2); ⟨h,h.1.br.c4,h.2.1.c2,h.2.2.1.c6⟩) fun hH=>?_
 clear HD;generalize hX9:World.drew _=X9 at *
 clear hX9;refine tq 0 (.agg #[s,.slice a3_ tm.length pw3,ul,.bool false]) hH ?_;refine tq 1 (.pointer (some ⟨bV,0,none⟩)) hH ?_;refine tq 2 (.slice a3_ tm.length pw3) hH ?_;refine tq 3 (.int .i64 (tm.length:Int)) hH ?_;refine tq 4 (.agg #[oz.k,oz.c,oz.s,oz.a,oz.n,.int .i32 oz.ch]) hH ?_;refine tq 7 (vc) hH ?_;refine rd1 5 (by kernel_rfl) rfl fun K hK=>?_
 go_simp
 refine (HTX.out _ hH.1.1.bel).mono ?_
 rintro e u ⟨rfl,hb⟩
 go_wp2_with fail
 refine hK.out _ _ (let h:=And.intro (hH.1.1.next hb) (And.intro (hH.1.2.1.next hb) (And.intro (hH.1.2.2.1.next hb) hlt)); ⟨h,h.1.br.c4,h.2.1.c2,h.2.2.1.c6⟩) ?_;clear hK K hH;intro hH
 try simp only [LAY]
 clear hb HTX;refine tq 6 (.agg #[.int .i64 0,.int .i64 (tm.length:Int),.string tx]) hH ?_;have HQ:=Lh (hH.1);obtain ⟨r0,r1,r2,r3,hb1⟩:=HQ.out.1.b1;have n0 := hb1.c4;have fn0 := hb1.f4;have HP:=Lh (HQ.out.1.st1 s (.slice a3_ tm.length pw3) ul (.bool false));have HR:=Lh (show Blk (setN u (w.heap.size+1+1) 0 [s,(.slice a3_ tm.length pw3),ul,.bool false]) bV [.slice a3_ tm.length pw3,ul] 47∧Blk (setN u (w.heap.size+1+1) 0 [s,(.slice a3_ tm.length pw3),ul,.bool false]) (bV+1) [oz.k,oz.c,oz.s,oz.a,oz.n,.int .i32 oz.ch] 70∧w.heap.size+1+1+1<bV from ⟨HQ.out.2.1.setN (by omega) [s,(.slice a3_ tm.length pw3),ul,.bool false] 0,HQ.out.2.2.1.setN (by omega) [s,(.slice a3_ tm.length pw3),ul,.bool false] 0,hlt⟩);obtain ⟨wz,hwz⟩:∃ wz,wz=setN u (w.heap.size+1+1) 0 [s,(.slice a3_ tm.length pw3),ul,.bool false]:=⟨_,rfl⟩
 rw [←hwz] at HP HR;simp only [setN, Nat.zero_add, Nat.reduceAdd] at hwz
 have HWZ:=Lh hwz;clear hwz;refine rd1 8 (by kernel_rfl) rfl fun K hK=>?_
 go_simp
 go_wp2_with fail
 rw [←HWZ.out];refine hK.out _ _ (let h:=And.intro (HP.out.1) (HR.out); ⟨h,h.1.br.c4,h.2.1.c2,h.2.2.1.c6⟩) ?_;clear hK K hH HWZ HQ hb1 n0 fn0 HR;intro hH
 try simp only [LAY]
 have HQ:=Lh (hH.1);obtain ⟨r0,r1,r2,hb2⟩:=HQ.out.1.b2;have n0 := hb2.c3;have fn0 := hb2.f3;have HP2:=Lh (And.intro (HP.out.1.st2 (.int .i64 0) (.int .i64 (tm.length:Int)) (.string tx)) (HP.out.2.setN (b:=w.heap.size+1+1+1) (by omega) [.int .i64 0,.int .i64 (tm.length:Int),.string tx] 0));have HR:=Lh (show Blk (setN wz (w.heap.size+1+1+1) 0 [.int .i64 0,.int .i64 (tm.length:Int),.string tx]) bV [.slice a3_ tm.length pw3,ul] 47∧Blk (setN wz (w.heap.size+1+1+1) 0 [.int .i64 0,.int .i64 (tm.length:Int),.string tx]) (bV+1) [oz.k,oz.c,oz.s,oz.a,oz.n,.int .i32 oz.ch] 70∧w.heap.size+1+1+1<bV from ⟨HQ.out.2.1.setN (by omega) [.int .i64 0,.int .i64 (tm.length:Int),.string tx] 0,HQ.out.2.2.1.setN (by omega) [.int .i64 0,.int .i64 (tm.length:Int),.string tx] 0,hlt⟩);obtain ⟨wy,hwy⟩:∃ wy,wy=setN wz (w.heap.size+1+1+1) 0 [.int .i64 0,.int .i64 (tm.length:Int),.string tx]:=⟨_,rfl⟩
 rw [←hwy] at HP2 HR;simp only [setN, Nat.zero_add, Nat.reduceAdd] at hwy
 have HWZ:=Lh hwy;clear hwy;refine rd1 9 (by kernel_rfl) rfl fun K hK=>?_
 go_simp
 go_wp2_with fail
 rw [←HWZ.out];refine hK.out _ _ (let h:=And.intro (HP2.out.1.1) (HR.out); ⟨h,h.1.br.c4,h.2.1.c2,h.2.2.1.c6⟩) ?_;clear hK K hH HWZ HQ hb2 HP n0 fn0 HR;intro hH
 try simp only [LAY]
 refine tq 10 (vc) hH ?_;refine dnH ?_;clear hH;obtain ⟨p0,p1,p2,p3⟩:=HP2.out.2.c4;have t0 := HP2.out.1.2.c3;go_wp2_with fail
 exact bodyPost_ret (v:=.tuple #[.agg #[s,(.slice a3_ tm.length pw3),ul,.bool false],.agg #[.int .i64 0,.int .i64 (tm.length:Int),.string tx],vc]) (by simp [results, Tryz.results8, go_sem, p0, p1, p2, p3, t0]) rfl ⟨(.slice a3_ tm.length pw3),ul,vc,rfl,HP2.out.1.1.io,HP2.out.1.1.il,HP2.out.1.1.ic,HP2.out.1.1.bel⟩
end Go.Proofs.YtpbhaieclkoggaaGreatDoor
set_option maxRecDepth 100000
set_option maxHeartbeats 12800000
namespace Go.Proofs.YtpbhaieclkoggaaGreatDoor
open Go Go.Proofs Go.RowKit
theorem do1e (m l:List Oq) (n:Nat) (hV:VOk m l n) (hn:n≤60) (c:Cal) (s:Int) (hs:(s==0)=false) (hE:(deE8 m l c.p==0)=false) (vm vl:Value) (w:World) (hM:IsO w vm m) (hL:IsO w vl l):
  Calls Tryz.prog 8 #[.agg #[s,vm,vl,.bool false],.agg #[.int .i64 1,c.p,.int .i32 c.ch,c.o.k,c.o.c,c.o.s,c.o.a,c.o.n,.int .i32 c.o.ch,c.a,c.b]] w (DoA w s false m l (deE8 m l c.p) 0 ⟨#[]⟩ []):=by
 obtain ⟨aq1,pq1,rfl,e1,e2⟩:=Sl.form hM;obtain ⟨aq2,pq2,rfl,e3,e4⟩:=Sl.form hL;have H0:=Lh (E12.start (k:=1) (s:=s) (z:=false) (c:=c) hM hL);have sv0:=sg aq1 m.length pq1;have sv1:=sg aq2 l.length pq2;generalize Value.slice aq1 m.length pq1=vm at *
 generalize Value.slice aq2 l.length pq2=vl at *
 have HC:=Lh (fun W (h1:IsO W vm m) (h2:IsO W vl l)=>refDelete_any m l n hV (by omega) c.p c.p0 c.p1 vm vl W h1 h2);generalize deT8 m l c.p=tt at *
 generalize opP (deE8 m l c.p) (deV8 m c.p)=oz at *
 generalize deE8 m l c.p=E at *
 obtain ⟨tm,tl,tc⟩:=tt
 skip
 clear hM hL e1 e2 e3 e4 hV hn
 go_enter Tryz.func8,Tryz.ntmps8
 go_upto_region 1 with fail
 generalize ((((w.alloc (.cells #[s,vm,vl,.bool false] 49)).alloc (.cells #[.int .i64 1,c.p,.int .i32 c.ch,c.o.k,c.o.c,c.o.s,c.o.a,c.o.n,.int .i32 c.o.ch,c.a,c.b] 72)).alloc (.cells #[.int .i64 0,.slice none 0 0,.slice none 0 0,.bool false] 49)).alloc (.cells #[.int .i64 0,.int .i64 0,.string ⟨#[]⟩] 64))=X0 at *
 have x0 := H0.out.1.br.c4;have y0 := H0.out.2.c11;obtain ⟨a0,a1,a2,a3,hb1⟩:=H0.out.1.b1;obtain ⟨d0,d1,d2,hb2⟩:=H0.out.1.b2;have n0 := hb1.c4;have fn0 := hb1.f4;have q0 := hb2.c3;have fq0 := hb2.f3;clear hb1 hb2 n0 fn0 q0 fq0;go_wp2_with (go_at_call 24; refine (HC.out _ H0.out.1.io H0.out.1.il).mono ?_; rintro e w1 ⟨um,ul,vc,rfl,hm1,hl1,hc1,hb⟩; refine Hid.out ?_)
 obtain ⟨a3_,pw3,rfl,e5,e6⟩:=Sl.form hm1;obtain ⟨a4,pw4,rfl,e7,e8⟩:=Sl.form hl1;obtain ⟨a5,pw5,rfl,e9,e10⟩:=Sl.form hc1;have sv2:=sg a3_ tm.length pw3;have sv3:=sg a4 tl.length pw4;have sv4:=sg a5 tc.length pw5
 change IsO w1 (.slice a3_ tm.length pw3) tm at hm1
 change IsO w1 (.slice a4 tl.length pw4) tl at hl1
 change IsC w1 (.slice a5 tc.length pw5) tc at hc1
 generalize Value.slice a4 tl.length pw4=ul at *
 generalize Value.slice a5 tc.length pw5=vc at *
 have hA:=bl2 w1 [.slice a3_ tm.length pw3,ul] [oz.k,oz.c,oz.s,oz.a,oz.n,.int .i32 oz.ch] 47 70;have hlt:w.heap.size+1+1+1<w1.heap.size:=by obtain ⟨_,_,_,h2⟩:=(H0.out.1.next hb).b2; exact h2.lt
 have H1:=Lh (show E12 w s false vm vl (.slice none 0 0) m l [] ((w1.alloc (.cells #[.slice a3_ tm.length pw3,ul] 47)).alloc (.cells #[oz.k,oz.c,oz.s,oz.a,oz.n,.int .i32 oz.ch] 70))∧IsO ((w1.alloc (.cells #[.slice a3_ tm.length pw3,ul] 47)).alloc (.cells #[oz.k,oz.c,oz.s,oz.a,oz.n,.int .i32 oz.ch] 70)) (.slice a3_ tm.length pw3) tm∧IsO ((w1.alloc (.cells #[.slice a3_ tm.length pw3,ul] 47)).alloc (.cells #[oz.k,oz.c,oz.s,oz.a,oz.n,.int .i32 oz.ch] 70)) ul tl∧IsC ((w1.alloc (.cells #[.slice a3_ tm.length pw3,ul] 47)).alloc (.cells #[oz.k,oz.c,oz.s,oz.a,oz.n,.int .i32 oz.ch] 70)) vc tc∧Blk ((w1.alloc (.cells #[.slice a3_ tm.length pw3,ul] 47)).alloc (.cells #[oz.k,oz.c,oz.s,oz.a,oz.n,.int .i32 oz.ch] 70)) w1.heap.size [.slice a3_ tm.length pw3,ul] 47∧Blk ((w1.alloc (.cells #[.slice a3_ tm.length pw3,ul] 47)).alloc (.cells #[oz.k,oz.c,oz.s,oz.a,oz.n,.int .i32 oz.ch] 70)) (w1.heap.size+1) [oz.k,oz.c,oz.s,oz.a,oz.n,.int .i32 oz.ch] 70 from ⟨(H0.out.1.next hb).next hA,hm1.next hA,hl1.next hA,hc1.next hA,(Blk.start w1 _ _).alloc _,Blk.startAt (by simp)⟩);clear H0 hb hA HC hm1 hl1 hc1 e5 e6 e7 e8 e9 e10 x0 y0;refine Lh ?_
 go_upto_region 14 with fail
 generalize (w1.alloc (.cells #[.slice a3_ tm.length pw3,ul] 47)).alloc (.cells #[oz.k,oz.c,oz.s,oz.a,oz.n,.int .i32 oz.ch] 70)=W1 at *
 generalize w1.heap.size=bV at *
 have x0 := H1.out.1.br.c4;have fx0 := H1.out.1.br.f4;obtain ⟨a0,a1,a2,a3,hb1⟩:=H1.out.1.b1;obtain ⟨d0,d1,d2,hb2⟩:=H1.out.1.b2;have n0 := hb1.c4;have fn0 := hb1.f4;have q0 := hb2.c3;have fq0 := hb2.f3;have HP:=Lh (H1.out.1.fin s vm vl (.bool false) E (.int .i64 0) (.string ⟨#[]⟩));simp only [setN, Nat.zero_add, Nat.reduceAdd] at HP
 skip
 go_wp2_with fail
 obtain ⟨p0,p1,p2,p3⟩:=HP.out.1.1.c4;have t0 := HP.out.1.2.c3;exact bodyPost_ret (v:=.tuple #[.agg #[s,vm,vl,.bool false],.agg #[E,.int .i64 0,.string ⟨#[]⟩],(.slice none 0 0)]) (by simp [results, Tryz.results8, go_sem, p0, p1, p2, p3, t0]) rfl ⟨vm,vl,(.slice none 0 0),rfl,HP.out.2.io,HP.out.2.il,HP.out.2.ic,HP.out.2.bel⟩
theorem do1 (m l:List Oq) (n:Nat) (hV:VOk m l n) (hn:n≤60) (c:Cal) (s:Int) (hs:(s==0)=false) (hE:deE8 m l c.p=0) (vm vl:Value) (w:World) (hM:IsO w vm m) (hL:IsO w vl l) (ht:Tabs w):
  Calls Tryz.prog 8 #[.agg #[s,vm,vl,.bool false],.agg #[.int .i64 1,c.p,.int .i32 c.ch,c.o.k,c.o.c,c.o.s,c.o.a,c.o.n,.int .i32 c.o.ch,c.a,c.b]] w (DoA w s false (deT8 m l c.p).1 (deT8 m l c.p).2.1 0 ((deT8 m l c.p).1.length:Int) (oT (deV8 m c.p)) (deT8 m l c.p).2.2):=by
 obtain ⟨aq1,pq1,rfl,e1,e2⟩:=Sl.form hM;obtain ⟨aq2,pq2,rfl,e3,e4⟩:=Sl.form hL;have H0:=Lh (E12.start (k:=1) (s:=s) (z:=false) (c:=c) hM hL);have sv0:=sg aq1 m.length pq1;have sv1:=sg aq2 l.length pq2;generalize Value.slice aq1 m.length pq1=vm at *
 generalize Value.slice aq2 l.length pq2=vl at *
 have HC:=Lh (fun W (h1:IsO W vm m) (h2:IsO W vl l)=>refDelete_any m l n hV (by omega) c.p c.p0 c.p1 vm vl W h1 h2);have hO:opP (deE8 m l c.p) (deV8 m c.p)=deV8 m c.p:=if_pos hE;rw [hO,hE] at HC;clear hO;generalize deT8 m l c.p=tt at *
 generalize deV8 m c.p=oz at *
 have HTX:=Lh (fun W (h:Below w.heap.size w W)=>show Calls Tryz.prog 23 #[.agg #[oz.k,oz.c,oz.s,oz.a,oz.n,.int .i32 oz.ch]] W fun e w'=>e=.returned (.string (oT oz))∧Below W.heap.size W w' from optext_any oz.k oz.c oz.s oz.a oz.n oz.ch W (ht.next h));generalize oT oz=tx at *
 obtain ⟨tm,tl,tc⟩:=tt
 skip
 clear hM hL e1 e2 e3 e4 hV hn hE ht
 go_enter Tryz.func8,Tryz.ntmps8
 go_upto_region 1 with fail
 generalize ((((w.alloc (.cells #[s,vm,vl,.bool false] 49)).alloc (.cells #[.int .i64 1,c.p,.int .i32 c.ch,c.o.k,c.o.c,c.o.s,c.o.a,c.o.n,.int .i32 c.o.ch,c.a,c.b] 72)).alloc (.cells #[.int .i64 0,.slice none 0 0,.slice none 0 0,.bool false] 49)).alloc (.cells #[.int .i64 0,.int .i64 0,.string ⟨#[]⟩] 64))=X0 at *
 have x0 := H0.out.1.br.c4;have y0 := H0.out.2.c11;obtain ⟨a0,a1,a2,a3,hb1⟩:=H0.out.1.b1;obtain ⟨d0,d1,d2,hb2⟩:=H0.out.1.b2;have n0 := hb1.c4;have fn0 := hb1.f4;have q0 := hb2.c3;have fq0 := hb2.f3;clear hb1 hb2 n0 fn0 q0 fq0;go_wp2_with (go_at_call 24; refine (HC.out _ H0.out.1.io H0.out.1.il).mono ?_; rintro e w1 ⟨um,ul,vc,rfl,hm1,hl1,hc1,hb⟩; refine Hid.out ?_)
 obtain ⟨a3_,pw3,rfl,e5,e6⟩:=Sl.form hm1;obtain ⟨a4,pw4,rfl,e7,e8⟩:=Sl.form hl1;obtain ⟨a5,pw5,rfl,e9,e10⟩:=Sl.form hc1;have sv2:=sg a3_ tm.length pw3;have sv3:=sg a4 tl.length pw4;have sv4:=sg a5 tc.length pw5
 change IsO w1 (.slice a3_ tm.length pw3) tm at hm1
 change IsO w1 (.slice a4 tl.length pw4) tl at hl1
 change IsC w1 (.slice a5 tc.length pw5) tc at hc1
 generalize Value.slice a4 tl.length pw4=ul at *
 generalize Value.slice a5 tc.length pw5=vc at *
 have hA:=bl2 w1 [.slice a3_ tm.length pw3,ul] [oz.k,oz.c,oz.s,oz.a,oz.n,.int .i32 oz.ch] 47 70;have hlt:w.heap.size+1+1+1<w1.heap.size:=by obtain ⟨_,_,_,h2⟩:=(H0.out.1.next hb).b2; exact h2.lt
 have H1:=Lh (show E12 w s false vm vl (.slice none 0 0) m l [] ((w1.alloc (.cells #[.slice a3_ tm.length pw3,ul] 47)).alloc (.cells #[oz.k,oz.c,oz.s,oz.a,oz.n,.int .i32 oz.ch] 70))∧IsO ((w1.alloc (.cells #[.slice a3_ tm.length pw3,ul] 47)).alloc (.cells #[oz.k,oz.c,oz.s,oz.a,oz.n,.int .i32 oz.ch] 70)) (.slice a3_ tm.length pw3) tm∧IsO ((w1.alloc (.cells #[.slice a3_ tm.length pw3,ul] 47)).alloc (.cells #[oz.k,oz.c,oz.s,oz.a,oz.n,.int .i32 oz.ch] 70)) ul tl∧IsC ((w1.alloc (.cells #[.slice a3_ tm.length pw3,ul] 47)).alloc (.cells #[oz.k,oz.c,oz.s,oz.a,oz.n,.int .i32 oz.ch] 70)) vc tc∧Blk ((w1.alloc (.cells #[.slice a3_ tm.length pw3,ul] 47)).alloc (.cells #[oz.k,oz.c,oz.s,oz.a,oz.n,.int .i32 oz.ch] 70)) w1.heap.size [.slice a3_ tm.length pw3,ul] 47∧Blk ((w1.alloc (.cells #[.slice a3_ tm.length pw3,ul] 47)).alloc (.cells #[oz.k,oz.c,oz.s,oz.a,oz.n,.int .i32 oz.ch] 70)) (w1.heap.size+1) [oz.k,oz.c,oz.s,oz.a,oz.n,.int .i32 oz.ch] 70 from ⟨(H0.out.1.next hb).next hA,hm1.next hA,hl1.next hA,hc1.next hA,(Blk.start w1 _ _).alloc _,Blk.startAt (by simp)⟩);clear H0 hb hA HC hm1 hl1 hc1 e5 e6 e7 e8 e9 e10 x0 y0;refine Lh ?_
 go_upto_region 14 with fail
 generalize (w1.alloc (.cells #[.slice a3_ tm.length pw3,ul] 47)).alloc (.cells #[oz.k,oz.c,oz.s,oz.a,oz.n,.int .i32 oz.ch] 70)=W1 at *
 generalize w1.heap.size=bV at *
 have x0 := H1.out.1.br.c4;have fx0 := H1.out.1.br.f4;obtain ⟨b0,b1⟩:=H1.out.2.2.2.2.1.c2;have HT:=Lh (H1.out.1.take H1.out.2.1 H1.out.2.2.1 H1.out.2.2.2.1);have HU:=Lh (And.intro (H1.out.2.2.2.2.1.setN (b:=w.heap.size) (by omega) [.slice a3_ tm.length pw3,ul] 1) (H1.out.2.2.2.2.2.setN (b:=w.heap.size) (by omega) [.slice a3_ tm.length pw3,ul] 1));simp only [setN, Nat.reduceAdd] at HT HU
 go_wp2_with fail
 have HD:=Lh (And.intro (HT.out.next bdq) (And.intro (HU.out.1.next bdq) (And.intro (HU.out.2.next bdq) hlt)));clear HT HU H1 x0 fx0 b0 b1;refine rgH (fun W=>(E12 w s false (.slice a3_ tm.length pw3) ul vc tm tl tc W∧Blk W bV [.slice a3_ tm.length pw3,ul] 47∧Blk W (bV+1) [oz.k,oz.c,oz.s,oz.a,oz.n,.int .i32 oz.ch] 70∧w.heap.size+1+1+1<bV)∧Cz4 W w.heap.size s (.slice a3_ tm.length pw3) ul (.bool false)∧Cz2 W bV (.slice a3_ tm.length pw3) ul∧Cz6 W (bV+1) oz.k oz.c oz.s oz.a oz.n (.int .i32 oz.ch)) (let h:=And.intro (HD.out.1) (HD.out.2); ⟨h,h.1.br.c4,h.2.1.c2,h.2.2.1.c6⟩) fun hH=>?_
 clear HD;generalize hX9:World.drew _=X9 at *
 clear hX9;refine tq 0 (.agg #[s,.slice a3_ tm.length pw3,ul,.bool false]) hH ?_;refine tq 1 (.pointer (some ⟨bV,0,none⟩)) hH ?_;refine tq 2 (.slice a3_ tm.length pw3) hH ?_;refine tq 3 (.int .i64 (tm.length:Int)) hH ?_;refine tq 4 (.agg #[oz.k,oz.c,oz.s,oz.a,oz.n,.int .i32 oz.ch]) hH ?_;refine tq 7 (vc) hH ?_;refine rd1 5 (by kernel_rfl) rfl fun K hK=>?_
 go_simp
 refine (HTX.out _ hH.1.1.bel).mono ?_
 rintro e u ⟨rfl,hb⟩
 go_wp2_with fail
 refine hK.out _ _ (let h:=And.intro (hH.1.1.next hb) (And.intro (hH.1.2.1.next hb) (And.intro (hH.1.2.2.1.next hb) hlt)); ⟨h,h.1.br.c4,h.2.1.c2,h.2.2.1.c6⟩) ?_;clear hK K hH;intro hH
 try simp only [LAY]
 clear hb HTX;refine tq 6 (.agg #[.int .i64 0,.int .i64 (tm.length:Int),.string tx]) hH ?_;have HQ:=Lh (hH.1);obtain ⟨r0,r1,r2,r3,hb1⟩:=HQ.out.1.b1;have n0 := hb1.c4;have fn0 := hb1.f4;have HP:=Lh (HQ.out.1.st1 s (.slice a3_ tm.length pw3) ul (.bool false));have HR:=Lh (show Blk (setN u (w.heap.size+1+1) 0 [s,(.slice a3_ tm.length pw3),ul,.bool false]) bV [.slice a3_ tm.length pw3,ul] 47∧Blk (setN u (w.heap.size+1+1) 0 [s,(.slice a3_ tm.length pw3),ul,.bool false]) (bV+1) [oz.k,oz.c,oz.s,oz.a,oz.n,.int .i32 oz.ch] 70∧w.heap.size+1+1+1<bV from ⟨HQ.out.2.1.setN (by omega) [s,(.slice a3_ tm.length pw3),ul,.bool false] 0,HQ.out.2.2.1.setN (by omega) [s,(.slice a3_ tm.length pw3),ul,.bool false] 0,hlt⟩);obtain ⟨wz,hwz⟩:∃ wz,wz=setN u (w.heap.size+1+1) 0 [s,(.slice a3_ tm.length pw3),ul,.bool false]:=⟨_,rfl⟩
 rw [←hwz] at HP HR;simp only [setN, Nat.zero_add, Nat.reduceAdd] at hwz
 have HWZ:=Lh hwz;clear hwz;refine rd1 8 (by kernel_rfl) rfl fun K hK=>?_
 go_simp
 go_wp2_with fail
 rw [←HWZ.out];refine hK.out _ _ (let h:=And.intro (HP.out.1) (HR.out); ⟨h,h.1.br.c4,h.2.1.c2,h.2.2.1.c6⟩) ?_;clear hK K hH HWZ HQ hb1 n0 fn0 HR;intro hH
 try simp only [LAY]
 have HQ:=Lh (hH.1);obtain ⟨r0,r1,r2,hb2⟩:=HQ.out.1.b2;have n0 := hb2.c3;have fn0 := hb2.f3;have HP2:=Lh (And.intro (HP.out.1.st2 (.int .i64 0) (.int .i64 (tm.length:Int)) (.string tx)) (HP.out.2.setN (b:=w.heap.size+1+1+1) (by omega) [.int .i64 0,.int .i64 (tm.length:Int),.string tx] 0));have HR:=Lh (show Blk (setN wz (w.heap.size+1+1+1) 0 [.int .i64 0,.int .i64 (tm.length:Int),.string tx]) bV [.slice a3_ tm.length pw3,ul] 47∧Blk (setN wz (w.heap.size+1+1+1) 0 [.int .i64 0,.int .i64 (tm.length:Int),.string tx]) (bV+1) [oz.k,oz.c,oz.s,oz.a,oz.n,.int .i32 oz.ch] 70∧w.heap.size+1+1+1<bV from ⟨HQ.out.2.1.setN (by omega) [.int .i64 0,.int .i64 (tm.length:Int),.string tx] 0,HQ.out.2.2.1.setN (by omega) [.int .i64 0,.int .i64 (tm.length:Int),.string tx] 0,hlt⟩);obtain ⟨wy,hwy⟩:∃ wy,wy=setN wz (w.heap.size+1+1+1) 0 [.int .i64 0,.int .i64 (tm.length:Int),.string tx]:=⟨_,rfl⟩
 rw [←hwy] at HP2 HR;simp only [setN, Nat.zero_add, Nat.reduceAdd] at hwy
 have HWZ:=Lh hwy;clear hwy;refine rd1 9 (by kernel_rfl) rfl fun K hK=>?_
 go_simp
 go_wp2_with fail
 rw [←HWZ.out];refine hK.out _ _ (let h:=And.intro (HP2.out.1.1) (HR.out); ⟨h,h.1.br.c4,h.2.1.c2,h.2.2.1.c6⟩) ?_;clear hK K hH HWZ HQ hb2 HP n0 fn0 HR;intro hH
 try simp only [LAY]
 refine tq 10 (vc) hH ?_;refine dnH ?_;clear hH;obtain ⟨p0,p1,p2,p3⟩:=HP2.out.2.c4;have t0 := HP2.out.1.2.c3;go_wp2_with fail
 exact bodyPost_ret (v:=.tuple #[.agg #[s,(.slice a3_ tm.length pw3),ul,.bool false],.agg #[.int .i64 0,.int .i64 (tm.length:Int),.string tx],vc]) (by simp [results, Tryz.results8, go_sem, p0, p1, p2, p3, t0]) rfl ⟨(.slice a3_ tm.length pw3),ul,vc,rfl,HP2.out.1.1.io,HP2.out.1.1.il,HP2.out.1.1.ic,HP2.out.1.1.bel⟩
end Go.Proofs.YtpbhaieclkoggaaGreatDoor
set_option maxRecDepth 100000
set_option maxHeartbeats 12800000
namespace Go.Proofs.YtpbhaieclkoggaaGreatDoor
open Go Go.Proofs Go.RowKit
theorem do2e (m l:List Oq) (n:Nat) (hV:VOk m l n) (hn:n≤60) (c:Cal) (s:Int) (hs:(s==0)=false) (hE:(remE m l c.o==0)=false) (vm vl:Value) (w:World) (hM:IsO w vm m) (hL:IsO w vl l):
  Calls Tryz.prog 8 #[.agg #[s,vm,vl,.bool false],.agg #[.int .i64 2,c.p,.int .i32 c.ch,c.o.k,c.o.c,c.o.s,c.o.a,c.o.n,.int .i32 c.o.ch,c.a,c.b]] w (DoA w s false m l (remE m l c.o) 0 ⟨#[]⟩ []):=by
 obtain ⟨aq1,pq1,rfl,e1,e2⟩:=Sl.form hM;obtain ⟨aq2,pq2,rfl,e3,e4⟩:=Sl.form hL;have H0:=Lh (E12.start (k:=2) (s:=s) (z:=false) (c:=c) hM hL);have sv0:=sg aq1 m.length pq1;have sv1:=sg aq2 l.length pq2;generalize Value.slice aq1 m.length pq1=vm at *
 generalize Value.slice aq2 l.length pq2=vl at *
 have HC:=Lh (fun W (h1:IsO W vm m) (h2:IsO W vl l)=>refRemote_any m l c.o hV.ok hV.l16 (by have:=hV.len; omega) vm vl W h1 h2);generalize remT m l c.o=tt at *
 generalize remE m l c.o=E at *
 obtain ⟨tm,tl,tc⟩:=tt
 skip
 clear hM hL e1 e2 e3 e4 hV hn
 go_enter Tryz.func8,Tryz.ntmps8
 go_upto_region 1 with fail
 generalize ((((w.alloc (.cells #[s,vm,vl,.bool false] 49)).alloc (.cells #[.int .i64 2,c.p,.int .i32 c.ch,c.o.k,c.o.c,c.o.s,c.o.a,c.o.n,.int .i32 c.o.ch,c.a,c.b] 72)).alloc (.cells #[.int .i64 0,.slice none 0 0,.slice none 0 0,.bool false] 49)).alloc (.cells #[.int .i64 0,.int .i64 0,.string ⟨#[]⟩] 64))=X0 at *
 have x0 := H0.out.1.br.c4;have y0 := H0.out.2.c11;obtain ⟨a0,a1,a2,a3,hb1⟩:=H0.out.1.b1;obtain ⟨d0,d1,d2,hb2⟩:=H0.out.1.b2;have n0 := hb1.c4;have fn0 := hb1.f4;have q0 := hb2.c3;have fq0 := hb2.f3;clear hb1 hb2 n0 fn0 q0 fq0;go_wp2_with (go_at_call 25; refine (HC.out _ H0.out.1.io H0.out.1.il).mono ?_; rintro e w1 ⟨um,ul,vc,rfl,hm1,hl1,hc1,hb⟩; refine Hid.out ?_)
 obtain ⟨a3_,pw3,rfl,e5,e6⟩:=Sl.form hm1;obtain ⟨a4,pw4,rfl,e7,e8⟩:=Sl.form hl1;obtain ⟨a5,pw5,rfl,e9,e10⟩:=Sl.form hc1;have sv2:=sg a3_ tm.length pw3;have sv3:=sg a4 tl.length pw4;have sv4:=sg a5 tc.length pw5
 change IsO w1 (.slice a3_ tm.length pw3) tm at hm1
 change IsO w1 (.slice a4 tl.length pw4) tl at hl1
 change IsC w1 (.slice a5 tc.length pw5) tc at hc1
 generalize Value.slice a4 tl.length pw4=ul at *
 generalize Value.slice a3_ tm.length pw3=um at *
 have hA:=bl1 w1 [um,ul] 47;have hlt:w.heap.size+1+1+1<w1.heap.size:=by obtain ⟨_,_,_,h2⟩:=(H0.out.1.next hb).b2; exact h2.lt
 have H1:=Lh (show E12 w s false vm vl (.slice none 0 0) m l [] (w1.alloc (.cells #[um,ul] 47))∧IsO (w1.alloc (.cells #[um,ul] 47)) um tm∧IsO (w1.alloc (.cells #[um,ul] 47)) ul tl∧IsC (w1.alloc (.cells #[um,ul] 47)) (.slice a5 tc.length pw5) tc∧Blk (w1.alloc (.cells #[um,ul] 47)) w1.heap.size [um,ul] 47 from ⟨(H0.out.1.next hb).next hA,hm1.next hA,hl1.next hA,hc1.next hA,Blk.start w1 _ _⟩);clear H0 hb hA HC hm1 hl1 hc1 e5 e6 e7 e8 e9 e10 x0 y0;refine Lh ?_
 go_upto_region 20 with fail
 generalize w1.alloc (.cells #[um,ul] 47)=W1 at *
 generalize w1.heap.size=bV at *
 have x0 := H1.out.1.br.c4;have fx0 := H1.out.1.br.f4;obtain ⟨a0,a1,a2,a3,hb1⟩:=H1.out.1.b1;obtain ⟨d0,d1,d2,hb2⟩:=H1.out.1.b2;have n0 := hb1.c4;have fn0 := hb1.f4;have q0 := hb2.c3;have fq0 := hb2.f3;have HP:=Lh (H1.out.1.fin s vm vl (.bool false) E (.int .i64 0) (.string ⟨#[]⟩));simp only [setN, Nat.zero_add, Nat.reduceAdd] at HP
 skip
 go_wp2_with fail
 have p0 := HP.out.1.1.c4;have t0 := HP.out.1.2.c3;exact bodyPost_ret (v:=.tuple #[.agg #[s,vm,vl,.bool false],.agg #[E,.int .i64 0,.string ⟨#[]⟩],(.slice none 0 0)]) (by simp [results, Tryz.results8, go_sem, p0, t0]) rfl ⟨vm,vl,(.slice none 0 0),rfl,HP.out.2.io,HP.out.2.il,HP.out.2.ic,HP.out.2.bel⟩
theorem do2 (m l:List Oq) (n:Nat) (hV:VOk m l n) (hn:n≤60) (c:Cal) (s:Int) (hs:(s==0)=false) (hE:remE m l c.o=0) (vm vl:Value) (w:World) (hM:IsO w vm m) (hL:IsO w vl l):
  Calls Tryz.prog 8 #[.agg #[s,vm,vl,.bool false],.agg #[.int .i64 2,c.p,.int .i32 c.ch,c.o.k,c.o.c,c.o.s,c.o.a,c.o.n,.int .i32 c.o.ch,c.a,c.b]] w (DoA w s false (remT m l c.o).1 (remT m l c.o).2.1 0 ((remT m l c.o).2.2.length:Int) ⟨#[]⟩ (remT m l c.o).2.2):=by
 obtain ⟨aq1,pq1,rfl,e1,e2⟩:=Sl.form hM;obtain ⟨aq2,pq2,rfl,e3,e4⟩:=Sl.form hL;have H0:=Lh (E12.start (k:=2) (s:=s) (z:=false) (c:=c) hM hL);have sv0:=sg aq1 m.length pq1;have sv1:=sg aq2 l.length pq2;generalize Value.slice aq1 m.length pq1=vm at *
 generalize Value.slice aq2 l.length pq2=vl at *
 have HC:=Lh (fun W (h1:IsO W vm m) (h2:IsO W vl l)=>refRemote_any m l c.o hV.ok hV.l16 (by have:=hV.len; omega) vm vl W h1 h2);rw [hE] at HC;generalize remT m l c.o=tt at *
 obtain ⟨tm,tl,tc⟩:=tt
 skip
 clear hM hL e1 e2 e3 e4 hV hn hE
 go_enter Tryz.func8,Tryz.ntmps8
 go_upto_region 1 with fail
 generalize ((((w.alloc (.cells #[s,vm,vl,.bool false] 49)).alloc (.cells #[.int .i64 2,c.p,.int .i32 c.ch,c.o.k,c.o.c,c.o.s,c.o.a,c.o.n,.int .i32 c.o.ch,c.a,c.b] 72)).alloc (.cells #[.int .i64 0,.slice none 0 0,.slice none 0 0,.bool false] 49)).alloc (.cells #[.int .i64 0,.int .i64 0,.string ⟨#[]⟩] 64))=X0 at *
 have x0 := H0.out.1.br.c4;have y0 := H0.out.2.c11;obtain ⟨a0,a1,a2,a3,hb1⟩:=H0.out.1.b1;obtain ⟨d0,d1,d2,hb2⟩:=H0.out.1.b2;have n0 := hb1.c4;have fn0 := hb1.f4;have q0 := hb2.c3;have fq0 := hb2.f3;clear hb1 hb2 n0 fn0 q0 fq0;go_wp2_with (go_at_call 25; refine (HC.out _ H0.out.1.io H0.out.1.il).mono ?_; rintro e w1 ⟨um,ul,vc,rfl,hm1,hl1,hc1,hb⟩; refine Hid.out ?_)
 obtain ⟨a3_,pw3,rfl,e5,e6⟩:=Sl.form hm1;obtain ⟨a4,pw4,rfl,e7,e8⟩:=Sl.form hl1;obtain ⟨a5,pw5,rfl,e9,e10⟩:=Sl.form hc1;have sv2:=sg a3_ tm.length pw3;have sv3:=sg a4 tl.length pw4;have sv4:=sg a5 tc.length pw5
 change IsO w1 (.slice a3_ tm.length pw3) tm at hm1
 change IsO w1 (.slice a4 tl.length pw4) tl at hl1
 change IsC w1 (.slice a5 tc.length pw5) tc at hc1
 generalize Value.slice a4 tl.length pw4=ul at *
 generalize Value.slice a3_ tm.length pw3=um at *
 have hA:=bl1 w1 [um,ul] 47;have hlt:w.heap.size+1+1+1<w1.heap.size:=by obtain ⟨_,_,_,h2⟩:=(H0.out.1.next hb).b2; exact h2.lt
 have H1:=Lh (show E12 w s false vm vl (.slice none 0 0) m l [] (w1.alloc (.cells #[um,ul] 47))∧IsO (w1.alloc (.cells #[um,ul] 47)) um tm∧IsO (w1.alloc (.cells #[um,ul] 47)) ul tl∧IsC (w1.alloc (.cells #[um,ul] 47)) (.slice a5 tc.length pw5) tc∧Blk (w1.alloc (.cells #[um,ul] 47)) w1.heap.size [um,ul] 47 from ⟨(H0.out.1.next hb).next hA,hm1.next hA,hl1.next hA,hc1.next hA,Blk.start w1 _ _⟩);clear H0 hb hA HC hm1 hl1 hc1 e5 e6 e7 e8 e9 e10 x0 y0;refine Lh ?_
 go_upto_region 20 with fail
 generalize w1.alloc (.cells #[um,ul] 47)=W1 at *
 generalize w1.heap.size=bV at *
 have x0 := H1.out.1.br.c4;have fx0 := H1.out.1.br.f4;obtain ⟨b0,b1⟩:=H1.out.2.2.2.2.c2;have HT:=Lh (H1.out.1.take H1.out.2.1 H1.out.2.2.1 H1.out.2.2.2.1);obtain ⟨a0,a1,a2,a3,hb1⟩:=H1.out.1.b1;obtain ⟨d0,d1,d2,hb2⟩:=H1.out.1.b2;have n0 := hb1.c4;have fn0 := hb1.f4;have q0 := hb2.c3;have fq0 := hb2.f3;have HP:=Lh (HT.out.fin s um ul (.bool false) (.int .i64 0) (.int .i64 (tc.length:Int)) (.string ⟨#[]⟩));simp only [setN, Nat.zero_add, Nat.reduceAdd] at HP
 skip
 simp only [setN, Nat.reduceAdd] at HT
 go_wp2_with fail
 have p0 := HP.out.1.1.c4;have t0 := HP.out.1.2.c3;exact bodyPost_ret (v:=.tuple #[.agg #[s,um,ul,.bool false],.agg #[.int .i64 0,.int .i64 (tc.length:Int),.string ⟨#[]⟩],(.slice a5 tc.length pw5)]) (by simp [results, Tryz.results8, go_sem, p0, t0]) rfl ⟨um,ul,(.slice a5 tc.length pw5),rfl,HP.out.2.io,HP.out.2.il,HP.out.2.ic,HP.out.2.bel⟩
end Go.Proofs.YtpbhaieclkoggaaGreatDoor
namespace Go.Proofs.YtpbhaieclkoggaaGreatDoor
open Go Go.Proofs Go.RowKit
theorem refDo_any (r:Rpl) (n:Nat) (hR:RplOk r n) (hn:n≤60) (c:Cal) (vm vl:Value) (w:World) (hM:IsO w vm r.m) (hL:IsO w vl r.l) (ht:Tabs w):
  Calls Tryz.prog 8 #[.agg #[r.s,vm,vl,.bool r.z],.agg #[c.k,c.p,.int .i32 c.ch,c.o.k,c.o.c,c.o.s,c.o.a,c.o.n,.int .i32 c.o.ch,c.a,c.b]] w (DoA w (doR r c).1.s (doR r c).1.z (doR r c).1.m (doR r c).1.l (doR r c).2.1.e (doR r c).2.1.n (doR r c).2.1.t (doR r c).2.2):=by
 obtain ⟨s,m,l,z⟩:=r;have hV:VOk m l n:=hR.v;by_cases h0:c.k<0
 ·rw [show doR ⟨s,m,l,z⟩ c=(⟨s,m,l,z⟩,badA 1,[]) from if_pos (.inl h0)]
  exact doLo m l c s z h0 vm vl w hM hL
 by_cases h8:8<c.k
 ·rw [show doR ⟨s,m,l,z⟩ c=(⟨s,m,l,z⟩,badA 1,[]) from if_pos (.inr h8)]
  exact doHi m l c s z h8 vm vl w hM hL
 have hk:¬ (c.k<0∨8<c.k):=by omega
 cases z with
 | true=>
  rw [show doR ⟨s,m,l,true⟩ c=(⟨s,m,l,true⟩,badA 9,[]) from (if_neg hk).trans (if_pos rfl)];exact doCl m l c s (by omega) (by omega) vm vl w hM hL
 | false=>
  by_cases hs0:s=0
  ·subst hs0
   rw [show doR ⟨0,m,l,false⟩ c=(⟨0,m,l,false⟩,badA 9,[]) from (if_neg hk).trans (if_pos rfl)];exact doNo m l c (by omega) (by omega) vm vl w hM hL
  have hs:(s==0)=false:=by simpa using hs0
  have hsh:¬ shutB ⟨s,m,l,false⟩=true:=by simp [shutB,hs0]
  obtain ⟨k,p,ch,o,a,b,lo,hi,p0,p1,k0,k1⟩:=c
  dsimp only at h0 h8 hk
  have hN:=fun y (h:_=y)=>(show doR ⟨s,m,l,false⟩ ⟨k,p,ch,o,a,b,lo,hi,p0,p1,k0,k1⟩=y from (if_neg hk).trans ((if_neg hsh).trans h))
  obtain rfl | rfl | rfl | rfl | rfl | rfl | rfl | rfl | rfl:k=0∨k=1∨k=2∨k=3∨k=4∨k=5∨k=6∨k=7∨k=8:=by omega
  ·by_cases hE:inE8 m l s p ch lo hi=0
   ·rw [hN (⟨s,(inT8 m l s p ch lo hi).1,(inT8 m l s p ch lo hi).2.1,false⟩,⟨0,((inT8 m l s p ch lo hi).1.length:Int),oT (inV8 m l s p ch lo hi)⟩,(inT8 m l s p ch lo hi).2.2) (by rw [if_pos rfl]; exact if_neg (fun e=>e hE))]
    exact do0 m l n hV hn ⟨0,p,ch,o,a,b,lo,hi,p0,p1,k0,k1⟩ s hs hE vm vl w hM hL ht
   ·rw [hN (⟨s,m,l,false⟩,badA (inE8 m l s p ch lo hi),[]) (by rw [if_pos rfl]; exact if_pos hE)]
    exact do0e m l n hV hn ⟨0,p,ch,o,a,b,lo,hi,p0,p1,k0,k1⟩ s hs (by simpa using hE) vm vl w hM hL
  ·by_cases hE:deE8 m l p=0
   ·rw [hN (⟨s,(deT8 m l p).1,(deT8 m l p).2.1,false⟩,⟨0,((deT8 m l p).1.length:Int),oT (deV8 m p)⟩,(deT8 m l p).2.2) (by rw [if_neg (by simp),if_pos rfl]; exact if_neg (fun e=>e hE))]
    exact do1 m l n hV hn ⟨1,p,ch,o,a,b,lo,hi,p0,p1,k0,k1⟩ s hs hE vm vl w hM hL ht
   ·rw [hN (⟨s,m,l,false⟩,badA (deE8 m l p),[]) (by rw [if_neg (by simp),if_pos rfl]; exact if_pos hE)]
    exact do1e m l n hV hn ⟨1,p,ch,o,a,b,lo,hi,p0,p1,k0,k1⟩ s hs (by simpa using hE) vm vl w hM hL
  ·by_cases hE:remE m l o=0
   ·rw [hN (⟨s,(remT m l o).1,(remT m l o).2.1,false⟩,⟨0,((remT m l o).2.2.length:Int),⟨#[]⟩⟩,(remT m l o).2.2) (by rw [if_neg (by simp),if_neg (by simp),if_pos rfl]; exact if_neg (fun e=>e hE))]
    exact do2 m l n hV hn ⟨2,p,ch,o,a,b,lo,hi,p0,p1,k0,k1⟩ s hs hE vm vl w hM hL
   ·rw [hN (⟨s,m,l,false⟩,badA (remE m l o),[]) (by rw [if_neg (by simp),if_neg (by simp),if_pos rfl]; exact if_pos hE)]
    exact do2e m l n hV hn ⟨2,p,ch,o,a,b,lo,hi,p0,p1,k0,k1⟩ s hs (by simpa using hE) vm vl w hM hL
  ·rw [hN (⟨s,m,l,false⟩,⟨0,0,txtS (docR m)⟩,[]) (by rw [if_neg (by simp),if_neg (by simp),if_neg (by simp),if_pos rfl])]
   exact do3 m l n hV hn ⟨3,p,ch,o,a,b,lo,hi,p0,p1,k0,k1⟩ s hs vm vl w hM hL
  ·rw [hN (⟨s,m,l,false⟩,⟨0,aliN (docR m),⟨#[]⟩⟩,[]) (by rw [if_neg (by simp),if_neg (by simp),if_neg (by simp),if_neg (by simp),if_pos rfl])]
   exact do4 m l n hV hn ⟨4,p,ch,o,a,b,lo,hi,p0,p1,k0,k1⟩ s hs vm vl w hM hL
  ·by_cases hE:cuE (docR m) p=0
   ·rw [hN (⟨s,m,l,false⟩,⟨0,0,ancT (namC (docR m) p).1 (namC (docR m) p).2⟩,[]) (by rw [if_neg (by simp),if_neg (by simp),if_neg (by simp),if_neg (by simp),if_neg (by simp),if_pos rfl]; exact if_neg (fun e=>e hE))]
    exact do5 m l n hV hn ⟨5,p,ch,o,a,b,lo,hi,p0,p1,k0,k1⟩ s hs hE vm vl w hM hL ht
   ·rw [hN (⟨s,m,l,false⟩,badA (cuE (docR m) p),[]) (by rw [if_neg (by simp),if_neg (by simp),if_neg (by simp),if_neg (by simp),if_neg (by simp),if_pos rfl]; exact if_pos hE)]
    exact do5e m l n hV hn ⟨5,p,ch,o,a,b,lo,hi,p0,p1,k0,k1⟩ s hs (by simpa using hE) vm vl w hM hL
  ·rw [hN (⟨s,m,l,false⟩,⟨reE (docR m) a b,reN (docR m) a b,⟨#[]⟩⟩,[]) (by rw [if_neg (by simp),if_neg (by simp),if_neg (by simp),if_neg (by simp),if_neg (by simp),if_neg (by simp),if_pos rfl])]
   exact do6 m l n hV hn ⟨6,p,ch,o,a,b,lo,hi,p0,p1,k0,k1⟩ s hs vm vl w hM hL
  ·rw [hN (⟨s,m,l,false⟩,⟨0,(m.length:Int),sumT m⟩,[]) (by rw [if_neg (by simp),if_neg (by simp),if_neg (by simp),if_neg (by simp),if_neg (by simp),if_neg (by simp),if_neg (by simp),if_pos rfl])]
   exact do7 m l n hV hn ⟨7,p,ch,o,a,b,lo,hi,p0,p1,k0,k1⟩ s hs vm vl w hM hL
  ·rw [hN (⟨s,m,l,true⟩,⟨0,0,⟨#[]⟩⟩,[]) (by rw [if_neg (by simp),if_neg (by simp),if_neg (by simp),if_neg (by simp),if_neg (by simp),if_neg (by simp),if_neg (by simp),if_neg (by simp)])]
   exact do8 m l ⟨8,p,ch,o,a,b,lo,hi,p0,p1,k0,k1⟩ s hs vm vl w hM hL
end Go.Proofs.YtpbhaieclkoggaaGreatDoor
