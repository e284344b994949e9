import Derived.Test.YtpbhaieclkoggaaGreatDoorRm13
import Derived.StillTailTactics
set_option maxRecDepth 100000
set_option maxHeartbeats 12800000
namespace Go.Proofs.YtpbhaieclkoggaaGreatDoor
open Go Go.Proofs Go.RowKit
def DPost (r:Rpl) (c:Cal) (w:World):Ending→World→Prop:=fun e w'=>Below w.heap.size w w'∧∃ d0 d1 d2 d3 d4 d5 d6 d7 d8 d9 lc,e=.returned (.tuple #[.agg #[d0,d1,d2,d3,d4,d5,d6,d7,d8,d9],.agg #[.int .i64 (doR r c).2.1.e,.int .i64 (doR r c).2.1.n,.string (doR r c).2.1.t],lc])∧IsRp w' (doR r c).1 [d0,d1,d2,d3,d4,d5,d6,d7,d8,d9]∧IsVC w' lc (doR r c).2.2
def Ent (f:Nat):Prop:=∀ (a:Array Value) (W:World),(callFunc f a).run Tryz.prog W=.ok (.enter f a) W
def DCall (k:Int) (f:Nat) (ca:Array Value) (U:World):Prop:=∀ (r:Rpl) (n:Nat) (c:Cal) (v0 v1 v2 v3 v4 v5 v6 v7:Value),c.k=k→RplOk r n→n≤45→shutB r=false→IsV U r.m r.l [v0,v1,v2,v3,v4,v5,v6,v7]→Pows U→Tabs U→Calls Tryz.prog f (#[.agg #[r.s,.bool true,v0,v1,v2,v3,v4,v5,v6,v7],.agg #[c.k,c.p,.int .i32 c.ch,c.o.k,c.o.c,c.o.s,c.o.a,c.o.n,.int .i32 c.o.ch,c.a,c.b]]++ca) U (DPost r c U)
def WrC (f:Nat) (k:Int):Prop:=∀ (r:Rpl) (n:Nat) (c:Cal),c.k=k→RplOk r n→n≤45→shutB r=false→∃ T x,doR r c=(⟨r.s,T.1,T.2.1,r.z⟩,x,T.2.2)∧∀ (v0 v1 v2 v3 v4 v5 v6 v7:Value) (w:World),IsV w r.m r.l [v0,v1,v2,v3,v4,v5,v6,v7]→Tabs w→Calls Tryz.prog f #[.agg #[r.s,.bool true,v0,v1,v2,v3,v4,v5,v6,v7],.agg #[c.k,c.p,.int .i32 c.ch,c.o.k,c.o.c,c.o.s,c.o.a,c.o.n,.int .i32 c.o.ch,c.a,c.b]] w (WPost w T x)
def LkC (f:Nat) (k:Int):Prop:=∀ (r:Rpl) (n:Nat) (c:Cal),c.k=k→RplOk r n→n≤45→shutB r=false→∃ x,doR r c=(r,x,[])∧∀ (v0 v1 v2 v3 v4 v5 v6 v7:Value) (w:World),IsV w r.m r.l [v0,v1,v2,v3,v4,v5,v6,v7]→Pows w→Tabs w→Calls Tryz.prog f #[.agg #[v0,v1,v2,v3,v4,v5,v6,v7],.agg #[c.k,c.p,.int .i32 c.ch,c.o.k,c.o.c,c.o.s,c.o.a,c.o.n,.int .i32 c.o.ch,c.a,c.b]] w (LPost w x)
theorem one2 {s:Int} {b:Bool} {us:List Value} (h:∀ u∈us,u.oneCell'=true):∀ u∈(.int .i64 s::.bool b::us:List Value),u.oneCell'=true:=by
 intro u hu
 rcases List.mem_cons.1 hu with rfl | hu
 ·rfl
 rcases List.mem_cons.1 hu with rfl | hu
 ·rfl
 exact h u hu
theorem wr1_any (f:Nat) (k:Int) (hf:WrC f k) (he:Ent f) (p:Nat) (U:World) (hp:Blk U p [.func (.func f) #[] #[]] 134):DCall k 94 #[.pointer (some ⟨p,0,none⟩)] U:=by
 intro r n c v0 v1 v2 v3 v4 v5 v6 v7 hk hR hn hs hS _ ht
 obtain ⟨⟨tm,tl,tc⟩,x,hd,hC⟩:=hf r n c hk hR hn hs;unfold DPost
 rw [hd];have HSB:=Lh (show (!shutB ⟨r.s,tm,tl,r.z⟩)=true by show (!shutB r)=true; rw [hs]; rfl);have HC:=Lh hC;have HS:=Lh hS;have HTT:=Lh ht;obtain ⟨sd0,sd1,sd2,sd3,sd4,sd5,sd6,sd7⟩:=st8 hS.one;have H0:=Lh (And.intro (Bx4.start:Bx4 U [r.s,.bool true,v0,v1,v2,v3,v4,v5,v6,v7] [c.k,c.p,.int .i32 c.ch,c.o.k,c.o.c,c.o.s,c.o.a,c.o.n,.int .i32 c.o.ch,c.a,c.b] [.int .i64 0,.bool false,.pointer none,.pointer none,.int .i64 0,.slice none 0 0,.int .i64 0,.int .i64 0,.complex .f64 0 0,.complex .f64 0 0] [.int .i64 0,.int .i64 0,.string ⟨#[]⟩] 41 57 41 59 ((((U.alloc (.cells #[r.s,.bool true,v0,v1,v2,v3,v4,v5,v6,v7] 41)).alloc (.cells #[c.k,c.p,.int .i32 c.ch,c.o.k,c.o.c,c.o.s,c.o.a,c.o.n,.int .i32 c.o.ch,c.a,c.b] 57)).alloc (.cells #[.int .i64 0,.bool false,.pointer none,.pointer none,.int .i64 0,.slice none 0 0,.int .i64 0,.int .i64 0,.complex .f64 0 0,.complex .f64 0 0] 41)).alloc (.cells #[.int .i64 0,.int .i64 0,.string ⟨#[]⟩] 59))) (hp.next (Bx4.start:Bx4 U [r.s,.bool true,v0,v1,v2,v3,v4,v5,v6,v7] [c.k,c.p,.int .i32 c.ch,c.o.k,c.o.c,c.o.s,c.o.a,c.o.n,.int .i32 c.o.ch,c.a,c.b] [.int .i64 0,.bool false,.pointer none,.pointer none,.int .i64 0,.slice none 0 0,.int .i64 0,.int .i64 0,.complex .f64 0 0,.complex .f64 0 0] [.int .i64 0,.int .i64 0,.string ⟨#[]⟩] 41 57 41 59 _).bel));clear hf hk hR hn hs hS ht hd hC hp
 show Calls Tryz.prog 94 #[.agg #[r.s,.bool true,v0,v1,v2,v3,v4,v5,v6,v7],.agg #[c.k,c.p,.int .i32 c.ch,c.o.k,c.o.c,c.o.s,c.o.a,c.o.n,.int .i32 c.o.ch,c.a,c.b],.pointer (some ⟨p,0,none⟩)] U _
 dsimp only
 go_enter Tryz.func94,Tryz.ntmps94
 go_upto_region 1 with fail
 generalize ((((U.alloc (.cells #[r.s,.bool true,v0,v1,v2,v3,v4,v5,v6,v7] 41)).alloc (.cells #[c.k,c.p,.int .i32 c.ch,c.o.k,c.o.c,c.o.s,c.o.a,c.o.n,.int .i32 c.o.ch,c.a,c.b] 57)).alloc (.cells #[.int .i64 0,.bool false,.pointer none,.pointer none,.int .i64 0,.slice none 0 0,.int .i64 0,.int .i64 0,.complex .f64 0 0,.complex .f64 0 0] 41)).alloc (.cells #[.int .i64 0,.int .i64 0,.string ⟨#[]⟩] 59))=X0 at *
 have x0 := H0.out.1.b0.c10;have y0 := H0.out.1.b1.c11;have g0:=H0.out.2.cell 0 rfl;have hen:∀ (a:Array Value) (W:World),(callFunc f a).run Tryz.prog W=.ok (.enter f a) W:=he;go_wp2_with fail
 refine (HC.out _ _ _ _ _ _ _ _ _ (HS.out.next H0.out.1.bel) (HTT.out.next H0.out.1.bel)).mono ?_
 rintro e w1 ⟨hb,u0,u1,u2,u3,u4,u5,u6,u7,lc,rfl,hiv,hic⟩
 obtain ⟨se0,se1,se2,se3,se4,se5,se6,se7⟩:=st8 hiv.one;have HON:=Lh hiv.one;have hlt:U.heap.size+1+1+1<w1.heap.size:=(H0.out.1.next hb).b3.lt;have hA:=bl2 w1 [u0,u1,u2,u3,u4,u5,u6,u7] [x.e,x.n,.string x.t] 39 59;have hF:=H0.out.1.next hb;have H2:=Lh (show (Bx4 U [r.s,.bool true,v0,v1,v2,v3,v4,v5,v6,v7] [c.k,c.p,.int .i32 c.ch,c.o.k,c.o.c,c.o.s,c.o.a,c.o.n,.int .i32 c.o.ch,c.a,c.b] [.int .i64 0,.bool false,.pointer none,.pointer none,.int .i64 0,.slice none 0 0,.int .i64 0,.int .i64 0,.complex .f64 0 0,.complex .f64 0 0] [.int .i64 0,.int .i64 0,.string ⟨#[]⟩] 41 57 41 59 ((w1.alloc (.cells #[u0,u1,u2,u3,u4,u5,u6,u7] 39)).alloc (.cells #[x.e,x.n,.string x.t] 59))∧Blk ((w1.alloc (.cells #[u0,u1,u2,u3,u4,u5,u6,u7] 39)).alloc (.cells #[x.e,x.n,.string x.t] 59)) w1.heap.size [u0,u1,u2,u3,u4,u5,u6,u7] 39∧Blk ((w1.alloc (.cells #[u0,u1,u2,u3,u4,u5,u6,u7] 39)).alloc (.cells #[x.e,x.n,.string x.t] 59)) (w1.heap.size+1) [x.e,x.n,.string x.t] 59)∧(IsV ((w1.alloc (.cells #[u0,u1,u2,u3,u4,u5,u6,u7] 39)).alloc (.cells #[x.e,x.n,.string x.t] 59)) tm tl [u0,u1,u2,u3,u4,u5,u6,u7]∧IsVC ((w1.alloc (.cells #[u0,u1,u2,u3,u4,u5,u6,u7] 39)).alloc (.cells #[x.e,x.n,.string x.t] 59)) lc tc)∧U.heap.size+1+1+1<w1.heap.size from ⟨⟨hF.next hA,(Blk.start w1 _ _).alloc _,Blk.startAt (by simp)⟩,⟨hiv.next hA,hic.next hA⟩,hF.b3.lt⟩);clear H0 hF hA hb hiv hic HC g0 hen x0 y0
 go_upto_region 2 with fail
 generalize (w1.alloc (.cells #[u0,u1,u2,u3,u4,u5,u6,u7] 39)).alloc (.cells #[x.e,x.n,.string x.t] 59)=W2 at *
 generalize w1.heap.size=bV at *
 have x0 := H2.out.1.1.b0.c10;have fx0 := H2.out.1.1.b0.f10;have z0 := H2.out.1.2.1.c8;have h3:=(And.intro (H2.out.1.1.p0 [u0,u1,u2,u3,u4,u5,u6,u7] 2) (And.intro (H2.out.1.2.2.setN (b:=U.heap.size) (by have:=H2.out.2.2; omega) [u0,u1,u2,u3,u4,u5,u6,u7] 2) (And.intro (H2.out.2.1.1.setB H2.out.1.1.b0 (by decide) (by decide) (by decide) [u0,u1,u2,u3,u4,u5,u6,u7] 2) (Sl.kt (KT.setN (by decide) [u0,u1,u2,u3,u4,u5,u6,u7] 2 H2.out.1.1.b0) H2.out.2.1.2))))
 change Bx4 U [r.s,.bool true,u0,u1,u2,u3,u4,u5,u6,u7] [c.k,c.p,.int .i32 c.ch,c.o.k,c.o.c,c.o.s,c.o.a,c.o.n,.int .i32 c.o.ch,c.a,c.b] [.int .i64 0,.bool false,.pointer none,.pointer none,.int .i64 0,.slice none 0 0,.int .i64 0,.int .i64 0,.complex .f64 0 0,.complex .f64 0 0] [.int .i64 0,.int .i64 0,.string ⟨#[]⟩] 41 57 41 59 _∧_ at h3
 generalize hwz:setN W2 U.heap.size 2 [u0,u1,u2,u3,u4,u5,u6,u7]=wz at *
 replace h3:=Lh (And.intro (h3.1.next bdq) (And.intro (h3.2.1.next bdq) (And.intro (h3.2.2.1.next bdq) (IsVC.next h3.2.2.2 bdq))))
 simp only [setN, Nat.reduceAdd] at hwz
 go_upto_region 3 with fail
 clear hwz H2 x0 fx0 z0;refine rgH (fun W=>Cz10 W U.heap.size r.s (.bool true) u0 u1 u2 u3 u4 u5 u6 u7∧Cz3 W (bV+1) x.e x.n (.string x.t)) ⟨h3.out.1.b0.c10,h3.out.2.1.c3⟩ fun hH=>?_
 generalize hX9:World.drew _=X9 at *
 clear hX9;refine tq 0 (.agg #[r.s,.bool true,u0,u1,u2,u3,u4,u5,u6,u7]) hH ?_;refine tq 1 (.agg #[x.e,x.n,.string x.t]) hH ?_;refine tq 2 (lc) hH ?_;have h4:=(And.intro (h3.out.1.p2 [r.s,.bool true,u0,u1,u2,u3,u4,u5,u6,u7] 0) (And.intro (h3.out.2.1.setN (b:=U.heap.size+1+1) (by have:=hlt; omega) [r.s,.bool true,u0,u1,u2,u3,u4,u5,u6,u7] 0) (And.intro (h3.out.2.2.1.setB h3.out.1.b2 (by decide) (by decide) (by decide) [r.s,.bool true,u0,u1,u2,u3,u4,u5,u6,u7] 0) (Sl.kt (KT.setN (by decide) [r.s,.bool true,u0,u1,u2,u3,u4,u5,u6,u7] 0 h3.out.1.b2) h3.out.2.2.2))))
 refine stN 3 h3.out.1.b2 [r.s,.bool true,u0,u1,u2,u3,u4,u5,u6,u7] (one2 HON.out) ⟨h4.1.b0.c10,h4.2.1.c3⟩ (fun hH=>?_);generalize setN X9 (U.heap.size+1+1) 0 [r.s,.bool true,u0,u1,u2,u3,u4,u5,u6,u7]=wy at *
 replace h3:=Lh (show Bx4 U [r.s,.bool true,u0,u1,u2,u3,u4,u5,u6,u7] [c.k,c.p,.int .i32 c.ch,c.o.k,c.o.c,c.o.s,c.o.a,c.o.n,.int .i32 c.o.ch,c.a,c.b] [r.s,.bool true,u0,u1,u2,u3,u4,u5,u6,u7] [.int .i64 0,.int .i64 0,.string ⟨#[]⟩] 41 57 41 59 wy∧_ from h4)
 clear h4;have h4:=(And.intro (h3.out.1.p3 [x.e,x.n,.string x.t] 0) (And.intro (h3.out.2.1.setN (b:=U.heap.size+1+1+1) (by have:=hlt; omega) [x.e,x.n,.string x.t] 0) (And.intro (h3.out.2.2.1.setB h3.out.1.b3 (by decide) (by decide) (by decide) [x.e,x.n,.string x.t] 0) (Sl.kt (KT.setN (by decide) [x.e,x.n,.string x.t] 0 h3.out.1.b3) h3.out.2.2.2))))
 refine stN 4 h3.out.1.b3 [x.e,x.n,.string x.t] (by simp [Value.oneCell']) ⟨h4.1.b0.c10,h4.2.1.c3⟩ (fun hH=>?_);generalize setN wy (U.heap.size+1+1+1) 0 [x.e,x.n,.string x.t]=wx at *
 replace h3:=Lh (show Bx4 U [r.s,.bool true,u0,u1,u2,u3,u4,u5,u6,u7] [c.k,c.p,.int .i32 c.ch,c.o.k,c.o.c,c.o.s,c.o.a,c.o.n,.int .i32 c.o.ch,c.a,c.b] [r.s,.bool true,u0,u1,u2,u3,u4,u5,u6,u7] [x.e,x.n,.string x.t] 41 57 41 59 wx∧_ from h4)
 clear h4;refine tq 5 (lc) hH ?_;refine dnH ?_;clear hH;obtain ⟨p0,p1,p2,p3,p4,p5,p6,p7,p8,p9⟩:=h3.out.1.b2.c10;have t0 := h3.out.1.b3.c3;go_wp2_with fail
 exact bodyPost_ret (v:=.tuple #[.agg #[r.s,.bool true,u0,u1,u2,u3,u4,u5,u6,u7],.agg #[x.e,x.n,.string x.t],lc]) (by simp [results, Tryz.results94, go_sem, p0, p1, p2, p3, p4, p5, p6, p7, p8, p9, t0]) rfl ⟨h3.out.1.bel,_,_,_,_,_,_,_,_,_,_,_,rfl,⟨_,_,_,_,_,_,_,_,h3.out.2.2.1,by rw [HSB.out]⟩,h3.out.2.2.2⟩
theorem lk1_any (f:Nat) (k:Int) (hf:LkC f k) (he:Ent f) (p:Nat) (U:World) (hp:Blk U p [.func (.func f) #[] #[]] 138):DCall k 100 #[.pointer (some ⟨p,0,none⟩)] U:=by
 intro r n c v0 v1 v2 v3 v4 v5 v6 v7 hk hR hn hs hS hpo ht
 obtain ⟨x,hd,hC⟩:=hf r n c hk hR hn hs;unfold DPost
 rw [hd];have HSB:=Lh (show (!shutB r)=true by rw [hs]; rfl);have HC:=Lh hC;have HS:=Lh hS;have HPT:=Lh (And.intro hpo ht);have HON:=Lh hS.one;obtain ⟨sd0,sd1,sd2,sd3,sd4,sd5,sd6,sd7⟩:=st8 hS.one;have H0:=Lh (And.intro (Bx4.start:Bx4 U [r.s,.bool true,v0,v1,v2,v3,v4,v5,v6,v7] [c.k,c.p,.int .i32 c.ch,c.o.k,c.o.c,c.o.s,c.o.a,c.o.n,.int .i32 c.o.ch,c.a,c.b] [.int .i64 0,.bool false,.pointer none,.pointer none,.int .i64 0,.slice none 0 0,.int .i64 0,.int .i64 0,.complex .f64 0 0,.complex .f64 0 0] [.int .i64 0,.int .i64 0,.string ⟨#[]⟩] 41 57 41 59 ((((U.alloc (.cells #[r.s,.bool true,v0,v1,v2,v3,v4,v5,v6,v7] 41)).alloc (.cells #[c.k,c.p,.int .i32 c.ch,c.o.k,c.o.c,c.o.s,c.o.a,c.o.n,.int .i32 c.o.ch,c.a,c.b] 57)).alloc (.cells #[.int .i64 0,.bool false,.pointer none,.pointer none,.int .i64 0,.slice none 0 0,.int .i64 0,.int .i64 0,.complex .f64 0 0,.complex .f64 0 0] 41)).alloc (.cells #[.int .i64 0,.int .i64 0,.string ⟨#[]⟩] 59))) (hp.next (Bx4.start:Bx4 U [r.s,.bool true,v0,v1,v2,v3,v4,v5,v6,v7] [c.k,c.p,.int .i32 c.ch,c.o.k,c.o.c,c.o.s,c.o.a,c.o.n,.int .i32 c.o.ch,c.a,c.b] [.int .i64 0,.bool false,.pointer none,.pointer none,.int .i64 0,.slice none 0 0,.int .i64 0,.int .i64 0,.complex .f64 0 0,.complex .f64 0 0] [.int .i64 0,.int .i64 0,.string ⟨#[]⟩] 41 57 41 59 _).bel));clear hf hk hR hn hs hS ht hpo hd hC;have HPL:=hp.lt;clear hp
 show Calls Tryz.prog 100 #[.agg #[r.s,.bool true,v0,v1,v2,v3,v4,v5,v6,v7],.agg #[c.k,c.p,.int .i32 c.ch,c.o.k,c.o.c,c.o.s,c.o.a,c.o.n,.int .i32 c.o.ch,c.a,c.b],.pointer (some ⟨p,0,none⟩)] U _
 dsimp only
 go_enter Tryz.func100,Tryz.ntmps100
 go_upto_region 1 with fail
 generalize ((((U.alloc (.cells #[r.s,.bool true,v0,v1,v2,v3,v4,v5,v6,v7] 41)).alloc (.cells #[c.k,c.p,.int .i32 c.ch,c.o.k,c.o.c,c.o.s,c.o.a,c.o.n,.int .i32 c.o.ch,c.a,c.b] 57)).alloc (.cells #[.int .i64 0,.bool false,.pointer none,.pointer none,.int .i64 0,.slice none 0 0,.int .i64 0,.int .i64 0,.complex .f64 0 0,.complex .f64 0 0] 41)).alloc (.cells #[.int .i64 0,.int .i64 0,.string ⟨#[]⟩] 59))=X0 at *
 refine rgH (fun W=>Cz10 W U.heap.size r.s (.bool true) v0 v1 v2 v3 v4 v5 v6 v7∧Cz11 W (U.heap.size+1) c.k c.p (.int .i32 c.ch) c.o.k c.o.c c.o.s c.o.a c.o.n (.int .i32 c.o.ch) c.a c.b∧Ce W p 0 (.func (.func f) #[] #[])) ⟨H0.out.1.b0.c10,H0.out.1.b1.c11,H0.out.2.cell 0 rfl⟩ fun hH=>?_
 have h3:=Lh (And.intro (H0.out.1.next bdq) (H0.out.2.next bdq));clear H0;generalize hX9:World.drew _=X9 at *
 clear hX9;refine tq 0 (.agg #[r.s,.bool true,v0,v1,v2,v3,v4,v5,v6,v7]) hH ?_;refine tq 1 (.func (.func f) #[] #[]) hH ?_;refine tq 2 (.pointer (some ⟨U.heap.size,2,none⟩)) hH ?_;refine tq 3 (.agg #[v0,v1,v2,v3,v4,v5,v6,v7]) hH ?_;refine tq 4 (.agg #[c.k,c.p,.int .i32 c.ch,c.o.k,c.o.c,c.o.s,c.o.a,c.o.n,.int .i32 c.o.ch,c.a,c.b]) hH ?_;have hen:∀ (a:Array Value) (W:World),(callFunc f a).run Tryz.prog W=.ok (.enter f a) W:=he;refine rd1 5 (by kernel_rfl) rfl fun K hK=>?_
 go_simp
 refine (HC.out _ _ _ _ _ _ _ _ _ (HS.out.next h3.out.1.bel) (HPT.out.1.next h3.out.1.bel) (HPT.out.2.next h3.out.1.bel)).mono ?_
 rintro e u ⟨rfl,hb⟩
 go_wp2_with fail
 replace h3:=Lh (And.intro (h3.out.1.next hb) (h3.out.2.next hb))
 refine hK.out _ _ ⟨h3.out.1.b0.c10,h3.out.1.b1.c11,h3.out.2.cell 0 rfl⟩ ?_;clear hK K hH;intro hH
 try simp only [LAY]
 replace h3:=Lh (And.intro h3.out.1 (And.intro h3.out.2 (HS.out.next h3.out.1.bel)))
 clear hb hen;have h4:=(And.intro (h3.out.1.p2 [r.s,.bool true,v0,v1,v2,v3,v4,v5,v6,v7] 0) (And.intro (h3.out.2.1.setN (b:=U.heap.size+1+1) (by have:=HPL; omega) [r.s,.bool true,v0,v1,v2,v3,v4,v5,v6,v7] 0) (h3.out.2.2.setB h3.out.1.b2 (by decide) (by decide) (by decide) [r.s,.bool true,v0,v1,v2,v3,v4,v5,v6,v7] 0)))
 refine stN 6 h3.out.1.b2 [r.s,.bool true,v0,v1,v2,v3,v4,v5,v6,v7] (one2 HON.out) ⟨h4.1.b0.c10,h4.1.b1.c11,h4.2.1.cell 0 rfl⟩ (fun hH=>?_);generalize setN u (U.heap.size+1+1) 0 [r.s,.bool true,v0,v1,v2,v3,v4,v5,v6,v7]=wy at *
 replace h3:=Lh (show (Bx4 U [r.s,.bool true,v0,v1,v2,v3,v4,v5,v6,v7] [c.k,c.p,.int .i32 c.ch,c.o.k,c.o.c,c.o.s,c.o.a,c.o.n,.int .i32 c.o.ch,c.a,c.b] [r.s,.bool true,v0,v1,v2,v3,v4,v5,v6,v7] [.int .i64 0,.int .i64 0,.string ⟨#[]⟩] 41 57 41 59) wy∧_ from h4)
 clear h4;have h4:=(And.intro (h3.out.1.p3 [x.e,x.n,.string x.t] 0) (And.intro (h3.out.2.1.setN (b:=U.heap.size+1+1+1) (by have:=HPL; omega) [x.e,x.n,.string x.t] 0) (h3.out.2.2.setB h3.out.1.b3 (by decide) (by decide) (by decide) [x.e,x.n,.string x.t] 0)))
 refine stN 7 h3.out.1.b3 [x.e,x.n,.string x.t] (by simp [Value.oneCell']) ⟨h4.1.b0.c10,h4.1.b1.c11,h4.2.1.cell 0 rfl⟩ (fun hH=>?_);generalize setN wy (U.heap.size+1+1+1) 0 [x.e,x.n,.string x.t]=wx at *
 replace h3:=Lh (show (Bx4 U [r.s,.bool true,v0,v1,v2,v3,v4,v5,v6,v7] [c.k,c.p,.int .i32 c.ch,c.o.k,c.o.c,c.o.s,c.o.a,c.o.n,.int .i32 c.o.ch,c.a,c.b] [r.s,.bool true,v0,v1,v2,v3,v4,v5,v6,v7] [x.e,x.n,.string x.t] 41 57 41 59) wx∧_ from h4)
 clear h4;refine tq 8 (.slice none 0 0) hH ?_;refine dnH ?_;clear hH;obtain ⟨p0,p1,p2,p3,p4,p5,p6,p7,p8,p9⟩:=h3.out.1.b2.c10;have t0 := h3.out.1.b3.c3;go_wp2_with fail
 exact bodyPost_ret (v:=.tuple #[.agg #[r.s,.bool true,v0,v1,v2,v3,v4,v5,v6,v7],.agg #[x.e,x.n,.string x.t],.slice none 0 0]) (by simp [results, Tryz.results100, go_sem, p0, p1, p2, p3, p4, p5, p6, p7, p8, p9, t0]) rfl ⟨h3.out.1.bel,_,_,_,_,_,_,_,_,_,_,_,rfl,⟨_,_,_,_,_,_,_,_,h3.out.2.2,by rw [HSB.out]⟩,.inl ⟨rfl,rfl⟩⟩
theorem cl1_any (hd:∀ r c,c.k=8→shutB r=false→doR r c=(⟨r.s,r.m,r.l,true⟩,⟨0,0,⟨#[]⟩⟩,[])):∀ U,DCall 8 102 #[] U:=by
 intro U r n c v0 v1 v2 v3 v4 v5 v6 v7 hk hR hn hs hS hpo ht
 unfold DPost
 rw [hd r c hk hs];have HSB:=Lh (show (!shutB ⟨r.s,r.m,r.l,true⟩)=false from rfl);have HS:=Lh hS;obtain ⟨sd0,sd1,sd2,sd3,sd4,sd5,sd6,sd7⟩:=st8 hS.one;have H0:=Lh (Bx4.start:Bx4 U [r.s,.bool true,v0,v1,v2,v3,v4,v5,v6,v7] [c.k,c.p,.int .i32 c.ch,c.o.k,c.o.c,c.o.s,c.o.a,c.o.n,.int .i32 c.o.ch,c.a,c.b] [.int .i64 0,.bool false,.pointer none,.pointer none,.int .i64 0,.slice none 0 0,.int .i64 0,.int .i64 0,.complex .f64 0 0,.complex .f64 0 0] [.int .i64 0,.int .i64 0,.string ⟨#[]⟩] 41 57 41 59 ((((U.alloc (.cells #[r.s,.bool true,v0,v1,v2,v3,v4,v5,v6,v7] 41)).alloc (.cells #[c.k,c.p,.int .i32 c.ch,c.o.k,c.o.c,c.o.s,c.o.a,c.o.n,.int .i32 c.o.ch,c.a,c.b] 57)).alloc (.cells #[.int .i64 0,.bool false,.pointer none,.pointer none,.int .i64 0,.slice none 0 0,.int .i64 0,.int .i64 0,.complex .f64 0 0,.complex .f64 0 0] 41)).alloc (.cells #[.int .i64 0,.int .i64 0,.string ⟨#[]⟩] 59)));clear hk hR hn hs hS ht hpo hd
 show Calls Tryz.prog 102 #[.agg #[r.s,.bool true,v0,v1,v2,v3,v4,v5,v6,v7],.agg #[c.k,c.p,.int .i32 c.ch,c.o.k,c.o.c,c.o.s,c.o.a,c.o.n,.int .i32 c.o.ch,c.a,c.b]] U _
 dsimp only
 go_enter Tryz.func102,Tryz.ntmps102
 go_upto_region 1 with fail
 generalize ((((U.alloc (.cells #[r.s,.bool true,v0,v1,v2,v3,v4,v5,v6,v7] 41)).alloc (.cells #[c.k,c.p,.int .i32 c.ch,c.o.k,c.o.c,c.o.s,c.o.a,c.o.n,.int .i32 c.o.ch,c.a,c.b] 57)).alloc (.cells #[.int .i64 0,.bool false,.pointer none,.pointer none,.int .i64 0,.slice none 0 0,.int .i64 0,.int .i64 0,.complex .f64 0 0,.complex .f64 0 0] 41)).alloc (.cells #[.int .i64 0,.int .i64 0,.string ⟨#[]⟩] 59))=X0 at *
 have x0 := H0.out.b0.c10;have f1:=H0.out.b0.free 1;have n0 := H0.out.b2.c10;have fn0 := H0.out.b2.f10;have q0 := H0.out.b3.c3;have fq0 := H0.out.b3.f3;have h1:=H0.out.p0 [.bool false] 1;have h2:=h1.p2 [r.s,.bool false,v0,v1,v2,v3,v4,v5,v6,v7] 0;have h3:=Lh (And.intro (h2.p3 [.int .i64 0,.int .i64 0,.string ⟨#[]⟩] 0) ((((HS.out.next H0.out.bel).setB H0.out.b0 (by decide) (by decide) (by decide) [.bool false] 1).setB h1.b2 (by decide) (by decide) (by decide) [r.s,.bool false,v0,v1,v2,v3,v4,v5,v6,v7] 0).setB h2.b3 (by decide) (by decide) (by decide) [.int .i64 0,.int .i64 0,.string ⟨#[]⟩] 0));clear h1 h2 H0;simp only [setN, Nat.zero_add, Nat.reduceAdd] at h3
 go_wp2_with fail
 have h4:=Lh (show (Bx4 U [r.s,.bool false,v0,v1,v2,v3,v4,v5,v6,v7] [c.k,c.p,.int .i32 c.ch,c.o.k,c.o.c,c.o.s,c.o.a,c.o.n,.int .i32 c.o.ch,c.a,c.b] [r.s,.bool false,v0,v1,v2,v3,v4,v5,v6,v7] [.int .i64 0,.int .i64 0,.string ⟨#[]⟩] 41 57 41 59 _)∧_ from h3.out);clear h3;have h3:=h4;clear h4;obtain ⟨p0,p1,p2,p3,p4,p5,p6,p7,p8,p9⟩:=h3.out.1.b2.c10;have t0 := h3.out.1.b3.c3;go_wp2_with fail
 exact bodyPost_ret (v:=.tuple #[.agg #[r.s,.bool false,v0,v1,v2,v3,v4,v5,v6,v7],.agg #[.int .i64 0,.int .i64 0,.string ⟨#[]⟩],.slice none 0 0]) (by simp [results, Tryz.results102, go_sem, p0, p1, p2, p3, p4, p5, p6, p7, p8, p9, t0]) rfl ⟨h3.out.1.bel,_,_,_,_,_,_,_,_,_,_,_,rfl,⟨_,_,_,_,_,_,_,_,h3.out.2,by rw [HSB.out]⟩,.inl ⟨rfl,rfl⟩⟩
theorem writing_any (f:Nat) (w:World):Calls Tryz.prog 48 #[.func (.func f) #[] #[]] w fun e w'=>∃ p:Nat,e=.returned (.agg #[.bool true,.func (.func 94) #[] #[.pointer (some (⟨p,0,none⟩:Addr))]])∧Below w.heap.size w w'∧Blk w' p [.func (.func f) #[] #[]] 134:=by
 have H0:=Lh (And.intro (bl2 w [.func (.func f) #[] #[]] [.bool false,.nilFunc] 134 87) (And.intro (show Blk ((w.alloc (.cells #[.func (.func f) #[] #[]] 134)).alloc (.cells #[.bool false,.nilFunc] 87)) w.heap.size [.func (.func f) #[] #[]] 134 from (Blk.start w _ _).alloc _) (show Blk ((w.alloc (.cells #[.func (.func f) #[] #[]] 134)).alloc (.cells #[.bool false,.nilFunc] 87)) (w.heap.size+1) [.bool false,.nilFunc] 87 from Blk.startAt (by simp))))
 go_enter Tryz.func48,Tryz.ntmps48
 go_upto_region 1 with fail
 generalize ((w.alloc (.cells #[.func (.func f) #[] #[]] 134)).alloc (.cells #[.bool false,.nilFunc] 87))=X0 at *
 have q0 := H0.out.2.2.c2;have fq0 := H0.out.2.2.f2;have sfn:=fun (W:World) (a:Addr) (m:Mode)=>run_store Tryz.prog W a (.func (.func 94) #[] #[.pointer (some (⟨w.heap.size,0,none⟩:Addr))]) m rfl
 have HP:=Lh (And.intro (setN_blk [.bool true,.func (.func 94) #[] #[.pointer (some (⟨w.heap.size,0,none⟩:Addr))]] 0 H0.out.2.2) (And.intro (setN_below (b:=w.heap.size+1) (by omega) [.bool true,.func (.func 94) #[] #[.pointer (some (⟨w.heap.size,0,none⟩:Addr))]] 0 H0.out.1) (H0.out.2.1.setN (b:=w.heap.size+1) (by omega) [.bool true,.func (.func 94) #[] #[.pointer (some (⟨w.heap.size,0,none⟩:Addr))]] 0)));simp only [setN, Nat.zero_add] at HP
 go_wp2_with fail
 have t0 := Blk.c2 (a0:=.bool true) HP.out.1;exact bodyPost_ret (v:=.agg #[.bool true,.func (.func 94) #[] #[.pointer (some (⟨w.heap.size,0,none⟩:Addr))]]) (by simp [results, Tryz.results48, go_sem, t0]) rfl ⟨_,rfl,HP.out.2⟩
theorem looking_any (f:Nat) (w:World):Calls Tryz.prog 55 #[.func (.func f) #[] #[]] w fun e w'=>∃ p:Nat,e=.returned (.agg #[.bool false,.func (.func 100) #[] #[.pointer (some (⟨p,0,none⟩:Addr))]])∧Below w.heap.size w w'∧Blk w' p [.func (.func f) #[] #[]] 138:=by
 have H0:=Lh (And.intro (bl2 w [.func (.func f) #[] #[]] [.bool false,.nilFunc] 138 87) (And.intro (show Blk ((w.alloc (.cells #[.func (.func f) #[] #[]] 138)).alloc (.cells #[.bool false,.nilFunc] 87)) w.heap.size [.func (.func f) #[] #[]] 138 from (Blk.start w _ _).alloc _) (show Blk ((w.alloc (.cells #[.func (.func f) #[] #[]] 138)).alloc (.cells #[.bool false,.nilFunc] 87)) (w.heap.size+1) [.bool false,.nilFunc] 87 from Blk.startAt (by simp))))
 go_enter Tryz.func55,Tryz.ntmps55
 go_upto_region 1 with fail
 generalize ((w.alloc (.cells #[.func (.func f) #[] #[]] 138)).alloc (.cells #[.bool false,.nilFunc] 87))=X0 at *
 have q0 := H0.out.2.2.c2;have fq0 := H0.out.2.2.f2;have sfn:=fun (W:World) (a:Addr) (m:Mode)=>run_store Tryz.prog W a (.func (.func 100) #[] #[.pointer (some (⟨w.heap.size,0,none⟩:Addr))]) m rfl
 have HP:=Lh (And.intro (setN_blk [.bool false,.func (.func 100) #[] #[.pointer (some (⟨w.heap.size,0,none⟩:Addr))]] 0 H0.out.2.2) (And.intro (setN_below (b:=w.heap.size+1) (by omega) [.bool false,.func (.func 100) #[] #[.pointer (some (⟨w.heap.size,0,none⟩:Addr))]] 0 H0.out.1) (H0.out.2.1.setN (b:=w.heap.size+1) (by omega) [.bool false,.func (.func 100) #[] #[.pointer (some (⟨w.heap.size,0,none⟩:Addr))]] 0)));simp only [setN, Nat.zero_add] at HP
 go_wp2_with fail
 have t0 := Blk.c2 (a0:=.bool false) HP.out.1;exact bodyPost_ret (v:=.agg #[.bool false,.func (.func 100) #[] #[.pointer (some (⟨w.heap.size,0,none⟩:Addr))]]) (by simp [results, Tryz.results55, go_sem, t0]) rfl ⟨_,rfl,HP.out.2⟩
theorem closing_any (w:World):Calls Tryz.prog 62 #[] w fun e w'=>e=.returned (.agg #[.bool false,.func (.func 102) #[] #[]])∧Below w.heap.size w w':=by
 have H0:=Lh (And.intro (bl1 w [.bool false,.nilFunc] 87) (Blk.start w [.bool false,.nilFunc] 87))
 go_enter Tryz.func62,Tryz.ntmps62
 go_upto_region 1 with fail
 generalize w.alloc (.cells #[.bool false,.nilFunc] 87)=X0 at *
 have q0 := H0.out.2.c2;have fq0 := H0.out.2.f2;have sfn:=fun (W:World) (a:Addr) (m:Mode)=>run_store Tryz.prog W a (.func (.func 102) #[] #[]) m rfl
 have HP:=Lh (And.intro (setN_blk [.bool false,.func (.func 102) #[] #[]] 0 H0.out.2) (setN_below (Nat.le_refl _) [.bool false,.func (.func 102) #[] #[]] 0 H0.out.1));simp only [setN, Nat.zero_add] at HP
 go_wp2_with fail
 have t0 := Blk.c2 (a0:=.bool false) HP.out.1;exact bodyPost_ret (v:=.agg #[.bool false,.func (.func 102) #[] #[]]) (by simp [results, Tryz.results62, go_sem, t0]) rfl ⟨rfl,HP.out.2⟩
end Go.Proofs.YtpbhaieclkoggaaGreatDoor
set_option maxRecDepth 100000
set_option maxHeartbeats 12800000
namespace Go.Proofs.YtpbhaieclkoggaaGreatDoor
open Go Go.Proofs Go.RowKit
theorem in_err {m l:List Oq} {s p ch:Int} {lo : -2147483648≤ch} {hi:ch≤2147483647} (h:inE8 m l s p ch lo hi≠0):inT8 m l s p ch lo hi=(m,l,[]):=by
 unfold inE8 at h
 unfold inT8
 split
 ·rfl
 ·next h0=>rw [if_neg h0] at h; exact rem_err h
theorem de_err {m l:List Oq} {k:Int} (h:deE8 m l k≠0):deT8 m l k=(m,l,[]):=by
 unfold deE8 at h
 unfold deT8
 split
 ·rfl
 ·next h0=>rw [if_neg h0] at h; exact rem_err h
theorem wrA_ans {r:Rpl} {e n:Int} {t:ByteArray} {T:List Oq×List Oq×List Chg} (hT:e≠0→T=(r.m,r.l,[])):wrA r e ⟨0,n,t⟩ T=(⟨r.s,T.1,T.2.1,r.z⟩,ansV e n t,T.2.2):=by
 unfold wrA ansV
 by_cases he:e=0
 ·subst he; rfl
 ·rw [if_pos he,if_neg he,hT he]
theorem ans_op (E n:Int) (v:Oq):ansV E n (oT v)=ansV E n (oT (opP E v)):=by
 unfold ansV opP
 split <;> rfl
section
variable {r:Rpl} {c:Cal} (hs:shutB r=false)
include hs
theorem do_ins (hk:c.k=0):doR r c=(⟨r.s,(inT8 r.m r.l r.s c.p c.ch c.lo c.hi).1,(inT8 r.m r.l r.s c.p c.ch c.lo c.hi).2.1,r.z⟩,ansV (inE8 r.m r.l r.s c.p c.ch c.lo c.hi) ((inT8 r.m r.l r.s c.p c.ch c.lo c.hi).1.length:Int) (oT (opP (inE8 r.m r.l r.s c.p c.ch c.lo c.hi) (inV8 r.m r.l r.s c.p c.ch c.lo c.hi))),(inT8 r.m r.l r.s c.p c.ch c.lo c.hi).2.2):=by
 unfold doR
 rw [if_neg (by omega),if_neg (by simp [hs]),if_pos hk,wrA_ans in_err,ans_op]
theorem do_del (hk:c.k=1):doR r c=(⟨r.s,(deT8 r.m r.l c.p).1,(deT8 r.m r.l c.p).2.1,r.z⟩,ansV (deE8 r.m r.l c.p) ((deT8 r.m r.l c.p).1.length:Int) (oT (opP (deE8 r.m r.l c.p) (deV8 r.m c.p))),(deT8 r.m r.l c.p).2.2):=by
 unfold doR
 rw [if_neg (by omega),if_neg (by simp [hs]),if_neg (by omega),if_pos hk,wrA_ans de_err,ans_op]
theorem do_rem (hk:c.k=2):doR r c=(⟨r.s,(remT r.m r.l c.o).1,(remT r.m r.l c.o).2.1,r.z⟩,ansV (remE r.m r.l c.o) ((remT r.m r.l c.o).2.2.length:Int) ⟨#[]⟩,(remT r.m r.l c.o).2.2):=by
 unfold doR
 rw [if_neg (by omega),if_neg (by simp [hs]),if_neg (by omega),if_neg (by omega),if_pos hk,wrA_ans rem_err]
theorem do_txt (hk:c.k=3):doR r c=(r,⟨0,0,txtS (docR r.m)⟩,[]):=by
 unfold doR
 rw [if_neg (by omega),if_neg (by simp [hs]),if_neg (by omega),if_neg (by omega),if_neg (by omega),if_pos hk]
theorem do_len (hk:c.k=4):doR r c=(r,⟨0,aliN (docR r.m),⟨#[]⟩⟩,[]):=by
 unfold doR
 rw [if_neg (by omega),if_neg (by simp [hs]),if_neg (by omega),if_neg (by omega),if_neg (by omega),if_neg (by omega),if_pos hk]
theorem do_mrk (hk:c.k=5):doR r c=(r,ansV (cuE (docR r.m) c.p) 0 (ancT (namC (docR r.m) c.p).1 (namC (docR r.m) c.p).2),[]):=by
 unfold doR ansV
 rw [if_neg (by omega),if_neg (by simp [hs]),if_neg (by omega),if_neg (by omega),if_neg (by omega),if_neg (by omega),if_neg (by omega),if_pos hk];by_cases h:cuE (docR r.m) c.p=0
 ·rw [if_neg (fun e=>e h),if_pos h]
 ·rw [if_pos h,if_neg h]
theorem do_whr (hk:c.k=6):doR r c=(r,ansV (reE (docR r.m) c.a c.b) (reN (docR r.m) c.a c.b) ⟨#[]⟩,[]):=by
 unfold doR ansV
 rw [if_neg (by omega),if_neg (by simp [hs]),if_neg (by omega),if_neg (by omega),if_neg (by omega),if_neg (by omega),if_neg (by omega),if_neg (by omega),if_pos hk];by_cases h:reE (docR r.m) c.a c.b=0
 ·rw [if_pos h,h]
 ·rw [if_neg h,reN_err h]; rfl
theorem do_snp (hk:c.k=7):doR r c=(r,⟨0,(r.m.length:Int),sumT r.m⟩,[]):=by
 unfold doR
 rw [if_neg (by omega),if_neg (by simp [hs]),if_neg (by omega),if_neg (by omega),if_neg (by omega),if_neg (by omega),if_neg (by omega),if_neg (by omega),if_neg (by omega),if_pos hk]
theorem do_cls (hk:c.k=8):doR r c=(⟨r.s,r.m,r.l,true⟩,⟨0,0,⟨#[]⟩⟩,[]):=by
 unfold doR
 rw [if_neg (by omega),if_neg (by simp [hs]),if_neg (by omega),if_neg (by omega),if_neg (by omega),if_neg (by omega),if_neg (by omega),if_neg (by omega),if_neg (by omega),if_neg (by omega)]
end
theorem wrc0 (HV:VAll):WrC 49 0:=fun r n c hk hR hn hs=>⟨_,_,do_ins hs hk,fun v0 v1 v2 v3 v4 v5 v6 v7 w hS ht=>dd1_ok HV r.m r.l n hR.v hn c r.s (hR.v.ins r.s c.p c.ch c.lo c.hi) true v0 v1 v2 v3 v4 v5 v6 v7 w hS ht⟩
theorem wrc1 (HV:VAll):WrC 52 1:=fun r n c hk hR hn hs=>⟨_,_,do_del hs hk,fun v0 v1 v2 v3 v4 v5 v6 v7 w hS ht=>dd2_ok HV r.m r.l n hR.v hn c r.s (hR.v.del c.p) true v0 v1 v2 v3 v4 v5 v6 v7 w hS ht⟩
theorem wrc2 (HV:VAll):WrC 53 2:=fun r n c hk hR hn hs=>⟨_,_,do_rem hs hk,fun v0 v1 v2 v3 v4 v5 v6 v7 w hS ht=>dd3_ok HV r.m r.l n hR.v hn c r.s true v0 v1 v2 v3 v4 v5 v6 v7 w hS ht⟩
theorem lkc3 (H:VAll):LkC 56 3:=fun r n c hk hR hn hs=>⟨_,do_txt hs hk,fun v0 v1 v2 v3 v4 v5 v6 v7 w hS hp ht=>dd4_ok H r.m r.l n hR.v hn c v0 v1 v2 v3 v4 v5 v6 v7 w hS hp ht⟩
theorem lkc4 (H:VAll):LkC 57 4:=fun r n c hk hR hn hs=>⟨_,do_len hs hk,fun v0 v1 v2 v3 v4 v5 v6 v7 w hS hp ht=>dd5_ok H r.m r.l n hR.v hn c v0 v1 v2 v3 v4 v5 v6 v7 w hS hp ht⟩
theorem lkc5 (H:CAll):LkC 58 5:=fun r n c hk hR hn hs=>⟨_,do_mrk hs hk,fun v0 v1 v2 v3 v4 v5 v6 v7 w hS hp ht=>dd6_ok H r.m r.l n hR.v hn c v0 v1 v2 v3 v4 v5 v6 v7 w hS hp ht⟩
theorem lkc6 (H:CAll):LkC 60 6:=fun r n c hk hR hn hs=>⟨_,do_whr hs hk,fun v0 v1 v2 v3 v4 v5 v6 v7 w hS hp ht=>dd7_ok H r.m r.l n hR.v hn c v0 v1 v2 v3 v4 v5 v6 v7 w hS hp ht⟩
theorem lkc7 (H:VAll):LkC 61 7:=fun r n c hk hR hn hs=>⟨_,do_snp hs hk,fun v0 v1 v2 v3 v4 v5 v6 v7 w hS hp ht=>dd8_ok H r.m r.l n hR.v hn c v0 v1 v2 v3 v4 v5 v6 v7 w hS hp ht⟩
def DeedV (W:World) (k:Int) (v:Value):Prop:=∃ f ca,v=.agg #[.bool (writesB k),.func (.func f) #[] ca]∧Ent f∧((∀ U,DCall k f ca U)∨∃ p u t,Blk W p [u] t∧∀ U,Blk U p [u] t→DCall k f ca U)
theorem DeedV.kp {W U:World} {k:Int} {v:Value} (h:DeedV W k v) (hb:∀ p u t,Blk W p [u] t→Blk U p [u] t):DeedV U k v:=by
 obtain ⟨f,ca,e,en,h | ⟨p,u,t,hB,h⟩⟩:=h
 ·exact ⟨f,ca,e,en,.inl h⟩
 ·exact ⟨f,ca,e,en,.inr ⟨p,u,t,hb p u t hB,h⟩⟩
theorem DeedV.next {W U:World} {k:Int} {v:Value} (h:DeedV W k v) (hb:Below W.heap.size W U):DeedV U k v:=h.kp fun _ _ _ h=>h.next hb
def zD:Value:=.agg #[.bool false,.nilFunc]
structure DS (W0:World) (b i:Nat) (F:Int→Value) (W:World):Prop where
 bel:Below W0.heap.size W0 W
 mi:∃ K,MapI Tryz.prog 50 b i zD F K W∧∀ j,K j=decide (0≤j∧j<i)
 ok:∀ j:Int,0≤j→j<i→DeedV W j (F j)
 no:∀ j:Int,j<0∨i≤j→F j=zD
 ge:W0.heap.size≤b
theorem DS.next {W0 W U:World} {b i:Nat} {F:Int→Value} (h:DS W0 b i F W) (hb:Below W.heap.size W U):DS W0 b i F U:=by
 obtain ⟨K,hm,hK⟩:=h.mi;exact ⟨h.bel.trans (hb.mono h.bel.size),⟨K,hm.next hb,hK⟩,fun j h0 h1=>(h.ok j h0 h1).next hb,h.no,h.ge⟩
theorem DS.start (W:World):DS W W.heap.size 0 (fun _=>zD) (W.alloc (.map #[] 0)):=
 ⟨bA,⟨_,MapI.start W,fun j=>by simp <;> omega⟩,fun j h0 h1=>by omega,fun _ _=>rfl,Nat.le_refl _⟩
theorem und_mp:Tryz.prog.underlying 89=some (.map 50 87):=by kernel_rfl
theorem DS.step {W0 W U:World} {b i:Nat} {F:Int→Value} (h:DS W0 b i F W) (hb:Below W.heap.size W U) {k:Int} {v:Value} (hk:k=i) (hi:i≤8) (hv:DeedV U k v):
  ∃ F' X,(Instr.mapUpdate 89 (.map (some b)) k v).run Tryz.prog U=.ok () X∧DS W0 b (i+1) F' X:=by
 subst hk;obtain ⟨K,hm,hK⟩:=(h.next hb).mi;obtain ⟨X,hr,hm',hg⟩:=hm.put Tryz.underlying50 und_mp (by omega) (i:=(i:Int)) (by simp [Lit.wf]; exact ⟨by show -9223372036854775808≤(i:Int); omega,by show (i:Int)≤9223372036854775807; omega⟩) v;have hbl:∀ p u t,Blk U p [u] t→Blk X p [u] t:=fun p u t hB=>by
  obtain ⟨D,⟨es,cl,hmb,_⟩,_⟩:=hm;have hne:p≠b:=by rintro rfl; unfold Blk at hB; rw [hmb] at hB; cases hB
  unfold Blk at hB ⊢
  rw [hg.block p (Array.getElem?_eq_some_iff.1 hB).1 (by simpa using hne)]; exact hB
 refine ⟨_,X,hr,(h.next hb).bel.grown hg (h.next hb).bel.size (fun k e=>by cases e; exact h.ge),⟨_,hm',fun j=>?_⟩,fun j h0 h1=>?_,fun j hj=>?_,h.ge⟩
 ·try dsimp only
  split
  ·next e=>subst e; exact (decide_eq_true (by omega)).symm
  ·next e=>rw [hK j]; exact decide_eq_decide.2 (by omega)
 ·try dsimp only
  split
  ·next e=>subst e; exact hv.kp hbl
  ·next e=>exact ((h.next hb).ok j h0 (by omega)).kp hbl
 ·try dsimp only
  rw [if_neg (by omega)]; exact h.no j (by omega)
theorem ent_any {f:Nat} {fn:Func} {c:Code} (hf:Tryz.prog.funcs[f]? = some fn) (hname:(fn.name == "runtime.NumGoroutine")=false) (hb:fn.body=some c):Ent f:=fun a W=>run_enter hf hname hb a W
theorem deeds_any (HV:VAll) (HC:CAll) (w:World):Calls Tryz.prog 21 #[] w fun e w'=>∃ b F,e=.returned (.map (some b))∧DS w b 9 F w':=by
 have s0:=Lh (DS.start w);have hmm := @run_makeMap Tryz.prog;have d0:=Lh (fun (W:World) (p:Nat) (hB:Blk W p [.func (.func 49) #[] #[]] 134)=>show DeedV W 0 (.agg #[.bool true,.func (.func 94) #[] #[.pointer (some ⟨p,0,none⟩)]]) from ⟨_,_,rfl,(ent_any Tryz.func94 (by kernel_rfl) rfl),.inr ⟨p,_,_,hB,fun U h=>wr1_any 49 0 (wrc0 HV) (ent_any Tryz.func49 (by kernel_rfl) rfl) _ U h⟩⟩);have d1:=Lh (fun (W:World) (p:Nat) (hB:Blk W p [.func (.func 52) #[] #[]] 134)=>show DeedV W 1 (.agg #[.bool true,.func (.func 94) #[] #[.pointer (some ⟨p,0,none⟩)]]) from ⟨_,_,rfl,(ent_any Tryz.func94 (by kernel_rfl) rfl),.inr ⟨p,_,_,hB,fun U h=>wr1_any 52 1 (wrc1 HV) (ent_any Tryz.func52 (by kernel_rfl) rfl) _ U h⟩⟩);have d2:=Lh (fun (W:World) (p:Nat) (hB:Blk W p [.func (.func 53) #[] #[]] 134)=>show DeedV W 2 (.agg #[.bool true,.func (.func 94) #[] #[.pointer (some ⟨p,0,none⟩)]]) from ⟨_,_,rfl,(ent_any Tryz.func94 (by kernel_rfl) rfl),.inr ⟨p,_,_,hB,fun U h=>wr1_any 53 2 (wrc2 HV) (ent_any Tryz.func53 (by kernel_rfl) rfl) _ U h⟩⟩);have d3:=Lh (fun (W:World) (p:Nat) (hB:Blk W p [.func (.func 56) #[] #[]] 138)=>show DeedV W 3 (.agg #[.bool false,.func (.func 100) #[] #[.pointer (some ⟨p,0,none⟩)]]) from ⟨_,_,rfl,(ent_any Tryz.func100 (by kernel_rfl) rfl),.inr ⟨p,_,_,hB,fun U h=>lk1_any 56 3 (lkc3 HV) (ent_any Tryz.func56 (by kernel_rfl) rfl) _ U h⟩⟩);have d4:=Lh (fun (W:World) (p:Nat) (hB:Blk W p [.func (.func 57) #[] #[]] 138)=>show DeedV W 4 (.agg #[.bool false,.func (.func 100) #[] #[.pointer (some ⟨p,0,none⟩)]]) from ⟨_,_,rfl,(ent_any Tryz.func100 (by kernel_rfl) rfl),.inr ⟨p,_,_,hB,fun U h=>lk1_any 57 4 (lkc4 HV) (ent_any Tryz.func57 (by kernel_rfl) rfl) _ U h⟩⟩);have d5:=Lh (fun (W:World) (p:Nat) (hB:Blk W p [.func (.func 58) #[] #[]] 138)=>show DeedV W 5 (.agg #[.bool false,.func (.func 100) #[] #[.pointer (some ⟨p,0,none⟩)]]) from ⟨_,_,rfl,(ent_any Tryz.func100 (by kernel_rfl) rfl),.inr ⟨p,_,_,hB,fun U h=>lk1_any 58 5 (lkc5 HC) (ent_any Tryz.func58 (by kernel_rfl) rfl) _ U h⟩⟩);have d6:=Lh (fun (W:World) (p:Nat) (hB:Blk W p [.func (.func 60) #[] #[]] 138)=>show DeedV W 6 (.agg #[.bool false,.func (.func 100) #[] #[.pointer (some ⟨p,0,none⟩)]]) from ⟨_,_,rfl,(ent_any Tryz.func100 (by kernel_rfl) rfl),.inr ⟨p,_,_,hB,fun U h=>lk1_any 60 6 (lkc6 HC) (ent_any Tryz.func60 (by kernel_rfl) rfl) _ U h⟩⟩);have d7:=Lh (fun (W:World) (p:Nat) (hB:Blk W p [.func (.func 61) #[] #[]] 138)=>show DeedV W 7 (.agg #[.bool false,.func (.func 100) #[] #[.pointer (some ⟨p,0,none⟩)]]) from ⟨_,_,rfl,(ent_any Tryz.func100 (by kernel_rfl) rfl),.inr ⟨p,_,_,hB,fun U h=>lk1_any 61 7 (lkc7 HV) (ent_any Tryz.func61 (by kernel_rfl) rfl) _ U h⟩⟩);have d8:=Lh (fun (W:World)=>show DeedV W 8 (.agg #[.bool false,.func (.func 102) #[] #[]]) from ⟨_,_,rfl,(ent_any Tryz.func102 (by kernel_rfl) rfl),.inl (cl1_any fun r c hk hs=>do_cls hs hk)⟩);clear HV HC
 go_enter Tryz.func21,Tryz.ntmps21
 go_wp2_with (go_at_call 48; refine (writing_any 49 _).mono ?_; rintro e u0_ ⟨p0,rfl,hb,hB⟩; refine Hid.out ?_)
 obtain ⟨F0,X0,r0,s1⟩:=s0.out.step hb (by rfl) (by decide) (d0.out _ _ hB)
 replace s1:=Lh s1
 clear hb d0 s0 hB;refine Lh ?_;go_wp2_with (go_at_call 48; refine (writing_any 52 _).mono ?_; rintro e u1_ ⟨p1,rfl,hb,hB⟩; refine Hid.out ?_)
 obtain ⟨F1,X1,r1,s2⟩:=s1.out.step hb (by rfl) (by decide) (d1.out _ _ hB)
 replace s2:=Lh s2
 clear hb d1 s1 hB;refine Lh ?_;go_wp2_with (go_at_call 48; refine (writing_any 53 _).mono ?_; rintro e u2_ ⟨p2,rfl,hb,hB⟩; refine Hid.out ?_)
 obtain ⟨F2,X2,r2,s3⟩:=s2.out.step hb (by rfl) (by decide) (d2.out _ _ hB)
 replace s3:=Lh s3
 clear hb d2 s2 hB;refine Lh ?_;go_wp2_with (go_at_call 55; refine (looking_any 56 _).mono ?_; rintro e u3_ ⟨p3,rfl,hb,hB⟩; refine Hid.out ?_)
 obtain ⟨F3,X3,r3,s4⟩:=s3.out.step hb (by rfl) (by decide) (d3.out _ _ hB)
 replace s4:=Lh s4
 clear hb d3 s3 hB;refine Lh ?_;go_wp2_with (go_at_call 55; refine (looking_any 57 _).mono ?_; rintro e u4_ ⟨p4,rfl,hb,hB⟩; refine Hid.out ?_)
 obtain ⟨F4,X4,r4,s5⟩:=s4.out.step hb (by rfl) (by decide) (d4.out _ _ hB)
 replace s5:=Lh s5
 clear hb d4 s4 hB;refine Lh ?_;go_wp2_with (go_at_call 55; refine (looking_any 58 _).mono ?_; rintro e u5_ ⟨p5,rfl,hb,hB⟩; refine Hid.out ?_)
 obtain ⟨F5,X5,r5,s6⟩:=s5.out.step hb (by rfl) (by decide) (d5.out _ _ hB)
 replace s6:=Lh s6
 clear hb d5 s5 hB;refine Lh ?_;go_wp2_with (go_at_call 55; refine (looking_any 60 _).mono ?_; rintro e u6_ ⟨p6,rfl,hb,hB⟩; refine Hid.out ?_)
 obtain ⟨F6,X6,r6,s7⟩:=s6.out.step hb (by rfl) (by decide) (d6.out _ _ hB)
 replace s7:=Lh s7
 clear hb d6 s6 hB;refine Lh ?_;go_wp2_with (go_at_call 55; refine (looking_any 61 _).mono ?_; rintro e u7_ ⟨p7,rfl,hb,hB⟩; refine Hid.out ?_)
 obtain ⟨F7,X7,r7,s8⟩:=s7.out.step hb (by rfl) (by decide) (d7.out _ _ hB)
 replace s8:=Lh s8
 clear hb d7 s7 hB;refine Lh ?_;go_wp2_with (go_at_call 62; refine (closing_any _).mono ?_; rintro e u8_ ⟨rfl,hb⟩; refine Hid.out ?_)
 obtain ⟨F8,X8,r8,s9⟩:=s8.out.step hb (by rfl) (by decide) (d8.out _)
 replace s9:=Lh s9
 clear hb d8 s8;refine Lh ?_;go_wp2_with fail
 go_ret
 exact ⟨_,_,rfl,s9.out⟩
end Go.Proofs.YtpbhaieclkoggaaGreatDoor
