import Derived.Test.YtemicfjmidohfaaGreatDoorRm
import Derived.StillTailTactics
set_option maxRecDepth 100000
set_option maxHeartbeats 12800000
namespace Go.Proofs.YtemicfjmidohfaaGreatDoor
open Go Go.Proofs Go.RowKit
def DPost (r:Rpl) (c:Cal) (w:World):Ending→World→Prop:=fun e w'=>Below w.heap.size w w'∧∃ d0 d1 d2 d3 d4 d5 d6 d7 d8 d9 lc,e=.returned (.tuple #[.agg #[d0,d1,d2,d3,d4,d5,d6,d7,d8,d9],.agg #[.int .i64 (doR r c).2.1.e,.int .i64 (doR r c).2.1.n,.string (doR r c).2.1.t],lc])∧IsRp w' (doR r c).1 [d0,d1,d2,d3,d4,d5,d6,d7,d8,d9]∧IsVC w' lc (doR r c).2.2
def Ent (f:Nat):Prop:=∀ (a:Array Value) (W:World),(callFunc f a).run Tryz.prog W=.ok (.enter f a) W
def DCall (k:Int) (f:Nat) (ca:Array Value) (U:World):Prop:=∀ (r:Rpl) (n:Nat) (c:Cal) (v0 v1 v2 v3 v4 v5 v6 v7:Value),c.k=k→RplOk r n→n≤120→shutB r=false→IsV U r.m r.l [v0,v1,v2,v3,v4,v5,v6,v7]→Pows U→Tabs U→Calls Tryz.prog f (#[.agg #[r.s,.bool true,v0,v1,v2,v3,v4,v5,v6,v7],.agg c]++ca) U (DPost r c U)
def WrC (f:Nat) (k:Int):Prop:=∀ (r:Rpl) (n:Nat) (c:Cal),c.k=k→RplOk r n→n≤120→shutB r=false→∃ T x,doR r c=(⟨r.s,T.1,T.2.1,r.z⟩,x,T.2.2)∧∀ (v0 v1 v2 v3 v4 v5 v6 v7:Value) (w:World),IsV w r.m r.l [v0,v1,v2,v3,v4,v5,v6,v7]→Tabs w→Calls Tryz.prog f #[.agg #[r.s,.bool true,v0,v1,v2,v3,v4,v5,v6,v7],.agg c] w (WPost w T x)
def LkC (f:Nat) (k:Int):Prop:=∀ (r:Rpl) (n:Nat) (c:Cal),c.k=k→RplOk r n→n≤120→shutB r=false→∃ x,doR r c=(r,x,[])∧∀ (v0 v1 v2 v3 v4 v5 v6 v7:Value) (w:World),IsV w r.m r.l [v0,v1,v2,v3,v4,v5,v6,v7]→Pows w→Tabs w→Calls Tryz.prog f #[.agg #[v0,v1,v2,v3,v4,v5,v6,v7],.agg c] w (LPost w x)
theorem one2 {s:Int} {b:Bool} {us:List Value} (h:∀ u∈us,u.oneCell'=true):∀ u∈(.int .i64 s::.bool b::us:List Value),u.oneCell'=true:=by
 intro u hu
 rcases List.mem_cons.1 hu with rfl | hu
 ·rfl
 rcases List.mem_cons.1 hu with rfl | hu
 ·rfl
 exact h u hu
theorem wr1_any (f:Nat) (k:Int) (hf:WrC f k) (he:Ent f) (p:Nat) (U:World) (hp:Blk U p [.func (.func f) #[] #[]] 223):DCall k 174 #[.pointer (some ⟨p,0,none⟩)] U:=by
 intro r n c v0 v1 v2 v3 v4 v5 v6 v7 hk hR hn hs hS _ ht
 obtain ⟨⟨tm,tl,tc⟩,x,hd,hC⟩:=hf r n c hk hR hn hs;unfold DPost
 rw [hd];have HSB:=Lh (show (!shutB ⟨r.s,tm,tl,r.z⟩)=true by show (!shutB r)=true; rw [hs]; rfl);have HC:=Lh hC;have HS:=Lh hS;have HTT:=Lh ht;obtain ⟨sd0,sd1,sd2,sd3,sd4,sd5,sd6,sd7⟩:=st8 hS.one;have H0:=Lh (And.intro (Bx4.start:Bx4 U [r.s,.bool true,v0,v1,v2,v3,v4,v5,v6,v7] c [.int .i64 0,.bool false,.pointer none,.pointer none,.int .i64 0,.slice none 0 0,.int .i64 0,.int .i64 0,.complex .f64 0 0,.complex .f64 0 0] [.int .i64 0,.int .i64 0,.string ⟨#[]⟩] 45 75 45 88 ((((U.alloc (.cells #[r.s,.bool true,v0,v1,v2,v3,v4,v5,v6,v7] 45)).alloc (.cells c 75)).alloc (.cells #[.int .i64 0,.bool false,.pointer none,.pointer none,.int .i64 0,.slice none 0 0,.int .i64 0,.int .i64 0,.complex .f64 0 0,.complex .f64 0 0] 45)).alloc (.cells #[.int .i64 0,.int .i64 0,.string ⟨#[]⟩] 88))) (hp.next (Bx4.start:Bx4 U [r.s,.bool true,v0,v1,v2,v3,v4,v5,v6,v7] c [.int .i64 0,.bool false,.pointer none,.pointer none,.int .i64 0,.slice none 0 0,.int .i64 0,.int .i64 0,.complex .f64 0 0,.complex .f64 0 0] [.int .i64 0,.int .i64 0,.string ⟨#[]⟩] 45 75 45 88 _).bel));clear hf hk hR hn hs hS ht hd hC hp
 show Calls Tryz.prog 174 #[.agg #[r.s,.bool true,v0,v1,v2,v3,v4,v5,v6,v7],.agg c,.pointer (some ⟨p,0,none⟩)] U _
 dsimp only
 go_enter Tryz.func174,Tryz.ntmps174
 go_upto_region 1 with fail
 generalize World.alloc _ _=X0 at *
 have x0 := H0.out.1.b0.c10;have y0 := H0.out.1.b1.c11;have g0:=H0.out.2.cell 0 rfl;have hen:∀ (a:Array Value) (W:World),(callFunc f a).run Tryz.prog W=.ok (.enter f a) W:=he;go_wp2_with fail
 refine (HC.out _ _ _ _ _ _ _ _ _ (HS.out.next H0.out.1.bel) (HTT.out.next H0.out.1.bel)).mono ?_
 rintro e w1 ⟨hb,u0,u1,u2,u3,u4,u5,u6,u7,lc,rfl,hiv,hic⟩
 obtain ⟨se0,se1,se2,se3,se4,se5,se6,se7⟩:=st8 hiv.one;have HON:=Lh hiv.one;have hlt:U.heap.size+1+1+1<w1.heap.size:=(H0.out.1.next hb).b3.lt;have hA:=bl2 w1 [u0,u1,u2,u3,u4,u5,u6,u7] [x.e,x.n,.string x.t] 43 88;have hF:=H0.out.1.next hb;have H2:=Lh (show (Bx4 U [r.s,.bool true,v0,v1,v2,v3,v4,v5,v6,v7] c [.int .i64 0,.bool false,.pointer none,.pointer none,.int .i64 0,.slice none 0 0,.int .i64 0,.int .i64 0,.complex .f64 0 0,.complex .f64 0 0] [.int .i64 0,.int .i64 0,.string ⟨#[]⟩] 45 75 45 88 ((w1.alloc (.cells #[u0,u1,u2,u3,u4,u5,u6,u7] 43)).alloc (.cells #[x.e,x.n,.string x.t] 88))∧Blk ((w1.alloc (.cells #[u0,u1,u2,u3,u4,u5,u6,u7] 43)).alloc (.cells #[x.e,x.n,.string x.t] 88)) w1.heap.size [u0,u1,u2,u3,u4,u5,u6,u7] 43∧Blk ((w1.alloc (.cells #[u0,u1,u2,u3,u4,u5,u6,u7] 43)).alloc (.cells #[x.e,x.n,.string x.t] 88)) (w1.heap.size+1) [x.e,x.n,.string x.t] 88)∧(IsV ((w1.alloc (.cells #[u0,u1,u2,u3,u4,u5,u6,u7] 43)).alloc (.cells #[x.e,x.n,.string x.t] 88)) tm tl [u0,u1,u2,u3,u4,u5,u6,u7]∧IsVC ((w1.alloc (.cells #[u0,u1,u2,u3,u4,u5,u6,u7] 43)).alloc (.cells #[x.e,x.n,.string x.t] 88)) lc tc)∧U.heap.size+1+1+1<w1.heap.size from ⟨⟨hF.next hA,(Blk.start w1 _ _).alloc _,Blk.startAt (by simp)⟩,⟨hiv.next hA,hic.next hA⟩,hF.b3.lt⟩);clear H0 hF hA hb hiv hic HC g0 hen x0 y0
 go_upto_region 2 with fail
 generalize World.alloc _ _=W2 at *
 generalize w1.heap.size=bV at *
 have x0 := H2.out.1.1.b0.c10;have fx0 := H2.out.1.1.b0.f10;have z0 := H2.out.1.2.1.c8;have h3:=(And.intro (H2.out.1.1.p0 [u0,u1,u2,u3,u4,u5,u6,u7] 2) (And.intro (H2.out.1.2.2.setN (b:=U.heap.size) (by have:=H2.out.2.2; omega) [u0,u1,u2,u3,u4,u5,u6,u7] 2) (And.intro (H2.out.2.1.1.setB H2.out.1.1.b0 (by decide) (by decide) (by decide) [u0,u1,u2,u3,u4,u5,u6,u7] 2) (Sl.kt (KT.setN (by decide) [u0,u1,u2,u3,u4,u5,u6,u7] 2 H2.out.1.1.b0) H2.out.2.1.2))))
 change Bx4 U [r.s,.bool true,u0,u1,u2,u3,u4,u5,u6,u7] c [.int .i64 0,.bool false,.pointer none,.pointer none,.int .i64 0,.slice none 0 0,.int .i64 0,.int .i64 0,.complex .f64 0 0,.complex .f64 0 0] [.int .i64 0,.int .i64 0,.string ⟨#[]⟩] 45 75 45 88 _∧_ at h3
 generalize hwz:setN W2 U.heap.size 2 [u0,u1,u2,u3,u4,u5,u6,u7]=wz at *
 replace h3:=Lh (And.intro (h3.1.next bdq) (And.intro (h3.2.1.next bdq) (And.intro (h3.2.2.1.next bdq) (IsVC.next h3.2.2.2 bdq))))
 simp only [setN, Nat.reduceAdd] at hwz
 go_upto_region 3 with fail
 clear hwz H2 x0 fx0 z0;refine rgH (fun W=>Cz10 W U.heap.size r.s (.bool true) u0 u1 u2 u3 u4 u5 u6 u7∧Cz3 W (bV+1) x.e x.n (.string x.t)) ⟨h3.out.1.b0.c10,h3.out.2.1.c3⟩ fun hH=>?_
 generalize hX9:World.drew _=X9 at *
 clear hX9;refine ta 0 hH ?_;refine ta 1 hH ?_;refine ta 2 hH ?_;have h4:=(And.intro (h3.out.1.p2 [r.s,.bool true,u0,u1,u2,u3,u4,u5,u6,u7] 0) (And.intro (h3.out.2.1.setN (b:=U.heap.size+1+1) (by have:=hlt; omega) [r.s,.bool true,u0,u1,u2,u3,u4,u5,u6,u7] 0) (And.intro (h3.out.2.2.1.setB h3.out.1.b2 (by decide) (by decide) (by decide) [r.s,.bool true,u0,u1,u2,u3,u4,u5,u6,u7] 0) (Sl.kt (KT.setN (by decide) [r.s,.bool true,u0,u1,u2,u3,u4,u5,u6,u7] 0 h3.out.1.b2) h3.out.2.2.2))))
 refine stN 3 h3.out.1.b2 [r.s,.bool true,u0,u1,u2,u3,u4,u5,u6,u7] (one2 HON.out) ⟨h4.1.b0.c10,h4.2.1.c3⟩ (fun hH=>?_);generalize setN X9 (U.heap.size+1+1) 0 [r.s,.bool true,u0,u1,u2,u3,u4,u5,u6,u7]=wy at *
 replace h3:=Lh (show Bx4 U [r.s,.bool true,u0,u1,u2,u3,u4,u5,u6,u7] c [r.s,.bool true,u0,u1,u2,u3,u4,u5,u6,u7] [.int .i64 0,.int .i64 0,.string ⟨#[]⟩] 45 75 45 88 wy∧_ from h4)
 clear h4;have h4:=(And.intro (h3.out.1.p3 [x.e,x.n,.string x.t] 0) (And.intro (h3.out.2.1.setN (b:=U.heap.size+1+1+1) (by have:=hlt; omega) [x.e,x.n,.string x.t] 0) (And.intro (h3.out.2.2.1.setB h3.out.1.b3 (by decide) (by decide) (by decide) [x.e,x.n,.string x.t] 0) (Sl.kt (KT.setN (by decide) [x.e,x.n,.string x.t] 0 h3.out.1.b3) h3.out.2.2.2))))
 refine stN 4 h3.out.1.b3 [x.e,x.n,.string x.t] (by simp [Value.oneCell']) ⟨h4.1.b0.c10,h4.2.1.c3⟩ (fun hH=>?_);generalize setN wy (U.heap.size+1+1+1) 0 [x.e,x.n,.string x.t]=wx at *
 replace h3:=Lh (show Bx4 U [r.s,.bool true,u0,u1,u2,u3,u4,u5,u6,u7] c [r.s,.bool true,u0,u1,u2,u3,u4,u5,u6,u7] [x.e,x.n,.string x.t] 45 75 45 88 wx∧_ from h4)
 clear h4;refine ta 5 hH ?_;refine dnH ?_;clear hH;obtain ⟨p0,p1,p2,p3,p4,p5,p6,p7,p8,p9⟩:=h3.out.1.b2.c10;have t0 := h3.out.1.b3.c3;go_wp2_with fail
 exact bodyPost_ret (v:=.tuple #[.agg #[r.s,.bool true,u0,u1,u2,u3,u4,u5,u6,u7],.agg #[x.e,x.n,.string x.t],lc]) (by simp [results, Tryz.results174, go_sem, p0, p1, p2, p3, p4, p5, p6, p7, p8, p9, t0]) rfl ⟨h3.out.1.bel,_,_,_,_,_,_,_,_,_,_,_,rfl,⟨_,_,_,_,_,_,_,_,h3.out.2.2.1,by rw [HSB.out]⟩,h3.out.2.2.2⟩
theorem lk1_any (f:Nat) (k:Int) (hf:LkC f k) (he:Ent f) (p:Nat) (U:World) (hp:Blk U p [.func (.func f) #[] #[]] 228):DCall k 185 #[.pointer (some ⟨p,0,none⟩)] U:=by
 intro r n c v0 v1 v2 v3 v4 v5 v6 v7 hk hR hn hs hS hpo ht
 obtain ⟨x,hd,hC⟩:=hf r n c hk hR hn hs;unfold DPost
 rw [hd];have HSB:=Lh (show (!shutB r)=true by rw [hs]; rfl);have HC:=Lh hC;have HS:=Lh hS;have HPT:=Lh (And.intro hpo ht);have HON:=Lh hS.one;obtain ⟨sd0,sd1,sd2,sd3,sd4,sd5,sd6,sd7⟩:=st8 hS.one;have H0:=Lh (And.intro (Bx4.start:Bx4 U [r.s,.bool true,v0,v1,v2,v3,v4,v5,v6,v7] c [.int .i64 0,.bool false,.pointer none,.pointer none,.int .i64 0,.slice none 0 0,.int .i64 0,.int .i64 0,.complex .f64 0 0,.complex .f64 0 0] [.int .i64 0,.int .i64 0,.string ⟨#[]⟩] 45 75 45 88 ((((U.alloc (.cells #[r.s,.bool true,v0,v1,v2,v3,v4,v5,v6,v7] 45)).alloc (.cells c 75)).alloc (.cells #[.int .i64 0,.bool false,.pointer none,.pointer none,.int .i64 0,.slice none 0 0,.int .i64 0,.int .i64 0,.complex .f64 0 0,.complex .f64 0 0] 45)).alloc (.cells #[.int .i64 0,.int .i64 0,.string ⟨#[]⟩] 88))) (hp.next (Bx4.start:Bx4 U [r.s,.bool true,v0,v1,v2,v3,v4,v5,v6,v7] c [.int .i64 0,.bool false,.pointer none,.pointer none,.int .i64 0,.slice none 0 0,.int .i64 0,.int .i64 0,.complex .f64 0 0,.complex .f64 0 0] [.int .i64 0,.int .i64 0,.string ⟨#[]⟩] 45 75 45 88 _).bel));clear hf hk hR hn hs hS ht hpo hd hC;have HPL:=hp.lt;clear hp
 show Calls Tryz.prog 185 #[.agg #[r.s,.bool true,v0,v1,v2,v3,v4,v5,v6,v7],.agg c,.pointer (some ⟨p,0,none⟩)] U _
 dsimp only
 go_enter Tryz.func185,Tryz.ntmps185
 go_upto_region 1 with fail
 generalize World.alloc _ _=X0 at *
 refine rgH (fun W=>Cz10 W U.heap.size r.s (.bool true) v0 v1 v2 v3 v4 v5 v6 v7∧Cz11 W (U.heap.size+1) c.k c.p (.int .i32 c.ch) c.o.k c.o.c c.o.s c.o.a c.o.n (.int .i32 c.o.ch) c.a c.b∧Ce W p 0 (.func (.func f) #[] #[])) ⟨H0.out.1.b0.c10,H0.out.1.b1.c11,H0.out.2.cell 0 rfl⟩ fun hH=>?_
 have h3:=Lh (And.intro (H0.out.1.next bdq) (H0.out.2.next bdq));clear H0;generalize hX9:World.drew _=X9 at *
 clear hX9;refine ta 0 hH ?_;refine ta 1 hH ?_;refine ta 2 hH ?_;refine ta 3 hH ?_;refine ta 4 hH ?_;have hen:∀ (a:Array Value) (W:World),(callFunc f a).run Tryz.prog W=.ok (.enter f a) W:=he;refine rc 5 (HC.out _ _ _ _ _ _ _ _ _ (HS.out.next h3.out.1.bel) (HPT.out.1.next h3.out.1.bel) (HPT.out.2.next h3.out.1.bel)) ?_
 rintro e u ⟨rfl,hb⟩
 replace h3:=Lh (And.intro (h3.out.1.next hb) (h3.out.2.next hb))
 refine rp ⟨h3.out.1.b0.c10,h3.out.1.b1.c11,h3.out.2.cell 0 rfl⟩ ?_;clear hH;intro hH
 replace h3:=Lh (And.intro h3.out.1 (And.intro h3.out.2 (HS.out.next h3.out.1.bel)))
 clear hb hen;have h4:=(And.intro (h3.out.1.p2 [r.s,.bool true,v0,v1,v2,v3,v4,v5,v6,v7] 0) (And.intro (h3.out.2.1.setN (b:=U.heap.size+1+1) (by have:=HPL; omega) [r.s,.bool true,v0,v1,v2,v3,v4,v5,v6,v7] 0) (h3.out.2.2.setB h3.out.1.b2 (by decide) (by decide) (by decide) [r.s,.bool true,v0,v1,v2,v3,v4,v5,v6,v7] 0)))
 refine stN 6 h3.out.1.b2 [r.s,.bool true,v0,v1,v2,v3,v4,v5,v6,v7] (one2 HON.out) ⟨h4.1.b0.c10,h4.1.b1.c11,h4.2.1.cell 0 rfl⟩ (fun hH=>?_);generalize setN u (U.heap.size+1+1) 0 [r.s,.bool true,v0,v1,v2,v3,v4,v5,v6,v7]=wy at *
 replace h3:=Lh (show (Bx4 U [r.s,.bool true,v0,v1,v2,v3,v4,v5,v6,v7] c [r.s,.bool true,v0,v1,v2,v3,v4,v5,v6,v7] [.int .i64 0,.int .i64 0,.string ⟨#[]⟩] 45 75 45 88) wy∧_ from h4)
 clear h4;have h4:=(And.intro (h3.out.1.p3 [x.e,x.n,.string x.t] 0) (And.intro (h3.out.2.1.setN (b:=U.heap.size+1+1+1) (by have:=HPL; omega) [x.e,x.n,.string x.t] 0) (h3.out.2.2.setB h3.out.1.b3 (by decide) (by decide) (by decide) [x.e,x.n,.string x.t] 0)))
 refine stN 7 h3.out.1.b3 [x.e,x.n,.string x.t] (by simp [Value.oneCell']) ⟨h4.1.b0.c10,h4.1.b1.c11,h4.2.1.cell 0 rfl⟩ (fun hH=>?_);generalize setN wy (U.heap.size+1+1+1) 0 [x.e,x.n,.string x.t]=wx at *
 replace h3:=Lh (show (Bx4 U [r.s,.bool true,v0,v1,v2,v3,v4,v5,v6,v7] c [r.s,.bool true,v0,v1,v2,v3,v4,v5,v6,v7] [x.e,x.n,.string x.t] 45 75 45 88) wx∧_ from h4)
 clear h4;refine ta 8 hH ?_;refine dnH ?_;clear hH;obtain ⟨p0,p1,p2,p3,p4,p5,p6,p7,p8,p9⟩:=h3.out.1.b2.c10;have t0 := h3.out.1.b3.c3;go_wp2_with fail
 exact bodyPost_ret (v:=.tuple #[.agg #[r.s,.bool true,v0,v1,v2,v3,v4,v5,v6,v7],.agg #[x.e,x.n,.string x.t],.slice none 0 0]) (by simp [results, Tryz.results185, go_sem, p0, p1, p2, p3, p4, p5, p6, p7, p8, p9, t0]) rfl ⟨h3.out.1.bel,_,_,_,_,_,_,_,_,_,_,_,rfl,⟨_,_,_,_,_,_,_,_,h3.out.2.2,by rw [HSB.out]⟩,.inl ⟨rfl,rfl⟩⟩
theorem cl1_any (hd:∀ r c,c.k=8→shutB r=false→doR r c=(⟨r.s,r.m,r.l,true⟩,⟨0,0,⟨#[]⟩⟩,[])):∀ U,DCall 8 194 #[] U:=by
 intro U r n c v0 v1 v2 v3 v4 v5 v6 v7 hk hR hn hs hS hpo ht
 unfold DPost
 rw [hd r c hk hs];have HSB:=Lh (show (!shutB ⟨r.s,r.m,r.l,true⟩)=false from rfl);have HS:=Lh hS;obtain ⟨sd0,sd1,sd2,sd3,sd4,sd5,sd6,sd7⟩:=st8 hS.one;have H0:=Lh (Bx4.start:Bx4 U [r.s,.bool true,v0,v1,v2,v3,v4,v5,v6,v7] c [.int .i64 0,.bool false,.pointer none,.pointer none,.int .i64 0,.slice none 0 0,.int .i64 0,.int .i64 0,.complex .f64 0 0,.complex .f64 0 0] [.int .i64 0,.int .i64 0,.string ⟨#[]⟩] 45 75 45 88 ((((U.alloc (.cells #[r.s,.bool true,v0,v1,v2,v3,v4,v5,v6,v7] 45)).alloc (.cells c 75)).alloc (.cells #[.int .i64 0,.bool false,.pointer none,.pointer none,.int .i64 0,.slice none 0 0,.int .i64 0,.int .i64 0,.complex .f64 0 0,.complex .f64 0 0] 45)).alloc (.cells #[.int .i64 0,.int .i64 0,.string ⟨#[]⟩] 88)));clear hk hR hn hs hS ht hpo hd
 show Calls Tryz.prog 194 #[.agg #[r.s,.bool true,v0,v1,v2,v3,v4,v5,v6,v7],.agg c] U _
 dsimp only
 go_enter Tryz.func194,Tryz.ntmps194
 go_upto_region 1 with fail
 generalize World.alloc _ _=X0 at *
 have x0 := H0.out.b0.c10;have f1:=H0.out.b0.free 1;have n0 := H0.out.b2.c10;have fn0 := H0.out.b2.f10;have q0 := H0.out.b3.c3;have fq0 := H0.out.b3.f3;have h1:=H0.out.p0 [.bool false] 1;have h2:=h1.p2 [r.s,.bool false,v0,v1,v2,v3,v4,v5,v6,v7] 0;have h3:=Lh (And.intro (h2.p3 [.int .i64 0,.int .i64 0,.string ⟨#[]⟩] 0) ((((HS.out.next H0.out.bel).setB H0.out.b0 (by decide) (by decide) (by decide) [.bool false] 1).setB h1.b2 (by decide) (by decide) (by decide) [r.s,.bool false,v0,v1,v2,v3,v4,v5,v6,v7] 0).setB h2.b3 (by decide) (by decide) (by decide) [.int .i64 0,.int .i64 0,.string ⟨#[]⟩] 0));clear h1 h2 H0;simp only [setN, Nat.zero_add, Nat.reduceAdd] at h3
 go_wp2_with fail
 have h4:=Lh (show (Bx4 U [r.s,.bool false,v0,v1,v2,v3,v4,v5,v6,v7] c [r.s,.bool false,v0,v1,v2,v3,v4,v5,v6,v7] [.int .i64 0,.int .i64 0,.string ⟨#[]⟩] 45 75 45 88 _)∧_ from h3.out);clear h3;have h3:=h4;clear h4;obtain ⟨p0,p1,p2,p3,p4,p5,p6,p7,p8,p9⟩:=h3.out.1.b2.c10;have t0 := h3.out.1.b3.c3;go_wp2_with fail
 exact bodyPost_ret (v:=.tuple #[.agg #[r.s,.bool false,v0,v1,v2,v3,v4,v5,v6,v7],.agg #[.int .i64 0,.int .i64 0,.string ⟨#[]⟩],.slice none 0 0]) (by simp [results, Tryz.results194, go_sem, p0, p1, p2, p3, p4, p5, p6, p7, p8, p9, t0]) rfl ⟨h3.out.1.bel,_,_,_,_,_,_,_,_,_,_,_,rfl,⟨_,_,_,_,_,_,_,_,h3.out.2,by rw [HSB.out]⟩,.inl ⟨rfl,rfl⟩⟩
theorem writing_any (f:Nat) (w:World):Calls Tryz.prog 115 #[.func (.func f) #[] #[]] w fun e w'=>∃ p:Nat,e=.returned (.agg #[.bool true,.func (.func 174) #[] #[.pointer (some (⟨p,0,none⟩:Addr))]])∧Below w.heap.size w w'∧Blk w' p [.func (.func f) #[] #[]] 223:=by
 have H0:=Lh (And.intro (bl2 w [.func (.func f) #[] #[]] [.bool false,.nilFunc] 223 191) (And.intro (show Blk ((w.alloc (.cells #[.func (.func f) #[] #[]] 223)).alloc (.cells #[.bool false,.nilFunc] 191)) w.heap.size [.func (.func f) #[] #[]] 223 from (Blk.start w _ _).alloc _) (show Blk ((w.alloc (.cells #[.func (.func f) #[] #[]] 223)).alloc (.cells #[.bool false,.nilFunc] 191)) (w.heap.size+1) [.bool false,.nilFunc] 191 from Blk.startAt (by simp))))
 go_enter Tryz.func115,Tryz.ntmps115
 go_upto_region 1 with fail
 generalize World.alloc _ _=X0 at *
 have q0 := H0.out.2.2.c2;have fq0 := H0.out.2.2.f2;have sfn:=fun (W:World) (a:Addr) (m:Mode)=>run_store Tryz.prog W a (.func (.func 174) #[] #[.pointer (some (⟨w.heap.size,0,none⟩:Addr))]) m rfl
 have HP:=Lh (And.intro (setN_blk [.bool true,.func (.func 174) #[] #[.pointer (some (⟨w.heap.size,0,none⟩:Addr))]] 0 H0.out.2.2) (And.intro (setN_below (b:=w.heap.size+1) (by omega) [.bool true,.func (.func 174) #[] #[.pointer (some (⟨w.heap.size,0,none⟩:Addr))]] 0 H0.out.1) (H0.out.2.1.setN (b:=w.heap.size+1) (by omega) [.bool true,.func (.func 174) #[] #[.pointer (some (⟨w.heap.size,0,none⟩:Addr))]] 0)));simp only [setN, Nat.zero_add] at HP
 go_wp2_with fail
 have t0 := Blk.c2 (a0:=.bool true) HP.out.1;exact bodyPost_ret (by simp [results, Tryz.results115, go_sem, t0]) rfl ⟨_,rfl,HP.out.2⟩
theorem looking_any (f:Nat) (w:World):Calls Tryz.prog 125 #[.func (.func f) #[] #[]] w fun e w'=>∃ p:Nat,e=.returned (.agg #[.bool false,.func (.func 185) #[] #[.pointer (some (⟨p,0,none⟩:Addr))]])∧Below w.heap.size w w'∧Blk w' p [.func (.func f) #[] #[]] 228:=by
 have H0:=Lh (And.intro (bl2 w [.func (.func f) #[] #[]] [.bool false,.nilFunc] 228 191) (And.intro (show Blk ((w.alloc (.cells #[.func (.func f) #[] #[]] 228)).alloc (.cells #[.bool false,.nilFunc] 191)) w.heap.size [.func (.func f) #[] #[]] 228 from (Blk.start w _ _).alloc _) (show Blk ((w.alloc (.cells #[.func (.func f) #[] #[]] 228)).alloc (.cells #[.bool false,.nilFunc] 191)) (w.heap.size+1) [.bool false,.nilFunc] 191 from Blk.startAt (by simp))))
 go_enter Tryz.func125,Tryz.ntmps125
 go_upto_region 1 with fail
 generalize World.alloc _ _=X0 at *
 have q0 := H0.out.2.2.c2;have fq0 := H0.out.2.2.f2;have sfn:=fun (W:World) (a:Addr) (m:Mode)=>run_store Tryz.prog W a (.func (.func 185) #[] #[.pointer (some (⟨w.heap.size,0,none⟩:Addr))]) m rfl
 have HP:=Lh (And.intro (setN_blk [.bool false,.func (.func 185) #[] #[.pointer (some (⟨w.heap.size,0,none⟩:Addr))]] 0 H0.out.2.2) (And.intro (setN_below (b:=w.heap.size+1) (by omega) [.bool false,.func (.func 185) #[] #[.pointer (some (⟨w.heap.size,0,none⟩:Addr))]] 0 H0.out.1) (H0.out.2.1.setN (b:=w.heap.size+1) (by omega) [.bool false,.func (.func 185) #[] #[.pointer (some (⟨w.heap.size,0,none⟩:Addr))]] 0)));simp only [setN, Nat.zero_add] at HP
 go_wp2_with fail
 have t0 := Blk.c2 (a0:=.bool false) HP.out.1;exact bodyPost_ret (by simp [results, Tryz.results125, go_sem, t0]) rfl ⟨_,rfl,HP.out.2⟩
theorem closing_any (w:World):Calls Tryz.prog 138 #[] w (Rt (.agg #[.bool false,.func (.func 194) #[] #[]]) w):=by
 have H0:=Lh (And.intro (bl1 w [.bool false,.nilFunc] 191) (Blk.start w [.bool false,.nilFunc] 191))
 go_enter Tryz.func138,Tryz.ntmps138
 go_upto_region 1 with fail
 generalize World.alloc _ _=X0 at *
 have q0 := H0.out.2.c2;have fq0 := H0.out.2.f2;have sfn:=fun (W:World) (a:Addr) (m:Mode)=>run_store Tryz.prog W a (.func (.func 194) #[] #[]) m rfl
 have HP:=Lh (And.intro (setN_blk [.bool false,.func (.func 194) #[] #[]] 0 H0.out.2) (setN_below (Nat.le_refl _) [.bool false,.func (.func 194) #[] #[]] 0 H0.out.1));simp only [setN, Nat.zero_add] at HP
 go_wp2_with fail
 have t0 := Blk.c2 (a0:=.bool false) HP.out.1;exact bodyPost_ret (by simp [results, Tryz.results138, go_sem, t0]) rfl ⟨rfl,HP.out.2⟩
end Go.Proofs.YtemicfjmidohfaaGreatDoor
set_option maxRecDepth 100000
set_option maxHeartbeats 12800000
namespace Go.Proofs.YtemicfjmidohfaaGreatDoor
open Go Go.Proofs Go.RowKit
theorem rem_er2 {m l:List Oq} {o:Oq} (h:remE m l o≠0):remT m l o=(m,l,[]):=by
 unfold remE at h
 unfold remT
 by_cases h6:wrongE m o=6
 ·rw [if_pos h6] at h ⊢
  unfold addL; rw [if_neg h]
 ·rw [if_neg h6] at h ⊢
  rw [if_neg h]
theorem in_err {m l:List Oq} {s p ch:Int} {lo : -2147483648≤ch} {hi:ch≤2147483647} (h:inE8 m l s p ch lo hi≠0):inT8 m l s p ch lo hi=(m,l,[]):=by
 unfold inE8 at h
 unfold inT8
 split
 ·rfl
 ·next h0=>rw [if_neg h0] at h; exact rem_er2 h
theorem de_err {m l:List Oq} {k:Int} (h:deE8 m l k≠0):deT8 m l k=(m,l,[]):=by
 unfold deE8 at h
 unfold deT8
 split
 ·rfl
 ·next h0=>rw [if_neg h0] at h; exact rem_er2 h
theorem wrA_ans {r:Rpl} {e n:Int} {t:ByteArray} {T:List Oq×List Oq×List Chg} (hT:e≠0→T=(r.m,r.l,[])):wrA r e ⟨0,n,t⟩ T=(⟨r.s,T.1,T.2.1,r.z⟩,ansV e n t,T.2.2):=by
 unfold wrA ansV
 by_cases he:e=0
 ·subst he; rfl
 ·rw [if_pos he,if_neg he,hT he]
theorem ans_op (E n:Int) (v:Oq):ansV E n (oT v)=ansV E n (oT (opP E v)):=by
 unfold ansV opP
 split <;> rfl
section
variable {r:Rpl} {c:Cal} (hs:shutB r=false)
include hs
theorem do_ins (hk:c.k=0):doR r c=(⟨r.s,(inT8 r.m r.l r.s c.p c.ch c.lo c.hi).1,(inT8 r.m r.l r.s c.p c.ch c.lo c.hi).2.1,r.z⟩,ansV (inE8 r.m r.l r.s c.p c.ch c.lo c.hi) ((inT8 r.m r.l r.s c.p c.ch c.lo c.hi).1.length:Int) (oT (opP (inE8 r.m r.l r.s c.p c.ch c.lo c.hi) (inV8 r.m r.l r.s c.p c.ch c.lo c.hi))),(inT8 r.m r.l r.s c.p c.ch c.lo c.hi).2.2):=by
 unfold doR
 rw [if_neg (by omega),if_neg (by simp [hs]),if_pos hk,wrA_ans in_err,ans_op]
theorem do_del (hk:c.k=1):doR r c=(⟨r.s,(deT8 r.m r.l c.p).1,(deT8 r.m r.l c.p).2.1,r.z⟩,ansV (deE8 r.m r.l c.p) ((deT8 r.m r.l c.p).1.length:Int) (oT (opP (deE8 r.m r.l c.p) (deV8 r.m c.p))),(deT8 r.m r.l c.p).2.2):=by
 unfold doR
 rw [if_neg (by omega),if_neg (by simp [hs]),if_neg (by omega),if_pos hk,wrA_ans de_err,ans_op]
theorem do_rem (hk:c.k=2):doR r c=(⟨r.s,(remT r.m r.l c.o).1,(remT r.m r.l c.o).2.1,r.z⟩,ansV (remE r.m r.l c.o) ((remT r.m r.l c.o).2.2.length:Int) ⟨#[]⟩,(remT r.m r.l c.o).2.2):=by
 unfold doR
 rw [if_neg (by omega),if_neg (by simp [hs]),if_neg (by omega),if_neg (by omega),if_pos hk,wrA_ans rem_er2]
theorem do_txt (hk:c.k=3):doR r c=(r,⟨0,0,txtS (docR r.m)⟩,[]):=by
 unfold doR
 rw [if_neg (by omega),if_neg (by simp [hs]),if_neg (by omega),if_neg (by omega),if_neg (by omega),if_pos hk]
theorem do_len (hk:c.k=4):doR r c=(r,⟨0,aliN (docR r.m),⟨#[]⟩⟩,[]):=by
 unfold doR
 rw [if_neg (by omega),if_neg (by simp [hs]),if_neg (by omega),if_neg (by omega),if_neg (by omega),if_neg (by omega),if_pos hk]
theorem do_mrk (hk:c.k=5):doR r c=(r,ansV (cuE (docR r.m) c.p) 0 (ancT (namC (docR r.m) c.p).1 (namC (docR r.m) c.p).2),[]):=by
 unfold doR ansV
 rw [if_neg (by omega),if_neg (by simp [hs]),if_neg (by omega),if_neg (by omega),if_neg (by omega),if_neg (by omega),if_neg (by omega),if_pos hk];by_cases h:cuE (docR r.m) c.p=0
 ·rw [if_neg (fun e=>e h),if_pos h]
 ·rw [if_pos h,if_neg h]
theorem do_whr (hk:c.k=6):doR r c=(r,ansV (reE (docR r.m) c.a c.b) (reN (docR r.m) c.a c.b) ⟨#[]⟩,[]):=by
 unfold doR ansV
 rw [if_neg (by omega),if_neg (by simp [hs]),if_neg (by omega),if_neg (by omega),if_neg (by omega),if_neg (by omega),if_neg (by omega),if_neg (by omega),if_pos hk];by_cases h:reE (docR r.m) c.a c.b=0
 ·rw [if_pos h,h]
 ·rw [if_neg h,reN_err h]; rfl
theorem do_snp (hk:c.k=7):doR r c=(r,⟨0,(r.m.length:Int),sumT r.m⟩,[]):=by
 unfold doR
 rw [if_neg (by omega),if_neg (by simp [hs]),if_neg (by omega),if_neg (by omega),if_neg (by omega),if_neg (by omega),if_neg (by omega),if_neg (by omega),if_neg (by omega),if_pos hk]
theorem do_cls (hk:c.k=8):doR r c=(⟨r.s,r.m,r.l,true⟩,⟨0,0,⟨#[]⟩⟩,[]):=by
 unfold doR
 rw [if_neg (by omega),if_neg (by simp [hs]),if_neg (by omega),if_neg (by omega),if_neg (by omega),if_neg (by omega),if_neg (by omega),if_neg (by omega),if_neg (by omega),if_neg (by omega)]
end
theorem wrc0 (HV:VAll):WrC 116 0:=fun r n c hk hR hn hs=>⟨_,_,do_ins hs hk,fun v0 v1 v2 v3 v4 v5 v6 v7 w hS ht=>dd1_ok HV r.m r.l n hR.v hn c r.s (hR.v.ins r.s c.p c.ch c.lo c.hi) true v0 v1 v2 v3 v4 v5 v6 v7 w hS ht⟩
theorem wrc1 (HV:VAll):WrC 121 1:=fun r n c hk hR hn hs=>⟨_,_,do_del hs hk,fun v0 v1 v2 v3 v4 v5 v6 v7 w hS ht=>dd2_ok HV r.m r.l n hR.v hn c r.s (hR.v.del c.p) true v0 v1 v2 v3 v4 v5 v6 v7 w hS ht⟩
theorem wrc2 (HV:VAll):WrC 123 2:=fun r n c hk hR hn hs=>⟨_,_,do_rem hs hk,fun v0 v1 v2 v3 v4 v5 v6 v7 w hS ht=>dd3_ok HV r.m r.l n hR.v hn c r.s true v0 v1 v2 v3 v4 v5 v6 v7 w hS ht⟩
theorem lkc3 (H:VAll):LkC 126 3:=fun r n c hk hR hn hs=>⟨_,do_txt hs hk,fun v0 v1 v2 v3 v4 v5 v6 v7 w hS hp ht=>dd4_ok H r.m r.l n hR.v hn c v0 v1 v2 v3 v4 v5 v6 v7 w hS hp ht⟩
theorem lkc4 (H:VAll):LkC 128 4:=fun r n c hk hR hn hs=>⟨_,do_len hs hk,fun v0 v1 v2 v3 v4 v5 v6 v7 w hS hp ht=>dd5_ok H r.m r.l n hR.v hn c v0 v1 v2 v3 v4 v5 v6 v7 w hS hp ht⟩
theorem lkc5 (H:CAll):LkC 130 5:=fun r n c hk hR hn hs=>⟨_,do_mrk hs hk,fun v0 v1 v2 v3 v4 v5 v6 v7 w hS hp ht=>dd6_ok H r.m r.l n hR.v hn c v0 v1 v2 v3 v4 v5 v6 v7 w hS hp ht⟩
theorem lkc6 (H:CAll):LkC 133 6:=fun r n c hk hR hn hs=>⟨_,do_whr hs hk,fun v0 v1 v2 v3 v4 v5 v6 v7 w hS hp ht=>dd7_ok H r.m r.l n hR.v hn c v0 v1 v2 v3 v4 v5 v6 v7 w hS hp ht⟩
theorem lkc7 (H:VAll):LkC 135 7:=fun r n c hk hR hn hs=>⟨_,do_snp hs hk,fun v0 v1 v2 v3 v4 v5 v6 v7 w hS hp ht=>dd8_ok H r.m r.l n hR.v hn c v0 v1 v2 v3 v4 v5 v6 v7 w hS hp ht⟩
def DeedV (W:World) (k:Int) (v:Value):Prop:=∃ f ca,v=.agg #[.bool (writesB k),.func (.func f) #[] ca]∧Ent f∧((∀ U,DCall k f ca U)∨∃ p u t,Blk W p [u] t∧∀ U,Blk U p [u] t→DCall k f ca U)
theorem DeedV.kp {W U:World} {k:Int} {v:Value} (h:DeedV W k v) (hb:∀ p u t,Blk W p [u] t→Blk U p [u] t):DeedV U k v:=by
 obtain ⟨f,ca,e,en,h | ⟨p,u,t,hB,h⟩⟩:=h
 ·exact ⟨f,ca,e,en,.inl h⟩
 ·exact ⟨f,ca,e,en,.inr ⟨p,u,t,hb p u t hB,h⟩⟩
theorem DeedV.next {W U:World} {k:Int} {v:Value} (h:DeedV W k v) (hb:Below W.heap.size W U):DeedV U k v:=h.kp fun _ _ _ h=>h.next hb
def zD:Value:=.agg #[.bool false,.nilFunc]
structure DS (W0:World) (b i:Nat) (F:Int→Value) (W:World):Prop where
 bel:Below W0.heap.size W0 W
 mi:∃ K,MapI Tryz.prog 68 b i zD F K W∧∀ j,K j=decide (0≤j∧j<i)
 ok:∀ j:Int,0≤j→j<i→DeedV W j (F j)
 no:∀ j:Int,j<0∨i≤j→F j=zD
 ge:W0.heap.size≤b
theorem DS.next {W0 W U:World} {b i:Nat} {F:Int→Value} (h:DS W0 b i F W) (hb:Below W.heap.size W U):DS W0 b i F U:=by
 obtain ⟨K,hm,hK⟩:=h.mi;exact ⟨h.bel.trans (hb.mono h.bel.size),⟨K,hm.next hb,hK⟩,fun j h0 h1=>(h.ok j h0 h1).next hb,h.no,h.ge⟩
theorem DS.start (W:World):DS W W.heap.size 0 (fun _=>zD) (W.alloc (.map #[] 0)):=
 ⟨bA,⟨_,MapI.start W,fun j=>by simp <;> omega⟩,fun j h0 h1=>by omega,fun _ _=>rfl,Nat.le_refl _⟩
theorem und_mp:Tryz.prog.underlying 192=some (.map 68 191):=by kernel_rfl
theorem DS.step {W0 W U:World} {b i:Nat} {F:Int→Value} (h:DS W0 b i F W) (hb:Below W.heap.size W U) {k:Int} {v:Value} (hk:k=i) (hi:i≤8) (hv:DeedV U k v):
  ∃ F' X,(Instr.mapUpdate 192 (.map (some b)) k v).run Tryz.prog U=.ok () X∧DS W0 b (i+1) F' X:=by
 subst hk;obtain ⟨K,hm,hK⟩:=(h.next hb).mi;obtain ⟨X,hr,hm',hg⟩:=hm.put Tryz.underlying68 und_mp (by omega) (i:=(i:Int)) (by simp [Lit.wf]; exact ⟨by show -9223372036854775808≤(i:Int); omega,by show (i:Int)≤9223372036854775807; omega⟩) v;have hbl:∀ p u t,Blk U p [u] t→Blk X p [u] t:=fun p u t hB=>by
  obtain ⟨D,⟨es,cl,hmb,_⟩,_⟩:=hm;have hne:p≠b:=by rintro rfl; unfold Blk at hB; rw [hmb] at hB; cases hB
  unfold Blk at hB ⊢
  rw [hg.block p (Array.getElem?_eq_some_iff.1 hB).1 (by simpa using hne)]; exact hB
 refine ⟨_,X,hr,(h.next hb).bel.grown hg (h.next hb).bel.size (fun k e=>by cases e; exact h.ge),⟨_,hm',fun j=>?_⟩,fun j h0 h1=>?_,fun j hj=>?_,h.ge⟩
 ·try dsimp only
  split
  ·next e=>subst e; exact (decide_eq_true (by omega)).symm
  ·next e=>rw [hK j]; exact decide_eq_decide.2 (by omega)
 ·try dsimp only
  split
  ·next e=>subst e; exact hv.kp hbl
  ·next e=>exact ((h.next hb).ok j h0 (by omega)).kp hbl
 ·try dsimp only
  rw [if_neg (by omega)]; exact h.no j (by omega)
theorem ent_any {f:Nat} {fn:Func} {c:Code} (hf:Tryz.prog.funcs[f]? = some fn) (hname:(fn.name == "runtime.NumGoroutine")=false) (hb:fn.body=some c):Ent f:=fun a W=>run_enter hf hname hb a W
theorem deeds_any (HV:VAll) (HC:CAll) (w:World):Calls Tryz.prog 83 #[] w fun e w'=>∃ b F,e=.returned (.map (some b))∧DS w b 9 F w':=by
 have s0:=Lh (DS.start w);have hmm := @run_makeMap Tryz.prog;have d0:=Lh (fun (W:World) (p:Nat) (hB:Blk W p [.func (.func 116) #[] #[]] 223)=>show DeedV W 0 (.agg #[.bool true,.func (.func 174) #[] #[.pointer (some ⟨p,0,none⟩)]]) from ⟨_,_,rfl,(ent_any Tryz.func174 (by kernel_rfl) rfl),.inr ⟨p,_,_,hB,fun U h=>wr1_any 116 0 (wrc0 HV) (ent_any Tryz.func116 (by kernel_rfl) rfl) _ U h⟩⟩);have d1:=Lh (fun (W:World) (p:Nat) (hB:Blk W p [.func (.func 121) #[] #[]] 223)=>show DeedV W 1 (.agg #[.bool true,.func (.func 174) #[] #[.pointer (some ⟨p,0,none⟩)]]) from ⟨_,_,rfl,(ent_any Tryz.func174 (by kernel_rfl) rfl),.inr ⟨p,_,_,hB,fun U h=>wr1_any 121 1 (wrc1 HV) (ent_any Tryz.func121 (by kernel_rfl) rfl) _ U h⟩⟩);have d2:=Lh (fun (W:World) (p:Nat) (hB:Blk W p [.func (.func 123) #[] #[]] 223)=>show DeedV W 2 (.agg #[.bool true,.func (.func 174) #[] #[.pointer (some ⟨p,0,none⟩)]]) from ⟨_,_,rfl,(ent_any Tryz.func174 (by kernel_rfl) rfl),.inr ⟨p,_,_,hB,fun U h=>wr1_any 123 2 (wrc2 HV) (ent_any Tryz.func123 (by kernel_rfl) rfl) _ U h⟩⟩);have d3:=Lh (fun (W:World) (p:Nat) (hB:Blk W p [.func (.func 126) #[] #[]] 228)=>show DeedV W 3 (.agg #[.bool false,.func (.func 185) #[] #[.pointer (some ⟨p,0,none⟩)]]) from ⟨_,_,rfl,(ent_any Tryz.func185 (by kernel_rfl) rfl),.inr ⟨p,_,_,hB,fun U h=>lk1_any 126 3 (lkc3 HV) (ent_any Tryz.func126 (by kernel_rfl) rfl) _ U h⟩⟩);have d4:=Lh (fun (W:World) (p:Nat) (hB:Blk W p [.func (.func 128) #[] #[]] 228)=>show DeedV W 4 (.agg #[.bool false,.func (.func 185) #[] #[.pointer (some ⟨p,0,none⟩)]]) from ⟨_,_,rfl,(ent_any Tryz.func185 (by kernel_rfl) rfl),.inr ⟨p,_,_,hB,fun U h=>lk1_any 128 4 (lkc4 HV) (ent_any Tryz.func128 (by kernel_rfl) rfl) _ U h⟩⟩);have d5:=Lh (fun (W:World) (p:Nat) (hB:Blk W p [.func (.func 130) #[] #[]] 228)=>show DeedV W 5 (.agg #[.bool false,.func (.func 185) #[] #[.pointer (some ⟨p,0,none⟩)]]) from ⟨_,_,rfl,(ent_any Tryz.func185 (by kernel_rfl) rfl),.inr ⟨p,_,_,hB,fun U h=>lk1_any 130 5 (lkc5 HC) (ent_any Tryz.func130 (by kernel_rfl) rfl) _ U h⟩⟩);have d6:=Lh (fun (W:World) (p:Nat) (hB:Blk W p [.func (.func 133) #[] #[]] 228)=>show DeedV W 6 (.agg #[.bool false,.func (.func 185) #[] #[.pointer (some ⟨p,0,none⟩)]]) from ⟨_,_,rfl,(ent_any Tryz.func185 (by kernel_rfl) rfl),.inr ⟨p,_,_,hB,fun U h=>lk1_any 133 6 (lkc6 HC) (ent_any Tryz.func133 (by kernel_rfl) rfl) _ U h⟩⟩);have d7:=Lh (fun (W:World) (p:Nat) (hB:Blk W p [.func (.func 135) #[] #[]] 228)=>show DeedV W 7 (.agg #[.bool false,.func (.func 185) #[] #[.pointer (some ⟨p,0,none⟩)]]) from ⟨_,_,rfl,(ent_any Tryz.func185 (by kernel_rfl) rfl),.inr ⟨p,_,_,hB,fun U h=>lk1_any 135 7 (lkc7 HV) (ent_any Tryz.func135 (by kernel_rfl) rfl) _ U h⟩⟩);have d8:=Lh (fun (W:World)=>show DeedV W 8 (.agg #[.bool false,.func (.func 194) #[] #[]]) from ⟨_,_,rfl,(ent_any Tryz.func194 (by kernel_rfl) rfl),.inl (cl1_any fun r c hk hs=>do_cls hs hk)⟩);clear HV HC
 go_enter Tryz.func83,Tryz.ntmps83
 go_wp2_with fail;refine (writing_any 116 _).mono ?_;rintro e u0_ ⟨p0,rfl,hb,hB⟩
 obtain ⟨F0,X0,r0,s1⟩:=s0.out.step hb (by rfl) (by decide) (d0.out _ _ hB)
 replace s1:=Lh s1
 clear hb d0 s0 hB;go_wp2_with fail;refine (writing_any 121 _).mono ?_;rintro e u1_ ⟨p1,rfl,hb,hB⟩
 obtain ⟨F1,X1,r1,s2⟩:=s1.out.step hb (by rfl) (by decide) (d1.out _ _ hB)
 replace s2:=Lh s2
 clear hb d1 s1 hB;go_wp2_with fail;refine (writing_any 123 _).mono ?_;rintro e u2_ ⟨p2,rfl,hb,hB⟩
 obtain ⟨F2,X2,r2,s3⟩:=s2.out.step hb (by rfl) (by decide) (d2.out _ _ hB)
 replace s3:=Lh s3
 clear hb d2 s2 hB;go_wp2_with fail;refine (looking_any 126 _).mono ?_;rintro e u3_ ⟨p3,rfl,hb,hB⟩
 obtain ⟨F3,X3,r3,s4⟩:=s3.out.step hb (by rfl) (by decide) (d3.out _ _ hB)
 replace s4:=Lh s4
 clear hb d3 s3 hB;go_wp2_with fail;refine (looking_any 128 _).mono ?_;rintro e u4_ ⟨p4,rfl,hb,hB⟩
 obtain ⟨F4,X4,r4,s5⟩:=s4.out.step hb (by rfl) (by decide) (d4.out _ _ hB)
 replace s5:=Lh s5
 clear hb d4 s4 hB;go_wp2_with fail;refine (looking_any 130 _).mono ?_;rintro e u5_ ⟨p5,rfl,hb,hB⟩
 obtain ⟨F5,X5,r5,s6⟩:=s5.out.step hb (by rfl) (by decide) (d5.out _ _ hB)
 replace s6:=Lh s6
 clear hb d5 s5 hB;go_wp2_with fail;refine (looking_any 133 _).mono ?_;rintro e u6_ ⟨p6,rfl,hb,hB⟩
 obtain ⟨F6,X6,r6,s7⟩:=s6.out.step hb (by rfl) (by decide) (d6.out _ _ hB)
 replace s7:=Lh s7
 clear hb d6 s6 hB;go_wp2_with fail;refine (looking_any 135 _).mono ?_;rintro e u7_ ⟨p7,rfl,hb,hB⟩
 obtain ⟨F7,X7,r7,s8⟩:=s7.out.step hb (by rfl) (by decide) (d7.out _ _ hB)
 replace s8:=Lh s8
 clear hb d7 s7 hB;go_wp2_with fail;refine (closing_any _).mono ?_;rintro e u8_ ⟨rfl,hb⟩
 obtain ⟨F8,X8,r8,s9⟩:=s8.out.step hb (by rfl) (by decide) (d8.out _)
 replace s9:=Lh s9
 clear hb d8 s8;go_wp2_with fail
 go_ret
 exact ⟨_,_,rfl,s9.out⟩
end Go.Proofs.YtemicfjmidohfaaGreatDoor
set_option maxRecDepth 100000
set_option maxHeartbeats 12800000
namespace Go.Proofs.YtemicfjmidohfaaGreatDoor
open Go Go.Proofs Go.RowKit
theorem MapI.at {W:World} {b n:Nat} {F:Int→Value} {K:Int→Bool} (h:MapI Tryz.prog 68 b n zD F K W) (k:Int) (h0 : -9223372036854775808≤k) (h1:k≤9223372036854775807):(Instr.lookup 192 (.map (some b)) k false).run Tryz.prog W=.ok (F k) W∧(Instr.lookup 192 (.map (some b)) k true).run Tryz.prog W=.ok (.tuple #[F k,.bool (K k)]) W:=
 h.look Tryz.underlying68 und_mp (show (zeroValue 191).run Tryz.prog W=.ok zD W from by kernel_rfl) (i:=k) (by simp [Lit.wf]; exact ⟨h0,h1⟩)
theorem DS.at {W0 W:World} {b:Nat} {F:Int→Value} (h:DS W0 b 9 F W) (k:Int):∃ u:Value,u.oneCell'=true∧F k=.agg #[.bool (writesB k),u]∧(0≤k→k<9→DeedV W k (.agg #[.bool (writesB k),u])):=by
 by_cases hk:0≤k∧k<9
 ·obtain ⟨f,ca,e,hd⟩:=h.ok k hk.1 hk.2
  exact ⟨_,rfl,e,fun _ _=>⟨f,ca,rfl,hd⟩⟩
 ·have hw:writesB k=false:=by unfold writesB; simp; omega
  rw [hw];exact ⟨_,rfl,h.no k (by omega),fun a b=>absurd ⟨a,b⟩ hk⟩
theorem MapI.setN {P:Program} {kt:TypeId} {b n B:Nat} {z:Value} {F:Int→Value} {K:Int→Bool} {W:World} {zs:List Value} {t:TypeId} (h:MapI P kt b n z F K W) (hB:Blk W B zs t) (us:List Value):MapI P kt b n z F K (setN W B 0 us):=by
 obtain ⟨D,⟨es,cl,hb,r⟩,ha⟩:=h;have hne:b≠B:=by rintro rfl; unfold Blk at hB; rw [hb] at hB; cases hB
 exact ⟨D,⟨es,cl,(setN_other us 0 hne).trans hb,r⟩,ha⟩
theorem DeedV.setN {W:World} {k:Int} {v x y:Value} {b:Nat} {t:TypeId} (h:DeedV W k v) (hB:Blk W b [x,y] t) (us:List Value):DeedV (setN W b 0 us) k v:=
 h.kp fun p u t' hp=>hp.setN (by rintro rfl; unfold Blk at hp hB; rw [hp] at hB; simp at hB) us 0
theorem oneD {b:Bool} {u:Value} (h:u.oneCell'=true):∀ x∈([.bool b,u]:List Value),x.oneCell'=true:=by
 intro x hx
 rcases List.mem_cons.1 hx with rfl | hx
 ·rfl
 ·obtain rfl:=List.mem_singleton.1 hx; exact h
theorem sS {P:Program} {md:Region.Mode} {ops:Array Oper} {Q:Exit→Act→World→Prop} {S:World→Prop} (S':World→Prop) (hs:∀ w,S' w→S w):∀ (fuel:Nat) (listed:Array Bool) (a:Act) (w:World),wpAnyH P md ops Q S' fuel listed a w→wpAnyH P md ops Q S fuel listed a w
 | 0,_,_,_,h=>h
 | fuel+1,_,_,_,h=>⟨h.1,fun i hi=>wpOp_mono (fun _ _ h'=>⟨hs _ h'.1,sS S' hs fuel _ _ _ h'.2⟩) (h.2 i hi)⟩
@[local go_sem] theorem fieldD0 (u v:Value) (W:World):(Instr.field 191 (.agg #[u,v]) 0).run Tryz.prog W=.ok u W:=by kernel_rfl
theorem rwr_ok (HV:VAll) (HC:CAll):PWrOk:=by
 intro k w h0 h1
 have HD:=Lh (fun W=>deeds_any HV HC W);have HB:=Lh (And.intro h0 h1);clear HV HC h0 h1
 go_enter Tryz.func28,Tryz.ntmps28
 go_wp2_with fail;refine (HD.out _).mono ?_;rintro e u_ ⟨b,F,rfl,hs⟩
 obtain ⟨u,hu,hf,-⟩:=hs.at k;obtain ⟨K,hm,-⟩:=hs.mi;have hl:=(hm.at k HB.out.1 HB.out.2).1;rw [hf] at hl;have HS:=Lh hs.bel;obtain ⟨wb,hwb⟩:∃ x,x=writesB k:=⟨_,rfl⟩
 rw [←hwb] at hl;have HW:=Lh hwb;clear hs hm hu hwb hf;go_wp2_with fail
 go_ret
 exact ⟨by rw [←HW.out]; rfl,HS.out⟩
structure Ch13 (w:World) (R L:List Value) (k:Int) (bD:Nat) (wb:Bool) (u:Value) (W:World):Prop where
 bx:Bx4 w R L [.int .i64 0,.bool false,.pointer none,.pointer none,.int .i64 0,.slice none 0 0,.int .i64 0,.int .i64 0,.complex .f64 0 0,.complex .f64 0 0] [.int .i64 0,.int .i64 0,.string ⟨#[]⟩] 45 75 45 88 W
 bd:Blk W bD [.bool wb,u] 191
 dv:0≤k→k<9→DeedV W k (.agg #[.bool wb,u])
theorem Ch13.next {w W U:World} {R L:List Value} {k:Int} {bD:Nat} {wb:Bool} {u:Value} (h:Ch13 w R L k bD wb u W) (hb:Below W.heap.size W U):Ch13 w R L k bD wb u U:=⟨h.bx.next hb,h.bd.next hb,fun a c=>(h.dv a c).next hb⟩
theorem Ch13.of {w W:World} {R L:List Value} {k:Int} {bD:Nat} {u:Value} (h:Bx4 w R L [.int .i64 0,.bool false,.pointer none,.pointer none,.int .i64 0,.slice none 0 0,.int .i64 0,.int .i64 0,.complex .f64 0 0,.complex .f64 0 0] [.int .i64 0,.int .i64 0,.string ⟨#[]⟩] 45 75 45 88 W) (hB:Blk W bD [.bool false,.nilFunc] 191) (hl:w.heap.size+1+1+1<bD) (hv:0≤k→k<9→DeedV W k (.agg #[.bool (writesB k),u])):
  Ch13 w R L k bD (writesB k) u (setN W bD 0 [.bool (writesB k),u]):=
 ⟨⟨⟨setN_below (by omega) _ _ h.bel,h.b0.setN (by omega) _ _,h.b1.setN (by omega) _ _,h.b2.setN (by omega) _ _⟩,h.b3.setN (by omega) _ _⟩,setN_blk [.bool (writesB k),u] 0 hB,fun a c=>(hv a c).setN hB _⟩
theorem rch_ok (HV:VAll) (HC:CAll):PChOk:=by
 intro r n c c0 c1 c2 c3 c4 c5 c6 c7 c8 c9 w hR hn hS hp ht;obtain ⟨v0,v1,v2,v3,v4,v5,v6,v7,hI,hcs⟩:=hS.ex;simp only [List.cons.injEq, and_true] at hcs;obtain ⟨rfl,rfl,rfl,rfl,rfl,rfl,rfl,rfl,rfl,rfl⟩:=hcs;have HD:=Lh (fun W=>deeds_any HV HC W);have HR:=Lh (And.intro hR hn);have HI:=Lh hI;have HPT:=Lh (And.intro hp ht);clear hS;have HCL:=Lh (fun W=>rcl_any r.s (shutB r) c2 c3 c4 c5 c6 c7 c8 c9 W);have HON:=Lh hI.one;obtain ⟨sd0,sd1,sd2,sd3,sd4,sd5,sd6,sd7⟩:=st8 hI.one;generalize hob:(!shutB r)=ob at *;have HOB:=Lh hob;clear hob hR hn hp ht hI HV HC;have H0:=Lh (Bx4.start:Bx4 w [r.s,.bool ob,c2,c3,c4,c5,c6,c7,c8,c9] c [.int .i64 0,.bool false,.pointer none,.pointer none,.int .i64 0,.slice none 0 0,.int .i64 0,.int .i64 0,.complex .f64 0 0,.complex .f64 0 0] [.int .i64 0,.int .i64 0,.string ⟨#[]⟩] 45 75 45 88 ((((w.alloc (.cells #[r.s,.bool ob,c2,c3,c4,c5,c6,c7,c8,c9] 45)).alloc (.cells c 75)).alloc (.cells #[.int .i64 0,.bool false,.pointer none,.pointer none,.int .i64 0,.slice none 0 0,.int .i64 0,.int .i64 0,.complex .f64 0 0,.complex .f64 0 0] 45)).alloc (.cells #[.int .i64 0,.int .i64 0,.string ⟨#[]⟩] 88)));go_enter Tryz.func91,Tryz.ntmps91;go_upto_region 1 with fail;generalize ((((w.alloc (.cells #[r.s,.bool ob,c2,c3,c4,c5,c6,c7,c8,c9] 45)).alloc (.cells c 75)).alloc (.cells #[.int .i64 0,.bool false,.pointer none,.pointer none,.int .i64 0,.slice none 0 0,.int .i64 0,.int .i64 0,.complex .f64 0 0,.complex .f64 0 0] 45)).alloc (.cells #[.int .i64 0,.int .i64 0,.string ⟨#[]⟩] 88))=X0 at *;go_cut [7,8] from 7 to 16 (fun v7 v8 wx=>∃ (bD:Nat) (u:Value),v7=.pointer (some ⟨bD,0,none⟩)∧v8=.bool (decide (0≤c.k∧c.k<9))∧Ch13 w [r.s,.bool ob,c2,c3,c4,c5,c6,c7,c8,c9] c c.k bD (writesB c.k) u wx)
 case first=>
  refine rgH (fun W=>Cz11 W (w.heap.size+1) c.k c.p (.int .i32 c.ch) c.o.k c.o.c c.o.s c.o.a c.o.n (.int .i32 c.o.ch) c.a c.b) H0.out.b1.c11 fun hH=>?_
  have h3:=Lh (H0.out.next bdq);clear H0;generalize hX9:World.drew _=X9 at *;clear hX9;refine ta 1 hH ?_;refine ta 2 hH ?_;refine wpAnyH_ready (rs:=[0,7]) (by kernel_rfl) (by simp) ?_;refine cons1 rfl (fun K hK=>?_) (cons1 rfl (fun K hK=>?_) AllReadyH.nil);skip;go_simp;refine (HD.out _).mono ?_;rintro e u1 ⟨b,F,rfl,hs⟩;go_wp2_with fail;replace h3:=Lh (h3.out.next hs.bel);refine hK.out _ _ h3.out.b1.c11 ?_;clear hK K hH;intro hH;try simp only [LAY]
  obtain ⟨u,hu,hf,hv⟩:=hs.at c.k;obtain ⟨M,hm,hM⟩:=hs.mi;have hl:=fun (W:World) (h:MapI Tryz.prog 68 b 9 zD F M W)=>(h.at c.k c.k0 c.k1).2
  rw [hf,hM c.k] at hl;have HL:=Lh hl;clear hl hf;refine sS (fun W=>Cz11 W (w.heap.size+1) c.k c.p (.int .i32 c.ch) c.o.k c.o.c c.o.s c.o.a c.o.n (.int .i32 c.o.ch) c.a c.b∧MapI Tryz.prog 68 b 9 zD F M W) (fun _ h=>h.1) _ _ _ _ ?_;have hH2:=And.intro hH hm;clear hH;have hH:=hH2;clear hH2;refine tq 3 (.tuple #[.agg #[.bool (writesB c.k),u],.bool (decide (0≤c.k∧c.k<9))]) hH ?_ (hy:=fun W h=>by have hq:=HL.out W h.2; go_simp);refine ta 4 hH ?_;refine ta 5 hH ?_;refine tq 6 (.bool (decide (0≤c.k∧c.k<9))) hH ?_;have hlt:=h3.out.b3.lt;have h4:=Lh (And.intro (h3.out.next (bl1 u1 [.bool false,.nilFunc] 191)) (And.intro (Blk.start u1 [.bool false,.nilFunc] 191) (And.intro (hm.next (bl1 u1 [.bool false,.nilFunc] 191)) (fun a c=>(hv a c).next (bl1 u1 [.bool false,.nilFunc] 191)))));refine rd1 7 (by kernel_rfl) rfl fun K hK=>?_
  go_simp;go_wp2_with fail;refine hK.out _ _ ⟨h4.out.1.b1.c11,h4.out.2.2.1⟩ ?_;clear hK K hH;intro hH;try simp only [LAY]
  generalize u1.alloc (.cells #[.bool false,.nilFunc] 191)=u2 at *;generalize u1.heap.size=bD at *;have h5:=Ch13.of h4.out.1 h4.out.2.1 hlt h4.out.2.2.2;refine stN 8 h4.out.2.1 [.bool (writesB c.k),u] (oneD hu) ⟨h5.bx.b1.c11,h4.out.2.2.1.setN h4.out.2.1 _⟩ (fun hH=>?_);generalize setN u2 bD 0 [.bool (writesB c.k),u]=u3 at *;rotate_left;have hlt:=h3.out.b3.lt;have hB:=Lh (Blk.start X9 [.bool false,.nilFunc] 191);replace h3:=Lh (h3.out.next (bl1 X9 [.bool false,.nilFunc] 191));go_simp;go_wp2_with fail;refine hK.out _ _ h3.out.b1.c11 ?_;clear hK K hH;intro hH;try simp only [LAY]
  generalize X9.alloc (.cells #[.bool false,.nilFunc] 191)=u0 at *;generalize X9.heap.size=bD at *;refine rd1 0 (by kernel_rfl) rfl fun K hK=>?_
  go_simp;refine (HD.out _).mono ?_;rintro e u1 ⟨b,F,rfl,hs⟩;go_wp2_with fail;replace h3:=Lh (h3.out.next hs.bel);refine hK.out _ _ h3.out.b1.c11 ?_;clear hK K hH;intro hH;try simp only [LAY]
  obtain ⟨u,hu,hf,hv⟩:=hs.at c.k;obtain ⟨M,hm,hM⟩:=hs.mi;have hl:=fun (W:World) (h:MapI Tryz.prog 68 b 9 zD F M W)=>(h.at c.k c.k0 c.k1).2
  rw [hf,hM c.k] at hl;have HL:=Lh hl;clear hl hf;refine sS (fun W=>Cz11 W (w.heap.size+1) c.k c.p (.int .i32 c.ch) c.o.k c.o.c c.o.s c.o.a c.o.n (.int .i32 c.o.ch) c.a c.b∧MapI Tryz.prog 68 b 9 zD F M W) (fun _ h=>h.1) _ _ _ _ ?_;have hH2:=And.intro hH hm;clear hH;have hH:=hH2;clear hH2;refine tq 3 (.tuple #[.agg #[.bool (writesB c.k),u],.bool (decide (0≤c.k∧c.k<9))]) hH ?_ (hy:=fun W h=>by have hq:=HL.out W h.2; go_simp);refine ta 4 hH ?_;refine ta 5 hH ?_;refine tq 6 (.bool (decide (0≤c.k∧c.k<9))) hH ?_;have h4:=Lh (And.intro h3.out (And.intro (hB.out.next hs.bel) (And.intro hm hv)));have h5:=Ch13.of h4.out.1 h4.out.2.1 hlt h4.out.2.2.2;refine stN 8 h4.out.2.1 [.bool (writesB c.k),u] (oneD hu) ⟨h5.bx.b1.c11,h4.out.2.2.1.setN h4.out.2.1 _⟩ (fun hH=>?_);generalize setN u1 bD 0 [.bool (writesB c.k),u]=u3 at *;rotate_left
  all_goals
   refine tq 9 (.bool (decide (0≤c.k∧c.k<9))) hH ?_;refine dnH ?_;go_wp2_with fail;go_meet;exact ⟨_,_,rfl,rfl,h5⟩
 case rest=>
 obtain ⟨bD,u,rfl,rfl,hch⟩:=hcut;clear H0 HD;generalize wc=W1 at *;have H1:=Lh hch;clear hch;by_cases hk:0≤c.k∧c.k<9
 ·rw [decide_eq_true hk];obtain ⟨sb,hsb⟩:∃ s,s=shutB r:=⟨_,rfl⟩;rw [←hsb] at HCL;have HSB:=Lh (And.intro hk hsb);clear hk hsb;have x0 := H1.out.bx.b0.c10;go_wp2_with (go_at_call 150; refine (HCL.out _).mono ?_; rintro e w1 ⟨rfl,hb⟩; refine Hid.out ?_);have H2:=Lh (H1.out.next hb);clear H1 hb HCL x0;cases sb with
  | true=>
   have HX:=Lh (show doR r c=(r,badA 9,[]) from (if_neg (by have:=HSB.out.1; omega)).trans (if_pos HSB.out.2.symm));refine Lh ?_;have n0 := H2.out.bx.b2.c10;have fn0 := H2.out.bx.b2.f10;have q0 := H2.out.bx.b3.c3;have fq0 := H2.out.bx.b3.f3;have x0 := H2.out.bx.b0.c10;have hI:=HI.out.next H2.out.bx.bel;have h2:=H2.out.bx.p2 [r.s,.bool ob,c2,c3,c4,c5,c6,c7,c8,c9] 0;have h3:=Lh (And.intro (h2.p3 [.int .i64 9,.int .i64 0,.string ⟨#[]⟩] 0) ((hI.setB H2.out.bx.b2 (by decide) (by decide) (by decide) [r.s,.bool ob,c2,c3,c4,c5,c6,c7,c8,c9] 0).setB h2.b3 (by decide) (by decide) (by decide) [.int .i64 9,.int .i64 0,.string ⟨#[]⟩] 0));clear h2 hI;simp only [setN, Nat.zero_add, Nat.reduceAdd] at h3;go_wp2_with fail;have h4:=Lh (show Bx4 w [r.s,.bool ob,c2,c3,c4,c5,c6,c7,c8,c9] c [r.s,.bool ob,c2,c3,c4,c5,c6,c7,c8,c9] [.int .i64 9,.int .i64 0,.string ⟨#[]⟩] 45 75 45 88 _∧_ from h3.out);obtain ⟨p0,p1,p2,p3,p4,p5,p6,p7,p8,p9⟩:=h4.out.1.b2.c10;have t0 := h4.out.1.b3.c3;exact bodyPost_ret (v:=.tuple #[.agg #[r.s,.bool ob,c2,c3,c4,c5,c6,c7,c8,c9],.agg #[.int .i64 9,.int .i64 0,.string ⟨#[]⟩],.slice none 0 0]) (by simp [results, Tryz.results91, go_sem, p0, p1, p2, p3, p4, p5, p6, p7, p8, p9, t0]) rfl ⟨h4.out.1.bel,_,_,_,_,_,_,_,_,_,_,_,by rw [HX.out]; rfl,by rw [HX.out]; exact ⟨_,_,_,_,_,_,_,_,h4.out.2,by rw [HOB.out]⟩,by rw [HX.out]; exact .inl ⟨rfl,rfl⟩⟩
  | false=>
   obtain rfl:ob=true:=by rw [←HOB.out,←HSB.out.2]; rfl
   obtain ⟨f,ca,e,hen,hd⟩:=H2.out.dv HSB.out.1.1 HSB.out.1.2;obtain rfl:u=.func (.func f) #[] ca:=by simpa using e
   have HC:=Lh (show Calls Tryz.prog f (#[.agg #[r.s,.bool true,c2,c3,c4,c5,c6,c7,c8,c9],.agg c]++ca) w1 (DPost r c w1) from by
    rcases hd with h | ⟨p,x,t,hB,h⟩
    ·exact h w1 r n c c2 c3 c4 c5 c6 c7 c8 c9 rfl HR.out.1 HR.out.2 HSB.out.2.symm (HI.out.next H2.out.bx.bel) (HPT.out.1.next H2.out.bx.bel) (HPT.out.2.next H2.out.bx.bel)
    ·exact h w1 hB r n c c2 c3 c4 c5 c6 c7 c8 c9 rfl HR.out.1 HR.out.2 HSB.out.2.symm (HI.out.next H2.out.bx.bel) (HPT.out.1.next H2.out.bx.bel) (HPT.out.2.next H2.out.bx.bel))
   clear e hd HI HPT HR HOB;have x0 := H2.out.bx.b0.c10;have y0 := H2.out.bx.b1.c11;have g1:=H2.out.bd.cell 1 rfl;unfold Ent at hen;refine Lh ?_;go_wp2_with fail;refine HC.out.mono ?_;rintro e w2 ⟨hb,d0,d1,d2,d3,d4,d5,d6,d7,d8,d9,lc,rfl,hir,hic⟩;have HX:=Lh (H2.out.bx.next hb);clear HC H2 hb hen g1 x0 y0;obtain ⟨se0,se1,se2,se3,se4,se5,se6,se7,se8,se9⟩:=st10 hir.one;have n0 := HX.out.b2.c10;have fn0 := HX.out.b2.f10;have q0 := HX.out.b3.c3;have fq0 := HX.out.b3.f3;have h2:=HX.out.p2 [d0,d1,d2,d3,d4,d5,d6,d7,d8,d9] 0;have h3:=Lh (And.intro (h2.p3 [.int .i64 (doR r c).2.1.e,.int .i64 (doR r c).2.1.n,.string (doR r c).2.1.t] 0) (And.intro ((hir.setN HX.out.b2 (by decide) (by decide) (by decide) [d0,d1,d2,d3,d4,d5,d6,d7,d8,d9]).setN h2.b3 (by decide) (by decide) (by decide) [.int .i64 (doR r c).2.1.e,.int .i64 (doR r c).2.1.n,.string (doR r c).2.1.t]) (Sl.kt (KT.setN (by decide) [.int .i64 (doR r c).2.1.e,.int .i64 (doR r c).2.1.n,.string (doR r c).2.1.t] 0 h2.b3) (Sl.kt (KT.setN (by decide) [d0,d1,d2,d3,d4,d5,d6,d7,d8,d9] 0 HX.out.b2) hic))));clear h2 hir hic HX;simp only [setN, Nat.zero_add, Nat.reduceAdd] at h3;go_wp2_with fail;have h4:=Lh (show Bx4 w [r.s,.bool true,c2,c3,c4,c5,c6,c7,c8,c9] c [d0,d1,d2,d3,d4,d5,d6,d7,d8,d9] [.int .i64 (doR r c).2.1.e,.int .i64 (doR r c).2.1.n,.string (doR r c).2.1.t] 45 75 45 88 _∧_ from h3.out);obtain ⟨p0,p1,p2,p3,p4,p5,p6,p7,p8,p9⟩:=h4.out.1.b2.c10;have t0 := h4.out.1.b3.c3;exact bodyPost_ret (v:=.tuple #[.agg #[d0,d1,d2,d3,d4,d5,d6,d7,d8,d9],.agg #[.int .i64 (doR r c).2.1.e,.int .i64 (doR r c).2.1.n,.string (doR r c).2.1.t],lc]) (by simp [results, Tryz.results91, go_sem, p0, p1, p2, p3, p4, p5, p6, p7, p8, p9, t0]) rfl ⟨h4.out.1.bel,_,_,_,_,_,_,_,_,_,_,_,rfl,h4.out.2.1,h4.out.2.2⟩
 ·have HX:=Lh (show doR r c=(r,badA 1,[]) from if_pos (by omega));have hkd:decide (0≤c.k∧c.k<9)=false:=decide_eq_false hk;rw [hkd];clear hkd hk;have n0 := H1.out.bx.b2.c10;have fn0 := H1.out.bx.b2.f10;have q0 := H1.out.bx.b3.c3;have fq0 := H1.out.bx.b3.f3;have x0 := H1.out.bx.b0.c10;have hI:=HI.out.next H1.out.bx.bel;have h2:=H1.out.bx.p2 [r.s,.bool ob,c2,c3,c4,c5,c6,c7,c8,c9] 0;have h3:=Lh (And.intro (h2.p3 [.int .i64 1,.int .i64 0,.string ⟨#[]⟩] 0) ((hI.setB H1.out.bx.b2 (by decide) (by decide) (by decide) [r.s,.bool ob,c2,c3,c4,c5,c6,c7,c8,c9] 0).setB h2.b3 (by decide) (by decide) (by decide) [.int .i64 1,.int .i64 0,.string ⟨#[]⟩] 0));clear h2 hI;simp only [setN, Nat.zero_add, Nat.reduceAdd] at h3;go_wp2_with fail;have h4:=Lh (show Bx4 w [r.s,.bool ob,c2,c3,c4,c5,c6,c7,c8,c9] c [r.s,.bool ob,c2,c3,c4,c5,c6,c7,c8,c9] [.int .i64 1,.int .i64 0,.string ⟨#[]⟩] 45 75 45 88 _∧_ from h3.out);obtain ⟨p0,p1,p2,p3,p4,p5,p6,p7,p8,p9⟩:=h4.out.1.b2.c10;have t0 := h4.out.1.b3.c3;exact bodyPost_ret (v:=.tuple #[.agg #[r.s,.bool ob,c2,c3,c4,c5,c6,c7,c8,c9],.agg #[.int .i64 1,.int .i64 0,.string ⟨#[]⟩],.slice none 0 0]) (by simp [results, Tryz.results91, go_sem, p0, p1, p2, p3, p4, p5, p6, p7, p8, p9, t0]) rfl ⟨h4.out.1.bel,_,_,_,_,_,_,_,_,_,_,_,by rw [HX.out]; rfl,by rw [HX.out]; exact ⟨_,_,_,_,_,_,_,_,h4.out.2,by rw [HOB.out]⟩,by rw [HX.out]; exact .inl ⟨rfl,rfl⟩⟩
end Go.Proofs.YtemicfjmidohfaaGreatDoor
set_option maxRecDepth 100000
set_option maxHeartbeats 12800000
namespace Go.Proofs.YtemicfjmidohfaaGreatDoor
open Go Go.Proofs Go.RowKit
theorem rdo_ok (H:PChOk):PDoOk:=by
 intro r n c c0 c1 c2 c3 c4 c5 c6 c7 c8 c9 w hR hn hS hp ht
 have HC:=Lh (fun (U:World) (hb:Below w.heap.size w U)=>H r n c c0 c1 c2 c3 c4 c5 c6 c7 c8 c9 U hR hn (hS.next hb) (hp.next hb) (ht.next hb));obtain ⟨sd0,sd1,sd2,sd3,sd4,sd5,sd6,sd7,sd8,sd9⟩:=st10 hS.one;clear hp ht hR hn H hS;generalize hq:doR r c=q at *
 clear hq;obtain ⟨q,x,t⟩:=q
 dsimp only at HC ⊢
 have H0:=Lh (Bx4.start:Bx4 w [c0,c1,c2,c3,c4,c5,c6,c7,c8,c9] c [.int .i64 0,.bool false,.pointer none,.pointer none,.int .i64 0,.slice none 0 0,.int .i64 0,.int .i64 0,.complex .f64 0 0,.complex .f64 0 0] [.int .i64 0,.int .i64 0,.string ⟨#[]⟩] 45 75 45 88 ((((w.alloc (.cells #[c0,c1,c2,c3,c4,c5,c6,c7,c8,c9] 45)).alloc (.cells c 75)).alloc (.cells #[.int .i64 0,.bool false,.pointer none,.pointer none,.int .i64 0,.slice none 0 0,.int .i64 0,.int .i64 0,.complex .f64 0 0,.complex .f64 0 0] 45)).alloc (.cells #[.int .i64 0,.int .i64 0,.string ⟨#[]⟩] 88)))
 go_enter Tryz.func53,Tryz.ntmps53
 go_upto_region 1 with fail
 generalize World.alloc _ _=X0 at *
 have x0 := H0.out.b0.c10;have y0 := H0.out.b1.c11;go_wp2_with fail;refine (HC.out _ H0.out.bel).mono ?_;rintro e w1 ⟨hb,d0,d1,d2,d3,d4,d5,d6,d7,d8,d9,lc,rfl,hir,-⟩
 have HON:=Lh hir.one;obtain ⟨se0,se1,se2,se3,se4,se5,se6,se7,se8,se9⟩:=st10 hir.one;have hA:=bl2 w1 [d0,d1,d2,d3,d4,d5,d6,d7,d8,d9] [x.e,x.n,.string x.t] 45 88;have hF:=H0.out.next hb;have hlt:=hF.b3.lt;have h3:=Lh (show Bx4 w [c0,c1,c2,c3,c4,c5,c6,c7,c8,c9] c [.int .i64 0,.bool false,.pointer none,.pointer none,.int .i64 0,.slice none 0 0,.int .i64 0,.int .i64 0,.complex .f64 0 0,.complex .f64 0 0] [.int .i64 0,.int .i64 0,.string ⟨#[]⟩] 45 75 45 88 ((w1.alloc (.cells #[d0,d1,d2,d3,d4,d5,d6,d7,d8,d9] 45)).alloc (.cells #[x.e,x.n,.string x.t] 88))∧Blk ((w1.alloc (.cells #[d0,d1,d2,d3,d4,d5,d6,d7,d8,d9] 45)).alloc (.cells #[x.e,x.n,.string x.t] 88)) w1.heap.size [d0,d1,d2,d3,d4,d5,d6,d7,d8,d9] 45∧Blk ((w1.alloc (.cells #[d0,d1,d2,d3,d4,d5,d6,d7,d8,d9] 45)).alloc (.cells #[x.e,x.n,.string x.t] 88)) (w1.heap.size+1) [x.e,x.n,.string x.t] 88∧IsRp ((w1.alloc (.cells #[d0,d1,d2,d3,d4,d5,d6,d7,d8,d9] 45)).alloc (.cells #[x.e,x.n,.string x.t] 88)) q [d0,d1,d2,d3,d4,d5,d6,d7,d8,d9] from ⟨hF.next hA,(Blk.start w1 _ _).alloc _,Blk.startAt (by simp),hir.next hA⟩);clear H0 hF hb hA HC hir x0 y0 sd0 sd1 sd2 sd3 sd4 sd5 sd6 sd7 sd8 sd9
 go_upto_region 2 with fail
 generalize World.alloc _ _=W2 at *
 generalize w1.heap.size=bN at *
 replace h3:=Lh (And.intro (h3.out.1.next bdq) (And.intro (h3.out.2.1.next bdq) (And.intro (h3.out.2.2.1.next bdq) (h3.out.2.2.2.next bdq))))
 refine rgH (fun W=>Cz10 W bN d0 d1 d2 d3 d4 d5 d6 d7 d8 d9∧Cz3 W (bN+1) x.e x.n (.string x.t)) ⟨h3.out.2.1.c10,h3.out.2.2.1.c3⟩ fun hH=>?_
 generalize hX9:World.drew _=X9 at *
 clear hX9;refine ta 0 hH ?_;refine ta 1 hH ?_;have h4:=And.intro (h3.out.1.p2 [d0,d1,d2,d3,d4,d5,d6,d7,d8,d9] 0) (And.intro (h3.out.2.1.setN (b:=w.heap.size+1+1) (by omega) [d0,d1,d2,d3,d4,d5,d6,d7,d8,d9] 0) (And.intro (h3.out.2.2.1.setN (b:=w.heap.size+1+1) (by omega) [d0,d1,d2,d3,d4,d5,d6,d7,d8,d9] 0) (h3.out.2.2.2.setN h3.out.1.b2 (by decide) (by decide) (by decide) [d0,d1,d2,d3,d4,d5,d6,d7,d8,d9])));refine stN 2 h3.out.1.b2 [d0,d1,d2,d3,d4,d5,d6,d7,d8,d9] (HON.out) ⟨h4.2.1.c10,h4.2.2.1.c3⟩ (fun hH=>?_);generalize setN X9 (w.heap.size+1+1) 0 [d0,d1,d2,d3,d4,d5,d6,d7,d8,d9]=u1 at *
 replace h3:=Lh (show Bx4 w [c0,c1,c2,c3,c4,c5,c6,c7,c8,c9] c [d0,d1,d2,d3,d4,d5,d6,d7,d8,d9] [.int .i64 0,.int .i64 0,.string ⟨#[]⟩] 45 75 45 88 u1∧_ from h4)
 clear h4;have h4:=And.intro (h3.out.1.p3 [x.e,x.n,.string x.t] 0) (And.intro (h3.out.2.1.setN (b:=w.heap.size+1+1+1) (by omega) [x.e,x.n,.string x.t] 0) (And.intro (h3.out.2.2.1.setN (b:=w.heap.size+1+1+1) (by omega) [x.e,x.n,.string x.t] 0) (h3.out.2.2.2.setN h3.out.1.b3 (by decide) (by decide) (by decide) [x.e,x.n,.string x.t])));refine stN 3 h3.out.1.b3 [x.e,x.n,.string x.t] (by simp [Value.oneCell']) ⟨h4.2.1.c10,h4.2.2.1.c3⟩ (fun hH=>?_);generalize setN u1 (w.heap.size+1+1+1) 0 [x.e,x.n,.string x.t]=u2 at *
 replace h3:=Lh (show Bx4 w [c0,c1,c2,c3,c4,c5,c6,c7,c8,c9] c [d0,d1,d2,d3,d4,d5,d6,d7,d8,d9] [x.e,x.n,.string x.t] 45 75 45 88 u2∧_ from h4)
 clear h4;refine dnH ?_;clear hH;obtain ⟨p0,p1,p2,p3,p4,p5,p6,p7,p8,p9⟩:=h3.out.1.b2.c10;have t0 := h3.out.1.b3.c3;go_wp2_with fail
 exact bodyPost_ret (by simp [results, Tryz.results53, go_sem, p0, p1, p2, p3, p4, p5, p6, p7, p8, p9, t0]) rfl ⟨h3.out.1.bel,_,_,_,_,_,_,_,_,_,_,rfl,h3.out.2.2.2⟩
theorem rlook_ok (H:PDoOk):PLookOk:=by
 intro r n c c0 c1 c2 c3 c4 c5 c6 c7 c8 c9 w hR hn hS hp ht
 have HC:=Lh (fun (U:World) (hb:Below w.heap.size w U)=>H r n c c0 c1 c2 c3 c4 c5 c6 c7 c8 c9 U hR hn (hS.next hb) (hp.next hb) (ht.next hb));obtain ⟨sd0,sd1,sd2,sd3,sd4,sd5,sd6,sd7,sd8,sd9⟩:=st10 hS.one;clear hp ht hR hn H hS;generalize hq:doR r c=q at *
 clear hq;obtain ⟨q,x,t⟩:=q
 dsimp only at HC ⊢
 have H0:=Lh (Bx3.start:Bx3 w [c0,c1,c2,c3,c4,c5,c6,c7,c8,c9] c [.int .i64 0,.int .i64 0,.string ⟨#[]⟩] 45 75 88 (((w.alloc (.cells #[c0,c1,c2,c3,c4,c5,c6,c7,c8,c9] 45)).alloc (.cells c 75)).alloc (.cells #[.int .i64 0,.int .i64 0,.string ⟨#[]⟩] 88)))
 go_enter Tryz.func58,Tryz.ntmps58
 go_upto_region 1 with fail
 generalize World.alloc _ _=X0 at *
 have x0 := H0.out.b0.c10;have y0 := H0.out.b1.c11;go_wp2_with fail;refine (HC.out _ H0.out.bel).mono ?_;rintro e w1 ⟨hb,d0,d1,d2,d3,d4,d5,d6,d7,d8,d9,rfl,hir⟩
 obtain ⟨se0,se1,se2,se3,se4,se5,se6,se7,se8,se9⟩:=st10 hir.one;have hA:=bl2 w1 [d0,d1,d2,d3,d4,d5,d6,d7,d8,d9] [x.e,x.n,.string x.t] 45 88;have h3:=Lh (show Bx3 w [c0,c1,c2,c3,c4,c5,c6,c7,c8,c9] c [.int .i64 0,.int .i64 0,.string ⟨#[]⟩] 45 75 88 ((w1.alloc (.cells #[d0,d1,d2,d3,d4,d5,d6,d7,d8,d9] 45)).alloc (.cells #[x.e,x.n,.string x.t] 88))∧Blk ((w1.alloc (.cells #[d0,d1,d2,d3,d4,d5,d6,d7,d8,d9] 45)).alloc (.cells #[x.e,x.n,.string x.t] 88)) (w1.heap.size+1) [x.e,x.n,.string x.t] 88 from ⟨(H0.out.next hb).next hA,Blk.startAt (by simp)⟩);clear H0 hb hA HC hir x0 y0 sd0 sd1 sd2 sd3 sd4 sd5 sd6 sd7 sd8 sd9
 go_upto_region 2 with fail
 generalize World.alloc _ _=W2 at *
 generalize w1.heap.size=bN at *
 have g0 := h3.out.2.c3;have n0 := h3.out.1.b2.c3;have fn0 := h3.out.1.b2.f3;have HP:=Lh (h3.out.1.p2 [x.e,x.n,.string x.t] 0);simp only [setN, Nat.zero_add, Nat.reduceAdd] at HP
 go_wp2_with fail
 have t0 := HP.out.b2.c3;exact bodyPost_ret (by simp [results, Tryz.results58, go_sem, t0]) rfl ⟨rfl,HP.out.bel⟩
theorem rpl_of (HV:VAll) (HC:CAll):PAll:=
 have ch:=rch_ok HV HC;have d:=rdo_ok ch
 { new:=rnew_ok,do_:=d,look:=rlook_ok d,ch:=ch,shut:=rshut_ok
   wr:=rwr_ok HV HC
  }
theorem rpl_ok:PAll:=rpl_of vall_ok call_ok
end Go.Proofs.YtemicfjmidohfaaGreatDoor
