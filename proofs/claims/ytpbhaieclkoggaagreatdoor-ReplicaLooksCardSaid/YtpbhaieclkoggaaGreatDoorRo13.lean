import Derived.Test.YtpbhaieclkoggaaGreatDoorRn13
set_option maxRecDepth 100000
set_option maxHeartbeats 12800000
namespace Go.Proofs.YtpbhaieclkoggaaGreatDoor
open Go Go.Proofs Go.RowKit
theorem MapI.at {W:World} {b n:Nat} {F:Int→Value} {K:Int→Bool} (h:MapI Tryz.prog 50 b n zD F K W) (k:Int) (h0 : -9223372036854775808≤k) (h1:k≤9223372036854775807):(Instr.lookup 89 (.map (some b)) k false).run Tryz.prog W=.ok (F k) W∧(Instr.lookup 89 (.map (some b)) k true).run Tryz.prog W=.ok (.tuple #[F k,.bool (K k)]) W:=
 h.look Tryz.underlying50 und_mp (show (zeroValue 87).run Tryz.prog W=.ok zD W from by kernel_rfl) (i:=k) (by simp [Lit.wf]; exact ⟨h0,h1⟩)
theorem DS.at {W0 W:World} {b:Nat} {F:Int→Value} (h:DS W0 b 9 F W) (k:Int):∃ u:Value,u.oneCell'=true∧F k=.agg #[.bool (writesB k),u]∧(0≤k→k<9→DeedV W k (.agg #[.bool (writesB k),u])):=by
 by_cases hk:0≤k∧k<9
 ·obtain ⟨f,ca,e,hd⟩:=h.ok k hk.1 hk.2
  exact ⟨_,rfl,e,fun _ _=>⟨f,ca,rfl,hd⟩⟩
 ·have hw:writesB k=false:=by unfold writesB; simp; omega
  rw [hw];exact ⟨_,rfl,h.no k (by omega),fun a b=>absurd ⟨a,b⟩ hk⟩
theorem MapI.setN {P:Program} {kt:TypeId} {b n B:Nat} {z:Value} {F:Int→Value} {K:Int→Bool} {W:World} {zs:List Value} {t:TypeId} (h:MapI P kt b n z F K W) (hB:Blk W B zs t) (us:List Value):MapI P kt b n z F K (setN W B 0 us):=by
 obtain ⟨D,⟨es,cl,hb,r⟩,ha⟩:=h;have hne:b≠B:=by rintro rfl; unfold Blk at hB; rw [hb] at hB; cases hB
 exact ⟨D,⟨es,cl,(setN_other us 0 hne).trans hb,r⟩,ha⟩
theorem DeedV.setN {W:World} {k:Int} {v x y:Value} {b:Nat} {t:TypeId} (h:DeedV W k v) (hB:Blk W b [x,y] t) (us:List Value):DeedV (setN W b 0 us) k v:=
 h.kp fun p u t' hp=>hp.setN (by rintro rfl; unfold Blk at hp hB; rw [hp] at hB; simp at hB) us 0
theorem oneD {b:Bool} {u:Value} (h:u.oneCell'=true):∀ x∈([.bool b,u]:List Value),x.oneCell'=true:=by
 intro x hx
 rcases List.mem_cons.1 hx with rfl | hx
 ·rfl
 ·obtain rfl:=List.mem_singleton.1 hx; exact h
theorem sS {P:Program} {md:Region.Mode} {ops:Array Oper} {Q:Exit→Act→World→Prop} {S:World→Prop} (S':World→Prop) (hs:∀ w,S' w→S w):∀ (fuel:Nat) (listed:Array Bool) (a:Act) (w:World),wpAnyH P md ops Q S' fuel listed a w→wpAnyH P md ops Q S fuel listed a w
 | 0,_,_,_,h=>h
 | fuel+1,_,_,_,h=>⟨h.1,fun i hi=>wpOp_mono (fun _ _ h'=>⟨hs _ h'.1,sS S' hs fuel _ _ _ h'.2⟩) (h.2 i hi)⟩
@[local go_sem] theorem fieldD0 (u v:Value) (W:World):(Instr.field 87 (.agg #[u,v]) 0).run Tryz.prog W=.ok u W:=by kernel_rfl
theorem rwr_ok (HV:VAll) (HC:CAll):PWrOk:=by
 intro k w h0 h1
 have HD:=Lh (fun W=>deeds_any HV HC W);have HB:=Lh (And.intro h0 h1);clear HV HC h0 h1
 go_enter Tryz.func19,Tryz.ntmps19
 go_wp2_with (go_at_call 21; refine (HD.out _).mono ?_; rintro e u_ ⟨b,F,rfl,hs⟩; refine Hid.out ?_)
 obtain ⟨u,hu,hf,-⟩:=hs.at k;obtain ⟨K,hm,-⟩:=hs.mi;have hl:=(hm.at k HB.out.1 HB.out.2).1;rw [hf] at hl;have HS:=Lh hs.bel;obtain ⟨wb,hwb⟩:∃ x,x=writesB k:=⟨_,rfl⟩
 rw [←hwb] at hl;have HW:=Lh hwb;clear hs hm hu hwb hf;refine Lh ?_;go_wp2_with fail
 go_ret
 exact ⟨by rw [←HW.out]; rfl,HS.out⟩
structure Ch13 (w:World) (R L:List Value) (k:Int) (bD:Nat) (wb:Bool) (u:Value) (W:World):Prop where
 bx:Bx4 w R L [.int .i64 0,.bool false,.pointer none,.pointer none,.int .i64 0,.slice none 0 0,.int .i64 0,.int .i64 0,.complex .f64 0 0,.complex .f64 0 0] [.int .i64 0,.int .i64 0,.string ⟨#[]⟩] 41 57 41 59 W
 bd:Blk W bD [.bool wb,u] 87
 dv:0≤k→k<9→DeedV W k (.agg #[.bool wb,u])
theorem Ch13.next {w W U:World} {R L:List Value} {k:Int} {bD:Nat} {wb:Bool} {u:Value} (h:Ch13 w R L k bD wb u W) (hb:Below W.heap.size W U):Ch13 w R L k bD wb u U:=⟨h.bx.next hb,h.bd.next hb,fun a c=>(h.dv a c).next hb⟩
theorem Ch13.of {w W:World} {R L:List Value} {k:Int} {bD:Nat} {u:Value} (h:Bx4 w R L [.int .i64 0,.bool false,.pointer none,.pointer none,.int .i64 0,.slice none 0 0,.int .i64 0,.int .i64 0,.complex .f64 0 0,.complex .f64 0 0] [.int .i64 0,.int .i64 0,.string ⟨#[]⟩] 41 57 41 59 W) (hB:Blk W bD [.bool false,.nilFunc] 87) (hl:w.heap.size+1+1+1<bD) (hv:0≤k→k<9→DeedV W k (.agg #[.bool (writesB k),u])):
  Ch13 w R L k bD (writesB k) u (setN W bD 0 [.bool (writesB k),u]):=
 ⟨⟨⟨setN_below (by omega) _ _ h.bel,h.b0.setN (by omega) _ _,h.b1.setN (by omega) _ _,h.b2.setN (by omega) _ _⟩,h.b3.setN (by omega) _ _⟩,setN_blk [.bool (writesB k),u] 0 hB,fun a c=>(hv a c).setN hB _⟩
theorem rch_ok (HV:VAll) (HC:CAll):PChOk:=by
 intro r n c c0 c1 c2 c3 c4 c5 c6 c7 c8 c9 w hR hn hS hp ht
 obtain ⟨v0,v1,v2,v3,v4,v5,v6,v7,hI,hcs⟩:=hS.ex;simp only [List.cons.injEq, and_true] at hcs
 obtain ⟨rfl,rfl,rfl,rfl,rfl,rfl,rfl,rfl,rfl,rfl⟩:=hcs;have HD:=Lh (fun W=>deeds_any HV HC W);have HR:=Lh (And.intro hR hn);have HI:=Lh hI;have HPT:=Lh (And.intro hp ht);clear hS;have HCL:=Lh (fun W=>rcl_any r.s (shutB r) c2 c3 c4 c5 c6 c7 c8 c9 W);have HON:=Lh hI.one;obtain ⟨sd0,sd1,sd2,sd3,sd4,sd5,sd6,sd7⟩:=st8 hI.one;generalize hob:(!shutB r)=ob at *
 have HOB:=Lh hob;clear hob hR hn hp ht hI HV HC;have H0:=Lh (Bx4.start:Bx4 w [r.s,.bool ob,c2,c3,c4,c5,c6,c7,c8,c9] [c.k,c.p,.int .i32 c.ch,c.o.k,c.o.c,c.o.s,c.o.a,c.o.n,.int .i32 c.o.ch,c.a,c.b] [.int .i64 0,.bool false,.pointer none,.pointer none,.int .i64 0,.slice none 0 0,.int .i64 0,.int .i64 0,.complex .f64 0 0,.complex .f64 0 0] [.int .i64 0,.int .i64 0,.string ⟨#[]⟩] 41 57 41 59 ((((w.alloc (.cells #[r.s,.bool ob,c2,c3,c4,c5,c6,c7,c8,c9] 41)).alloc (.cells #[c.k,c.p,.int .i32 c.ch,c.o.k,c.o.c,c.o.s,c.o.a,c.o.n,.int .i32 c.o.ch,c.a,c.b] 57)).alloc (.cells #[.int .i64 0,.bool false,.pointer none,.pointer none,.int .i64 0,.slice none 0 0,.int .i64 0,.int .i64 0,.complex .f64 0 0,.complex .f64 0 0] 41)).alloc (.cells #[.int .i64 0,.int .i64 0,.string ⟨#[]⟩] 59)))
 go_enter Tryz.func7,Tryz.ntmps7
 go_upto_region 1 with fail
 generalize ((((w.alloc (.cells #[r.s,.bool ob,c2,c3,c4,c5,c6,c7,c8,c9] 41)).alloc (.cells #[c.k,c.p,.int .i32 c.ch,c.o.k,c.o.c,c.o.s,c.o.a,c.o.n,.int .i32 c.o.ch,c.a,c.b] 57)).alloc (.cells #[.int .i64 0,.bool false,.pointer none,.pointer none,.int .i64 0,.slice none 0 0,.int .i64 0,.int .i64 0,.complex .f64 0 0,.complex .f64 0 0] 41)).alloc (.cells #[.int .i64 0,.int .i64 0,.string ⟨#[]⟩] 59))=X0 at *
 go_cut [7,8] from 7 to 16 (fun v7 v8 wx=>∃ (bD:Nat) (u:Value),v7=.pointer (some ⟨bD,0,none⟩)∧v8=.bool (decide (0≤c.k∧c.k<9))∧Ch13 w [r.s,.bool ob,c2,c3,c4,c5,c6,c7,c8,c9] [c.k,c.p,.int .i32 c.ch,c.o.k,c.o.c,c.o.s,c.o.a,c.o.n,.int .i32 c.o.ch,c.a,c.b] c.k bD (writesB c.k) u wx)
 case first=>
  refine rgH (fun W=>Cz11 W (w.heap.size+1) c.k c.p (.int .i32 c.ch) c.o.k c.o.c c.o.s c.o.a c.o.n (.int .i32 c.o.ch) c.a c.b) H0.out.b1.c11 fun hH=>?_
  have h3:=Lh (H0.out.next bdq);clear H0;generalize hX9:World.drew _=X9 at *
  clear hX9;refine tq 1 (.pointer (some ⟨w.heap.size+1,0,none⟩)) hH ?_;refine tq 2 c.k hH ?_;refine wpAnyH_ready (rs:=[0,7]) (by kernel_rfl) (by simp) ?_;refine cons1 rfl (fun K hK=>?_) (cons1 rfl (fun K hK=>?_) AllReadyH.nil)
  ·skip
   go_simp
   refine (HD.out _).mono ?_
   rintro e u1 ⟨b,F,rfl,hs⟩
   go_wp2_with fail
   replace h3:=Lh (h3.out.next hs.bel)
   refine hK.out _ _ h3.out.b1.c11 ?_;clear hK K hH;intro hH
   try simp only [LAY]
   obtain ⟨u,hu,hf,hv⟩:=hs.at c.k;obtain ⟨M,hm,hM⟩:=hs.mi;have hl:=fun (W:World) (h:MapI Tryz.prog 50 b 9 zD F M W)=>(h.at c.k c.k0 c.k1).2
   rw [hf,hM c.k] at hl;have HL:=Lh hl;clear hl hf;refine sS (fun W=>Cz11 W (w.heap.size+1) c.k c.p (.int .i32 c.ch) c.o.k c.o.c c.o.s c.o.a c.o.n (.int .i32 c.o.ch) c.a c.b∧MapI Tryz.prog 50 b 9 zD F M W) (fun _ h=>h.1) _ _ _ _ ?_;have hH2:=And.intro hH hm;clear hH;have hH:=hH2;clear hH2;refine tq 3 (.tuple #[.agg #[.bool (writesB c.k),u],.bool (decide (0≤c.k∧c.k<9))]) hH ?_ (hy:=fun W h=>by have hq:=HL.out W h.2; go_simp);refine tq 4 (.tuple #[.agg #[.bool (writesB c.k),u],.bool (decide (0≤c.k∧c.k<9))]) hH ?_;refine tq 5 (.agg #[.bool (writesB c.k),u]) hH ?_;refine tq 6 (.bool (decide (0≤c.k∧c.k<9))) hH ?_;have hlt:=h3.out.b3.lt;have h4:=Lh (And.intro (h3.out.next (bl1 u1 [.bool false,.nilFunc] 87)) (And.intro (Blk.start u1 [.bool false,.nilFunc] 87) (And.intro (hm.next (bl1 u1 [.bool false,.nilFunc] 87)) (fun a c=>(hv a c).next (bl1 u1 [.bool false,.nilFunc] 87)))));refine rd1 7 (by kernel_rfl) rfl fun K hK=>?_
   go_simp
   go_wp2_with fail
   refine hK.out _ _ ⟨h4.out.1.b1.c11,h4.out.2.2.1⟩ ?_;clear hK K hH;intro hH
   try simp only [LAY]
   generalize u1.alloc (.cells #[.bool false,.nilFunc] 87)=u2 at *
   generalize u1.heap.size=bD at *
   have h5:=Ch13.of h4.out.1 h4.out.2.1 hlt h4.out.2.2.2;refine stN 8 h4.out.2.1 [.bool (writesB c.k),u] (oneD hu) ⟨h5.bx.b1.c11,h4.out.2.2.1.setN h4.out.2.1 _⟩ (fun hH=>?_);generalize setN u2 bD 0 [.bool (writesB c.k),u]=u3 at *
   refine tq 9 (.bool (decide (0≤c.k∧c.k<9))) hH ?_;refine dnH ?_;go_wp2_with fail
   go_meet
   exact ⟨_,_,rfl,rfl,h5⟩
  ·have hlt:=h3.out.b3.lt
   have hB:=Lh (Blk.start X9 [.bool false,.nilFunc] 87)
   replace h3:=Lh (h3.out.next (bl1 X9 [.bool false,.nilFunc] 87))
   go_simp
   go_wp2_with fail
   refine hK.out _ _ h3.out.b1.c11 ?_;clear hK K hH;intro hH
   try simp only [LAY]
   generalize X9.alloc (.cells #[.bool false,.nilFunc] 87)=u0 at *
   generalize X9.heap.size=bD at *
   refine rd1 0 (by kernel_rfl) rfl fun K hK=>?_
   go_simp
   refine (HD.out _).mono ?_
   rintro e u1 ⟨b,F,rfl,hs⟩
   go_wp2_with fail
   replace h3:=Lh (h3.out.next hs.bel)
   refine hK.out _ _ h3.out.b1.c11 ?_;clear hK K hH;intro hH
   try simp only [LAY]
   obtain ⟨u,hu,hf,hv⟩:=hs.at c.k;obtain ⟨M,hm,hM⟩:=hs.mi;have hl:=fun (W:World) (h:MapI Tryz.prog 50 b 9 zD F M W)=>(h.at c.k c.k0 c.k1).2
   rw [hf,hM c.k] at hl;have HL:=Lh hl;clear hl hf;refine sS (fun W=>Cz11 W (w.heap.size+1) c.k c.p (.int .i32 c.ch) c.o.k c.o.c c.o.s c.o.a c.o.n (.int .i32 c.o.ch) c.a c.b∧MapI Tryz.prog 50 b 9 zD F M W) (fun _ h=>h.1) _ _ _ _ ?_;have hH2:=And.intro hH hm;clear hH;have hH:=hH2;clear hH2;refine tq 3 (.tuple #[.agg #[.bool (writesB c.k),u],.bool (decide (0≤c.k∧c.k<9))]) hH ?_ (hy:=fun W h=>by have hq:=HL.out W h.2; go_simp);refine tq 4 (.tuple #[.agg #[.bool (writesB c.k),u],.bool (decide (0≤c.k∧c.k<9))]) hH ?_;refine tq 5 (.agg #[.bool (writesB c.k),u]) hH ?_;refine tq 6 (.bool (decide (0≤c.k∧c.k<9))) hH ?_;have h4:=Lh (And.intro h3.out (And.intro (hB.out.next hs.bel) (And.intro hm hv)));have h5:=Ch13.of h4.out.1 h4.out.2.1 hlt h4.out.2.2.2;refine stN 8 h4.out.2.1 [.bool (writesB c.k),u] (oneD hu) ⟨h5.bx.b1.c11,h4.out.2.2.1.setN h4.out.2.1 _⟩ (fun hH=>?_);generalize setN u1 bD 0 [.bool (writesB c.k),u]=u3 at *
   refine tq 9 (.bool (decide (0≤c.k∧c.k<9))) hH ?_;refine dnH ?_;go_wp2_with fail
   go_meet
   exact ⟨_,_,rfl,rfl,h5⟩
 case rest=>
 obtain ⟨bD,u,rfl,rfl,hch⟩:=hcut;clear H0 HD;generalize wc=W1 at *
 have H1:=Lh hch;clear hch;by_cases hk:0≤c.k∧c.k<9
 ·rw [decide_eq_true hk]
  obtain ⟨sb,hsb⟩:∃ s,s=shutB r:=⟨_,rfl⟩
  rw [←hsb] at HCL;have HSB:=Lh (And.intro hk hsb);clear hk hsb;have x0 := H1.out.bx.b0.c10;go_wp2_with (go_at_call 16; refine (HCL.out _).mono ?_; rintro e w1 ⟨rfl,hb⟩; refine Hid.out ?_)
  have H2:=Lh (H1.out.next hb);clear H1 hb HCL x0
  cases sb with
  | true=>
   have HX:=Lh (show doR r c=(r,badA 9,[]) from (if_neg (by have:=HSB.out.1; omega)).trans (if_pos HSB.out.2.symm));refine Lh ?_;have n0 := H2.out.bx.b2.c10;have fn0 := H2.out.bx.b2.f10;have q0 := H2.out.bx.b3.c3;have fq0 := H2.out.bx.b3.f3;have x0 := H2.out.bx.b0.c10;have hI:=HI.out.next H2.out.bx.bel;have h2:=H2.out.bx.p2 [r.s,.bool ob,c2,c3,c4,c5,c6,c7,c8,c9] 0;have h3:=Lh (And.intro (h2.p3 [.int .i64 9,.int .i64 0,.string ⟨#[]⟩] 0) ((hI.setB H2.out.bx.b2 (by decide) (by decide) (by decide) [r.s,.bool ob,c2,c3,c4,c5,c6,c7,c8,c9] 0).setB h2.b3 (by decide) (by decide) (by decide) [.int .i64 9,.int .i64 0,.string ⟨#[]⟩] 0));clear h2 hI;simp only [setN, Nat.zero_add, Nat.reduceAdd] at h3
   go_wp2_with fail
   have h4:=Lh (show Bx4 w [r.s,.bool ob,c2,c3,c4,c5,c6,c7,c8,c9] [c.k,c.p,.int .i32 c.ch,c.o.k,c.o.c,c.o.s,c.o.a,c.o.n,.int .i32 c.o.ch,c.a,c.b] [r.s,.bool ob,c2,c3,c4,c5,c6,c7,c8,c9] [.int .i64 9,.int .i64 0,.string ⟨#[]⟩] 41 57 41 59 _∧_ from h3.out);obtain ⟨p0,p1,p2,p3,p4,p5,p6,p7,p8,p9⟩:=h4.out.1.b2.c10;have t0 := h4.out.1.b3.c3;exact bodyPost_ret (v:=.tuple #[.agg #[r.s,.bool ob,c2,c3,c4,c5,c6,c7,c8,c9],.agg #[.int .i64 9,.int .i64 0,.string ⟨#[]⟩],.slice none 0 0]) (by simp [results, Tryz.results7, go_sem, p0, p1, p2, p3, p4, p5, p6, p7, p8, p9, t0]) rfl ⟨h4.out.1.bel,_,_,_,_,_,_,_,_,_,_,_,by rw [HX.out]; rfl,by rw [HX.out]; exact ⟨_,_,_,_,_,_,_,_,h4.out.2,by rw [HOB.out]⟩,by rw [HX.out]; exact .inl ⟨rfl,rfl⟩⟩
  | false=>
   obtain rfl:ob=true:=by rw [←HOB.out,←HSB.out.2]; rfl
   obtain ⟨f,ca,e,hen,hd⟩:=H2.out.dv HSB.out.1.1 HSB.out.1.2;obtain rfl:u=.func (.func f) #[] ca:=by simpa using e
   have HC:=Lh (show Calls Tryz.prog f (#[.agg #[r.s,.bool true,c2,c3,c4,c5,c6,c7,c8,c9],.agg #[c.k,c.p,.int .i32 c.ch,c.o.k,c.o.c,c.o.s,c.o.a,c.o.n,.int .i32 c.o.ch,c.a,c.b]]++ca) w1 (DPost r c w1) from by
    rcases hd with h | ⟨p,x,t,hB,h⟩
    ·exact h w1 r n c c2 c3 c4 c5 c6 c7 c8 c9 rfl HR.out.1 HR.out.2 HSB.out.2.symm (HI.out.next H2.out.bx.bel) (HPT.out.1.next H2.out.bx.bel) (HPT.out.2.next H2.out.bx.bel)
    ·exact h w1 hB r n c c2 c3 c4 c5 c6 c7 c8 c9 rfl HR.out.1 HR.out.2 HSB.out.2.symm (HI.out.next H2.out.bx.bel) (HPT.out.1.next H2.out.bx.bel) (HPT.out.2.next H2.out.bx.bel))
   clear e hd HI HPT HR HOB;have x0 := H2.out.bx.b0.c10;have y0 := H2.out.bx.b1.c11;have g1:=H2.out.bd.cell 1 rfl;unfold Ent at hen
   refine Lh ?_;go_wp2_with fail
   refine HC.out.mono ?_
   rintro e w2 ⟨hb,d0,d1,d2,d3,d4,d5,d6,d7,d8,d9,lc,rfl,hir,hic⟩
   have HX:=Lh (H2.out.bx.next hb);clear HC H2 hb hen g1 x0 y0;obtain ⟨se0,se1,se2,se3,se4,se5,se6,se7,se8,se9⟩:=st10 hir.one;have n0 := HX.out.b2.c10;have fn0 := HX.out.b2.f10;have q0 := HX.out.b3.c3;have fq0 := HX.out.b3.f3;have h2:=HX.out.p2 [d0,d1,d2,d3,d4,d5,d6,d7,d8,d9] 0;have h3:=Lh (And.intro (h2.p3 [.int .i64 (doR r c).2.1.e,.int .i64 (doR r c).2.1.n,.string (doR r c).2.1.t] 0) (And.intro ((hir.setN HX.out.b2 (by decide) (by decide) (by decide) [d0,d1,d2,d3,d4,d5,d6,d7,d8,d9]).setN h2.b3 (by decide) (by decide) (by decide) [.int .i64 (doR r c).2.1.e,.int .i64 (doR r c).2.1.n,.string (doR r c).2.1.t]) (Sl.kt (KT.setN (by decide) [.int .i64 (doR r c).2.1.e,.int .i64 (doR r c).2.1.n,.string (doR r c).2.1.t] 0 h2.b3) (Sl.kt (KT.setN (by decide) [d0,d1,d2,d3,d4,d5,d6,d7,d8,d9] 0 HX.out.b2) hic))));clear h2 hir hic HX;simp only [setN, Nat.zero_add, Nat.reduceAdd] at h3
   go_wp2_with fail
   have h4:=Lh (show Bx4 w [r.s,.bool true,c2,c3,c4,c5,c6,c7,c8,c9] [c.k,c.p,.int .i32 c.ch,c.o.k,c.o.c,c.o.s,c.o.a,c.o.n,.int .i32 c.o.ch,c.a,c.b] [d0,d1,d2,d3,d4,d5,d6,d7,d8,d9] [.int .i64 (doR r c).2.1.e,.int .i64 (doR r c).2.1.n,.string (doR r c).2.1.t] 41 57 41 59 _∧_ from h3.out);obtain ⟨p0,p1,p2,p3,p4,p5,p6,p7,p8,p9⟩:=h4.out.1.b2.c10;have t0 := h4.out.1.b3.c3;exact bodyPost_ret (v:=.tuple #[.agg #[d0,d1,d2,d3,d4,d5,d6,d7,d8,d9],.agg #[.int .i64 (doR r c).2.1.e,.int .i64 (doR r c).2.1.n,.string (doR r c).2.1.t],lc]) (by simp [results, Tryz.results7, go_sem, p0, p1, p2, p3, p4, p5, p6, p7, p8, p9, t0]) rfl ⟨h4.out.1.bel,_,_,_,_,_,_,_,_,_,_,_,rfl,h4.out.2.1,h4.out.2.2⟩
 ·have HX:=Lh (show doR r c=(r,badA 1,[]) from if_pos (by omega))
  have hkd:decide (0≤c.k∧c.k<9)=false:=decide_eq_false hk;rw [hkd];clear hkd hk;have n0 := H1.out.bx.b2.c10;have fn0 := H1.out.bx.b2.f10;have q0 := H1.out.bx.b3.c3;have fq0 := H1.out.bx.b3.f3;have x0 := H1.out.bx.b0.c10;have hI:=HI.out.next H1.out.bx.bel;have h2:=H1.out.bx.p2 [r.s,.bool ob,c2,c3,c4,c5,c6,c7,c8,c9] 0;have h3:=Lh (And.intro (h2.p3 [.int .i64 1,.int .i64 0,.string ⟨#[]⟩] 0) ((hI.setB H1.out.bx.b2 (by decide) (by decide) (by decide) [r.s,.bool ob,c2,c3,c4,c5,c6,c7,c8,c9] 0).setB h2.b3 (by decide) (by decide) (by decide) [.int .i64 1,.int .i64 0,.string ⟨#[]⟩] 0));clear h2 hI;simp only [setN, Nat.zero_add, Nat.reduceAdd] at h3
  go_wp2_with fail
  have h4:=Lh (show Bx4 w [r.s,.bool ob,c2,c3,c4,c5,c6,c7,c8,c9] [c.k,c.p,.int .i32 c.ch,c.o.k,c.o.c,c.o.s,c.o.a,c.o.n,.int .i32 c.o.ch,c.a,c.b] [r.s,.bool ob,c2,c3,c4,c5,c6,c7,c8,c9] [.int .i64 1,.int .i64 0,.string ⟨#[]⟩] 41 57 41 59 _∧_ from h3.out);obtain ⟨p0,p1,p2,p3,p4,p5,p6,p7,p8,p9⟩:=h4.out.1.b2.c10;have t0 := h4.out.1.b3.c3;exact bodyPost_ret (v:=.tuple #[.agg #[r.s,.bool ob,c2,c3,c4,c5,c6,c7,c8,c9],.agg #[.int .i64 1,.int .i64 0,.string ⟨#[]⟩],.slice none 0 0]) (by simp [results, Tryz.results7, go_sem, p0, p1, p2, p3, p4, p5, p6, p7, p8, p9, t0]) rfl ⟨h4.out.1.bel,_,_,_,_,_,_,_,_,_,_,_,by rw [HX.out]; rfl,by rw [HX.out]; exact ⟨_,_,_,_,_,_,_,_,h4.out.2,by rw [HOB.out]⟩,by rw [HX.out]; exact .inl ⟨rfl,rfl⟩⟩
end Go.Proofs.YtpbhaieclkoggaaGreatDoor
set_option maxRecDepth 100000
set_option maxHeartbeats 12800000
namespace Go.Proofs.YtpbhaieclkoggaaGreatDoor
open Go Go.Proofs Go.RowKit
theorem rdo_ok (H:PChOk):PDoOk:=by
 intro r n c c0 c1 c2 c3 c4 c5 c6 c7 c8 c9 w hR hn hS hp ht
 have HC:=Lh (fun (U:World) (hb:Below w.heap.size w U)=>H r n c c0 c1 c2 c3 c4 c5 c6 c7 c8 c9 U hR hn (hS.next hb) (hp.next hb) (ht.next hb));obtain ⟨sd0,sd1,sd2,sd3,sd4,sd5,sd6,sd7,sd8,sd9⟩:=st10 hS.one;clear hp ht hR hn H hS;generalize hq:doR r c=q at *
 clear hq;obtain ⟨q,x,t⟩:=q
 dsimp only at HC ⊢
 have H0:=Lh (Bx4.start:Bx4 w [c0,c1,c2,c3,c4,c5,c6,c7,c8,c9] [c.k,c.p,.int .i32 c.ch,c.o.k,c.o.c,c.o.s,c.o.a,c.o.n,.int .i32 c.o.ch,c.a,c.b] [.int .i64 0,.bool false,.pointer none,.pointer none,.int .i64 0,.slice none 0 0,.int .i64 0,.int .i64 0,.complex .f64 0 0,.complex .f64 0 0] [.int .i64 0,.int .i64 0,.string ⟨#[]⟩] 41 57 41 59 ((((w.alloc (.cells #[c0,c1,c2,c3,c4,c5,c6,c7,c8,c9] 41)).alloc (.cells #[c.k,c.p,.int .i32 c.ch,c.o.k,c.o.c,c.o.s,c.o.a,c.o.n,.int .i32 c.o.ch,c.a,c.b] 57)).alloc (.cells #[.int .i64 0,.bool false,.pointer none,.pointer none,.int .i64 0,.slice none 0 0,.int .i64 0,.int .i64 0,.complex .f64 0 0,.complex .f64 0 0] 41)).alloc (.cells #[.int .i64 0,.int .i64 0,.string ⟨#[]⟩] 59)))
 go_enter Tryz.func10,Tryz.ntmps10
 go_upto_region 1 with fail
 generalize ((((w.alloc (.cells #[c0,c1,c2,c3,c4,c5,c6,c7,c8,c9] 41)).alloc (.cells #[c.k,c.p,.int .i32 c.ch,c.o.k,c.o.c,c.o.s,c.o.a,c.o.n,.int .i32 c.o.ch,c.a,c.b] 57)).alloc (.cells #[.int .i64 0,.bool false,.pointer none,.pointer none,.int .i64 0,.slice none 0 0,.int .i64 0,.int .i64 0,.complex .f64 0 0,.complex .f64 0 0] 41)).alloc (.cells #[.int .i64 0,.int .i64 0,.string ⟨#[]⟩] 59))=X0 at *
 have x0 := H0.out.b0.c10;have y0 := H0.out.b1.c11;go_wp2_with (go_at_call 7; refine (HC.out _ H0.out.bel).mono ?_; rintro e w1 ⟨hb,d0,d1,d2,d3,d4,d5,d6,d7,d8,d9,lc,rfl,hir,-⟩; refine Hid.out ?_)
 have HON:=Lh hir.one;obtain ⟨se0,se1,se2,se3,se4,se5,se6,se7,se8,se9⟩:=st10 hir.one;have hA:=bl2 w1 [d0,d1,d2,d3,d4,d5,d6,d7,d8,d9] [x.e,x.n,.string x.t] 41 59;have hF:=H0.out.next hb;have hlt:=hF.b3.lt;have h3:=Lh (show Bx4 w [c0,c1,c2,c3,c4,c5,c6,c7,c8,c9] [c.k,c.p,.int .i32 c.ch,c.o.k,c.o.c,c.o.s,c.o.a,c.o.n,.int .i32 c.o.ch,c.a,c.b] [.int .i64 0,.bool false,.pointer none,.pointer none,.int .i64 0,.slice none 0 0,.int .i64 0,.int .i64 0,.complex .f64 0 0,.complex .f64 0 0] [.int .i64 0,.int .i64 0,.string ⟨#[]⟩] 41 57 41 59 ((w1.alloc (.cells #[d0,d1,d2,d3,d4,d5,d6,d7,d8,d9] 41)).alloc (.cells #[x.e,x.n,.string x.t] 59))∧Blk ((w1.alloc (.cells #[d0,d1,d2,d3,d4,d5,d6,d7,d8,d9] 41)).alloc (.cells #[x.e,x.n,.string x.t] 59)) w1.heap.size [d0,d1,d2,d3,d4,d5,d6,d7,d8,d9] 41∧Blk ((w1.alloc (.cells #[d0,d1,d2,d3,d4,d5,d6,d7,d8,d9] 41)).alloc (.cells #[x.e,x.n,.string x.t] 59)) (w1.heap.size+1) [x.e,x.n,.string x.t] 59∧IsRp ((w1.alloc (.cells #[d0,d1,d2,d3,d4,d5,d6,d7,d8,d9] 41)).alloc (.cells #[x.e,x.n,.string x.t] 59)) q [d0,d1,d2,d3,d4,d5,d6,d7,d8,d9] from ⟨hF.next hA,(Blk.start w1 _ _).alloc _,Blk.startAt (by simp),hir.next hA⟩);clear H0 hF hb hA HC hir x0 y0 sd0 sd1 sd2 sd3 sd4 sd5 sd6 sd7 sd8 sd9;refine Lh ?_
 go_upto_region 2 with fail
 generalize (w1.alloc (.cells #[d0,d1,d2,d3,d4,d5,d6,d7,d8,d9] 41)).alloc (.cells #[x.e,x.n,.string x.t] 59)=W2 at *
 generalize w1.heap.size=bN at *
 replace h3:=Lh (And.intro (h3.out.1.next bdq) (And.intro (h3.out.2.1.next bdq) (And.intro (h3.out.2.2.1.next bdq) (h3.out.2.2.2.next bdq))))
 refine rgH (fun W=>Cz10 W bN d0 d1 d2 d3 d4 d5 d6 d7 d8 d9∧Cz3 W (bN+1) x.e x.n (.string x.t)) ⟨h3.out.2.1.c10,h3.out.2.2.1.c3⟩ fun hH=>?_
 generalize hX9:World.drew _=X9 at *
 clear hX9;refine tq 0 (.agg #[d0,d1,d2,d3,d4,d5,d6,d7,d8,d9]) hH ?_;refine tq 1 (.agg #[x.e,x.n,.string x.t]) hH ?_;have h4:=And.intro (h3.out.1.p2 [d0,d1,d2,d3,d4,d5,d6,d7,d8,d9] 0) (And.intro (h3.out.2.1.setN (b:=w.heap.size+1+1) (by omega) [d0,d1,d2,d3,d4,d5,d6,d7,d8,d9] 0) (And.intro (h3.out.2.2.1.setN (b:=w.heap.size+1+1) (by omega) [d0,d1,d2,d3,d4,d5,d6,d7,d8,d9] 0) (h3.out.2.2.2.setN h3.out.1.b2 (by decide) (by decide) (by decide) [d0,d1,d2,d3,d4,d5,d6,d7,d8,d9])));refine stN 2 h3.out.1.b2 [d0,d1,d2,d3,d4,d5,d6,d7,d8,d9] (HON.out) ⟨h4.2.1.c10,h4.2.2.1.c3⟩ (fun hH=>?_);generalize setN X9 (w.heap.size+1+1) 0 [d0,d1,d2,d3,d4,d5,d6,d7,d8,d9]=u1 at *
 replace h3:=Lh (show Bx4 w [c0,c1,c2,c3,c4,c5,c6,c7,c8,c9] [c.k,c.p,.int .i32 c.ch,c.o.k,c.o.c,c.o.s,c.o.a,c.o.n,.int .i32 c.o.ch,c.a,c.b] [d0,d1,d2,d3,d4,d5,d6,d7,d8,d9] [.int .i64 0,.int .i64 0,.string ⟨#[]⟩] 41 57 41 59 u1∧_ from h4)
 clear h4;have h4:=And.intro (h3.out.1.p3 [x.e,x.n,.string x.t] 0) (And.intro (h3.out.2.1.setN (b:=w.heap.size+1+1+1) (by omega) [x.e,x.n,.string x.t] 0) (And.intro (h3.out.2.2.1.setN (b:=w.heap.size+1+1+1) (by omega) [x.e,x.n,.string x.t] 0) (h3.out.2.2.2.setN h3.out.1.b3 (by decide) (by decide) (by decide) [x.e,x.n,.string x.t])));refine stN 3 h3.out.1.b3 [x.e,x.n,.string x.t] (by simp [Value.oneCell']) ⟨h4.2.1.c10,h4.2.2.1.c3⟩ (fun hH=>?_);generalize setN u1 (w.heap.size+1+1+1) 0 [x.e,x.n,.string x.t]=u2 at *
 replace h3:=Lh (show Bx4 w [c0,c1,c2,c3,c4,c5,c6,c7,c8,c9] [c.k,c.p,.int .i32 c.ch,c.o.k,c.o.c,c.o.s,c.o.a,c.o.n,.int .i32 c.o.ch,c.a,c.b] [d0,d1,d2,d3,d4,d5,d6,d7,d8,d9] [x.e,x.n,.string x.t] 41 57 41 59 u2∧_ from h4)
 clear h4;refine dnH ?_;clear hH;obtain ⟨p0,p1,p2,p3,p4,p5,p6,p7,p8,p9⟩:=h3.out.1.b2.c10;have t0 := h3.out.1.b3.c3;go_wp2_with fail
 exact bodyPost_ret (v:=.tuple #[.agg #[d0,d1,d2,d3,d4,d5,d6,d7,d8,d9],.agg #[x.e,x.n,.string x.t]]) (by simp [results, Tryz.results10, go_sem, p0, p1, p2, p3, p4, p5, p6, p7, p8, p9, t0]) rfl ⟨h3.out.1.bel,_,_,_,_,_,_,_,_,_,_,rfl,h3.out.2.2.2⟩
theorem rlook_ok (H:PDoOk):PLookOk:=by
 intro r n c c0 c1 c2 c3 c4 c5 c6 c7 c8 c9 w hR hn hS hp ht
 have HC:=Lh (fun (U:World) (hb:Below w.heap.size w U)=>H r n c c0 c1 c2 c3 c4 c5 c6 c7 c8 c9 U hR hn (hS.next hb) (hp.next hb) (ht.next hb));obtain ⟨sd0,sd1,sd2,sd3,sd4,sd5,sd6,sd7,sd8,sd9⟩:=st10 hS.one;clear hp ht hR hn H hS;generalize hq:doR r c=q at *
 clear hq;obtain ⟨q,x,t⟩:=q
 dsimp only at HC ⊢
 have H0:=Lh (Bx3.start:Bx3 w [c0,c1,c2,c3,c4,c5,c6,c7,c8,c9] [c.k,c.p,.int .i32 c.ch,c.o.k,c.o.c,c.o.s,c.o.a,c.o.n,.int .i32 c.o.ch,c.a,c.b] [.int .i64 0,.int .i64 0,.string ⟨#[]⟩] 41 57 59 (((w.alloc (.cells #[c0,c1,c2,c3,c4,c5,c6,c7,c8,c9] 41)).alloc (.cells #[c.k,c.p,.int .i32 c.ch,c.o.k,c.o.c,c.o.s,c.o.a,c.o.n,.int .i32 c.o.ch,c.a,c.b] 57)).alloc (.cells #[.int .i64 0,.int .i64 0,.string ⟨#[]⟩] 59)))
 go_enter Tryz.func12,Tryz.ntmps12
 go_upto_region 1 with fail
 generalize (((w.alloc (.cells #[c0,c1,c2,c3,c4,c5,c6,c7,c8,c9] 41)).alloc (.cells #[c.k,c.p,.int .i32 c.ch,c.o.k,c.o.c,c.o.s,c.o.a,c.o.n,.int .i32 c.o.ch,c.a,c.b] 57)).alloc (.cells #[.int .i64 0,.int .i64 0,.string ⟨#[]⟩] 59))=X0 at *
 have x0 := H0.out.b0.c10;have y0 := H0.out.b1.c11;go_wp2_with (go_at_call 10; refine (HC.out _ H0.out.bel).mono ?_; rintro e w1 ⟨hb,d0,d1,d2,d3,d4,d5,d6,d7,d8,d9,rfl,hir⟩; refine Hid.out ?_)
 obtain ⟨se0,se1,se2,se3,se4,se5,se6,se7,se8,se9⟩:=st10 hir.one;have hA:=bl2 w1 [d0,d1,d2,d3,d4,d5,d6,d7,d8,d9] [x.e,x.n,.string x.t] 41 59;have h3:=Lh (show Bx3 w [c0,c1,c2,c3,c4,c5,c6,c7,c8,c9] [c.k,c.p,.int .i32 c.ch,c.o.k,c.o.c,c.o.s,c.o.a,c.o.n,.int .i32 c.o.ch,c.a,c.b] [.int .i64 0,.int .i64 0,.string ⟨#[]⟩] 41 57 59 ((w1.alloc (.cells #[d0,d1,d2,d3,d4,d5,d6,d7,d8,d9] 41)).alloc (.cells #[x.e,x.n,.string x.t] 59))∧Blk ((w1.alloc (.cells #[d0,d1,d2,d3,d4,d5,d6,d7,d8,d9] 41)).alloc (.cells #[x.e,x.n,.string x.t] 59)) (w1.heap.size+1) [x.e,x.n,.string x.t] 59 from ⟨(H0.out.next hb).next hA,Blk.startAt (by simp)⟩);clear H0 hb hA HC hir x0 y0 sd0 sd1 sd2 sd3 sd4 sd5 sd6 sd7 sd8 sd9;refine Lh ?_
 go_upto_region 2 with fail
 generalize (w1.alloc (.cells #[d0,d1,d2,d3,d4,d5,d6,d7,d8,d9] 41)).alloc (.cells #[x.e,x.n,.string x.t] 59)=W2 at *
 generalize w1.heap.size=bN at *
 have g0 := h3.out.2.c3;have n0 := h3.out.1.b2.c3;have fn0 := h3.out.1.b2.f3;have HP:=Lh (h3.out.1.p2 [x.e,x.n,.string x.t] 0);simp only [setN, Nat.zero_add, Nat.reduceAdd] at HP
 go_wp2_with fail
 have t0 := HP.out.b2.c3;exact bodyPost_ret (v:=.agg #[x.e,x.n,.string x.t]) (by simp [results, Tryz.results12, go_sem, t0]) rfl ⟨rfl,HP.out.bel⟩
theorem rpl_of (HV:VAll) (HC:CAll):PAll:=
 have ch:=rch_ok HV HC;have d:=rdo_ok ch
 { new:=rnew_ok,do_:=d,look:=rlook_ok d,ch:=ch,shut:=rshut_ok,wr:=rwr_ok HV HC
   ver:=rver_ok
   str:=rstr_ok
  }
theorem rpl_ok:PAll:=rpl_of vall_ok call_ok
end Go.Proofs.YtpbhaieclkoggaaGreatDoor
