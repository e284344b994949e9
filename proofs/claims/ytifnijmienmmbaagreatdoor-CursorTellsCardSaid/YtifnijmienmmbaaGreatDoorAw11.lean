import Derived.Test.YtifnijmienmmbaaGreatDoorCs11
import Derived.Test.YtifnijmienmmbaaGreatDoorFrameH
set_option maxRecDepth 100000
set_option maxHeartbeats 12800000
namespace Go.Proofs.YtifnijmienmmbaaGreatDoor
open Go Go.Proofs Go.RowKit
theorem awake11_any (H:VAll) (HC:CAll) (hA8:Awake8Ok):Awake11Ok:=by
 intro w hp ht
 have HPT:=Lh (And.intro hp ht);have HI1:=Lh (H.ins [] [] 0 1 0 97 (by decide) (by decide) (.pointer none) (.pointer none) (.int .i64 0) (.slice none 0 0) (.int .i64 0) (.int .i64 0) (.complex .f64 0 0) (.complex .f64 0 0) w VOk.nil (by omega) (by decide) (by decide) (isv_nil w));rw [ex8_i1.1,ex8_i1.2] at HI1;have hv1:VOk (exM 1) [] 1:=by have h:=VOk.nil.ins 1 0 97 (by decide) (by decide); rw [ex8_i1.2] at h; exact h
 have hv2:VOk (exM 2) [] 2:=by have h:=hv1.ins 1 1 98 (by decide) (by decide); rw [ex8_i2.2] at h; exact h
 have hv3:VOk (exM 2++[exD]) [] 3:=by have h:=hv2.del 0; rw [ex8_del.2] at h; exact h
 have HI2:=Lh (fun (d0 d1 d2 d3 d4 d5 d6 d7:Value) W (h:IsV W (exM 1) [] [d0,d1,d2,d3,d4,d5,d6,d7])=>H.ins (exM 1) [] 1 1 1 98 (by decide) (by decide) d0 d1 d2 d3 d4 d5 d6 d7 W hv1 (by omega) (by decide) (by decide) h);have hx2:opP (inE8 (exM 1) [] 1 1 98 (by decide) (by decide)) (inV8 (exM 1) [] 1 1 98 (by decide) (by decide))=exO 1:=by rw [ex8_i2.1]; show inV8 (exM 1) [] 1 1 98 _ _=exO 1; unfold inV8; rw [ex8_d1]; rfl
 rw [hx2,ex8_i2.1,ex8_i2.2] at HI2;have HI3:=Lh (fun (d0 d1 d2 d3 d4 d5 d6 d7:Value) W (h:IsV W (exM 2) [] [d0,d1,d2,d3,d4,d5,d6,d7])=>H.del (exM 2) [] 2 0 d0 d1 d2 d3 d4 d5 d6 d7 W hv2 (by omega) (by decide) (by decide) h);rw [ex8_del.1,ex8_del.2] at HI3;have HAT:=Lh (fun (d0 d1 d2 d3 d4 d5 d6 d7:Value) W (h:IsV W (exM 2) [] [d0,d1,d2,d3,d4,d5,d6,d7])=>HC.at_ (exM 2) [] 2 1 d0 d1 d2 d3 d4 d5 d6 d7 W hv2 (by omega) (by decide) (by decide) h);have hn:namC (docR (exM 2)) 1=(2,1)∧cuE (docR (exM 2)) 1=0:=by rw [ex8_d2]; exact ⟨rfl,by decide⟩
 rw [hn.1,hn.2] at HAT;have HRE:=Lh (fun (d0 d1 d2 d3 d4 d5 d6 d7:Value) W (h:IsV W (exM 2++[exD]) [] [d0,d1,d2,d3,d4,d5,d6,d7])=>HC.re (exM 2++[exD]) [] 3 2 1 d0 d1 d2 d3 d4 d5 d6 d7 W hv3 (by omega) h);have hr:reN (docR (exM 2++[exD])) 2 1=0∧reE (docR (exM 2++[exD])) 2 1=0:=by rw [ex8_d3]; exact ⟨by decide,by decide⟩
 rw [hr.1,hr.2] at HRE;have HA8:=Lh hA8
 dsimp only at HI1 HI2 HI3
 clear H HC hp ht hA8 hv1 hv2 hv3 hx2 hn hr;generalize chgO (exM 2) exD=cg at *
 generalize chgO [] (exO 0)=cg1 at *
 generalize chgO (exM 1) (exO 1)=cg2 at *
 have HY:=Lh (show (exO 1).c=2∧(exO 1).s=1 from ⟨rfl,rfl⟩);generalize exO 1=y2 at *
 generalize exM 2++[exD]=M3 at *
 generalize exM 2=M2 at *
 generalize exM 1=M1 at *
 go_enter Tryz.func5,Tryz.ntmps5
 go_wp2_with (go_at_call 17; refine HI1.out.mono ?_; rintro e w1 ⟨hb,d0,d1,d2,d3,d4,d5,d6,d7,lc,x,-,rfl,hiv,hic⟩; obtain ⟨al,pl,rfl,hd1,hd2⟩:=hic.form; refine Hid.out ?_)
 obtain ⟨sd0,sd1,sd2,sd3,sd4,sd5,sd6,sd7⟩:=st8 hiv.one;have hbA:=bel2 w1 #[d0,d1,d2,d3,d4,d5,d6,d7] #[x.k,x.c,x.s,x.a,x.n,.int .i32 x.ch] 41 68;have HA:=Lh (show A8 w w1.heap.size [d0,d1,d2,d3,d4,d5,d6,d7] M1 [] ((w1.alloc (.cells #[d0,d1,d2,d3,d4,d5,d6,d7] 41)).alloc (.cells #[x.k,x.c,x.s,x.a,x.n,.int .i32 x.ch] 68)) from ⟨hb.trans (hbA.mono hb.size),hb.size,(Blk.start w1 [d0,d1,d2,d3,d4,d5,d6,d7] _).alloc _,hiv.next hbA⟩);clear hb hiv hic hbA HI1;refine Lh ?_
 go_upto_region 2 with fail
 generalize (w1.alloc (.cells #[d0,d1,d2,d3,d4,d5,d6,d7] 41)).alloc (.cells #[x.k,x.c,x.s,x.a,x.n,.int .i32 x.ch] 68)=w2 at *
 generalize w1.heap.size=bV at *
 clear sd0 sd1 sd2 sd3 sd4 sd5 sd6 sd7;have v0 := HA.out.bv.c8;go_wp2_with (go_at_call 17; refine (HI2.out _ _ _ _ _ _ _ _ _ HA.out.iv).mono ?_; rintro e w3 ⟨hb,c0,c1,c2,c3,c4,c5,c6,c7,lc2,x2,rfl,rfl,hiv,hic⟩; obtain ⟨al2,pl2,rfl,hd3,hd4⟩:=hic.form; refine Hid.out ?_)
 obtain ⟨sd0,sd1,sd2,sd3,sd4,sd5,sd6,sd7⟩:=st8 hiv.one;have HA2:=Lh (HA.out.next hb);have HIV:=Lh hiv;clear HA hb hiv hic HI2 v0;have n0 := HA2.out.bv.c8;have fn0 := HA2.out.bv.f8;have hlt:bV<w3.heap.size:=HA2.out.bv.lt;have hne:bV≠w3.heap.size:=by omega
 have HA3:=Lh (HA2.out.put HIV.out);obtain ⟨w4,hw4⟩:∃ w4,w4=setN w3 bV 0 [c0,c1,c2,c3,c4,c5,c6,c7]:=⟨_,rfl⟩
 rw [←hw4] at HA3;have hsz:w4.heap.size=w3.heap.size:=by rw [hw4]; exact setN_size _ _
 simp only [setN, Nat.zero_add, Nat.reduceAdd] at hw4
 have hW4:=hw4.symm;clear hw4;refine Lh ?_
 go_upto_region 3 with fail
 have hA4:=bel1 w4 #[x2.k,x2.c,x2.s,x2.a,x2.n,.int .i32 x2.ch] 68;have HA4:=Lh (And.intro (HA3.out.next hA4) (show Blk (w4.alloc (.cells #[x2.k,x2.c,x2.s,x2.a,x2.n,.int .i32 x2.ch] 68)) w3.heap.size [x2.k,x2.c,x2.s,x2.a,x2.n,.int .i32 x2.ch] 68 from Blk.startAt hsz.symm));clear hA4 HA3 HA2 HIV hW4 hsz hlt hne n0 fn0 sd0 sd1 sd2 sd3 sd4 sd5 sd6 sd7;generalize w4.alloc (.cells #[x2.k,x2.c,x2.s,x2.a,x2.n,.int .i32 x2.ch] 68)=W4 at *
 generalize w3.heap.size=bO at *
 have v0 := HA4.out.1.bv.c8;go_wp2_with (go_at_call 7; refine (HAT.out _ _ _ _ _ _ _ _ _ HA4.out.1.iv).mono ?_; rintro e w5 ⟨rfl,hb⟩; refine Hid.out ?_)
 have hA5:=bel1 w5 #[.int .i64 2,.int .i64 1] 48;have HA5:=Lh (And.intro ((HA4.out.1.next hb).next hA5) (And.intro ((HA4.out.2.next hb).next hA5) (Blk.start w5 [.int .i64 2,.int .i64 1] 48)));clear hA5 HA4 hb HAT v0;refine Lh ?_
 go_upto_region 4 with fail
 generalize w5.alloc (.cells #[.int .i64 2,.int .i64 1] 48)=W5 at *
 generalize w5.heap.size=bC at *
 have v0 := HA5.out.1.bv.c8;go_wp2_with (go_at_call 18; refine (HI3.out _ _ _ _ _ _ _ _ _ HA5.out.1.iv).mono ?_; rintro e w6 ⟨hb,d0,d1,d2,d3,d4,d5,d6,d7,lc3,x3,-,rfl,hiv,hic⟩; obtain ⟨al3,pl3,rfl,hd5,hd6⟩:=hic.form; refine Hid.out ?_)
 obtain ⟨sd0,sd1,sd2,sd3,sd4,sd5,sd6,sd7⟩:=st8 hiv.one;have HA6:=Lh (And.intro (HA5.out.1.next hb) (And.intro (HA5.out.2.1.next hb) (HA5.out.2.2.next hb)));have HIV:=Lh hiv;clear HA5 hb hiv hic HI3 v0;have n0 := HA6.out.1.bv.c8;have fn0 := HA6.out.1.bv.f8;have HA7:=Lh (And.intro (HA6.out.1.put HIV.out) (And.intro (HA6.out.1.ktV [d0,d1,d2,d3,d4,d5,d6,d7] (by decide) _ _ HA6.out.2.1) (HA6.out.1.ktV [d0,d1,d2,d3,d4,d5,d6,d7] (by decide) _ _ HA6.out.2.2)));obtain ⟨w7,hw7⟩:∃ w7,w7=setN w6 bV 0 [d0,d1,d2,d3,d4,d5,d6,d7]:=⟨_,rfl⟩
 rw [←hw7] at HA7;simp only [setN, Nat.zero_add, Nat.reduceAdd] at hw7
 have hW7:=hw7.symm;clear hw7;refine Lh ?_
 go_upto_region 5 with fail
 clear hW7 HA6 HIV n0 fn0 sd0 sd1 sd2 sd3 sd4 sd5 sd6 sd7;have v0 := HA7.out.1.bv.c8;have g0 := HA7.out.2.2.c2;go_wp2_with (go_at_call 10; refine (HRE.out _ _ _ _ _ _ _ _ _ HA7.out.1.iv).mono ?_; rintro e w8 ⟨rfl,hb⟩; refine Hid.out ?_)
 have HA8b:=Lh (And.intro (HA7.out.1.next hb) (And.intro (HA7.out.2.1.next hb) (HA7.out.2.2.next hb)));clear HA7 hb HRE v0 g0;refine Lh ?_;go_wp2_with (go_at_call 19; refine (HA8.out _ (HPT.out.1.next HA8b.out.1.bel) (HPT.out.2.next HA8b.out.1.bel)).mono ?_; rintro e w9 ⟨rfl,hb⟩; refine Hid.out ?_)
 have HF:=Lh (HA8b.out.1.bel.trans (hb.mono HA8b.out.1.bel.size));have g0 := (HA8b.out.2.2.next hb).c2;obtain ⟨o0,o1,o2,o3,o4,o5⟩:=(HA8b.out.2.1.next hb).c6;rw [HY.out.1] at o1;rw [HY.out.2] at o2;clear HA8b hb;refine Lh ?_;go_wp2_with fail
 go_ret
 exact ⟨rfl,HF.out⟩
theorem ctells_long (hAw:Awake11Ok) (ad:Option Addr) (n cap:Nat) (at_ by_ a b:Int) (w:World) (h:30<n) (hp:Pows w) (ht:Tabs w):
  Calls Tryz.prog 3 #[.slice ad n cap,at_,by_,.agg #[a,b]] w fun e w'=>e=.returned (.bool true)∧Below w.heap.size w w':=by
 have hbw:=bel1 w #[a,b] 24;have HB:=Lh (And.intro (hp.next hbw) (And.intro (ht.next hbw) hbw));have HAW:=Lh hAw;have h':(30:Int)<(n:Int):=by omega
 clear hAw hp ht hbw
 go_enter Tryz.func3,Tryz.ntmps3
 go_wp2_with (go_at_call 5; refine (HAW.out _ HB.out.1 HB.out.2.1).mono ?_; rintro e w1 ⟨rfl,hb⟩)
 go_ret
 exact ⟨rfl,HB.out.2.2.trans (hb.mono HB.out.2.2.size)⟩
theorem cstays_long (hAw:Awake11Ok) (ad:Option Addr) (n cap:Nat) (at_ o_:Int) (w:World) (h:30<n) (hp:Pows w) (ht:Tabs w):
  Calls Tryz.prog 4 #[.slice ad n cap,at_,o_] w fun e w'=>e=.returned (.bool true)∧Below w.heap.size w w':=by
 have HB:=Lh (And.intro hp ht);have HAW:=Lh hAw;have h':(30:Int)<(n:Int):=by omega
 clear hAw hp ht
 go_enter Tryz.func4,Tryz.ntmps4
 go_wp2_with (go_at_call 5; refine (HAW.out _ HB.out.1 HB.out.2).mono ?_; rintro e w1 ⟨rfl,hb⟩)
 go_ret
 exact ⟨rfl,hb⟩
theorem ctells_any (H:VAll) (hA7:Awake7Ok) (HC:CAll) (v:Value) (l:List Act8) (at_ by_ a b:Int) (h0 : -9223372036854775808≤at_) (h1:at_≤9223372036854775807) (h2 : -9223372036854775808≤by_) (h3:by_≤9223372036854775807) (w:World) (hl:IsActs w v l) (hp:Pows w) (ht:Tabs w):
  Calls Tryz.prog 3 #[v,at_,by_,.agg #[a,b]] w fun e w'=>e=.returned (.bool true)∧Below w.heap.size w w':=by
 obtain ⟨ad,cap,rfl,e1,e2,e3⟩:=hl;by_cases h:l.length≤30
 ·exact ctells_main H HC (awake11_any H HC (awake8_any H hA7)) ad cap l a b at_ by_ h0 h1 h2 h3 w h e1 e2 e3 hp ht
 ·exact ctells_long (awake11_any H HC (awake8_any H hA7)) ad l.length cap at_ by_ a b w (by omega) hp ht
theorem cstays_any (H:VAll) (hA7:Awake7Ok) (HC:CAll) (v:Value) (l:List Act8) (at_ o_:Int) (h0 : -9223372036854775808≤at_) (h1:at_≤9223372036854775807) (h2 : -9223372036854775808≤o_) (h3:o_≤9223372036854775807) (w:World) (hl:IsActs w v l) (hp:Pows w) (ht:Tabs w):
  Calls Tryz.prog 4 #[v,at_,o_] w fun e w'=>e=.returned (.bool true)∧Below w.heap.size w w':=by
 obtain ⟨ad,cap,rfl,e1,e2,e3⟩:=hl;by_cases h:l.length≤30
 ·exact cstays_main H HC (awake11_any H HC (awake8_any H hA7)) ad cap l at_ o_ h0 h1 h2 h3 w h e1 e2 e3 hp ht
 ·exact cstays_long (awake11_any H HC (awake8_any H hA7)) ad l.length cap at_ o_ w (by omega) hp ht
end Go.Proofs.YtifnijmienmmbaaGreatDoor
