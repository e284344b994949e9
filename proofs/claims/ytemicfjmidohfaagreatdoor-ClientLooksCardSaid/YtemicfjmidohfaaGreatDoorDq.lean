import Derived.Test.YtemicfjmidohfaaGreatDoorFrameH
import Derived.Test.YtemicfjmidohfaaGreatDoorDc
import Derived.Test.YtemicfjmidohfaaGreatDoorEb
set_option maxRecDepth 100000
namespace Go.Proofs.YtemicfjmidohfaaGreatDoor
open Go Go.Proofs Go.ChangeShapes Go.WideShapes Go.ChangeAt Go.RowKit Go.Joins Go.Deep
theorem cellsCal:Tryz.prog.cellsOf 75=11:=by kernel_rfl
theorem cellsCK:Tryz.prog.cellsOf 68=1:=by kernel_rfl
instance:Inhabited Cal:=⟨⟨0,0,0,zeroO,0,0,by decide,by decide,by decide,by decide,by decide,by decide⟩⟩
section
variable {H:Type} {enc:TypeId×Value→H} {W:World} {base:Nat}
theorem call_cells {sp:Nat→Bool} {held:Bool} {n:Nat} {cs:List Value} {y:DataW H×List MemPlace} (h:DataW.trod enc Tryz.prog W base sp held n 75 cs=some y):∃ x:Cal,cs=calL x:=by
 obtain ⟨y0,y1,y2,y3,y4,m,hl,g0,g1,g2,g3,g4⟩:=trod_five Tryz.underlying75 h;rw [cellsCal] at hl
 match cs,hl with
 | [c0,c1,c2,c3,c4,c5,c6,c7,c8,c9,c10],_=>
   simp only [cellsCK,cellsOp,cellsInt,cellsI32,cellsId,List.drop_zero,List.drop_succ_cons,List.take_succ_cons,List.take_zero] at g0 g1 g2 g3 g4
   obtain ⟨k,e0,d0,_⟩:=DataW.trod_int Tryz.underlying68 g0;obtain ⟨p,e1,d1,_⟩:=DataW.trod_int Tryz.underlying3 g1;obtain ⟨ch,e2,d2,_⟩:=DataW.trod_int Tryz.underlying21 g2;obtain ⟨o,e3⟩:=op_cells g3;obtain ⟨a,b,e4⟩:=id_cells g4;simp only [oqL,List.cons.injEq,and_true] at e0 e1 e2 e3 e4
   obtain ⟨rfl,rfl,rfl,rfl,rfl,rfl⟩:=e3;obtain ⟨rfl,rfl⟩:=e4;have w1:=wf_i64 (n:=p) (by first | exact d1 | exact d1.1 | assumption);have w0:=wf_i64 (n:=k) (by first | exact d0 | exact d0.1 | assumption);have w2:=wf_i32 (n:=ch) (by first | exact d2 | exact d2.1 | assumption);exact ⟨⟨k,p,ch,o,a,b,w2.1,w2.2,w1.1,w1.2,w0.1,w0.2⟩,by rw [e0,e1,e2]; rfl⟩
end
end Go.Proofs.YtemicfjmidohfaaGreatDoor
set_option maxRecDepth 100000
set_option maxHeartbeats 12800000
namespace Go.Proofs.YtemicfjmidohfaaGreatDoor
open Go Go.Proofs Go.RowKit
theorem awake11_any (H:VAll) (HC:CAll) (hA8:Awake8Ok):Awake11Ok:=by
 intro w hp ht
 have HPT:=Lh (And.intro hp ht);have HI1:=Lh (H.ins [] [] 0 1 0 97 (by decide) (by decide) (.pointer none) (.pointer none) (.int .i64 0) (.slice none 0 0) (.int .i64 0) (.int .i64 0) (.complex .f64 0 0) (.complex .f64 0 0) w VOk.nil (by omega) (by decide) (by decide) (isv_nil w));rw [ex8_i1.1,ex8_i1.2] at HI1;have hv1:VOk (exM 1) [] 1:=by have h:=VOk.nil.ins 1 0 97 (by decide) (by decide); rw [ex8_i1.2] at h; exact h
 have hv2:VOk (exM 2) [] 2:=by have h:=hv1.ins 1 1 98 (by decide) (by decide); rw [ex8_i2.2] at h; exact h
 have hv3:VOk (exM 2++[exD]) [] 3:=by have h:=hv2.del 0; rw [ex8_del.2] at h; exact h
 have HI2:=Lh (fun (d0 d1 d2 d3 d4 d5 d6 d7:Value) W (h:IsV W (exM 1) [] [d0,d1,d2,d3,d4,d5,d6,d7])=>H.ins (exM 1) [] 1 1 1 98 (by decide) (by decide) d0 d1 d2 d3 d4 d5 d6 d7 W hv1 (by omega) (by decide) (by decide) h);have hx2:opP (inE8 (exM 1) [] 1 1 98 (by decide) (by decide)) (inV8 (exM 1) [] 1 1 98 (by decide) (by decide))=exO 1:=by rw [ex8_i2.1]; show inV8 (exM 1) [] 1 1 98 _ _=exO 1; unfold inV8; rw [ex8_d1]; rfl
 rw [hx2,ex8_i2.1,ex8_i2.2] at HI2;have HI3:=Lh (fun (d0 d1 d2 d3 d4 d5 d6 d7:Value) W (h:IsV W (exM 2) [] [d0,d1,d2,d3,d4,d5,d6,d7])=>H.del (exM 2) [] 2 0 d0 d1 d2 d3 d4 d5 d6 d7 W hv2 (by omega) (by decide) (by decide) h);rw [ex8_del.1,ex8_del.2] at HI3;have HAT:=Lh (fun (d0 d1 d2 d3 d4 d5 d6 d7:Value) W (h:IsV W (exM 2) [] [d0,d1,d2,d3,d4,d5,d6,d7])=>HC.at_ (exM 2) [] 2 1 d0 d1 d2 d3 d4 d5 d6 d7 W hv2 (by omega) (by decide) (by decide) h);have hn:namC (docR (exM 2)) 1=(2,1)∧cuE (docR (exM 2)) 1=0:=by rw [ex8_d2]; exact ⟨rfl,by decide⟩
 rw [hn.1,hn.2] at HAT;have HRE:=Lh (fun (d0 d1 d2 d3 d4 d5 d6 d7:Value) W (h:IsV W (exM 2++[exD]) [] [d0,d1,d2,d3,d4,d5,d6,d7])=>HC.re (exM 2++[exD]) [] 3 2 1 d0 d1 d2 d3 d4 d5 d6 d7 W hv3 (by omega) h);have hr:reN (docR (exM 2++[exD])) 2 1=0∧reE (docR (exM 2++[exD])) 2 1=0:=by rw [ex8_d3]; exact ⟨by decide,by decide⟩
 rw [hr.1,hr.2] at HRE;have HA8:=Lh hA8
 dsimp only at HI1 HI2 HI3
 clear H HC hp ht hA8 hv1 hv2 hv3 hx2 hn hr;generalize chgO (exM 2) exD=cg at *
 generalize chgO [] (exO 0)=cg1 at *
 generalize chgO (exM 1) (exO 1)=cg2 at *
 have HY:=Lh (show (exO 1).c=2∧(exO 1).s=1 from ⟨rfl,rfl⟩);generalize exO 1=y2 at *
 generalize exM 2++[exD]=M3 at *
 generalize exM 2=M2 at *
 generalize exM 1=M1 at *
 go_enter Tryz.func85,Tryz.ntmps85
 go_wp2_with fail;refine HI1.out.mono ?_;rintro e w1 ⟨hb,d0,d1,d2,d3,d4,d5,d6,d7,lc,x,-,rfl,hiv,hic⟩; obtain ⟨al,pl,rfl,hd1,hd2⟩:=hic.form
 obtain ⟨sd0,sd1,sd2,sd3,sd4,sd5,sd6,sd7⟩:=st8 hiv.one;have hbA:=bel2 w1 #[d0,d1,d2,d3,d4,d5,d6,d7] x 43 73;have HA:=Lh (show A8 w w1.heap.size [d0,d1,d2,d3,d4,d5,d6,d7] M1 [] ((w1.alloc (.cells #[d0,d1,d2,d3,d4,d5,d6,d7] 43)).alloc (.cells x 73)) from ⟨hb.trans (hbA.mono hb.size),hb.size,(Blk.start w1 [d0,d1,d2,d3,d4,d5,d6,d7] _).alloc _,hiv.next hbA⟩);clear hb hiv hic hbA HI1
 go_upto_region 2 with fail
 generalize World.alloc _ _=w2 at *
 generalize w1.heap.size=bV at *
 clear sd0 sd1 sd2 sd3 sd4 sd5 sd6 sd7;have v0 := HA.out.bv.c8;go_wp2_with fail;refine (HI2.out _ _ _ _ _ _ _ _ _ HA.out.iv).mono ?_;rintro e w3 ⟨hb,c0,c1,c2,c3,c4,c5,c6,c7,lc2,x2,rfl,rfl,hiv,hic⟩; obtain ⟨al2,pl2,rfl,hd3,hd4⟩:=hic.form
 obtain ⟨sd0,sd1,sd2,sd3,sd4,sd5,sd6,sd7⟩:=st8 hiv.one;have HA2:=Lh (HA.out.next hb);have HIV:=Lh hiv;clear HA hb hiv hic HI2 v0;have n0 := HA2.out.bv.c8;have fn0 := HA2.out.bv.f8;have hlt:bV<w3.heap.size:=HA2.out.bv.lt;have hne:bV≠w3.heap.size:=by omega
 have HA3:=Lh (HA2.out.put HIV.out);obtain ⟨w4,hw4⟩:∃ w4,w4=setN w3 bV 0 [c0,c1,c2,c3,c4,c5,c6,c7]:=⟨_,rfl⟩
 rw [←hw4] at HA3;have hsz:w4.heap.size=w3.heap.size:=by rw [hw4]; exact setN_size _ _
 simp only [setN, Nat.zero_add, Nat.reduceAdd] at hw4
 have hW4:=hw4.symm;clear hw4
 go_upto_region 3 with fail
 have hA4:=bel1 w4 x2 73;have HA4:=Lh (And.intro (HA3.out.next hA4) (show Blk (w4.alloc (.cells x2 73)) w3.heap.size x2 73 from Blk.startAt hsz.symm));clear hA4 HA3 HA2 HIV hW4 hsz hlt hne n0 fn0 sd0 sd1 sd2 sd3 sd4 sd5 sd6 sd7;generalize World.alloc _ _=W4 at *
 generalize w3.heap.size=bO at *
 have v0 := HA4.out.1.bv.c8;go_wp2_with fail;refine (HAT.out _ _ _ _ _ _ _ _ _ HA4.out.1.iv).mono ?_;rintro e w5 ⟨rfl,hb⟩
 have hA5:=bel1 w5 #[.int .i64 2,.int .i64 1] 230;have HA5:=Lh (And.intro ((HA4.out.1.next hb).next hA5) (And.intro ((HA4.out.2.next hb).next hA5) (Blk.start w5 [.int .i64 2,.int .i64 1] 230)));clear hA5 HA4 hb HAT v0
 go_upto_region 4 with fail
 generalize World.alloc _ _=W5 at *
 generalize w5.heap.size=bC at *
 have v0 := HA5.out.1.bv.c8;go_wp2_with fail;refine (HI3.out _ _ _ _ _ _ _ _ _ HA5.out.1.iv).mono ?_;rintro e w6 ⟨hb,d0,d1,d2,d3,d4,d5,d6,d7,lc3,x3,-,rfl,hiv,hic⟩; obtain ⟨al3,pl3,rfl,hd5,hd6⟩:=hic.form
 obtain ⟨sd0,sd1,sd2,sd3,sd4,sd5,sd6,sd7⟩:=st8 hiv.one;have HA6:=Lh (And.intro (HA5.out.1.next hb) (And.intro (HA5.out.2.1.next hb) (HA5.out.2.2.next hb)));have HIV:=Lh hiv;clear HA5 hb hiv hic HI3 v0;have n0 := HA6.out.1.bv.c8;have fn0 := HA6.out.1.bv.f8;have HA7:=Lh (And.intro (HA6.out.1.put HIV.out) (And.intro (HA6.out.1.ktV [d0,d1,d2,d3,d4,d5,d6,d7] (by decide) _ _ HA6.out.2.1) (HA6.out.1.ktV [d0,d1,d2,d3,d4,d5,d6,d7] (by decide) _ _ HA6.out.2.2)));obtain ⟨w7,hw7⟩:∃ w7,w7=setN w6 bV 0 [d0,d1,d2,d3,d4,d5,d6,d7]:=⟨_,rfl⟩
 rw [←hw7] at HA7;simp only [setN, Nat.zero_add, Nat.reduceAdd] at hw7
 have hW7:=hw7.symm;clear hw7
 go_upto_region 5 with fail
 clear hW7 HA6 HIV n0 fn0 sd0 sd1 sd2 sd3 sd4 sd5 sd6 sd7;have v0 := HA7.out.1.bv.c8;have g0 := HA7.out.2.2.c2;go_wp2_with fail;refine (HRE.out _ _ _ _ _ _ _ _ _ HA7.out.1.iv).mono ?_;rintro e w8 ⟨rfl,hb⟩
 have HA8b:=Lh (And.intro (HA7.out.1.next hb) (And.intro (HA7.out.2.1.next hb) (HA7.out.2.2.next hb)));clear HA7 hb HRE v0 g0;go_wp2_with fail;refine (HA8.out _ (HPT.out.1.next HA8b.out.1.bel) (HPT.out.2.next HA8b.out.1.bel)).mono ?_;rintro e w9 ⟨rfl,hb⟩
 have HF:=Lh (HA8b.out.1.bel.trans (hb.mono HA8b.out.1.bel.size));have g0 := (HA8b.out.2.2.next hb).c2;obtain ⟨o0,o1,o2,o3,o4,o5⟩:=(HA8b.out.2.1.next hb).c6;rw [HY.out.1] at o1;rw [HY.out.2] at o2;clear HA8b hb;go_wp2_with fail
 go_ret
 exact ⟨rfl,HF.out⟩
end Go.Proofs.YtemicfjmidohfaaGreatDoor
set_option maxRecDepth 100000
set_option maxHeartbeats 12800000
namespace Go.Proofs.YtemicfjmidohfaaGreatDoor
open Go Go.Proofs Go.RowKit
theorem res_txt (x y:Value) (t:ByteArray) (w:World):(Instr.field 88 (.agg #[x,y,.string t]) 2).run Tryz.prog w=.ok (.string t) w:=by kernel_rfl
attribute [local go_sem] res_txt
structure A12 (w:World) (b:Nat) (r:Rpl) (cs:List Value) (W:World):Prop where
 bel:Below w.heap.size w W
 ge:w.heap.size≤b
 br:Blk W b cs 45
 ir:IsRp W r cs
theorem A12.next {w:World} {b:Nat} {r:Rpl} {cs:List Value} {W W':World} (h:A12 w b r cs W) (hb:Below W.heap.size W W'):A12 w b r cs W':=⟨h.bel.trans (hb.mono h.bel.size),h.ge,h.br.next hb,h.ir.next hb⟩
theorem A12.put {w:World} {b:Nat} {r q:Rpl} {c0 c1 c2 c3 c4 c5 c6 c7 c8 c9 d0 d1 d2 d3 d4 d5 d6 d7 d8 d9:Value} {W:World} (h:A12 w b r [c0,c1,c2,c3,c4,c5,c6,c7,c8,c9] W) (h':IsRp W q [d0,d1,d2,d3,d4,d5,d6,d7,d8,d9]):A12 w b q [d0,d1,d2,d3,d4,d5,d6,d7,d8,d9] (setN W b 0 [d0,d1,d2,d3,d4,d5,d6,d7,d8,d9]):=
 ⟨setN_below h.ge _ 0 h.bel,h.ge,setN_blk [d0,d1,d2,d3,d4,d5,d6,d7,d8,d9] 0 h.br,h'.setN h.br (by decide) (by decide) (by decide) _⟩
theorem awake12_any (H:PAll) (h11:Awake11Ok):Awake12Ok:=by
 intro w hp ht
 have HN:Hid (∀ W:World,Calls Tryz.prog 33 #[.int .i64 1] W fun e w'=>Below W.heap.size W w'∧∃ d0 d1 d2 d3 d4 d5 d6 d7 d8 d9,e=.returned (.tuple #[.agg #[d0,d1,d2,d3,d4,d5,d6,d7,d8,d9],.int .i64 0])∧IsRp w' ⟨1,[],[],false⟩ [d0,d1,d2,d3,d4,d5,d6,d7,d8,d9]):=Lh (fun W=>H.new 1 W);have HDO:=Lh (fun d0 d1 d2 d3 d4 d5 d6 d7 d8 d9 (W:World) (h:IsRp W ⟨1,[],[],false⟩ [d0,d1,d2,d3,d4,d5,d6,d7,d8,d9]) (hb:Below w.heap.size w W)=>show Calls Tryz.prog 53 #[.agg #[d0,d1,d2,d3,d4,d5,d6,d7,d8,d9],.agg #[.int .i64 0,.int .i64 0,.int .i32 97,.int .i64 0,.int .i64 0,.int .i64 0,.int .i64 0,.int .i64 0,.int .i32 0,.int .i64 0,.int .i64 0]] W fun e w'=>Below W.heap.size W w'∧∃ s0 s1 s2 s3 s4 s5 s6 s7 s8 s9,e=.returned (.tuple #[.agg #[s0,s1,s2,s3,s4,s5,s6,s7,s8,s9],.agg #[.int .i64 0,.int .i64 1,.string ⟨#[43,49,46,49,32,45,32,54,49]⟩]])∧IsRp w' ⟨1,exM 1,[],false⟩ [s0,s1,s2,s3,s4,s5,s6,s7,s8,s9] from by have h1:=H.do_ ⟨1,[],[],false⟩ 0 ex12A d0 d1 d2 d3 d4 d5 d6 d7 d8 d9 W (newR_ok 1) (by omega) h (hp.next hb) (ht.next hb); rw [ex12_a] at h1; exact h1);have HLK:=Lh (fun d0 d1 d2 d3 d4 d5 d6 d7 d8 d9 (W:World) (h:IsRp W ⟨1,exM 1,[],false⟩ [d0,d1,d2,d3,d4,d5,d6,d7,d8,d9]) (hb:Below w.heap.size w W)=>show Calls Tryz.prog 58 #[.agg #[d0,d1,d2,d3,d4,d5,d6,d7,d8,d9],.agg #[.int .i64 3,.int .i64 0,.int .i32 0,.int .i64 0,.int .i64 0,.int .i64 0,.int .i64 0,.int .i64 0,.int .i32 0,.int .i64 0,.int .i64 0]] W (Rt (.agg #[.int .i64 0,.int .i64 0,.string ⟨#[97]⟩]) W) from by have h1:=H.look ⟨1,exM 1,[],false⟩ 1 ex12R d0 d1 d2 d3 d4 d5 d6 d7 d8 d9 W ex12_ok (by omega) h (hp.next hb) (ht.next hb); rw [ex12_r] at h1; exact h1);have HAW:=Lh (fun (W:World) (hb:Below w.heap.size w W)=>h11 W (hp.next hb) (ht.next hb));clear H h11 hp ht;generalize exM 1=M1 at *
 go_enter Tryz.func31,Tryz.ntmps31
 go_wp2_with fail;refine (HN.out _).mono ?_;rintro e w1 ⟨hb,d0,d1,d2,d3,d4,d5,d6,d7,d8,d9,rfl,hir⟩
 obtain ⟨sd0,sd1,sd2,sd3,sd4,sd5,sd6,sd7,sd8,sd9⟩:=st10 hir.one;have HA:=Lh (show A12 w w1.heap.size ⟨1,[],[],false⟩ [d0,d1,d2,d3,d4,d5,d6,d7,d8,d9] (w1.alloc (.cells #[d0,d1,d2,d3,d4,d5,d6,d7,d8,d9] 45)) from ⟨hb.trans ((bl1 w1 _ _).mono hb.size),hb.size,Blk.start w1 _ _,hir.next (bl1 _ _ _)⟩);clear hb hir HN
 go_upto_region 2 with fail
 generalize World.alloc _ _=W1 at *
 generalize w1.heap.size=bV at *
 clear sd0 sd1 sd2 sd3 sd4 sd5 sd6 sd7 sd8 sd9;have v0 := HA.out.br.c10;go_wp2_with fail;refine (HDO.out d0 d1 d2 d3 d4 d5 d6 d7 d8 d9 _ HA.out.ir HA.out.bel).mono ?_;rintro e w3 ⟨hb,s0,s1,s2,s3,s4,s5,s6,s7,s8,s9,rfl,hir⟩
 obtain ⟨sd0,sd1,sd2,sd3,sd4,sd5,sd6,sd7,sd8,sd9⟩:=st10 hir.one;have HA2:=Lh (HA.out.next hb);have HIR:=Lh hir;clear HA hb hir HDO v0;have n0 := HA2.out.br.c10;have fn0 := HA2.out.br.f10;have hlt:bV<w3.heap.size:=HA2.out.br.lt;have hne:bV≠w3.heap.size:=by omega
 have HA3:=Lh (HA2.out.put HIR.out);obtain ⟨w4,hw4⟩:∃ w4,w4=setN w3 bV 0 [s0,s1,s2,s3,s4,s5,s6,s7,s8,s9]:=⟨_,rfl⟩
 rw [←hw4] at HA3;have hsz:w4.heap.size=w3.heap.size:=by rw [hw4]; exact setN_size _ _
 simp only [setN, Nat.zero_add, Nat.reduceAdd] at hw4
 have hW4:=hw4.symm;clear hw4
 go_upto_region 3 with fail
 have hA4:=bl1 w4 [.int .i64 0,.int .i64 1,.string ⟨#[43,49,46,49,32,45,32,54,49]⟩] 88;have HA4:=Lh (And.intro (HA3.out.next hA4) (show Blk (w4.alloc (.cells #[.int .i64 0,.int .i64 1,.string ⟨#[43,49,46,49,32,45,32,54,49]⟩] 88)) w3.heap.size [.int .i64 0,.int .i64 1,.string ⟨#[43,49,46,49,32,45,32,54,49]⟩] 88 from Blk.startAt hsz.symm));clear hA4 HA3 HA2 HIR hW4 hsz hlt hne n0 fn0 sd0 sd1 sd2 sd3 sd4 sd5 sd6 sd7 sd8 sd9;generalize World.alloc _ _=W4 at *
 generalize w3.heap.size=bO at *
 go_wp2_with fail;refine (HAW.out _ HA4.out.1.bel).mono ?_;rintro e w5 ⟨rfl,hb⟩
 have HA5:=Lh (And.intro (HA4.out.1.next hb) (HA4.out.2.next hb));clear HA4 hb;have v0 := HA5.out.1.br.c10;have g0 := HA5.out.2.c3;go_wp2_with fail;refine (HLK.out s0 s1 s2 s3 s4 s5 s6 s7 s8 s9 _ HA5.out.1.ir HA5.out.1.bel).mono ?_;rintro e w6 ⟨rfl,hb⟩
 have HF:=Lh (HA5.out.1.bel.trans (hb.mono HA5.out.1.bel.size));clear HA5 hb;go_wp2_with fail
 go_ret
 exact ⟨rfl,HF.out⟩
end Go.Proofs.YtemicfjmidohfaaGreatDoor
