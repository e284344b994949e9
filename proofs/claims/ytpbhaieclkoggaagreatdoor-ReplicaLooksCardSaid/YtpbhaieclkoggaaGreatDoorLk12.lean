import Derived.Test.YtpbhaieclkoggaaGreatDoorDc
import Derived.Deep.CutRange
import Derived.Deep.CutBlock
set_option maxRecDepth 100000
set_option maxHeartbeats 12800000
namespace Go.Proofs.YtpbhaieclkoggaaGreatDoor
open Go Go.Proofs Go.RowKit
structure C12 (w:World) (c:Cal) (W:World):Prop where
 bel:Below w.heap.size w W
 bc:Blk W w.heap.size [c.k,c.p,.int .i32 c.ch,c.o.k,c.o.c,c.o.s,c.o.a,c.o.n,.int .i32 c.o.ch,c.a,c.b] 57
theorem C12.next {w:World} {c:Cal} {W W':World} (h:C12 w c W) (hb:Below W.heap.size W W'):C12 w c W':=⟨h.bel.trans (hb.mono h.bel.size),h.bc.next hb⟩
structure G12 (w:World) (c:Cal) (b:Nat) (r:Rpl) (cs:List Value) (W:World):Prop where
 c:C12 w c W
 lt:w.heap.size<b
 br:Blk W b cs 41
 ir:IsRp W r cs
theorem G12.next {w:World} {c:Cal} {b:Nat} {r:Rpl} {cs:List Value} {W W':World} (h:G12 w c b r cs W) (hb:Below W.heap.size W W'):G12 w c b r cs W':=⟨h.c.next hb,h.lt,h.br.next hb,h.ir.next hb⟩
theorem G12.put {w:World} {c:Cal} {b:Nat} {r q:Rpl} {c0 c1 c2 c3 c4 c5 c6 c7 c8 c9 d0 d1 d2 d3 d4 d5 d6 d7 d8 d9:Value} {W:World} (h:G12 w c b r [c0,c1,c2,c3,c4,c5,c6,c7,c8,c9] W) (h':IsRp W q [d0,d1,d2,d3,d4,d5,d6,d7,d8,d9]):G12 w c b q [d0,d1,d2,d3,d4,d5,d6,d7,d8,d9] (setN W b 0 [d0,d1,d2,d3,d4,d5,d6,d7,d8,d9]):=by
 have hl:=h.lt;exact ⟨⟨setN_below (by omega) _ 0 h.c.bel,h.c.bc.setN (by omega) _ 0⟩,h.lt,setN_blk [d0,d1,d2,d3,d4,d5,d6,d7,d8,d9] 0 h.br,h'.setN h.br (by decide) (by decide) (by decide) _⟩
structure N12 (w:World) (c:Cal) (bL bT bN bX:Nat) (a7 a3 x:Ans) (q:Rpl) (ds:List Value) (W:World):Prop where
 c:C12 w c W
 bl:Blk W bL [a7.e,a7.n,.string a7.t] 59
 bt:Blk W bT [a3.e,a3.n,.string a3.t] 59
 bn:Blk W bN ds 41
 bx:Blk W bX [x.e,x.n,.string x.t] 59
 iq:IsRp W q ds
theorem N12.next {w:World} {c:Cal} {bL bT bN bX:Nat} {a7 a3 x:Ans} {q:Rpl} {ds:List Value} {W W':World} (h:N12 w c bL bT bN bX a7 a3 x q ds W) (hb:Below W.heap.size W W'):N12 w c bL bT bN bX a7 a3 x q ds W':=⟨h.c.next hb,h.bl.next hb,h.bt.next hb,h.bn.next hb,h.bx.next hb,h.iq.next hb⟩
theorem rlooks_main (H:PAll) (hA:Awake12Ok) (ad:Option Addr) (cap:Nat) (ls:List Cal) (c:Cal) (w:World) (hl:ls.length≤40) (hc1:ls.length≤cap) (hc2:cap≤9223372036854775807)
  (hL:ls≠[]→∃ b off,ad=some ⟨b,off,none⟩∧b<w.heap.size∧LiesC w b off ls) (hp:Pows w) (ht:Tabs w):
  Calls Tryz.prog 4 #[.slice ad ls.length cap,.agg #[c.k,c.p,.int .i32 c.ch,c.o.k,c.o.c,c.o.s,c.o.a,c.o.n,.int .i32 c.o.ch,c.a,c.b]] w fun e w'=>e=.returned (.bool true)∧Below w.heap.size w w':=by
 have HL:=Lh hL;have HPT:=Lh (And.intro hp ht);have HH:=Lh H;have HAW:=Lh hA;have hl':¬ (40:Int)<(ls.length:Int):=by omega
 have HN:Hid (∀ W:World,Calls Tryz.prog 6 #[.int .i64 1] W fun e w'=>Below W.heap.size W w'∧∃ d0 d1 d2 d3 d4 d5 d6 d7 d8 d9,e=.returned (.tuple #[.agg #[d0,d1,d2,d3,d4,d5,d6,d7,d8,d9],.int .i64 0])∧IsRp w' ⟨1,[],[],false⟩ [d0,d1,d2,d3,d4,d5,d6,d7,d8,d9]):=Lh (fun W=>H.new 1 W);have H0:=Lh (show C12 w c (w.alloc (.cells #[c.k,c.p,.int .i32 c.ch,c.o.k,c.o.c,c.o.s,c.o.a,c.o.n,.int .i32 c.o.ch,c.a,c.b] 57)) from ⟨bl1 _ _ _,Blk.start w _ _⟩);clear hL hp ht H hA
 go_enter Tryz.func4,Tryz.ntmps4
 go_wp2_with (go_at_call 6; refine (HN.out _).mono ?_; rintro e w1 ⟨hb,d0,d1,d2,d3,d4,d5,d6,d7,d8,d9,rfl,hir⟩; refine Hid.out ?_)
 obtain ⟨sd0,sd1,sd2,sd3,sd4,sd5,sd6,sd7,sd8,sd9⟩:=st10 hir.one;have HG:=Lh (show G12 w c w1.heap.size ⟨1,[],[],false⟩ [d0,d1,d2,d3,d4,d5,d6,d7,d8,d9] (w1.alloc (.cells #[d0,d1,d2,d3,d4,d5,d6,d7,d8,d9] 41)) from ⟨(H0.out.next hb).next (bl1 _ _ _),Nat.lt_of_lt_of_le H0.out.bc.lt hb.size,Blk.start w1 _ _,hir.next (bl1 _ _ _)⟩);clear H0 hb hir HN;refine Lh ?_
 go_upto_region 6 with fail
 generalize w1.alloc (.cells #[d0,d1,d2,d3,d4,d5,d6,d7,d8,d9] 41)=W1 at *
 generalize w1.heap.size=bR at *
 clear sd0 sd1 sd2 sd3 sd4 sd5 sd6 sd7 sd8 sd9;go_wp2_with fail
 go_loopg [29] ls.length (fun g ti wr=>∃ k:Nat,k≤ls.length∧g=ls.length-k∧ti=.int .i64 (k:Int)∧∃ c0 c1 c2 c3 c4 c5 c6 c7 c8 c9:Value,G12 w c bR (runR ⟨1,[],[],false⟩ (ls.take k)) [c0,c1,c2,c3,c4,c5,c6,c7,c8,c9] wr)
 case atStart=>exact ⟨0,Nat.zero_le _,rfl,rfl,_,_,_,_,_,_,_,_,_,_,HG.out⟩
 case round=>
  obtain ⟨k,hk,rfl,rfl,c0,c1,c2,c3,c4,c5,c6,c7,c8,c9,hG⟩:=hrel;clear HG;by_cases hlt:k<ls.length
  ·obtain ⟨bA,off,rfl,hbw,hLies⟩:=HL.out (fun e=>by rw [e] at hlt; cases hlt)
   have kk:∀ i,i<11→wr.cell? ⟨bA,off+k * 11+i,none⟩=(calL ls[k])[i]? := fun i hi=>(hG.c.bel.cell (p:=⟨bA,off+k * 11+i,none⟩) hbw).trans (hLies k hlt i hi)
   have k0:=kk 0 (by omega);have k1:=kk 1 (by omega);have k2:=kk 2 (by omega);have k3:=kk 3 (by omega);have k4:=kk 4 (by omega);have k5:=kk 5 (by omega);have k6:=kk 6 (by omega);have k7:=kk 7 (by omega);have k8:=kk 8 (by omega);have k9:=kk 9 (by omega);have k10:=kk 10 (by omega);simp only [calL, List.getElem?_cons_zero, List.getElem?_cons_succ, Nat.add_zero] at k0 k1 k2 k3 k4 k5 k6 k7 k8 k9 k10
   have HT:=Lh (runR_take (r:=⟨1,[],[],false⟩) hlt);have HOK:=Lh (show RplOk (runR ⟨1,[],[],false⟩ (ls.take k)) 40 from (runR_ok (newR_ok 1) (ls.take k)).more (by rw [List.length_take]; omega));clear hLies kk;generalize ls[k]=x at *
   generalize runR ⟨1,[],[],false⟩ (ls.take k)=r at *
   have HG1:=Lh (hG.next (bl1 wr [x.k,x.p,.int .i32 x.ch,x.o.k,x.o.c,x.o.s,x.o.a,x.o.n,.int .i32 x.o.ch,x.a,x.b] 57));have HDO:=Lh (fun W (h:G12 w c bR r [c0,c1,c2,c3,c4,c5,c6,c7,c8,c9] W)=>HH.out.do_ r 40 x c0 c1 c2 c3 c4 c5 c6 c7 c8 c9 W HOK.out (by omega) h.ir (HPT.out.1.next h.c.bel) (HPT.out.2.next h.c.bel));obtain ⟨q,hq⟩:∃ q,q=doR r x:=⟨_,rfl⟩
   rw [←hq] at HDO HT;clear hG HOK hq;have v0 := HG1.out.br.c10;go_wp2_with (go_at_call 10; refine (HDO.out _ HG1.out).mono ?_; rintro e w1 ⟨hb,d0,d1,d2,d3,d4,d5,d6,d7,d8,d9,rfl,hir⟩; refine Hid.out ?_)
   have HG2:=Lh (HG1.out.next hb);obtain ⟨sd0,sd1,sd2,sd3,sd4,sd5,sd6,sd7,sd8,sd9⟩:=st10 hir.one;have HG3:=Lh (HG2.out.put hir);clear HG1 HDO hb hir k0 k1 k2 k3 k4 k5 k6 k7 k8 k9 k10 v0;have n0 := HG2.out.br.c10;have fn0 := HG2.out.br.f10;obtain ⟨w2,hw2⟩:∃ w2,w2=setN w1 bR 0 [d0,d1,d2,d3,d4,d5,d6,d7,d8,d9]:=⟨_,rfl⟩
   rw [←hw2] at HG3;simp only [setN, Nat.zero_add, Nat.reduceAdd] at hw2
   have hW2:=hw2.symm;clear hw2 HG2;refine Lh ?_;go_wp2_with fail
   go_roundg (ls.length-(k+1))
   case measure=>omega
   case rel=>exact ⟨k+1,by omega,rfl,by go_num,_,_,_,_,_,_,_,_,_,_,by rw [HT.out]; exact HG3.out⟩
  ·obtain rfl:k=ls.length:=by omega
   have HOK:=Lh (show RplOk (runR ⟨1,[],[],false⟩ ls) 40 from (runR_ok (newR_ok 1) ls).more (by omega));rw [List.take_length] at hG;generalize runR ⟨1,[],[],false⟩ ls=r at *
   have HG:=Lh hG;clear hG HL;obtain ⟨a7,ha7⟩:∃ a,a=(doR r (cK 7)).2.1:=⟨_,rfl⟩
   obtain ⟨a3,ha3⟩:∃ a,a=(doR r (cK 3)).2.1:=⟨_,rfl⟩
   have H7:=Lh ha7;have H3:=Lh ha3;clear ha7 ha3;have HK7:=Lh (fun (W:World) (h:(fun V=>IsRp V r [c0,c1,c2,c3,c4,c5,c6,c7,c8,c9]) W) (hb:Below w.heap.size w W)=>show Calls Tryz.prog 12 #[.agg #[c0,c1,c2,c3,c4,c5,c6,c7,c8,c9],.agg #[.int .i64 7,.int .i64 0,.int .i32 0,.int .i64 0,.int .i64 0,.int .i64 0,.int .i64 0,.int .i64 0,.int .i32 0,.int .i64 0,.int .i64 0]] W fun e w'=>e=.returned (.agg #[a7.e,a7.n,.string a7.t])∧Below W.heap.size W w' from by rw [H7.out]; exact HH.out.look r 40 (cK 7) c0 c1 c2 c3 c4 c5 c6 c7 c8 c9 W HOK.out (by omega) h (HPT.out.1.next hb) (HPT.out.2.next hb));have HK3:=Lh (fun (W:World) (h:(fun V=>IsRp V r [c0,c1,c2,c3,c4,c5,c6,c7,c8,c9]) W) (hb:Below w.heap.size w W)=>show Calls Tryz.prog 12 #[.agg #[c0,c1,c2,c3,c4,c5,c6,c7,c8,c9],.agg #[.int .i64 3,.int .i64 0,.int .i32 0,.int .i64 0,.int .i64 0,.int .i64 0,.int .i64 0,.int .i64 0,.int .i32 0,.int .i64 0,.int .i64 0]] W fun e w'=>e=.returned (.agg #[a3.e,a3.n,.string a3.t])∧Below W.heap.size W w' from by rw [H3.out]; exact HH.out.look r 40 (cK 3) c0 c1 c2 c3 c4 c5 c6 c7 c8 c9 W HOK.out (by omega) h (HPT.out.1.next hb) (HPT.out.2.next hb));have HDO:=Lh (fun (W:World) (h:IsRp W r [c0,c1,c2,c3,c4,c5,c6,c7,c8,c9]) (hb:Below w.heap.size w W)=>HH.out.do_ r 40 c c0 c1 c2 c3 c4 c5 c6 c7 c8 c9 W HOK.out (by omega) h (HPT.out.1.next hb) (HPT.out.2.next hb));have v0 := HG.out.br.c10;go_wp2_with (go_at_call 12; refine (HK7.out _ HG.out.ir HG.out.c.bel).mono ?_; rintro e w1 ⟨rfl,hb⟩; refine Hid.out ?_)
   have HG1:=Lh (And.intro ((HG.out.next hb).next (bl1 w1 [a7.e,a7.n,.string a7.t] 59)) (Blk.start w1 [a7.e,a7.n,.string a7.t] 59));clear HG hb HK7 v0;refine Lh ?_
   go_upto_region 12 with fail
   generalize w1.alloc (.cells #[a7.e,a7.n,.string a7.t] 59)=W1 at *
   generalize w1.heap.size=bL at *
   have v0 := HG1.out.1.br.c10;go_wp2_with (go_at_call 12; refine (HK3.out _ HG1.out.1.ir HG1.out.1.c.bel).mono ?_; rintro e w2 ⟨rfl,hb⟩; refine Hid.out ?_)
   have HG2:=Lh (And.intro ((HG1.out.1.next hb).next (bl1 w2 [a3.e,a3.n,.string a3.t] 59)) (And.intro ((HG1.out.2.next hb).next (bl1 w2 [a3.e,a3.n,.string a3.t] 59)) (Blk.start w2 [a3.e,a3.n,.string a3.t] 59)));clear HG1 hb HK3 v0;refine Lh ?_
   go_upto_region 13 with fail
   generalize w2.alloc (.cells #[a3.e,a3.n,.string a3.t] 59)=W2 at *
   generalize w2.heap.size=bT at *
   have v0 := HG2.out.1.br.c10;have y0 := HG2.out.1.c.bc.c11;obtain ⟨q,hq⟩:∃ q,q=doR r c:=⟨_,rfl⟩
   have HQ:=Lh hq;rw [←hq] at HDO;obtain ⟨x,hx⟩:∃ x,x=q.2.1:=⟨_,rfl⟩
   have HX:=Lh hx;rw [←hx] at HDO;clear hq hx;go_wp2_with (go_at_call 10; refine (HDO.out _ HG2.out.1.ir HG2.out.1.c.bel).mono ?_; rintro e w3 ⟨hb,d0,d1,d2,d3,d4,d5,d6,d7,d8,d9,rfl,hir⟩; refine Hid.out ?_)
   obtain ⟨sd0,sd1,sd2,sd3,sd4,sd5,sd6,sd7,sd8,sd9⟩:=st10 hir.one;have hA:=bl2 w3 [d0,d1,d2,d3,d4,d5,d6,d7,d8,d9] [x.e,x.n,.string x.t] 41 59;have HS:=Lh (show N12 w c bL bT w3.heap.size (w3.heap.size+1) a7 a3 x q.1 [d0,d1,d2,d3,d4,d5,d6,d7,d8,d9] ((w3.alloc (.cells #[d0,d1,d2,d3,d4,d5,d6,d7,d8,d9] 41)).alloc (.cells #[x.e,x.n,.string x.t] 59)) from ⟨(HG2.out.1.c.next hb).next hA,(HG2.out.2.1.next hb).next hA,(HG2.out.2.2.next hb).next hA,(Blk.start w3 _ _).alloc _,Blk.startAt (by simp),hir.next hA⟩);clear HG2 hb hA hir HDO v0 y0;refine Lh ?_
   go_upto_region 14 with fail
   generalize (w3.alloc (.cells #[d0,d1,d2,d3,d4,d5,d6,d7,d8,d9] 41)).alloc (.cells #[x.e,x.n,.string x.t] 59)=W3 at *
   generalize w3.heap.size=bN at *
   clear sd0 sd1 sd2 sd3 sd4 sd5 sd6 sd7 sd8 sd9;have HOQ:=Lh (show RplOk q.1 41 from by rw [HQ.out]; exact doR_ok HOK.out c);have HWR:=Lh (fun W=>HH.out.wr c.k W c.k0 c.k1);obtain ⟨f,hf⟩:∃ f,f=doR q.1 (cK 8):=⟨_,rfl⟩
   have HSH:=Lh (show shutB f.1=true from by rw [hf]; exact doR_close q.1 rfl);have HOF:=Lh (show RplOk f.1 42 from by rw [hf]; exact doR_ok HOQ.out (cK 8));obtain ⟨z,hz⟩:∃ z,z=f.2.1:=⟨_,rfl⟩
   have HDC:=Lh (fun (W:World) (h:IsRp W q.1 [d0,d1,d2,d3,d4,d5,d6,d7,d8,d9]) (hb:Below w.heap.size w W)=>show Calls Tryz.prog 10 #[.agg #[d0,d1,d2,d3,d4,d5,d6,d7,d8,d9],.agg #[.int .i64 8,.int .i64 0,.int .i32 0,.int .i64 0,.int .i64 0,.int .i64 0,.int .i64 0,.int .i64 0,.int .i32 0,.int .i64 0,.int .i64 0]] W fun e w'=>Below W.heap.size W w'∧∃ s0 s1 s2 s3 s4 s5 s6 s7 s8 s9,e=.returned (.tuple #[.agg #[s0,s1,s2,s3,s4,s5,s6,s7,s8,s9],.agg #[z.e,z.n,.string z.t]])∧IsRp w' f.1 [s0,s1,s2,s3,s4,s5,s6,s7,s8,s9] from by rw [hz,hf]; exact HH.out.do_ q.1 41 (cK 8) d0 d1 d2 d3 d4 d5 d6 d7 d8 d9 W HOQ.out (by omega) h (HPT.out.1.next hb) (HPT.out.2.next hb));obtain ⟨y,hy⟩:∃ y,y=(doR f.1 c).2.1:=⟨_,rfl⟩
   have HKY:=Lh (fun s0 s1 s2 s3 s4 s5 s6 s7 s8 s9 (W:World) (h:IsRp W f.1 [s0,s1,s2,s3,s4,s5,s6,s7,s8,s9]) (hb:Below w.heap.size w W)=>show Calls Tryz.prog 12 #[.agg #[s0,s1,s2,s3,s4,s5,s6,s7,s8,s9],.agg #[c.k,c.p,.int .i32 c.ch,c.o.k,c.o.c,c.o.s,c.o.a,c.o.n,.int .i32 c.o.ch,c.a,c.b]] W fun e w'=>e=.returned (.agg #[y.e,y.n,.string y.t])∧Below W.heap.size W w' from by rw [hy]; exact HH.out.look f.1 42 c s0 s1 s2 s3 s4 s5 s6 s7 s8 s9 W HOF.out (by omega) h (HPT.out.1.next hb) (HPT.out.2.next hb));have HCL:=Lh (fun s0 s1 s2 s3 s4 s5 s6 s7 s8 s9 (W:World) (h:IsRp W f.1 [s0,s1,s2,s3,s4,s5,s6,s7,s8,s9])=>show Calls Tryz.prog 16 #[.agg #[s0,s1,s2,s3,s4,s5,s6,s7,s8,s9]] W fun e w'=>e=.returned (.bool true)∧Below W.heap.size W w' from by rw [←HSH.out]; exact HH.out.shut f.1 42 s0 s1 s2 s3 s4 s5 s6 s7 s8 s9 W HOF.out (by omega) h);have HYE0:=Lh (show y.e=if c.k<0∨8<c.k then (1:Int) else 9 from by rw [hy,doR_shut HSH.out c]; rfl);clear hy hz hf;have HXE:=Lh (show x.e≠0→q.1=r∧x.n=0∧x.t=⟨#[]⟩ from by intro h; rw [HX.out,HQ.out] at h ⊢; exact doR_err h);have HST:=Lh (show (c.k<0∨2<c.k)→c.k≠8→q.1=r from by intro h h8; rw [HQ.out]; exact doR_stay r h h8);rcases (show (0≤c.k∧c.k≤2)∨c.k=8∨((c.k<0∨2<c.k)∧c.k≠8) by omega) with hm | hm | hm
   ·skip
    have HWB:=Lh (show writesB c.k=true from by unfold writesB; simp; omega);rw [HWB.out] at HWR;refine rgH (fun W=>Cc11 W w.heap.size c.k c.p (.int .i32 c.ch) c.o.k c.o.c c.o.s c.o.a c.o.n (.int .i32 c.o.ch) c.a c.b (Cc10 W bN d0 d1 d2 d3 d4 d5 d6 d7 d8 d9 (Cc3 W (bN+1) x.e x.n (.string x.t) (Cc3 W bL a7.e a7.n (.string a7.t) (Cc3 W bT a3.e a3.n (.string a3.t) (N12 w c bL bT bN (bN+1) a7 a3 x q.1 [d0,d1,d2,d3,d4,d5,d6,d7,d8,d9] W)))))) (let h:=HS.out.next bdq; h.c.bc.d11 (h.bn.d10 (h.bx.d3 (h.bl.d3 (h.bt.d3 h))))) fun hH=>?_
    clear HS;refine tq 0 (.pointer (some ⟨w.heap.size,0,none⟩)) hH ?_;refine tq 1 c.k hH ?_;refine rd1 2 (by kernel_rfl) rfl fun K hK=>?_
    go_simp
    refine (HWR.out _).mono ?_
    rintro e u ⟨rfl,hb⟩
    go_wp2_with fail
    refine hK.out _ _ (let h:=hH.2.2.2.2.2.2.2.2.2.2.2.2.2.2.2.2.2.2.2.2.2.2.2.2.2.2.2.2.2.2.next hb; h.c.bc.d11 (h.bn.d10 (h.bx.d3 (h.bl.d3 (h.bt.d3 h))))) ?_;clear hK K hH;intro hH
    try simp only [LAY]
    refine tq 3 (.bool false) hH ?_;refine tq 4 (.bool false) hH ?_;refine sk 5 hH ?_
    try simp only [LAY]
    refine sk 6 hH ?_
    try simp only [LAY]
    refine sk 7 hH ?_
    try simp only [LAY]
    refine tq 8 (.bool false) hH ?_;refine tq 9 (.bool false) hH ?_;refine sk 10 hH ?_
    try simp only [LAY]
    refine sk 11 hH ?_
    try simp only [LAY]
    refine sk 12 hH ?_
    try simp only [LAY]
    refine sk 13 hH ?_
    try simp only [LAY]
    refine sk 14 hH ?_
    try simp only [LAY]
    refine sk 15 hH ?_
    try simp only [LAY]
    refine sk 16 hH ?_
    try simp only [LAY]
    refine sk 17 hH ?_
    try simp only [LAY]
    refine sk 18 hH ?_
    try simp only [LAY]
    refine sk 19 hH ?_
    try simp only [LAY]
    refine sk 20 hH ?_
    try simp only [LAY]
    refine sk 21 hH ?_
    try simp only [LAY]
    refine sk 22 hH ?_
    try simp only [LAY]
    refine sk 23 hH ?_
    try simp only [LAY]
    refine sk 24 hH ?_
    try simp only [LAY]
    refine sk 25 hH ?_
    try simp only [LAY]
    refine sk 26 hH ?_
    try simp only [LAY]
    refine sk 27 hH ?_
    try simp only [LAY]
    refine sk 28 hH ?_
    try simp only [LAY]
    refine tq 29 (.bool false) hH ?_;refine dnH ?_;have HS:=Lh hH.2.2.2.2.2.2.2.2.2.2.2.2.2.2.2.2.2.2.2.2.2.2.2.2.2.2.2.2.2.2;clear hH;go_wp2_with fail
    by_cases hxe:x.e=0
    ·skip
     refine rgH (fun W=>Cc11 W w.heap.size c.k c.p (.int .i32 c.ch) c.o.k c.o.c c.o.s c.o.a c.o.n (.int .i32 c.o.ch) c.a c.b (Cc10 W bN d0 d1 d2 d3 d4 d5 d6 d7 d8 d9 (Cc3 W (bN+1) x.e x.n (.string x.t) (Cc3 W bL a7.e a7.n (.string a7.t) (Cc3 W bT a3.e a3.n (.string a3.t) (N12 w c bL bT bN (bN+1) a7 a3 x q.1 [d0,d1,d2,d3,d4,d5,d6,d7,d8,d9] W)))))) (let h:=HS.out.next bdq; h.c.bc.d11 (h.bn.d10 (h.bx.d3 (h.bl.d3 (h.bt.d3 h))))) fun hH=>?_
     clear HS;refine tq 0 (.pointer (some ⟨bN+1,0,none⟩)) hH ?_;refine tq 1 x.e hH ?_;refine tq 2 (.bool false) hH ?_;refine tq 3 (.bool false) hH ?_;refine sk 4 hH ?_
     try simp only [LAY]
     refine sk 5 hH ?_
     try simp only [LAY]
     refine sk 6 hH ?_
     try simp only [LAY]
     refine sk 7 hH ?_
     try simp only [LAY]
     refine sk 8 hH ?_
     try simp only [LAY]
     refine sk 9 hH ?_
     try simp only [LAY]
     refine sk 10 hH ?_
     try simp only [LAY]
     refine sk 11 hH ?_
     try simp only [LAY]
     refine sk 12 hH ?_
     try simp only [LAY]
     refine sk 13 hH ?_
     try simp only [LAY]
     refine sk 14 hH ?_
     try simp only [LAY]
     refine sk 15 hH ?_
     try simp only [LAY]
     refine sk 16 hH ?_
     try simp only [LAY]
     refine sk 17 hH ?_
     try simp only [LAY]
     refine sk 18 hH ?_
     try simp only [LAY]
     refine tq 19 (.bool false) hH ?_;refine dnH ?_;have HS:=Lh hH.2.2.2.2.2.2.2.2.2.2.2.2.2.2.2.2.2.2.2.2.2.2.2.2.2.2.2.2.2.2;clear hH;clear hxe;have v0 := HS.out.bn.c10;go_wp2_with (go_at_call 10; refine (HDC.out _ HS.out.iq HS.out.c.bel).mono ?_; rintro e w4 ⟨hb,s0,s1,s2,s3,s4,s5,s6,s7,s8,s9,rfl,hir⟩; refine Hid.out ?_)
     obtain ⟨sd0,sd1,sd2,sd3,sd4,sd5,sd6,sd7,sd8,sd9⟩:=st10 hir.one;have hA:=bl2 w4 [s0,s1,s2,s3,s4,s5,s6,s7,s8,s9] [z.e,z.n,.string z.t] 41 59;have HU:=Lh (And.intro ((HS.out.c.next hb).next hA) (And.intro (show Blk ((w4.alloc (.cells #[s0,s1,s2,s3,s4,s5,s6,s7,s8,s9] 41)).alloc (.cells #[z.e,z.n,.string z.t] 59)) w4.heap.size [s0,s1,s2,s3,s4,s5,s6,s7,s8,s9] 41 from (Blk.start w4 _ _).alloc _) (hir.next hA)));clear HS hb hA hir HDC v0;refine Lh ?_
     go_upto_region 19 with fail
     generalize (w4.alloc (.cells #[s0,s1,s2,s3,s4,s5,s6,s7,s8,s9] 41)).alloc (.cells #[z.e,z.n,.string z.t] 59)=W4 at *
     generalize w4.heap.size=bS at *
     clear sd0 sd1 sd2 sd3 sd4 sd5 sd6 sd7 sd8 sd9;have v0 := HU.out.2.1.c10;have y0 := HU.out.1.bc.c11;go_wp2_with (go_at_call 12; refine (HKY.out s0 s1 s2 s3 s4 s5 s6 s7 s8 s9 _ HU.out.2.2 HU.out.1.bel).mono ?_; rintro e w5 ⟨rfl,hb⟩; refine Hid.out ?_)
     have hA:=bl1 w5 [y.e,y.n,.string y.t] 59;have HU2:=Lh (And.intro ((HU.out.1.next hb).next hA) (And.intro ((HU.out.2.1.next hb).next hA) (And.intro ((HU.out.2.2.next hb).next hA) (Blk.start w5 [y.e,y.n,.string y.t] 59))));clear HU hb hA v0 y0;refine Lh ?_
     go_upto_region 20 with fail
     generalize w5.alloc (.cells #[y.e,y.n,.string y.t] 59)=W5 at *
     generalize w5.heap.size=bY at *
     have y0 := HU2.out.1.bc.c11;obtain ⟨hm,hm2⟩:0≤c.k∧c.k≤8:=by omega
     ·skip
      have HYE:=Lh (show y.e=9 from by rw [HYE0.out]; rw [if_neg (by omega)]);go_wp2_with (go_at_call 5; refine (HAW.out _ (HPT.out.1.next HU2.out.1.bel) (HPT.out.2.next HU2.out.1.bel)).mono ?_; rintro e w6 ⟨rfl,hb⟩; refine Hid.out ?_)
      have HU3:=Lh (And.intro (HU2.out.1.next hb) (And.intro (HU2.out.2.1.next hb) (And.intro (HU2.out.2.2.1.next hb) (HU2.out.2.2.2.next hb))));clear HU2 hb y0;have v0 := HU3.out.2.1.c10;obtain ⟨t0,t1,t2⟩:=HU3.out.2.2.2.c3;rw [HYE.out] at t0;refine Lh ?_;go_wp2_with (go_at_call 16; refine (HCL.out s0 s1 s2 s3 s4 s5 s6 s7 s8 s9 _ HU3.out.2.2.1).mono ?_; rintro e w7 ⟨rfl,hb⟩; refine Hid.out ?_)
      have HF:=Lh ((HU3.out.1.next hb).bel);have t3:=(HU3.out.2.2.2.next hb).cell 0 rfl;rw [HYE.out] at t3;clear HU3 hb v0 t0 t1 t2;refine Lh ?_;go_wp2_with fail
      go_ret
      exact ⟨rfl,HF.out⟩
    ·skip
     obtain ⟨hst,hxn,hxt⟩:=HXE.out hxe;have HK7:=Lh (fun (W:World) (h:IsRp W q.1 [d0,d1,d2,d3,d4,d5,d6,d7,d8,d9]) (hb:Below w.heap.size w W)=>show Calls Tryz.prog 12 #[.agg #[d0,d1,d2,d3,d4,d5,d6,d7,d8,d9],.agg #[.int .i64 7,.int .i64 0,.int .i32 0,.int .i64 0,.int .i64 0,.int .i64 0,.int .i64 0,.int .i64 0,.int .i32 0,.int .i64 0,.int .i64 0]] W fun e w'=>e=.returned (.agg #[a7.e,a7.n,.string a7.t])∧Below W.heap.size W w' from by have e1:a7=(doR q.1 (cK 7)).2.1:=(by rw [hst,H7.out]); rw [e1]; exact HH.out.look q.1 41 (cK 7) d0 d1 d2 d3 d4 d5 d6 d7 d8 d9 W HOQ.out (by omega) h (HPT.out.1.next hb) (HPT.out.2.next hb));clear hst;refine rgH (fun W=>Cc11 W w.heap.size c.k c.p (.int .i32 c.ch) c.o.k c.o.c c.o.s c.o.a c.o.n (.int .i32 c.o.ch) c.a c.b (Cc10 W bN d0 d1 d2 d3 d4 d5 d6 d7 d8 d9 (Cc3 W (bN+1) x.e x.n (.string x.t) (Cc3 W bL a7.e a7.n (.string a7.t) (Cc3 W bT a3.e a3.n (.string a3.t) (N12 w c bL bT bN (bN+1) a7 a3 x q.1 [d0,d1,d2,d3,d4,d5,d6,d7,d8,d9] W)))))) (let h:=HS.out.next bdq; h.c.bc.d11 (h.bn.d10 (h.bx.d3 (h.bl.d3 (h.bt.d3 h))))) fun hH=>?_
     clear HS;refine tq 0 (.pointer (some ⟨bN+1,0,none⟩)) hH ?_;refine tq 1 x.e hH ?_;refine tq 2 (.bool true) hH ?_;refine tq 3 (.bool true) hH ?_;refine tq 4 (.pointer (some ⟨bN+1,1,none⟩)) hH ?_;refine tq 5 x.n hH ?_;refine tq 6 (.bool false) hH ?_;refine tq 7 (.bool false) hH ?_;refine tq 8 (.pointer (some ⟨bN+1,2,none⟩)) hH ?_;refine tq 9 (.string x.t) hH ?_;refine tq 10 (.bool false) hH ?_;refine tq 11 (.bool false) hH ?_;refine tq 12 (.bool false) hH ?_;refine tq 13 (.agg #[d0,d1,d2,d3,d4,d5,d6,d7,d8,d9]) hH ?_;refine tq 14 (.agg #[.int .i64 7,.int .i64 0,.int .i32 0,.int .i64 0,.int .i64 0,.int .i64 0,.int .i64 0,.int .i64 0,.int .i32 0,.int .i64 0,.int .i64 0]) hH ?_;refine tq 16 (.agg #[a7.e,a7.n,.string a7.t]) hH ?_;refine rd1 15 (by kernel_rfl) rfl fun K hK=>?_
     go_simp
     refine (HK7.out _ hH.2.2.2.2.2.2.2.2.2.2.2.2.2.2.2.2.2.2.2.2.2.2.2.2.2.2.2.2.2.2.iq hH.2.2.2.2.2.2.2.2.2.2.2.2.2.2.2.2.2.2.2.2.2.2.2.2.2.2.2.2.2.2.c.bel).mono ?_
     rintro e u ⟨rfl,hb5⟩
     go_wp2_with fail
     refine hK.out _ _ (let h:=hH.2.2.2.2.2.2.2.2.2.2.2.2.2.2.2.2.2.2.2.2.2.2.2.2.2.2.2.2.2.2.next hb5; h.c.bc.d11 (h.bn.d10 (h.bx.d3 (h.bl.d3 (h.bt.d3 h))))) ?_;clear hK K hH;intro hH
     try simp only [LAY]
     refine tq 17 (.bool false) hH ?_;refine tq 18 (.bool false) hH ?_;refine tq 19 (.bool false) hH ?_;refine dnH ?_;have HS:=Lh hH.2.2.2.2.2.2.2.2.2.2.2.2.2.2.2.2.2.2.2.2.2.2.2.2.2.2.2.2.2.2;clear hH;clear hxe hxn hxt;have v0 := HS.out.bn.c10;go_wp2_with (go_at_call 10; refine (HDC.out _ HS.out.iq HS.out.c.bel).mono ?_; rintro e w4 ⟨hb,s0,s1,s2,s3,s4,s5,s6,s7,s8,s9,rfl,hir⟩; refine Hid.out ?_)
     obtain ⟨sd0,sd1,sd2,sd3,sd4,sd5,sd6,sd7,sd8,sd9⟩:=st10 hir.one;have hA:=bl2 w4 [s0,s1,s2,s3,s4,s5,s6,s7,s8,s9] [z.e,z.n,.string z.t] 41 59;have HU:=Lh (And.intro ((HS.out.c.next hb).next hA) (And.intro (show Blk ((w4.alloc (.cells #[s0,s1,s2,s3,s4,s5,s6,s7,s8,s9] 41)).alloc (.cells #[z.e,z.n,.string z.t] 59)) w4.heap.size [s0,s1,s2,s3,s4,s5,s6,s7,s8,s9] 41 from (Blk.start w4 _ _).alloc _) (hir.next hA)));clear HS hb hA hir HDC v0;refine Lh ?_
     go_upto_region 19 with fail
     generalize (w4.alloc (.cells #[s0,s1,s2,s3,s4,s5,s6,s7,s8,s9] 41)).alloc (.cells #[z.e,z.n,.string z.t] 59)=W4 at *
     generalize w4.heap.size=bS at *
     clear sd0 sd1 sd2 sd3 sd4 sd5 sd6 sd7 sd8 sd9;have v0 := HU.out.2.1.c10;have y0 := HU.out.1.bc.c11;go_wp2_with (go_at_call 12; refine (HKY.out s0 s1 s2 s3 s4 s5 s6 s7 s8 s9 _ HU.out.2.2 HU.out.1.bel).mono ?_; rintro e w5 ⟨rfl,hb⟩; refine Hid.out ?_)
     have hA:=bl1 w5 [y.e,y.n,.string y.t] 59;have HU2:=Lh (And.intro ((HU.out.1.next hb).next hA) (And.intro ((HU.out.2.1.next hb).next hA) (And.intro ((HU.out.2.2.next hb).next hA) (Blk.start w5 [y.e,y.n,.string y.t] 59))));clear HU hb hA v0 y0;refine Lh ?_
     go_upto_region 20 with fail
     generalize w5.alloc (.cells #[y.e,y.n,.string y.t] 59)=W5 at *
     generalize w5.heap.size=bY at *
     have y0 := HU2.out.1.bc.c11;obtain ⟨hm,hm2⟩:0≤c.k∧c.k≤8:=by omega
     ·skip
      have HYE:=Lh (show y.e=9 from by rw [HYE0.out]; rw [if_neg (by omega)]);go_wp2_with (go_at_call 5; refine (HAW.out _ (HPT.out.1.next HU2.out.1.bel) (HPT.out.2.next HU2.out.1.bel)).mono ?_; rintro e w6 ⟨rfl,hb⟩; refine Hid.out ?_)
      have HU3:=Lh (And.intro (HU2.out.1.next hb) (And.intro (HU2.out.2.1.next hb) (And.intro (HU2.out.2.2.1.next hb) (HU2.out.2.2.2.next hb))));clear HU2 hb y0;have v0 := HU3.out.2.1.c10;obtain ⟨t0,t1,t2⟩:=HU3.out.2.2.2.c3;rw [HYE.out] at t0;refine Lh ?_;go_wp2_with (go_at_call 16; refine (HCL.out s0 s1 s2 s3 s4 s5 s6 s7 s8 s9 _ HU3.out.2.2.1).mono ?_; rintro e w7 ⟨rfl,hb⟩; refine Hid.out ?_)
      have HF:=Lh ((HU3.out.1.next hb).bel);have t3:=(HU3.out.2.2.2.next hb).cell 0 rfl;rw [HYE.out] at t3;clear HU3 hb v0 t0 t1 t2;refine Lh ?_;go_wp2_with fail
      go_ret
      exact ⟨rfl,HF.out⟩
   ·skip
    have HWB:=Lh (show writesB c.k=false from by unfold writesB; rw [hm]; rfl);have HM:=Lh hm;have h8:(c.k != 8)=false:=by rw [hm]; rfl
    clear hm;rw [HWB.out] at HWR;refine rgH (fun W=>Cc11 W w.heap.size c.k c.p (.int .i32 c.ch) c.o.k c.o.c c.o.s c.o.a c.o.n (.int .i32 c.o.ch) c.a c.b (Cc10 W bN d0 d1 d2 d3 d4 d5 d6 d7 d8 d9 (Cc3 W (bN+1) x.e x.n (.string x.t) (Cc3 W bL a7.e a7.n (.string a7.t) (Cc3 W bT a3.e a3.n (.string a3.t) (N12 w c bL bT bN (bN+1) a7 a3 x q.1 [d0,d1,d2,d3,d4,d5,d6,d7,d8,d9] W)))))) (let h:=HS.out.next bdq; h.c.bc.d11 (h.bn.d10 (h.bx.d3 (h.bl.d3 (h.bt.d3 h))))) fun hH=>?_
    clear HS;refine tq 0 (.pointer (some ⟨w.heap.size,0,none⟩)) hH ?_;refine tq 1 c.k hH ?_;refine rd1 2 (by kernel_rfl) rfl fun K hK=>?_
    go_simp
    refine (HWR.out _).mono ?_
    rintro e u ⟨rfl,hb⟩
    go_wp2_with fail
    refine hK.out _ _ (let h:=hH.2.2.2.2.2.2.2.2.2.2.2.2.2.2.2.2.2.2.2.2.2.2.2.2.2.2.2.2.2.2.next hb; h.c.bc.d11 (h.bn.d10 (h.bx.d3 (h.bl.d3 (h.bt.d3 h))))) ?_;clear hK K hH;intro hH
    try simp only [LAY]
    refine tq 3 (.bool true) hH ?_;refine tq 4 (.bool true) hH ?_;refine tq 5 (.pointer (some ⟨w.heap.size,0,none⟩)) hH ?_;refine tq 6 c.k hH ?_;refine tq 7 (.bool false) hH ?_;refine tq 8 (.bool false) hH ?_;refine tq 9 (.bool false) hH ?_;refine sk 10 hH ?_
    try simp only [LAY]
    refine sk 11 hH ?_
    try simp only [LAY]
    refine sk 12 hH ?_
    try simp only [LAY]
    refine sk 13 hH ?_
    try simp only [LAY]
    refine sk 14 hH ?_
    try simp only [LAY]
    refine sk 15 hH ?_
    try simp only [LAY]
    refine sk 16 hH ?_
    try simp only [LAY]
    refine sk 17 hH ?_
    try simp only [LAY]
    refine sk 18 hH ?_
    try simp only [LAY]
    refine sk 19 hH ?_
    try simp only [LAY]
    refine sk 20 hH ?_
    try simp only [LAY]
    refine sk 21 hH ?_
    try simp only [LAY]
    refine sk 22 hH ?_
    try simp only [LAY]
    refine sk 23 hH ?_
    try simp only [LAY]
    refine sk 24 hH ?_
    try simp only [LAY]
    refine sk 25 hH ?_
    try simp only [LAY]
    refine sk 26 hH ?_
    try simp only [LAY]
    refine sk 27 hH ?_
    try simp only [LAY]
    refine sk 28 hH ?_
    try simp only [LAY]
    refine tq 29 (.bool false) hH ?_;refine dnH ?_;have HS:=Lh hH.2.2.2.2.2.2.2.2.2.2.2.2.2.2.2.2.2.2.2.2.2.2.2.2.2.2.2.2.2.2;clear hH;go_wp2_with fail
    by_cases hxe:x.e=0
    ·skip
     refine rgH (fun W=>Cc11 W w.heap.size c.k c.p (.int .i32 c.ch) c.o.k c.o.c c.o.s c.o.a c.o.n (.int .i32 c.o.ch) c.a c.b (Cc10 W bN d0 d1 d2 d3 d4 d5 d6 d7 d8 d9 (Cc3 W (bN+1) x.e x.n (.string x.t) (Cc3 W bL a7.e a7.n (.string a7.t) (Cc3 W bT a3.e a3.n (.string a3.t) (N12 w c bL bT bN (bN+1) a7 a3 x q.1 [d0,d1,d2,d3,d4,d5,d6,d7,d8,d9] W)))))) (let h:=HS.out.next bdq; h.c.bc.d11 (h.bn.d10 (h.bx.d3 (h.bl.d3 (h.bt.d3 h))))) fun hH=>?_
     clear HS;refine tq 0 (.pointer (some ⟨bN+1,0,none⟩)) hH ?_;refine tq 1 x.e hH ?_;refine tq 2 (.bool false) hH ?_;refine tq 3 (.bool false) hH ?_;refine sk 4 hH ?_
     try simp only [LAY]
     refine sk 5 hH ?_
     try simp only [LAY]
     refine sk 6 hH ?_
     try simp only [LAY]
     refine sk 7 hH ?_
     try simp only [LAY]
     refine sk 8 hH ?_
     try simp only [LAY]
     refine sk 9 hH ?_
     try simp only [LAY]
     refine sk 10 hH ?_
     try simp only [LAY]
     refine sk 11 hH ?_
     try simp only [LAY]
     refine sk 12 hH ?_
     try simp only [LAY]
     refine sk 13 hH ?_
     try simp only [LAY]
     refine sk 14 hH ?_
     try simp only [LAY]
     refine sk 15 hH ?_
     try simp only [LAY]
     refine sk 16 hH ?_
     try simp only [LAY]
     refine sk 17 hH ?_
     try simp only [LAY]
     refine sk 18 hH ?_
     try simp only [LAY]
     refine tq 19 (.bool false) hH ?_;refine dnH ?_;have HS:=Lh hH.2.2.2.2.2.2.2.2.2.2.2.2.2.2.2.2.2.2.2.2.2.2.2.2.2.2.2.2.2.2;clear hH;clear hxe h8;have v0 := HS.out.bn.c10;go_wp2_with (go_at_call 10; refine (HDC.out _ HS.out.iq HS.out.c.bel).mono ?_; rintro e w4 ⟨hb,s0,s1,s2,s3,s4,s5,s6,s7,s8,s9,rfl,hir⟩; refine Hid.out ?_)
     obtain ⟨sd0,sd1,sd2,sd3,sd4,sd5,sd6,sd7,sd8,sd9⟩:=st10 hir.one;have hA:=bl2 w4 [s0,s1,s2,s3,s4,s5,s6,s7,s8,s9] [z.e,z.n,.string z.t] 41 59;have HU:=Lh (And.intro ((HS.out.c.next hb).next hA) (And.intro (show Blk ((w4.alloc (.cells #[s0,s1,s2,s3,s4,s5,s6,s7,s8,s9] 41)).alloc (.cells #[z.e,z.n,.string z.t] 59)) w4.heap.size [s0,s1,s2,s3,s4,s5,s6,s7,s8,s9] 41 from (Blk.start w4 _ _).alloc _) (hir.next hA)));clear HS hb hA hir HDC v0;refine Lh ?_
     go_upto_region 19 with fail
     generalize (w4.alloc (.cells #[s0,s1,s2,s3,s4,s5,s6,s7,s8,s9] 41)).alloc (.cells #[z.e,z.n,.string z.t] 59)=W4 at *
     generalize w4.heap.size=bS at *
     clear sd0 sd1 sd2 sd3 sd4 sd5 sd6 sd7 sd8 sd9;have v0 := HU.out.2.1.c10;have y0 := HU.out.1.bc.c11;go_wp2_with (go_at_call 12; refine (HKY.out s0 s1 s2 s3 s4 s5 s6 s7 s8 s9 _ HU.out.2.2 HU.out.1.bel).mono ?_; rintro e w5 ⟨rfl,hb⟩; refine Hid.out ?_)
     have hA:=bl1 w5 [y.e,y.n,.string y.t] 59;have HU2:=Lh (And.intro ((HU.out.1.next hb).next hA) (And.intro ((HU.out.2.1.next hb).next hA) (And.intro ((HU.out.2.2.next hb).next hA) (Blk.start w5 [y.e,y.n,.string y.t] 59))));clear HU hb hA v0 y0;refine Lh ?_
     go_upto_region 20 with fail
     generalize w5.alloc (.cells #[y.e,y.n,.string y.t] 59)=W5 at *
     generalize w5.heap.size=bY at *
     have y0 := HU2.out.1.bc.c11;obtain ⟨hm,hm2⟩:0≤c.k∧c.k≤8:=by have:=HM.out; omega
     ·skip
      have HYE:=Lh (show y.e=9 from by rw [HYE0.out]; rw [if_neg (by omega)]);go_wp2_with (go_at_call 5; refine (HAW.out _ (HPT.out.1.next HU2.out.1.bel) (HPT.out.2.next HU2.out.1.bel)).mono ?_; rintro e w6 ⟨rfl,hb⟩; refine Hid.out ?_)
      have HU3:=Lh (And.intro (HU2.out.1.next hb) (And.intro (HU2.out.2.1.next hb) (And.intro (HU2.out.2.2.1.next hb) (HU2.out.2.2.2.next hb))));clear HU2 hb y0;have v0 := HU3.out.2.1.c10;obtain ⟨t0,t1,t2⟩:=HU3.out.2.2.2.c3;rw [HYE.out] at t0;refine Lh ?_;go_wp2_with (go_at_call 16; refine (HCL.out s0 s1 s2 s3 s4 s5 s6 s7 s8 s9 _ HU3.out.2.2.1).mono ?_; rintro e w7 ⟨rfl,hb⟩; refine Hid.out ?_)
      have HF:=Lh ((HU3.out.1.next hb).bel);have t3:=(HU3.out.2.2.2.next hb).cell 0 rfl;rw [HYE.out] at t3;clear HU3 hb v0 t0 t1 t2;refine Lh ?_;go_wp2_with fail
      go_ret
      exact ⟨rfl,HF.out⟩
    ·skip
     obtain ⟨hst,hxn,hxt⟩:=HXE.out hxe;have HK7:=Lh (fun (W:World) (h:IsRp W q.1 [d0,d1,d2,d3,d4,d5,d6,d7,d8,d9]) (hb:Below w.heap.size w W)=>show Calls Tryz.prog 12 #[.agg #[d0,d1,d2,d3,d4,d5,d6,d7,d8,d9],.agg #[.int .i64 7,.int .i64 0,.int .i32 0,.int .i64 0,.int .i64 0,.int .i64 0,.int .i64 0,.int .i64 0,.int .i32 0,.int .i64 0,.int .i64 0]] W fun e w'=>e=.returned (.agg #[a7.e,a7.n,.string a7.t])∧Below W.heap.size W w' from by have e1:a7=(doR q.1 (cK 7)).2.1:=(by rw [hst,H7.out]); rw [e1]; exact HH.out.look q.1 41 (cK 7) d0 d1 d2 d3 d4 d5 d6 d7 d8 d9 W HOQ.out (by omega) h (HPT.out.1.next hb) (HPT.out.2.next hb));clear hst;refine rgH (fun W=>Cc11 W w.heap.size c.k c.p (.int .i32 c.ch) c.o.k c.o.c c.o.s c.o.a c.o.n (.int .i32 c.o.ch) c.a c.b (Cc10 W bN d0 d1 d2 d3 d4 d5 d6 d7 d8 d9 (Cc3 W (bN+1) x.e x.n (.string x.t) (Cc3 W bL a7.e a7.n (.string a7.t) (Cc3 W bT a3.e a3.n (.string a3.t) (N12 w c bL bT bN (bN+1) a7 a3 x q.1 [d0,d1,d2,d3,d4,d5,d6,d7,d8,d9] W)))))) (let h:=HS.out.next bdq; h.c.bc.d11 (h.bn.d10 (h.bx.d3 (h.bl.d3 (h.bt.d3 h))))) fun hH=>?_
     clear HS;refine tq 0 (.pointer (some ⟨bN+1,0,none⟩)) hH ?_;refine tq 1 x.e hH ?_;refine tq 2 (.bool true) hH ?_;refine tq 3 (.bool true) hH ?_;refine tq 4 (.pointer (some ⟨bN+1,1,none⟩)) hH ?_;refine tq 5 x.n hH ?_;refine tq 6 (.bool false) hH ?_;refine tq 7 (.bool false) hH ?_;refine tq 8 (.pointer (some ⟨bN+1,2,none⟩)) hH ?_;refine tq 9 (.string x.t) hH ?_;refine tq 10 (.bool false) hH ?_;refine tq 11 (.bool false) hH ?_;refine tq 12 (.bool false) hH ?_;refine tq 13 (.agg #[d0,d1,d2,d3,d4,d5,d6,d7,d8,d9]) hH ?_;refine tq 14 (.agg #[.int .i64 7,.int .i64 0,.int .i32 0,.int .i64 0,.int .i64 0,.int .i64 0,.int .i64 0,.int .i64 0,.int .i32 0,.int .i64 0,.int .i64 0]) hH ?_;refine tq 16 (.agg #[a7.e,a7.n,.string a7.t]) hH ?_;refine rd1 15 (by kernel_rfl) rfl fun K hK=>?_
     go_simp
     refine (HK7.out _ hH.2.2.2.2.2.2.2.2.2.2.2.2.2.2.2.2.2.2.2.2.2.2.2.2.2.2.2.2.2.2.iq hH.2.2.2.2.2.2.2.2.2.2.2.2.2.2.2.2.2.2.2.2.2.2.2.2.2.2.2.2.2.2.c.bel).mono ?_
     rintro e u ⟨rfl,hb5⟩
     go_wp2_with fail
     refine hK.out _ _ (let h:=hH.2.2.2.2.2.2.2.2.2.2.2.2.2.2.2.2.2.2.2.2.2.2.2.2.2.2.2.2.2.2.next hb5; h.c.bc.d11 (h.bn.d10 (h.bx.d3 (h.bl.d3 (h.bt.d3 h))))) ?_;clear hK K hH;intro hH
     try simp only [LAY]
     refine tq 17 (.bool false) hH ?_;refine tq 18 (.bool false) hH ?_;refine tq 19 (.bool false) hH ?_;refine dnH ?_;have HS:=Lh hH.2.2.2.2.2.2.2.2.2.2.2.2.2.2.2.2.2.2.2.2.2.2.2.2.2.2.2.2.2.2;clear hH;clear hxe hxn hxt h8;have v0 := HS.out.bn.c10;go_wp2_with (go_at_call 10; refine (HDC.out _ HS.out.iq HS.out.c.bel).mono ?_; rintro e w4 ⟨hb,s0,s1,s2,s3,s4,s5,s6,s7,s8,s9,rfl,hir⟩; refine Hid.out ?_)
     obtain ⟨sd0,sd1,sd2,sd3,sd4,sd5,sd6,sd7,sd8,sd9⟩:=st10 hir.one;have hA:=bl2 w4 [s0,s1,s2,s3,s4,s5,s6,s7,s8,s9] [z.e,z.n,.string z.t] 41 59;have HU:=Lh (And.intro ((HS.out.c.next hb).next hA) (And.intro (show Blk ((w4.alloc (.cells #[s0,s1,s2,s3,s4,s5,s6,s7,s8,s9] 41)).alloc (.cells #[z.e,z.n,.string z.t] 59)) w4.heap.size [s0,s1,s2,s3,s4,s5,s6,s7,s8,s9] 41 from (Blk.start w4 _ _).alloc _) (hir.next hA)));clear HS hb hA hir HDC v0;refine Lh ?_
     go_upto_region 19 with fail
     generalize (w4.alloc (.cells #[s0,s1,s2,s3,s4,s5,s6,s7,s8,s9] 41)).alloc (.cells #[z.e,z.n,.string z.t] 59)=W4 at *
     generalize w4.heap.size=bS at *
     clear sd0 sd1 sd2 sd3 sd4 sd5 sd6 sd7 sd8 sd9;have v0 := HU.out.2.1.c10;have y0 := HU.out.1.bc.c11;go_wp2_with (go_at_call 12; refine (HKY.out s0 s1 s2 s3 s4 s5 s6 s7 s8 s9 _ HU.out.2.2 HU.out.1.bel).mono ?_; rintro e w5 ⟨rfl,hb⟩; refine Hid.out ?_)
     have hA:=bl1 w5 [y.e,y.n,.string y.t] 59;have HU2:=Lh (And.intro ((HU.out.1.next hb).next hA) (And.intro ((HU.out.2.1.next hb).next hA) (And.intro ((HU.out.2.2.next hb).next hA) (Blk.start w5 [y.e,y.n,.string y.t] 59))));clear HU hb hA v0 y0;refine Lh ?_
     go_upto_region 20 with fail
     generalize w5.alloc (.cells #[y.e,y.n,.string y.t] 59)=W5 at *
     generalize w5.heap.size=bY at *
     have y0 := HU2.out.1.bc.c11;obtain ⟨hm,hm2⟩:0≤c.k∧c.k≤8:=by have:=HM.out; omega
     ·skip
      have HYE:=Lh (show y.e=9 from by rw [HYE0.out]; rw [if_neg (by omega)]);go_wp2_with (go_at_call 5; refine (HAW.out _ (HPT.out.1.next HU2.out.1.bel) (HPT.out.2.next HU2.out.1.bel)).mono ?_; rintro e w6 ⟨rfl,hb⟩; refine Hid.out ?_)
      have HU3:=Lh (And.intro (HU2.out.1.next hb) (And.intro (HU2.out.2.1.next hb) (And.intro (HU2.out.2.2.1.next hb) (HU2.out.2.2.2.next hb))));clear HU2 hb y0;have v0 := HU3.out.2.1.c10;obtain ⟨t0,t1,t2⟩:=HU3.out.2.2.2.c3;rw [HYE.out] at t0;refine Lh ?_;go_wp2_with (go_at_call 16; refine (HCL.out s0 s1 s2 s3 s4 s5 s6 s7 s8 s9 _ HU3.out.2.2.1).mono ?_; rintro e w7 ⟨rfl,hb⟩; refine Hid.out ?_)
      have HF:=Lh ((HU3.out.1.next hb).bel);have t3:=(HU3.out.2.2.2.next hb).cell 0 rfl;rw [HYE.out] at t3;clear HU3 hb v0 t0 t1 t2;refine Lh ?_;go_wp2_with fail
      go_ret
      exact ⟨rfl,HF.out⟩
   ·skip
    have hst:=HST.out hm.1 hm.2;have HKc:=Lh (fun (W:World) (h:IsRp W q.1 [d0,d1,d2,d3,d4,d5,d6,d7,d8,d9]) (hb:Below w.heap.size w W)=>show Calls Tryz.prog 12 #[.agg #[d0,d1,d2,d3,d4,d5,d6,d7,d8,d9],.agg #[c.k,c.p,.int .i32 c.ch,c.o.k,c.o.c,c.o.s,c.o.a,c.o.n,.int .i32 c.o.ch,c.a,c.b]] W fun e w'=>e=.returned (.agg #[x.e,x.n,.string x.t])∧Below W.heap.size W w' from by have e1:x=(doR q.1 c).2.1:=(by rw [hst,HX.out,HQ.out]); rw [e1]; exact HH.out.look q.1 41 c d0 d1 d2 d3 d4 d5 d6 d7 d8 d9 W HOQ.out (by omega) h (HPT.out.1.next hb) (HPT.out.2.next hb));have HK7:=Lh (fun (W:World) (h:IsRp W q.1 [d0,d1,d2,d3,d4,d5,d6,d7,d8,d9]) (hb:Below w.heap.size w W)=>show Calls Tryz.prog 12 #[.agg #[d0,d1,d2,d3,d4,d5,d6,d7,d8,d9],.agg #[.int .i64 7,.int .i64 0,.int .i32 0,.int .i64 0,.int .i64 0,.int .i64 0,.int .i64 0,.int .i64 0,.int .i32 0,.int .i64 0,.int .i64 0]] W fun e w'=>e=.returned (.agg #[a7.e,a7.n,.string a7.t])∧Below W.heap.size W w' from by have e1:a7=(doR q.1 (cK 7)).2.1:=(by rw [hst,H7.out]); rw [e1]; exact HH.out.look q.1 41 (cK 7) d0 d1 d2 d3 d4 d5 d6 d7 d8 d9 W HOQ.out (by omega) h (HPT.out.1.next hb) (HPT.out.2.next hb));have HK3:=Lh (fun (W:World) (h:IsRp W q.1 [d0,d1,d2,d3,d4,d5,d6,d7,d8,d9]) (hb:Below w.heap.size w W)=>show Calls Tryz.prog 12 #[.agg #[d0,d1,d2,d3,d4,d5,d6,d7,d8,d9],.agg #[.int .i64 3,.int .i64 0,.int .i32 0,.int .i64 0,.int .i64 0,.int .i64 0,.int .i64 0,.int .i64 0,.int .i32 0,.int .i64 0,.int .i64 0]] W fun e w'=>e=.returned (.agg #[a3.e,a3.n,.string a3.t])∧Below W.heap.size W w' from by have e1:a3=(doR q.1 (cK 3)).2.1:=(by rw [hst,H3.out]); rw [e1]; exact HH.out.look q.1 41 (cK 3) d0 d1 d2 d3 d4 d5 d6 d7 d8 d9 W HOQ.out (by omega) h (HPT.out.1.next hb) (HPT.out.2.next hb));have HSTE:=Lh hst;clear hst;have h8:¬ c.k=8:=hm.2;have HWB:=Lh (show writesB c.k=false from by unfold writesB; simp; omega);rw [HWB.out] at HWR;refine rgH (fun W=>Cc11 W w.heap.size c.k c.p (.int .i32 c.ch) c.o.k c.o.c c.o.s c.o.a c.o.n (.int .i32 c.o.ch) c.a c.b (Cc10 W bN d0 d1 d2 d3 d4 d5 d6 d7 d8 d9 (Cc3 W (bN+1) x.e x.n (.string x.t) (Cc3 W bL a7.e a7.n (.string a7.t) (Cc3 W bT a3.e a3.n (.string a3.t) (N12 w c bL bT bN (bN+1) a7 a3 x q.1 [d0,d1,d2,d3,d4,d5,d6,d7,d8,d9] W)))))) (let h:=HS.out.next bdq; h.c.bc.d11 (h.bn.d10 (h.bx.d3 (h.bl.d3 (h.bt.d3 h))))) fun hH=>?_
    clear HS;refine tq 0 (.pointer (some ⟨w.heap.size,0,none⟩)) hH ?_;refine tq 1 c.k hH ?_;refine rd1 2 (by kernel_rfl) rfl fun K hK=>?_
    go_simp
    refine (HWR.out _).mono ?_
    rintro e u ⟨rfl,hb⟩
    go_wp2_with fail
    refine hK.out _ _ (let h:=hH.2.2.2.2.2.2.2.2.2.2.2.2.2.2.2.2.2.2.2.2.2.2.2.2.2.2.2.2.2.2.next hb; h.c.bc.d11 (h.bn.d10 (h.bx.d3 (h.bl.d3 (h.bt.d3 h))))) ?_;clear hK K hH;intro hH
    try simp only [LAY]
    refine tq 3 (.bool true) hH ?_;refine tq 4 (.bool true) hH ?_;refine tq 5 (.pointer (some ⟨w.heap.size,0,none⟩)) hH ?_;refine tq 6 c.k hH ?_;refine tq 7 (.bool true) hH ?_;refine tq 8 (.bool true) hH ?_;refine tq 9 (.bool true) hH ?_;refine tq 10 (.agg #[d0,d1,d2,d3,d4,d5,d6,d7,d8,d9]) hH ?_;refine tq 11 (.agg #[c.k,c.p,.int .i32 c.ch,c.o.k,c.o.c,c.o.s,c.o.a,c.o.n,.int .i32 c.o.ch,c.a,c.b]) hH ?_;refine tq 13 (.agg #[x.e,x.n,.string x.t]) hH ?_;refine rd1 12 (by kernel_rfl) rfl fun K hK=>?_
    go_simp
    refine (HKc.out _ hH.2.2.2.2.2.2.2.2.2.2.2.2.2.2.2.2.2.2.2.2.2.2.2.2.2.2.2.2.2.2.iq hH.2.2.2.2.2.2.2.2.2.2.2.2.2.2.2.2.2.2.2.2.2.2.2.2.2.2.2.2.2.2.c.bel).mono ?_
    rintro e u ⟨rfl,hb2⟩
    go_wp2_with fail
    refine hK.out _ _ (let h:=hH.2.2.2.2.2.2.2.2.2.2.2.2.2.2.2.2.2.2.2.2.2.2.2.2.2.2.2.2.2.2.next hb2; h.c.bc.d11 (h.bn.d10 (h.bx.d3 (h.bl.d3 (h.bt.d3 h))))) ?_;clear hK K hH;intro hH
    try simp only [LAY]
    refine tq 14 (.bool false) hH ?_;refine tq 15 (.bool false) hH ?_;refine tq 16 (.agg #[d0,d1,d2,d3,d4,d5,d6,d7,d8,d9]) hH ?_;refine tq 17 (.agg #[.int .i64 7,.int .i64 0,.int .i32 0,.int .i64 0,.int .i64 0,.int .i64 0,.int .i64 0,.int .i64 0,.int .i32 0,.int .i64 0,.int .i64 0]) hH ?_;refine tq 19 (.agg #[a7.e,a7.n,.string a7.t]) hH ?_;refine rd1 18 (by kernel_rfl) rfl fun K hK=>?_
    go_simp
    refine (HK7.out _ hH.2.2.2.2.2.2.2.2.2.2.2.2.2.2.2.2.2.2.2.2.2.2.2.2.2.2.2.2.2.2.iq hH.2.2.2.2.2.2.2.2.2.2.2.2.2.2.2.2.2.2.2.2.2.2.2.2.2.2.2.2.2.2.c.bel).mono ?_
    rintro e u ⟨rfl,hb3⟩
    go_wp2_with fail
    refine hK.out _ _ (let h:=hH.2.2.2.2.2.2.2.2.2.2.2.2.2.2.2.2.2.2.2.2.2.2.2.2.2.2.2.2.2.2.next hb3; h.c.bc.d11 (h.bn.d10 (h.bx.d3 (h.bl.d3 (h.bt.d3 h))))) ?_;clear hK K hH;intro hH
    try simp only [LAY]
    refine tq 20 (.bool false) hH ?_;refine tq 21 (.bool false) hH ?_;refine tq 22 (.bool false) hH ?_;refine tq 23 (.agg #[d0,d1,d2,d3,d4,d5,d6,d7,d8,d9]) hH ?_;refine tq 24 (.agg #[.int .i64 3,.int .i64 0,.int .i32 0,.int .i64 0,.int .i64 0,.int .i64 0,.int .i64 0,.int .i64 0,.int .i32 0,.int .i64 0,.int .i64 0]) hH ?_;refine tq 26 (.agg #[a3.e,a3.n,.string a3.t]) hH ?_;refine rd1 25 (by kernel_rfl) rfl fun K hK=>?_
    go_simp
    refine (HK3.out _ hH.2.2.2.2.2.2.2.2.2.2.2.2.2.2.2.2.2.2.2.2.2.2.2.2.2.2.2.2.2.2.iq hH.2.2.2.2.2.2.2.2.2.2.2.2.2.2.2.2.2.2.2.2.2.2.2.2.2.2.2.2.2.2.c.bel).mono ?_
    rintro e u ⟨rfl,hb4⟩
    go_wp2_with fail
    refine hK.out _ _ (let h:=hH.2.2.2.2.2.2.2.2.2.2.2.2.2.2.2.2.2.2.2.2.2.2.2.2.2.2.2.2.2.2.next hb4; h.c.bc.d11 (h.bn.d10 (h.bx.d3 (h.bl.d3 (h.bt.d3 h))))) ?_;clear hK K hH;intro hH
    try simp only [LAY]
    refine tq 27 (.bool false) hH ?_;refine tq 28 (.bool false) hH ?_;refine tq 29 (.bool false) hH ?_;refine dnH ?_;have HS:=Lh hH.2.2.2.2.2.2.2.2.2.2.2.2.2.2.2.2.2.2.2.2.2.2.2.2.2.2.2.2.2.2;clear hH;go_wp2_with fail
    by_cases hxe:x.e=0
    ·skip
     refine rgH (fun W=>Cc11 W w.heap.size c.k c.p (.int .i32 c.ch) c.o.k c.o.c c.o.s c.o.a c.o.n (.int .i32 c.o.ch) c.a c.b (Cc10 W bN d0 d1 d2 d3 d4 d5 d6 d7 d8 d9 (Cc3 W (bN+1) x.e x.n (.string x.t) (Cc3 W bL a7.e a7.n (.string a7.t) (Cc3 W bT a3.e a3.n (.string a3.t) (N12 w c bL bT bN (bN+1) a7 a3 x q.1 [d0,d1,d2,d3,d4,d5,d6,d7,d8,d9] W)))))) (let h:=HS.out.next bdq; h.c.bc.d11 (h.bn.d10 (h.bx.d3 (h.bl.d3 (h.bt.d3 h))))) fun hH=>?_
     clear HS;refine tq 0 (.pointer (some ⟨bN+1,0,none⟩)) hH ?_;refine tq 1 x.e hH ?_;refine tq 2 (.bool false) hH ?_;refine tq 3 (.bool false) hH ?_;refine sk 4 hH ?_
     try simp only [LAY]
     refine sk 5 hH ?_
     try simp only [LAY]
     refine sk 6 hH ?_
     try simp only [LAY]
     refine sk 7 hH ?_
     try simp only [LAY]
     refine sk 8 hH ?_
     try simp only [LAY]
     refine sk 9 hH ?_
     try simp only [LAY]
     refine sk 10 hH ?_
     try simp only [LAY]
     refine sk 11 hH ?_
     try simp only [LAY]
     refine sk 12 hH ?_
     try simp only [LAY]
     refine sk 13 hH ?_
     try simp only [LAY]
     refine sk 14 hH ?_
     try simp only [LAY]
     refine sk 15 hH ?_
     try simp only [LAY]
     refine sk 16 hH ?_
     try simp only [LAY]
     refine sk 17 hH ?_
     try simp only [LAY]
     refine sk 18 hH ?_
     try simp only [LAY]
     refine tq 19 (.bool false) hH ?_;refine dnH ?_;have HS:=Lh hH.2.2.2.2.2.2.2.2.2.2.2.2.2.2.2.2.2.2.2.2.2.2.2.2.2.2.2.2.2.2;clear hH;clear hxe h8;clear hm;have v0 := HS.out.bn.c10;go_wp2_with (go_at_call 10; refine (HDC.out _ HS.out.iq HS.out.c.bel).mono ?_; rintro e w4 ⟨hb,s0,s1,s2,s3,s4,s5,s6,s7,s8,s9,rfl,hir⟩; refine Hid.out ?_)
     obtain ⟨sd0,sd1,sd2,sd3,sd4,sd5,sd6,sd7,sd8,sd9⟩:=st10 hir.one;have hA:=bl2 w4 [s0,s1,s2,s3,s4,s5,s6,s7,s8,s9] [z.e,z.n,.string z.t] 41 59;have HU:=Lh (And.intro ((HS.out.c.next hb).next hA) (And.intro (show Blk ((w4.alloc (.cells #[s0,s1,s2,s3,s4,s5,s6,s7,s8,s9] 41)).alloc (.cells #[z.e,z.n,.string z.t] 59)) w4.heap.size [s0,s1,s2,s3,s4,s5,s6,s7,s8,s9] 41 from (Blk.start w4 _ _).alloc _) (hir.next hA)));clear HS hb hA hir HDC v0;refine Lh ?_
     go_upto_region 19 with fail
     generalize (w4.alloc (.cells #[s0,s1,s2,s3,s4,s5,s6,s7,s8,s9] 41)).alloc (.cells #[z.e,z.n,.string z.t] 59)=W4 at *
     generalize w4.heap.size=bS at *
     clear sd0 sd1 sd2 sd3 sd4 sd5 sd6 sd7 sd8 sd9;have v0 := HU.out.2.1.c10;have y0 := HU.out.1.bc.c11;go_wp2_with (go_at_call 12; refine (HKY.out s0 s1 s2 s3 s4 s5 s6 s7 s8 s9 _ HU.out.2.2 HU.out.1.bel).mono ?_; rintro e w5 ⟨rfl,hb⟩; refine Hid.out ?_)
     have hA:=bl1 w5 [y.e,y.n,.string y.t] 59;have HU2:=Lh (And.intro ((HU.out.1.next hb).next hA) (And.intro ((HU.out.2.1.next hb).next hA) (And.intro ((HU.out.2.2.next hb).next hA) (Blk.start w5 [y.e,y.n,.string y.t] 59))));clear HU hb hA v0 y0;refine Lh ?_
     go_upto_region 20 with fail
     generalize w5.alloc (.cells #[y.e,y.n,.string y.t] 59)=W5 at *
     generalize w5.heap.size=bY at *
     have y0 := HU2.out.1.bc.c11;rcases (show c.k<0∨(¬ c.k<0∧8<c.k)∨(0≤c.k∧c.k≤8) by omega) with hm | ⟨hm,hm2⟩ | ⟨hm,hm2⟩
     ·skip
      have HYE:=Lh (show y.e=1 from by rw [HYE0.out]; rw [if_pos (by omega)]);go_wp2_with (go_at_call 5; refine (HAW.out _ (HPT.out.1.next HU2.out.1.bel) (HPT.out.2.next HU2.out.1.bel)).mono ?_; rintro e w6 ⟨rfl,hb⟩; refine Hid.out ?_)
      have HU3:=Lh (And.intro (HU2.out.1.next hb) (And.intro (HU2.out.2.1.next hb) (And.intro (HU2.out.2.2.1.next hb) (HU2.out.2.2.2.next hb))));clear HU2 hb y0;have v0 := HU3.out.2.1.c10;obtain ⟨t0,t1,t2⟩:=HU3.out.2.2.2.c3;rw [HYE.out] at t0;refine Lh ?_;go_wp2_with (go_at_call 16; refine (HCL.out s0 s1 s2 s3 s4 s5 s6 s7 s8 s9 _ HU3.out.2.2.1).mono ?_; rintro e w7 ⟨rfl,hb⟩; refine Hid.out ?_)
      have HF:=Lh ((HU3.out.1.next hb).bel);have t3:=(HU3.out.2.2.2.next hb).cell 0 rfl;rw [HYE.out] at t3;clear HU3 hb v0 t0 t1 t2;refine Lh ?_;go_wp2_with fail
      go_ret
      exact ⟨rfl,HF.out⟩
     ·skip
      have hm3:decide (c.k≤8)=false:=by simp; omega
      have HYE:=Lh (show y.e=1 from by rw [HYE0.out]; rw [if_pos (by omega)]);go_wp2_with (go_at_call 5; refine (HAW.out _ (HPT.out.1.next HU2.out.1.bel) (HPT.out.2.next HU2.out.1.bel)).mono ?_; rintro e w6 ⟨rfl,hb⟩; refine Hid.out ?_)
      have HU3:=Lh (And.intro (HU2.out.1.next hb) (And.intro (HU2.out.2.1.next hb) (And.intro (HU2.out.2.2.1.next hb) (HU2.out.2.2.2.next hb))));clear HU2 hb y0;have v0 := HU3.out.2.1.c10;obtain ⟨t0,t1,t2⟩:=HU3.out.2.2.2.c3;rw [HYE.out] at t0;refine Lh ?_;go_wp2_with (go_at_call 16; refine (HCL.out s0 s1 s2 s3 s4 s5 s6 s7 s8 s9 _ HU3.out.2.2.1).mono ?_; rintro e w7 ⟨rfl,hb⟩; refine Hid.out ?_)
      have HF:=Lh ((HU3.out.1.next hb).bel);have t3:=(HU3.out.2.2.2.next hb).cell 0 rfl;rw [HYE.out] at t3;clear HU3 hb v0 t0 t1 t2;refine Lh ?_;go_wp2_with fail
      go_ret
      exact ⟨rfl,HF.out⟩
     ·skip
      have HYE:=Lh (show y.e=9 from by rw [HYE0.out]; rw [if_neg (by omega)]);go_wp2_with (go_at_call 5; refine (HAW.out _ (HPT.out.1.next HU2.out.1.bel) (HPT.out.2.next HU2.out.1.bel)).mono ?_; rintro e w6 ⟨rfl,hb⟩; refine Hid.out ?_)
      have HU3:=Lh (And.intro (HU2.out.1.next hb) (And.intro (HU2.out.2.1.next hb) (And.intro (HU2.out.2.2.1.next hb) (HU2.out.2.2.2.next hb))));clear HU2 hb y0;have v0 := HU3.out.2.1.c10;obtain ⟨t0,t1,t2⟩:=HU3.out.2.2.2.c3;rw [HYE.out] at t0;refine Lh ?_;go_wp2_with (go_at_call 16; refine (HCL.out s0 s1 s2 s3 s4 s5 s6 s7 s8 s9 _ HU3.out.2.2.1).mono ?_; rintro e w7 ⟨rfl,hb⟩; refine Hid.out ?_)
      have HF:=Lh ((HU3.out.1.next hb).bel);have t3:=(HU3.out.2.2.2.next hb).cell 0 rfl;rw [HYE.out] at t3;clear HU3 hb v0 t0 t1 t2;refine Lh ?_;go_wp2_with fail
      go_ret
      exact ⟨rfl,HF.out⟩
    ·skip
     obtain ⟨hst,hxn,hxt⟩:=HXE.out hxe;clear hst;refine rgH (fun W=>Cc11 W w.heap.size c.k c.p (.int .i32 c.ch) c.o.k c.o.c c.o.s c.o.a c.o.n (.int .i32 c.o.ch) c.a c.b (Cc10 W bN d0 d1 d2 d3 d4 d5 d6 d7 d8 d9 (Cc3 W (bN+1) x.e x.n (.string x.t) (Cc3 W bL a7.e a7.n (.string a7.t) (Cc3 W bT a3.e a3.n (.string a3.t) (N12 w c bL bT bN (bN+1) a7 a3 x q.1 [d0,d1,d2,d3,d4,d5,d6,d7,d8,d9] W)))))) (let h:=HS.out.next bdq; h.c.bc.d11 (h.bn.d10 (h.bx.d3 (h.bl.d3 (h.bt.d3 h))))) fun hH=>?_
     clear HS;refine tq 0 (.pointer (some ⟨bN+1,0,none⟩)) hH ?_;refine tq 1 x.e hH ?_;refine tq 2 (.bool true) hH ?_;refine tq 3 (.bool true) hH ?_;refine tq 4 (.pointer (some ⟨bN+1,1,none⟩)) hH ?_;refine tq 5 x.n hH ?_;refine tq 6 (.bool false) hH ?_;refine tq 7 (.bool false) hH ?_;refine tq 8 (.pointer (some ⟨bN+1,2,none⟩)) hH ?_;refine tq 9 (.string x.t) hH ?_;refine tq 10 (.bool false) hH ?_;refine tq 11 (.bool false) hH ?_;refine tq 12 (.bool false) hH ?_;refine tq 13 (.agg #[d0,d1,d2,d3,d4,d5,d6,d7,d8,d9]) hH ?_;refine tq 14 (.agg #[.int .i64 7,.int .i64 0,.int .i32 0,.int .i64 0,.int .i64 0,.int .i64 0,.int .i64 0,.int .i64 0,.int .i32 0,.int .i64 0,.int .i64 0]) hH ?_;refine tq 16 (.agg #[a7.e,a7.n,.string a7.t]) hH ?_;refine rd1 15 (by kernel_rfl) rfl fun K hK=>?_
     go_simp
     refine (HK7.out _ hH.2.2.2.2.2.2.2.2.2.2.2.2.2.2.2.2.2.2.2.2.2.2.2.2.2.2.2.2.2.2.iq hH.2.2.2.2.2.2.2.2.2.2.2.2.2.2.2.2.2.2.2.2.2.2.2.2.2.2.2.2.2.2.c.bel).mono ?_
     rintro e u ⟨rfl,hb5⟩
     go_wp2_with fail
     refine hK.out _ _ (let h:=hH.2.2.2.2.2.2.2.2.2.2.2.2.2.2.2.2.2.2.2.2.2.2.2.2.2.2.2.2.2.2.next hb5; h.c.bc.d11 (h.bn.d10 (h.bx.d3 (h.bl.d3 (h.bt.d3 h))))) ?_;clear hK K hH;intro hH
     try simp only [LAY]
     refine tq 17 (.bool false) hH ?_;refine tq 18 (.bool false) hH ?_;refine tq 19 (.bool false) hH ?_;refine dnH ?_;have HS:=Lh hH.2.2.2.2.2.2.2.2.2.2.2.2.2.2.2.2.2.2.2.2.2.2.2.2.2.2.2.2.2.2;clear hH;clear hxe hxn hxt h8;clear hm;have v0 := HS.out.bn.c10;go_wp2_with (go_at_call 10; refine (HDC.out _ HS.out.iq HS.out.c.bel).mono ?_; rintro e w4 ⟨hb,s0,s1,s2,s3,s4,s5,s6,s7,s8,s9,rfl,hir⟩; refine Hid.out ?_)
     obtain ⟨sd0,sd1,sd2,sd3,sd4,sd5,sd6,sd7,sd8,sd9⟩:=st10 hir.one;have hA:=bl2 w4 [s0,s1,s2,s3,s4,s5,s6,s7,s8,s9] [z.e,z.n,.string z.t] 41 59;have HU:=Lh (And.intro ((HS.out.c.next hb).next hA) (And.intro (show Blk ((w4.alloc (.cells #[s0,s1,s2,s3,s4,s5,s6,s7,s8,s9] 41)).alloc (.cells #[z.e,z.n,.string z.t] 59)) w4.heap.size [s0,s1,s2,s3,s4,s5,s6,s7,s8,s9] 41 from (Blk.start w4 _ _).alloc _) (hir.next hA)));clear HS hb hA hir HDC v0;refine Lh ?_
     go_upto_region 19 with fail
     generalize (w4.alloc (.cells #[s0,s1,s2,s3,s4,s5,s6,s7,s8,s9] 41)).alloc (.cells #[z.e,z.n,.string z.t] 59)=W4 at *
     generalize w4.heap.size=bS at *
     clear sd0 sd1 sd2 sd3 sd4 sd5 sd6 sd7 sd8 sd9;have v0 := HU.out.2.1.c10;have y0 := HU.out.1.bc.c11;go_wp2_with (go_at_call 12; refine (HKY.out s0 s1 s2 s3 s4 s5 s6 s7 s8 s9 _ HU.out.2.2 HU.out.1.bel).mono ?_; rintro e w5 ⟨rfl,hb⟩; refine Hid.out ?_)
     have hA:=bl1 w5 [y.e,y.n,.string y.t] 59;have HU2:=Lh (And.intro ((HU.out.1.next hb).next hA) (And.intro ((HU.out.2.1.next hb).next hA) (And.intro ((HU.out.2.2.next hb).next hA) (Blk.start w5 [y.e,y.n,.string y.t] 59))));clear HU hb hA v0 y0;refine Lh ?_
     go_upto_region 20 with fail
     generalize w5.alloc (.cells #[y.e,y.n,.string y.t] 59)=W5 at *
     generalize w5.heap.size=bY at *
     have y0 := HU2.out.1.bc.c11;rcases (show c.k<0∨(¬ c.k<0∧8<c.k)∨(0≤c.k∧c.k≤8) by omega) with hm | ⟨hm,hm2⟩ | ⟨hm,hm2⟩
     ·skip
      have HYE:=Lh (show y.e=1 from by rw [HYE0.out]; rw [if_pos (by omega)]);go_wp2_with (go_at_call 5; refine (HAW.out _ (HPT.out.1.next HU2.out.1.bel) (HPT.out.2.next HU2.out.1.bel)).mono ?_; rintro e w6 ⟨rfl,hb⟩; refine Hid.out ?_)
      have HU3:=Lh (And.intro (HU2.out.1.next hb) (And.intro (HU2.out.2.1.next hb) (And.intro (HU2.out.2.2.1.next hb) (HU2.out.2.2.2.next hb))));clear HU2 hb y0;have v0 := HU3.out.2.1.c10;obtain ⟨t0,t1,t2⟩:=HU3.out.2.2.2.c3;rw [HYE.out] at t0;refine Lh ?_;go_wp2_with (go_at_call 16; refine (HCL.out s0 s1 s2 s3 s4 s5 s6 s7 s8 s9 _ HU3.out.2.2.1).mono ?_; rintro e w7 ⟨rfl,hb⟩; refine Hid.out ?_)
      have HF:=Lh ((HU3.out.1.next hb).bel);have t3:=(HU3.out.2.2.2.next hb).cell 0 rfl;rw [HYE.out] at t3;clear HU3 hb v0 t0 t1 t2;refine Lh ?_;go_wp2_with fail
      go_ret
      exact ⟨rfl,HF.out⟩
     ·skip
      have hm3:decide (c.k≤8)=false:=by simp; omega
      have HYE:=Lh (show y.e=1 from by rw [HYE0.out]; rw [if_pos (by omega)]);go_wp2_with (go_at_call 5; refine (HAW.out _ (HPT.out.1.next HU2.out.1.bel) (HPT.out.2.next HU2.out.1.bel)).mono ?_; rintro e w6 ⟨rfl,hb⟩; refine Hid.out ?_)
      have HU3:=Lh (And.intro (HU2.out.1.next hb) (And.intro (HU2.out.2.1.next hb) (And.intro (HU2.out.2.2.1.next hb) (HU2.out.2.2.2.next hb))));clear HU2 hb y0;have v0 := HU3.out.2.1.c10;obtain ⟨t0,t1,t2⟩:=HU3.out.2.2.2.c3;rw [HYE.out] at t0;refine Lh ?_;go_wp2_with (go_at_call 16; refine (HCL.out s0 s1 s2 s3 s4 s5 s6 s7 s8 s9 _ HU3.out.2.2.1).mono ?_; rintro e w7 ⟨rfl,hb⟩; refine Hid.out ?_)
      have HF:=Lh ((HU3.out.1.next hb).bel);have t3:=(HU3.out.2.2.2.next hb).cell 0 rfl;rw [HYE.out] at t3;clear HU3 hb v0 t0 t1 t2;refine Lh ?_;go_wp2_with fail
      go_ret
      exact ⟨rfl,HF.out⟩
     ·skip
      have HYE:=Lh (show y.e=9 from by rw [HYE0.out]; rw [if_neg (by omega)]);go_wp2_with (go_at_call 5; refine (HAW.out _ (HPT.out.1.next HU2.out.1.bel) (HPT.out.2.next HU2.out.1.bel)).mono ?_; rintro e w6 ⟨rfl,hb⟩; refine Hid.out ?_)
      have HU3:=Lh (And.intro (HU2.out.1.next hb) (And.intro (HU2.out.2.1.next hb) (And.intro (HU2.out.2.2.1.next hb) (HU2.out.2.2.2.next hb))));clear HU2 hb y0;have v0 := HU3.out.2.1.c10;obtain ⟨t0,t1,t2⟩:=HU3.out.2.2.2.c3;rw [HYE.out] at t0;refine Lh ?_;go_wp2_with (go_at_call 16; refine (HCL.out s0 s1 s2 s3 s4 s5 s6 s7 s8 s9 _ HU3.out.2.2.1).mono ?_; rintro e w7 ⟨rfl,hb⟩; refine Hid.out ?_)
      have HF:=Lh ((HU3.out.1.next hb).bel);have t3:=(HU3.out.2.2.2.next hb).cell 0 rfl;rw [HYE.out] at t3;clear HU3 hb v0 t0 t1 t2;refine Lh ?_;go_wp2_with fail
      go_ret
      exact ⟨rfl,HF.out⟩
end Go.Proofs.YtpbhaieclkoggaaGreatDoor
