import Derived.Test.YtclbddbhcbdfmaaGreatDoorSw15
import Derived.Test.YtclbddbhcbdfmaaGreatDoorRz
import Derived.Test.YtclbddbhcbdfmaaGreatDoorDq
import Derived.Test.YtclbddbhcbdfmaaGreatDoorWa
set_option maxRecDepth 100000
set_option maxHeartbeats 12800000
namespace Go.Proofs.YtclbddbhcbdfmaaGreatDoor
open Go Go.Proofs Go.RowKit
theorem bsafe_main (H:BAll) (R:RAll) (hA:Awake15Ok) (st:Int) (h0:0≤st) (h1:st≤255) (L:List A15) (v:Value) (w:World) (hp:Pows w) (ht:Tabs w) (h:IsA15 w v L):Calls Tryz.prog 4 #[.int .u8 st,v] w (Rt (.bool true) w):=by
 have HH:=Lh (And.intro H R);have HAW:=Lh (fun W (hb:Below w.heap.size w W)=>hA W (hp.next hb) (ht.next hb));have HL:=Lh h;obtain ⟨ad,cap,rfl,l1,l2,-⟩:=h;clear H R hA hp ht;have HNEW:=Lh (HH.out.1.new 1 st 16 (fun _=>False) w (by decide) (by decide) (by omega) (by omega) (by decide) (by decide) (fun _ h=>h.elim));obtain ⟨E,hE⟩:∃ E,E=newBE 1 st 16:=⟨_,rfl⟩
 have HE:=Lh (show E=0→newBr 1 st 16=newB 1 st 16∧1≤st∧st≤8∧newBE 1 st 16=0 from fun h=>⟨if_pos (hE▸h),by
  have h2:newBE 1 st 16=0:=hE▸h
  unfold newBE at h2
  split at h2
  ·cases h2
  ·exact ⟨by omega,by omega,hE▸h⟩⟩)
 rw [←hE] at HNEW;clear hE;generalize newBr 1 st 16=b0 at *
 go_enter Tryz.func4,Tryz.ntmps4
 go_upto_region 2 with (first | (refine kst (n:=nBd) (Blk.start w1 _ _) rfl hI.len hI.one (fun w2 hw2=>?_)) | (go_at_call 6; refine HNEW.out.mono ?_; rintro e w1 ⟨hb,cs,rfl,hI⟩))
 have hBe:=(hb.trans ((bl1 w1 zBd 51).mono hb.size))
 have hBb:=Blk.start w1 zBd 51;have hT:51∉bTy:=by decide
 have hB2:=setN_all (us:=cs) hBb (by rw [hI.len]; rfl);have hI2:=(hI.next (bl1 w1 zBd 51)).setN hBb hT cs;have hL2:=setN_below (B:=w.heap.size) (W0:=w) hb.size cs 0 hBe;have hw2':w2=setN (w1.alloc (.cells ⟨zBd⟩ 51)) w1.heap.size 0 cs:=hw2.out;rw [←hw2'] at hB2 hI2 hL2;have HS:=Lh (And.intro hL2 (And.intro hB2 hI2));have HG:=Lh hb.size;clear hb hI hBe hBb hB2 hI2 hL2 hw2 hw2' HNEW hT;generalize w1.heap.size=g at *
 by_cases hE0:E=0
 rotate_left
 ·have hE1:(E != 0)=true:=by simpa using hE0
  clear hE0;go_wp2_with (go_at_call 5; refine (HAW.out _ HS.out.1).mono ?_; rintro e w9 ⟨rfl,hb9⟩)
  go_ret
  exact ⟨rfl,(HS.out.1).trans (hb9.mono (HS.out.1).size)⟩
 subst hE0;by_cases h60:60<L.length
 ·have h61:decide ((60:Int)<(L.length:Int))=true:=decide_eq_true (by omega)
  clear h60;go_wp2_with (go_at_call 5; refine (HAW.out _ HS.out.1).mono ?_; rintro e w9 ⟨rfl,hb9⟩)
  go_ret
  exact ⟨rfl,(HS.out.1).trans (hb9.mono (HS.out.1).size)⟩
 have h61:decide ((60:Int)<(L.length:Int))=false:=decide_eq_false (by omega);have HN:=Lh h60;clear h60;obtain ⟨rfl,hst1,hst8,hnb⟩:=HE.out rfl;have hmm := @run_makeMap Tryz.prog;have H0:=Lh (show S15 w g w2.heap.size st 0 0 (newB 1 st 16) cs (fun _=>.int .i64 0) (w2.alloc (.map #[] 0)) from by
  have ha:Below w2.heap.size w2 (w2.alloc (.map #[] 0)):=bA;have hq:=HS.out;exact ⟨hq.1.trans (ha.mono hq.1.size),HG.out,hq.1.size,hq.2.1.next ha,(hq.2.2.more (fun c (e:c=w2.heap.size)=>.inr (by omega))).next ha,BOk.new hnb,BSf.new,by show (((List.replicate st.toNat noSt).length:Nat):Int)=st; rw [List.length_replicate]; omega,_,MapI.start w2⟩)
 have HF0:=Lh (show MF (fun _:Int=>Value.int .i64 0) (newB 1 st 16) from fun _ _=>rfl);clear HE HS HG hnb;go_wp2_with fail
 generalize w2.heap.size=m at *
 clear hmm
 go_loopg [34] L.length (fun q t34 wr=>∃ (k n j:Nat) (b:Brd) (cs:List Value) (F:Int→Value),k≤L.length∧q=L.length-k∧t34=.int .i64 (k:Int)∧n≤k∧j≤k∧S15 w g m st n j b cs F wr∧Hid (MF F b))
 case atStart=>exact ⟨0,0,0,_,_,_,Nat.zero_le _,rfl,rfl,Nat.le_refl _,Nat.le_refl _,H0.out,HF0⟩
 case round=>
  clear H0 HF0 h61;obtain ⟨k,n,j,b,cs',F,hk,rfl,rfl,hnk,hjk,hS,HF⟩:=hrel;have HL6:=HN.out;by_cases hlt:k<L.length
  ·obtain ⟨ad2,cap2,e2,-,-,h3⟩:=HL.out
   obtain ⟨rfl,-,rfl⟩:=Value.slice.inj e2;obtain ⟨bq,off,rfl,hbw,hc⟩:=h3 (fun e=>by rw [e] at hlt; cases hlt);have HR:=Lh (show wr.rangeAt bq (off+k * 17) (a15L L[k]) from rng_next (hc k hlt) hS.bel hbw);clear e2 h3 hc hbw;generalize L[k]=a at *
   have HR2:=Lh (show wr.rangeAt bq (off+k * 17) [.int .u8 a.k,a.t,a.s,a.j,a.c.k,a.c.p,.int .i32 a.c.ch,a.c.o.k,a.c.o.c,a.c.o.s,a.c.o.a,a.c.o.n,.int .i32 a.c.o.ch,a.c.a,a.c.b,a.tk,a.o] from HR.out);have HO17:=Lh (show ∀ u∈([.int .u8 a.k,a.t,a.s,a.j,a.c.k,a.c.p,.int .i32 a.c.ch,a.c.o.k,a.c.o.c,a.c.o.s,a.c.o.a,a.c.o.n,.int .i32 a.c.o.ch,a.c.a,a.c.b,a.tk,a.o]:List Value),u.oneCell'=true by simp [Value.oneCell']);have hge:w.heap.size≤wr.heap.size:=hS.bel.size;have HS0:=Lh hS;clear hS HR
   go_upto_region 8 with (first | (refine kldm (n:=17) HR2.out rfl ?_) | (refine kst (n:=17) (Blk.start wr zA15 _) rfl rfl HO17.out (fun wa hwa=>?_)))
   have hal:Below wr.heap.size wr wa:=by rw [hwa.out]; exact setN_below (Nat.le_refl _) _ 0 (bl1 wr zA15 _)
   have HA:Blk wa wr.heap.size [.int .u8 a.k,a.t,a.s,a.j,a.c.k,a.c.p,.int .i32 a.c.ch,a.c.o.k,a.c.o.c,a.c.o.s,a.c.o.a,a.c.o.n,.int .i32 a.c.o.ch,a.c.a,a.c.b,a.tk,a.o] 77:=by rw [hwa.out]; exact setN_all (Blk.start wr zA15 _) rfl
   have HS1:=Lh (HS0.out.next hal);clear HR2 HO17 hal hwa HS0;generalize wr.heap.size=ga at *
   obtain ⟨M,hM⟩:∃ M,M=may15 a.t a.s a.j st:=⟨_,rfl⟩
   have HMY:=Lh (fun W=>hM▸may15_any a st W);have HMB:=Lh hM;clear hM
   cases M
   ·go_upto_region 9 with (first | (refine kld (n:=17) HA rfl ?_) | (go_at_call 10; refine (HMY.out _).mono ?_; rintro e w3 ⟨rfl,hb3⟩))
    have HS3:=Lh (HS1.out.next hb3);clear HS1 HA hb3 HMY;go_wp2_with (go_at_call 5; refine (HAW.out _ HS3.out.bel).mono ?_; rintro e w9 ⟨rfl,hb9⟩)
    go_ret
    exact ⟨rfl,(HS3.out.bel).trans (hb9.mono (HS3.out.bel).size)⟩
   obtain ⟨q0,q1,q2,q3,q4,q5⟩:=of_decide_eq_true HMB.out.symm
   go_upto_region 10 with (first | (refine kld (n:=17) HA rfl ?_) | (go_at_call 10; refine (HMY.out _).mono ?_; rintro e w3 ⟨rfl,hb3⟩))
   have HS3:=Lh (HS1.out.next hb3);have HA3:=Lh (HA.next hb3);have hsl:a.s<(b.st.length:Int):=by rw [HS3.out.ln]; exact q3
   have hn1:n≤1000:=by omega
   have y1:=HA3.out.cell 1 rfl;have y2:=HA3.out.cell 2 rfl;have HHO:=Lh (HH.out.1.hold b a.s q2 hsl n (fun c=>c=m) cs' w3 HS3.out.ok hn1 HS3.out.ib)
   go_upto_block 2 with (first | (refine kld (n:=nBd) HS3.out.bb HS3.out.ib.len ?_) | (go_at_call 12; refine HHO.out.mono ?_; rintro e w4 ⟨rfl,hb4⟩))
   have hsw:swc=swc:=rfl
   conv at hsw=>lhs; whnf
   rw [hsw];clear hsw;refine sw15_all w w4 g m ga st n j b cs' F a a.k (b.at a.s).h _ ⟨HH.out.1,HS3.out.next hb4,HF.out,HA3.out.next hb4,rfl,⟨q0,q1⟩,⟨q2,hsl⟩,⟨q4,q5⟩,by omega,by omega,True.intro⟩ (fun {_ _ _ _ _ _ _ _ _ _ _ _ _ _ _ _ _ _ _ _ _ _ _ _ _ _ _ _ _ _ _ _ _ _ _ _ _ _ _ _ _ _ _ _ _ _ _ _ _ _ _ _ _ _ _ _ _ _ _ _ _ _ _ _ _ _ _ _ _ _ _ _ _ _ _ _ _ _ _ _ _ _ _ _ _ _ _ _ _ _ _ _ _ _ _ _ _ _ _ _ _ _ _ _ _ _ _ _ _ _ _ _ _ _ _ _ _ _ _ _ _ _ _ _ _ _ _ _ _ _ _ _ _ _ _ w5 n' j' b' cs2 F'} hn' hj' hS' hF'=>?_);have HS5:=Lh (And.intro hS' hF');clear hS' hF' y1 y2 HS3 HA3 HHO hb4;go_wp2_with fail
   go_roundg (L.length-(k+1))
   case measure=>omega
   case rel=>exact ⟨k+1,n',j',b',cs2,F',by omega,rfl,by go_num,by omega,by omega,HS5.out.1,Lh HS5.out.2⟩
  ·obtain rfl:k=L.length:=by omega
   have HS1:=Lh hS;have HT:=Lh (HH.out.1.trace b n (fun c=>c=m) cs' wr hS.ok (by omega) hS.ib);have HC0:=Lh hS.sf.code;have HTL:=Lh (show b.tr.length≤300 by have:=hS.ok.tr; omega);clear hS HF hlt hk hnk hjk HL6
   go_upto_region 34 with (first | (refine kld (n:=nBd) HS1.out.bb HS1.out.ib.len ?_) | (go_at_call 23; refine HT.out.mono ?_; rintro e w3 ⟨tv,rfl,hT,hTO,hb3⟩; have HTV:=Lh hT; have HTO:=Lh hTO; clear hT hTO HT) | (go_at_call 22; refine (HH.out.2.first b.tr _ _ HTL.out HTO.out HTV.out).mono ?_; rintro e w4 ⟨x1,x2,rfl,hb4⟩))
   rw [HC0.out];have HB4:=Lh (HS1.out.bel.trans ((hb3.trans (hb4.mono hb3.size)).mono HS1.out.bel.size));clear hb3 hb4 HC0;go_wp2_with (go_at_call 5; refine (HAW.out _ HB4.out).mono ?_; rintro e w9 ⟨rfl,hb9⟩)
   go_ret
   exact ⟨rfl,(HB4.out).trans (hb9.mono (HB4.out).size)⟩
end Go.Proofs.YtclbddbhcbdfmaaGreatDoor
set_option maxRecDepth 100000
set_option maxHeartbeats 12800000
namespace Go.Proofs.YtclbddbhcbdfmaaGreatDoor
open Go Go.Proofs Go.RowKit
structure K15 (w:World) (g:Nat) (b:Brd) (cs:List Value) (W:World):Prop where
 bel:Below w.heap.size w W
 ge:w.heap.size≤g
 bb:Blk W g cs 51
 ib:IsBd W (fun _=>False) b cs
theorem K15.next {w:World} {g:Nat} {b:Brd} {cs:List Value} {W W':World} (h:K15 w g b cs W) (hb:Below W.heap.size W W'):K15 w g b cs W':=⟨h.bel.trans (hb.mono h.bel.size),h.ge,h.bb.next hb,h.ib.next hb⟩
theorem K15.start {w W w2:World} {b:Brd} {cs:List Value} (hb:Below w.heap.size w W) (hI:IsBd W (fun _=>False) b cs) (h:w2=setN (W.alloc (.cells ⟨zBd⟩ 51)) W.heap.size 0 cs):K15 w W.heap.size b cs w2:=by
 have h2:Below W.heap.size W w2:=by rw [h]; exact setN_below (Nat.le_refl _) cs 0 (bl1 W zBd _)
 exact ⟨hb.trans (h2.mono hb.size),hb.size,by rw [h]; exact setN_all (Blk.start W zBd _) (by rw [hI.len]; rfl),hI.next h2⟩
theorem K15.put {w:World} {g:Nat} {b b':Brd} {cs cs':List Value} {W w2:World} (h:K15 w g b cs W) (hI:IsBd W (fun _=>False) b' cs') (e:w2=setN W g 0 cs'):K15 w g b' cs' w2:=by
 have hT:51∉bTy:=by decide
 subst e;exact ⟨setN_below h.ge _ 0 h.bel,h.ge,setN_all h.bb (by rw [hI.len,h.ib.len]),hI.setN h.bb hT _⟩
theorem awake15_any (H:BAll) (h12:Awake12Ok) (h14:Awake14Ok):Awake15Ok:=by
 intro w hp ht
 have hO:∀ W,Old (fun _=>False) W:=fun _ _ h=>h.elim
 have HNEW:=Lh (show Calls Tryz.prog 6 #[.int .i64 1,.int .i64 1,.int .i64 1] w (RB (newB 1 1 1) (fun _=>False) (fun v=>.tuple #[v,.int .i64 0]) w) from H.new 1 1 1 _ w (by decide) (by decide) (by decide) (by decide) (by decide) (by decide) (hO w));have k0:BOk (newB 1 1 1) 0:=BOk.new rfl;have k1:=k0.lock 0 0;have HL1:=Lh (fun cs W (h:IsBd W (fun _=>False) (newB 1 1 1) cs)=>show Calls Tryz.prog 13 #[.agg cs.toArray,.int .i64 0,.int .i64 0] W (RB (lockB (newB 1 1 1) 0 0) (fun _=>False) (fun v=>.tuple #[v,.bool true]) W) from H.lock (newB 1 1 1) 0 0 (by decide) (by decide) 0 _ cs W k0 (by decide) h (hO W) (by decide) (by decide));have HL2:=Lh (fun cs W (h:IsBd W (fun _=>False) (lockB (newB 1 1 1) 0 0) cs)=>show Calls Tryz.prog 13 #[.agg cs.toArray,.int .i64 1,.int .i64 0] W (RB (lockB (lockB (newB 1 1 1) 0 0) 1 0) (fun _=>False) (fun v=>.tuple #[v,.bool false]) W) from H.lock (lockB (newB 1 1 1) 0 0) 1 0 (by decide) (by decide) 1 _ cs W k1 (by decide) h (hO W) (by decide) (by decide));have HHO:=Lh (fun cs W (h:IsBd W (fun _=>False) (lockB (newB 1 1 1) 0 0) cs)=>show Calls Tryz.prog 12 #[.agg cs.toArray,.int .i64 0] W (fun e w'=>e=.returned (.int .i64 0)∧Below W.heap.size W w') from H.hold (lockB (newB 1 1 1) 0 0) 0 (by decide) (by decide) 1 _ cs W k1 (by decide) h);have HA:=Lh (fun (W:World) (hb:Below w.heap.size w W)=>And.intro (h12 W (hp.next hb) (ht.next hb)) (h14 W));clear H h12 h14 hp ht k0 k1 hO;generalize lockB (lockB (newB 1 1 1) 0 0) 1 0=b2 at *
 generalize lockB (newB 1 1 1) 0 0=b1 at *
 generalize newB 1 1 1=b0 at *
 go_enter Tryz.func5,Tryz.ntmps5
 go_upto_region 2 with (first | (refine kst (n:=nBd) (Blk.start w1 zBd _) rfl hI.len hI.one (fun w2 hw2=>?_)) | (go_at_call 6; refine HNEW.out.mono ?_; rintro e w1 ⟨hb,cs,rfl,hI⟩))
 have H2:=Lh (K15.start hb hI hw2.out);clear hb hI hw2 HNEW;generalize w1.heap.size=g at *
 go_upto_region 3 with (first | (refine kst (n:=nBd) H3.out.bb H3.out.ib.len HI.out.len HI.out.one (fun w4 hw4=>?_)) | (refine kld (n:=nBd) H2.out.bb H2.out.ib.len ?_) | (go_at_call 13; refine (HL1.out _ _ H2.out.ib).mono ?_; rintro e w3 ⟨hb,cs3,rfl,hI⟩; have H3:=Lh (H2.out.next hb); have HI:=Lh hI; clear hb hI))
 have H4:=Lh (H3.out.put HI.out hw4.out);clear hw4 HI H3 H2 HL1
 go_upto_region 4 with (first | (refine kst (n:=nBd) (Blk.start w5 zBd _) rfl HI.out.len HI.out.one (fun w6 hw6=>?_)) | (refine kld (n:=nBd) H4.out.bb H4.out.ib.len ?_) | (go_at_call 13; refine (HL2.out _ _ H4.out.ib).mono ?_; rintro e w5 ⟨hb,cs5,rfl,hI⟩; have H5:=Lh (H4.out.next hb); have HI:=Lh hI; clear hb hI))
 have H6:=Lh (H5.out.next (show Below w5.heap.size w5 w6 by rw [hw6.out]; exact setN_below (Nat.le_refl _) cs5 0 (bl1 w5 zBd _)));clear hw6 HI H5 H4 HL2;go_wp2_with (first | (refine kld (n:=nBd) H8.out.bb H8.out.ib.len ?_) | (go_at_call 24; refine (HA.out _ H6.out.bel).1.mono ?_; rintro e w7 ⟨rfl,hb⟩; have H7:=Lh (H6.out.next hb); clear hb H6) | (go_at_call 25; refine (HA.out _ H7.out.bel).2.mono ?_; rintro e w8 ⟨rfl,hb⟩; have H8:=Lh (H7.out.next hb); clear hb H7) | (go_at_call 12; refine (HHO.out _ _ H8.out.ib).mono ?_; rintro e w9 ⟨rfl,hb⟩; have H9:=Lh (H8.out.next hb); clear hb))
 go_ret
 exact ⟨rfl,H9.out.bel⟩
end Go.Proofs.YtclbddbhcbdfmaaGreatDoor
set_option maxRecDepth 100000
namespace Go.Proofs.YtclbddbhcbdfmaaGreatDoor
open Go Go.Proofs Go.ChangeShapes Go.WideShapes Go.ChangeAt Go.RowKit Go.Joins Go.Deep
theorem cellsA15:Tryz.prog.cellsOf 77=17:=by kernel_rfl
theorem wf_a8 {n:Int} (h:(Lit.int .u8 n).wf=true):0≤n∧n≤255:=by
 have:IntKind.u8.min≤n∧n≤IntKind.u8.max:=by simpa [Lit.wf] using h
 exact this
theorem cA8:Tryz.prog.cellsOf 5=1:=by kernel_rfl
instance:Inhabited A15:=⟨⟨0,0,0,0,default,0,0,by decide,by decide,by decide,by decide,by decide,by decide,by decide,by decide,by decide,by decide,by decide,by decide⟩⟩
section
variable {H:Type} {enc:TypeId×Value→H} {W:World} {base:Nat}
theorem trod_seven {sp:Nat→Bool} {held:Bool} {t:TypeId} {f0 f1 f2 f3 f4 f5 f6:Field} {k:Nat} {cs:List Value} {x:DataW H×List MemPlace} (ht:Tryz.prog.underlying t=some (.struct #[f0,f1,f2,f3,f4,f5,f6])) (h:DataW.trod enc Tryz.prog W base sp held k t cs=some x):
  ∃ y0 y1 y2 y3 y4 y5 y6 n,cs.length=Tryz.prog.cellsOf t∧DataW.trod enc Tryz.prog W base sp held n f0.type ((cs.drop f0.offset).take (Tryz.prog.cellsOf f0.type))=some y0∧DataW.trod enc Tryz.prog W base sp held n f1.type ((cs.drop f1.offset).take (Tryz.prog.cellsOf f1.type))=some y1∧DataW.trod enc Tryz.prog W base sp held n f2.type ((cs.drop f2.offset).take (Tryz.prog.cellsOf f2.type))=some y2∧DataW.trod enc Tryz.prog W base sp held n f3.type ((cs.drop f3.offset).take (Tryz.prog.cellsOf f3.type))=some y3∧DataW.trod enc Tryz.prog W base sp held n f4.type ((cs.drop f4.offset).take (Tryz.prog.cellsOf f4.type))=some y4∧DataW.trod enc Tryz.prog W base sp held n f5.type ((cs.drop f5.offset).take (Tryz.prog.cellsOf f5.type))=some y5∧DataW.trod enc Tryz.prog W base sp held n f6.type ((cs.drop f6.offset).take (Tryz.prog.cellsOf f6.type))=some y6:=by
 obtain ⟨zs,n,_,_,hl,hlen,hf⟩:=DataW.trod_struct ht h
 match zs,hlen with
 | [y0,y1,y2,y3,y4,y5,y6],_=>exact ⟨y0,y1,y2,y3,y4,y5,y6,n,hl,by simpa using hf 0 f0 rfl,by simpa using hf 1 f1 rfl,by simpa using hf 2 f2 rfl,by simpa using hf 3 f3 rfl,by simpa using hf 4 f4 rfl,by simpa using hf 5 f5 rfl,by simpa using hf 6 f6 rfl⟩
theorem a15_cells {sp:Nat→Bool} {held:Bool} {n:Nat} {cs:List Value} {y:DataW H×List MemPlace} (h:DataW.trod enc Tryz.prog W base sp held n 77 cs=some y):∃ x:A15,cs=a15L x:=by
 obtain ⟨y0,y1,y2,y3,y4,y5,y6,m,hl,g0,g1,g2,g3,g4,g5,g6⟩:=trod_seven Tryz.underlying77 h;rw [cellsA15] at hl
 match cs,hl with
 | [c0,c1,c2,c3,c4,c5,c6,c7,c8,c9,c10,c11,c12,c13,c14,c15,c16],_=>
   simp only [cA8,cellsInt,cellsCal,List.drop_zero,List.drop_succ_cons,List.take_succ_cons,List.take_zero] at g0 g1 g2 g3 g4 g5 g6
   obtain ⟨k,e0,d0,_⟩:=DataW.trod_int Tryz.underlying5 g0;obtain ⟨t,e1,d1,_⟩:=DataW.trod_int Tryz.underlying3 g1;obtain ⟨s,e2,d2,_⟩:=DataW.trod_int Tryz.underlying3 g2;obtain ⟨j,e3,d3,_⟩:=DataW.trod_int Tryz.underlying3 g3;obtain ⟨c,e4⟩:=call_cells g4;obtain ⟨u,e5,d5,_⟩:=DataW.trod_int Tryz.underlying3 g5;obtain ⟨o,e6,d6,_⟩:=DataW.trod_int Tryz.underlying3 g6;simp only [calL,List.cons.injEq,and_true] at e0 e1 e2 e3 e4 e5 e6
   obtain ⟨rfl,rfl,rfl,rfl,rfl,rfl,rfl,rfl,rfl,rfl,rfl⟩:=e4;have w0:=wf_a8 (n:=k) (by first | exact d0 | exact d0.1 | assumption);have w1:=wf_i64 (n:=t) (by first | exact d1 | exact d1.1 | assumption);have w2:=wf_i64 (n:=s) (by first | exact d2 | exact d2.1 | assumption);have w3:=wf_i64 (n:=j) (by first | exact d3 | exact d3.1 | assumption);have w5:=wf_i64 (n:=u) (by first | exact d5 | exact d5.1 | assumption);have w6:=wf_i64 (n:=o) (by first | exact d6 | exact d6.1 | assumption);exact ⟨⟨k,t,s,j,c,u,o,w0.1,w0.2,w1.1,w1.2,w2.1,w2.2,w3.1,w3.2,w5.1,w5.2,w6.1,w6.2⟩,by rw [e0,e1,e2,e3,e5,e6]⟩
theorem open_a15s {a:Option Addr} {len cap:Nat} {d:DataW H} {p:List MemPlace} {sp:Nat→Bool} {held:Bool}
  (h:DataW.Trod enc Tryz.prog W base sp held 22 (.slice a len cap) d p):∃ l:List A15,IsA15 W (.slice a len cap) l:=by
 obtain ⟨fuel,hf⟩:=h;rcases open_slice Tryz.underlying22 hf with ⟨hcs,_⟩ | ⟨x,len',cap',m,n,D,Pl,hcs,_,hl,hm,hmm,_,hx⟩
 ·simp [Value.cells] at hcs
  obtain ⟨rfl,rfl,rfl⟩:=hcs;exact ⟨[],none,0,rfl,Nat.le_refl _,by omega,fun h=>absurd rfl h⟩
 ·simp [Value.cells] at hcs
  obtain ⟨rfl,rfl,rfl⟩:=hcs;have hlm:len≤m:=by rw [hmm]; split <;> omega
  have each:∀ i,i<len→∃ q:A15,∀ j,j<17→W.cell? (x.add (i * 17+j))=(a15L q)[j]? := fun i hi=>by
   obtain ⟨cs',h1,h2⟩:=hx i (by omega);rw [cellsA15] at h1;obtain ⟨q,rfl⟩:=a15_cells h2;obtain ⟨_,_,hcell⟩:=World.cells?_some h1;refine ⟨q,fun j hj=>?_⟩;have:=hcell j hj;rw [add_add] at this;exact this
  obtain ⟨q,hq⟩:=choose_lt each;refine ⟨(List.range len).map q,some x,cap,by simp,by simpa using hl,by unfold maxLen at hm; omega,fun hne=>?_⟩;have hpos:0<len:=by
   rcases Nat.eq_zero_or_pos len with h | h
   ·subst h; simp at hne
   ·exact h
  obtain ⟨b,off,spot⟩:=x;have h00:=hq 0 hpos 0 (by omega);have hspot:spot=none:=by simpa [Addr.add] using World.cell?_spot h00
  subst hspot;simp only [add_plain] at hq h00
  refine ⟨b,off,rfl,World.block_lt_of_cell? _ _ h00,fun j hj=>?_⟩;have hj':j<len:=by simpa using hj
  have:=hq j hj';simp only [List.getElem_map,List.getElem_range]
  intro i u hu
  have h:=this i (by have:=(List.getElem?_eq_some_iff.1 hu).1; simpa using this);rw [hu] at h
  simpa [Nat.add_assoc] using h
end
end Go.Proofs.YtclbddbhcbdfmaaGreatDoor
