import Derived.Test.YtifnijmienmmbaaGreatDoorCa11
set_option maxRecDepth 100000
set_option maxHeartbeats 12800000
namespace Go.Proofs.YtifnijmienmmbaaGreatDoor
open Go Go.Proofs Go.RowKit
structure T11 (w:World) (bV:Nat) (a b:Int) (cs:List Value) (vm vl:Value) (m l:List Oq) (W:World):Prop where
 bel:Below w.heap.size w W
 ba:Blk W w.heap.size [a,b] 24
 bv:Blk W bV cs 41
 bm:Blk W (bV+1) [vm,vl] 44
 iv:IsV W m l cs
 io:IsO W vm m
 il:IsO W vl l
theorem T11.next {w:World} {bV:Nat} {a b:Int} {cs:List Value} {vm vl:Value} {m l:List Oq} {W W':World} (h:T11 w bV a b cs vm vl m l W) (hb:Below W.heap.size W W'):T11 w bV a b cs vm vl m l W':=
 ⟨h.bel.trans (hb.mono h.bel.size),h.ba.next hb,h.bv.next hb,h.bm.next hb,h.iv.next hb,h.io.next hb,h.il.next hb⟩
theorem T11.start {w W0 w1:World} {a b:Int} {cs:List Value} {vm vl:Value} {m l:List Oq} (h0:W0=w.alloc (.cells #[a,b] 24)) (hb:Below W0.heap.size W0 w1) (hv:IsV w1 m l cs) (h1:IsO w1 vm m) (h2:IsO w1 vl l):
  T11 w w1.heap.size a b cs vm vl m l ((w1.alloc (.cells ⟨cs⟩ 41)).alloc (.cells #[vm,vl] 44)):=by
 have hs:=hb.size;have hw0:W0.heap.size=w.heap.size+1:=by rw [h0]; simp
 have hbw:Below w.heap.size w W0:=h0▸bA
 have hA:Below w1.heap.size w1 ((w1.alloc (.cells ⟨cs⟩ 41)).alloc (.cells #[vm,vl] 44)):=(bA).alloc (by simp) _;have hx:Blk W0 w.heap.size [a,b] 24:=h0▸Blk.start w _ _
 exact ⟨(hbw.trans (hb.mono (by omega))).trans (hA.mono (by omega)),(hx.next hb).next hA,(Blk.start w1 cs _).alloc _,Blk.startAt (by simp),hv.next hA,h1.next hA,h2.next hA⟩
structure X11 (w:World) (bV:Nat) (a b:Int) (cs:List Value) (vm vl:Value) (m l:List Oq) (bC bX:Nat) (p q:Int) (W:World):Prop where
 t:T11 w bV a b cs vm vl m l W
 bc:Blk W bC [p,q] 48
 bx:Blk W bX [p,q] 52
theorem X11.next {w:World} {bV:Nat} {a b:Int} {cs:List Value} {vm vl:Value} {m l:List Oq} {bC bX:Nat} {p q:Int} {W W':World} (h:X11 w bV a b cs vm vl m l bC bX p q W) (hb:Below W.heap.size W W'):X11 w bV a b cs vm vl m l bC bX p q W':=⟨h.t.next hb,h.bc.next hb,h.bx.next hb⟩
structure Y11 (w:World) (bV:Nat) (a b:Int) (cs:List Value) (vm vl:Value) (m l:List Oq) (bS bK:Nat) (p q x y:Int) (W:World):Prop where
 t:T11 w bV a b cs vm vl m l W
 bs:Blk W bS [p,q,a,b] 48
 bk:Blk W bK [x,y] 48
theorem Y11.next {w:World} {bV:Nat} {a b:Int} {cs:List Value} {vm vl:Value} {m l:List Oq} {bS bK:Nat} {p q x y:Int} {W W':World} (h:Y11 w bV a b cs vm vl m l bS bK p q x y W) (hb:Below W.heap.size W W'):Y11 w bV a b cs vm vl m l bS bK p q x y W':=⟨h.t.next hb,h.bs.next hb,h.bk.next hb⟩
theorem T11.putR {w:World} {bV:Nat} {a b:Int} {cs:List Value} {vm vl:Value} {m l:List Oq} {bY:Nat} {z:List Value} {W:World} (h:T11 w bV a b cs vm vl m l W) (hB:Blk W bY z 52) (hy:w.heap.size≤bY) (vs:List Value):T11 w bV a b cs vm vl m l (setN W bY 0 vs):=by
 have k:∀ t,52≠t→KT t W (setN W bY 0 vs):=fun t ht=>KT.setN ht _ 0 hB
 exact ⟨setN_below hy _ 0 h.bel,k _ (by decide) _ _ h.ba,k _ (by decide) _ _ h.bv,k _ (by decide) _ _ h.bm,h.iv.kt (k _ (by decide)) (k _ (by decide)) (k _ (by decide)) (Nat.le_of_eq (setN_size _ 0).symm),Sl.kt (k _ (by decide)) h.io,Sl.kt (k _ (by decide)) h.il⟩
theorem Y11.putR {w:World} {bV:Nat} {a b:Int} {cs:List Value} {vm vl:Value} {m l:List Oq} {bS bK:Nat} {p q x y:Int} {bY:Nat} {z:List Value} {W:World} (h:Y11 w bV a b cs vm vl m l bS bK p q x y W) (hB:Blk W bY z 52) (hy:w.heap.size≤bY) (vs:List Value):Y11 w bV a b cs vm vl m l bS bK p q x y (setN W bY 0 vs):=
 ⟨h.t.putR hB hy vs,KT.setN (by decide) vs 0 hB _ _ h.bs,KT.setN (by decide) vs 0 hB _ _ h.bk⟩
theorem bel1 (w:World) (l:Array Value) (t:TypeId):Below w.heap.size w (w.alloc (.cells l t)):=bA
theorem ctells_main (H:VAll) (HC:CAll) (hAw:Awake11Ok) (ad:Option Addr) (cap:Nat) (acts:List Act8) (a b at_ by_:Int) (ha0 : -9223372036854775808≤at_) (ha1:at_≤9223372036854775807) (hb0 : -9223372036854775808≤by_) (hb1:by_≤9223372036854775807) (w:World) (hl:acts.length≤30) (hc:acts.length≤cap) (hc2:cap≤9223372036854775807)
  (hL:acts≠[]→∃ b off,ad=some ⟨b,off,none⟩∧b<w.heap.size∧LiesA w b off acts) (hp:Pows w) (ht:Tabs w):
  Calls Tryz.prog 3 #[.slice ad acts.length cap,at_,by_,.agg #[a,b]] w fun e w'=>e=.returned (.bool true)∧Below w.heap.size w w':=by
 have HPT:=Lh (And.intro hp ht);have HH:=Lh (And.intro H (And.intro HC hAw));have hl':¬ (30:Int)<(acts.length:Int):=by omega
 obtain ⟨W0,hW0⟩:∃ W0,W0=w.alloc (.cells #[a,b] 24):=⟨_,rfl⟩
 have hbw:Below w.heap.size w W0:=hW0▸bA
 have hL0:acts≠[]→∃ b off,ad=some ⟨b,off,none⟩∧b<W0.heap.size∧LiesA W0 b off acts:=fun h=>by
  obtain ⟨g,off,h1,h2,h3⟩:=hL h;exact ⟨g,off,h1,Nat.lt_of_lt_of_le h2 hbw.size,fun j hj i hi=>(hbw.cell (p:=⟨g,off+j * 10+i,none⟩) h2).trans (h3 j hj i hi)⟩
 have HPL:=Lh (played_any H ad cap acts W0 (by omega) hc hc2 hL0 (hp.next hbw) (ht.next hbw));have HW0:=Lh hW0;have hWA:=hW0.symm;clear hL hL0 hp ht H HC hAw hbw hW0
 go_enter Tryz.func3,Tryz.ntmps3
 go_wp2_with (go_at_call 6; refine HPL.out.mono ?_; rintro e w1 ⟨hb,c0,c1,c2,c3,c4,c5,c6,c7,vm,vl,m,l,rfl,hv,hiv,hio,hil⟩; obtain ⟨a1,p1,rfl,e1,e2⟩:=Sl.form hio; obtain ⟨a2,p2,rfl,e3,e4⟩:=Sl.form hil; refine Hid.out ?_)
 obtain ⟨sd0,sd1,sd2,sd3,sd4,sd5,sd6,sd7⟩:=st8 hiv.one;have HV:=Lh hv;have HT:=Lh (T11.start HW0.out hb hiv hio hil);clear hWA HPL hb hiv hio hil hv;refine Lh ?_
 go_upto_region 6 with fail
 clear e1 e2 e3 e4 sd0 sd1 sd2 sd3 sd4 sd5 sd6 sd7;generalize Value.slice a1 m.length p1=vm at *
 generalize Value.slice a2 l.length p2=vl at *
 have hvn:acts.length≤50:=by omega
 have HAT:=Lh (fun W (h:T11 w w1.heap.size a b [c0,c1,c2,c3,c4,c5,c6,c7] vm vl m l W)=>HH.out.2.1.at_ m l acts.length at_ c0 c1 c2 c3 c4 c5 c6 c7 W HV.out.1 hvn ha0 ha1 h.iv);have HRA:=Lh (fun W (h:T11 w w1.heap.size a b [c0,c1,c2,c3,c4,c5,c6,c7] vm vl m l W)=>rcAt_any HV.out.1 (by omega) at_ ha0 ha1 vm vl W h.io);have HRE:=Lh (fun x y W (h:T11 w w1.heap.size a b [c0,c1,c2,c3,c4,c5,c6,c7] vm vl m l W)=>HH.out.2.1.re m l acts.length x y c0 c1 c2 c3 c4 c5 c6 c7 W HV.out.1 hvn h.iv);have HRR:=Lh (fun x y W (h:T11 w w1.heap.size a b [c0,c1,c2,c3,c4,c5,c6,c7] vm vl m l W)=>rcRe_any HV.out.1 (by omega) x y vm vl W h.io);have HLI:=Lh (fun x y W (h:T11 w w1.heap.size a b [c0,c1,c2,c3,c4,c5,c6,c7] vm vl m l W)=>HH.out.2.1.li m l acts.length x y c0 c1 c2 c3 c4 c5 c6 c7 W HV.out.1 hvn h.iv);have HRL:=Lh (fun x y W (h:T11 w w1.heap.size a b [c0,c1,c2,c3,c4,c5,c6,c7] vm vl m l W)=>rcLi_any HV.out.1 (by omega) x y vm vl W h.io);have HMO:=Lh (fun x y W (h:T11 w w1.heap.size a b [c0,c1,c2,c3,c4,c5,c6,c7] vm vl m l W)=>HH.out.2.1.mo m l acts.length x y by_ c0 c1 c2 c3 c4 c5 c6 c7 W HV.out.1 hvn hb0 hb1 h.iv);have HRM:=Lh (fun x y W (h:T11 w w1.heap.size a b [c0,c1,c2,c3,c4,c5,c6,c7] vm vl m l W)=>rcMo_any HV.out.1 (by omega) x y by_ vm vl W h.io);have HAW:=Lh (fun W (h:T11 w w1.heap.size a b [c0,c1,c2,c3,c4,c5,c6,c7] vm vl m l W)=>HH.out.2.2 W (HPT.out.1.next h.bel) (HPT.out.2.next h.bel));generalize docR m=L at *
 generalize namC L at_=pq at *
 generalize cuE L at_=E0 at *
 clear hvn HH HPT HV;go_wp2_with (go_at_call 7; refine (HAT.out _ HT.out).mono ?_; rintro e w2 ⟨rfl,hb⟩; refine Hid.out ?_)
 have HT2:=Lh ((HT.out.next hb).next (bel1 w2 #[pq.1,pq.2] 48));have HBC:=Lh (Blk.start w2 [pq.1,pq.2] 48);have m0 := HT2.out.bm.c2;clear HT hb HAT;refine Lh ?_;go_wp2_with (go_at_call 8; refine (HRA.out _ HT2.out).mono ?_; rintro e w3 ⟨rfl,hb⟩; refine Hid.out ?_)
 have HX:=Lh (show X11 w w1.heap.size a b [c0,c1,c2,c3,c4,c5,c6,c7] vm vl m l w2.heap.size w3.heap.size pq.1 pq.2 (w3.alloc (.cells #[pq.1,pq.2] 52)) from ⟨(HT2.out.next hb).next (bel1 _ _ _),(HBC.out.next hb).next (bel1 _ _ _),Blk.start w3 _ _⟩);clear HT2 HBC hb HRA m0;refine Lh ?_;go_wp2_with fail
 generalize w3.alloc (.cells #[pq.1,pq.2] 52)=W3 at *
 generalize w3.heap.size=bX at *
 generalize w2.heap.size=bC at *
 refine rgH (fun W=>Cc2 W bC pq.1 pq.2 (Cc2 W bX pq.1 pq.2 (X11 w w1.heap.size a b [c0,c1,c2,c3,c4,c5,c6,c7] vm vl m l bC bX pq.1 pq.2 W))) (let h:=HX.out.next bdq; h.bc.d2 (h.bx.d2 h)) fun hH=>?_
 clear HX;refine tq 0 (.pointer (some ⟨bC,0,none⟩)) hH ?_;refine tq 1 (.agg #[pq.1,pq.2]) hH ?_;refine tq 3 (.agg #[pq.1,pq.2]) hH ?_;refine rd1 2 (by kernel_rfl) rfl fun K hK=>?_
 go_simp
 refine (of_any _ _ _).mono ?_
 rintro e u ⟨rfl,hb⟩
 go_wp2_with fail
 refine hK.out _ _ (let h:=hH.2.2.2.2.next hb; h.bc.d2 (h.bx.d2 h)) ?_;clear hK K hH;intro hH
 try simp only [LAY]
 refine tq 4 (.bool false) hH ?_;refine tq 5 (.bool false) hH ?_;refine tq 6 E0 hH ?_;refine tq 7 E0 hH ?_;refine tq 8 (.bool false) hH ?_;refine tq 9 (.bool false) hH ?_;refine dnH ?_;have HX:=Lh hH.2.2.2.2;clear hH hb;have q0 := HX.out.bc.c2;have r0 := HX.out.t.ba.c2
 go_upto_region 10 with fail
 have HS:=Lh (And.intro (HX.out.t.next (bel1 _ #[pq.1,pq.2,a,b] 48)) (Blk.start u [pq.1,pq.2,a,b] 48));clear HX;go_wp2_with fail
 go_loopg [63] 2 (fun g ti wr=>∃ k:Nat,k≤2∧g=2-k∧ti=.int .i64 (k:Int)∧T11 w w1.heap.size a b [c0,c1,c2,c3,c4,c5,c6,c7] vm vl m l wr∧Blk wr u.heap.size [pq.1,pq.2,a,b] 48)
 case atStart=>exact ⟨0,Nat.zero_le _,rfl,rfl,HS.out⟩
 case round=>
  obtain ⟨k,hk,rfl,rfl,hT,hS⟩:=hrel;clear HS q0 r0;generalize u.heap.size=bS at *
  by_cases hlt:k<2
  ·obtain ⟨x,y,g0,g1⟩:∃ x y:Int,wr.cell? ⟨bS,k * 2,none⟩=some (.int .i64 x)∧wr.cell? ⟨bS,k * 2+1,none⟩=some (.int .i64 y):=by
    rcases (show k=0∨k=1 by omega) with rfl | rfl
    ·exact ⟨_,_,hS.c2⟩
    ·exact ⟨_,_,hS.cell 2 rfl,hS.cell 3 rfl⟩
   have hA:=bel1 wr #[x,y] 48;have HY:=Lh (show Y11 w w1.heap.size a b [c0,c1,c2,c3,c4,c5,c6,c7] vm vl m l bS wr.heap.size pq.1 pq.2 x y (wr.alloc (.cells #[x,y] 48)) from ⟨hT.next hA,hS.next hA,Blk.start wr _ _⟩);have HX:=hT;clear hA hT hS HX;have v0 := HY.out.t.bv.c8;go_wp2_with (go_at_call 10; refine (HRE.out x y _ HY.out.t).mono ?_; rintro e w4 ⟨rfl,hb⟩; refine Hid.out ?_)
   have HY4:=Lh (HY.out.next hb);clear HY hb HRE v0 g0 g1;refine Lh ?_;go_wp2_with fail
   have HRR2:=Lh (fun W (h:Y11 w w1.heap.size a b [c0,c1,c2,c3,c4,c5,c6,c7] vm vl m l bS wr.heap.size pq.1 pq.2 x y W)=>HRR.out x y W h.t);have HLI2:=Lh (fun W (h:Y11 w w1.heap.size a b [c0,c1,c2,c3,c4,c5,c6,c7] vm vl m l bS wr.heap.size pq.1 pq.2 x y W)=>HLI.out x y W h.t);have HRL2:=Lh (fun W (h:Y11 w w1.heap.size a b [c0,c1,c2,c3,c4,c5,c6,c7] vm vl m l bS wr.heap.size pq.1 pq.2 x y W)=>HRL.out x y W h.t);have HMO2:=Lh (fun W (h:Y11 w w1.heap.size a b [c0,c1,c2,c3,c4,c5,c6,c7] vm vl m l bS wr.heap.size pq.1 pq.2 x y W)=>HMO.out x y W h.t);have HRM2:=Lh (fun W (h:Y11 w w1.heap.size a b [c0,c1,c2,c3,c4,c5,c6,c7] vm vl m l bS wr.heap.size pq.1 pq.2 x y W)=>HRM.out x y W h.t);clear HRR HLI HRL HMO HRM;generalize reN L x y=N at *
   generalize reE L x y=E at *
   generalize liB L x y=lb at *
   generalize moA L x y by_=gg at *
   generalize moE L x y by_=E2 at *
   refine rgH (fun W=>Cc8 W w1.heap.size c0 c1 c2 c3 c4 c5 c6 c7 (Cc2 W (w1.heap.size+1) vm vl (Cc2 W wr.heap.size x y (Y11 w w1.heap.size a b [c0,c1,c2,c3,c4,c5,c6,c7] vm vl m l bS wr.heap.size pq.1 pq.2 x y W)))) (let h:=HY4.out.next bdq; h.t.bv.d8 (h.t.bm.d2 (h.bk.d2 h))) fun hH=>?_
   clear HY4;refine tq 0 (.agg #[vm,vl]) hH ?_;refine tq 1 (.pointer (some ⟨wr.heap.size,0,none⟩)) hH ?_;refine tq 2 (.agg #[x,y]) hH ?_;refine rd1 3 (by kernel_rfl) rfl fun K hK=>?_
   go_simp
   refine (of_any _ _ _).mono ?_
   rintro e u ⟨rfl,hb⟩
   go_wp2_with fail
   refine hK.out _ _ (let h:=hH.2.2.2.2.2.2.2.2.2.2.2.2.next hb; h.t.bv.d8 (h.t.bm.d2 (h.bk.d2 h))) ?_;clear hK K hH;intro hH
   try simp only [LAY]
   refine rd1 4 (by kernel_rfl) rfl fun K hK=>?_
   go_simp
   refine (HRR2.out _ hH.2.2.2.2.2.2.2.2.2.2.2.2).mono ?_
   rintro e u ⟨rfl,hb2⟩
   go_wp2_with fail
   refine hK.out _ _ (let h:=hH.2.2.2.2.2.2.2.2.2.2.2.2.next hb2; h.t.bv.d8 (h.t.bm.d2 (h.bk.d2 h))) ?_;clear hK K hH;intro hH
   try simp only [LAY]
   refine tq 5 (.tuple #[N,E]) hH ?_;refine tq 6 N hH ?_;refine tq 7 E hH ?_;refine tq 8 N hH ?_;refine tq 9 E hH ?_;refine dnH ?_;have HY5:=Lh hH.2.2.2.2.2.2.2.2.2.2.2.2;clear hH hb hb2 HRR2;go_wp2_with fail
   refine rgH (fun W=>Cc8 W w1.heap.size c0 c1 c2 c3 c4 c5 c6 c7 (Cc2 W (w1.heap.size+1) vm vl (Cc2 W wr.heap.size x y (Y11 w w1.heap.size a b [c0,c1,c2,c3,c4,c5,c6,c7] vm vl m l bS wr.heap.size pq.1 pq.2 x y W)))) (let h:=HY5.out.next bdq; h.t.bv.d8 (h.t.bm.d2 (h.bk.d2 h))) fun hH=>?_
   clear HY5;refine tq 0 N hH ?_;refine tq 1 N hH ?_;refine tq 2 (.bool false) hH ?_;refine tq 3 (.bool false) hH ?_;refine tq 4 E hH ?_;refine tq 5 E hH ?_;refine tq 6 (.bool false) hH ?_;refine tq 7 (.bool false) hH ?_;refine tq 8 (.bool false) hH ?_;refine tq 9 (.agg #[x,y]) hH ?_;refine tq 10 (.agg #[c0,c1,c2,c3,c4,c5,c6,c7]) hH ?_;refine tq 12 (.agg #[vm,vl]) hH ?_;refine tq 13 (.pointer (some ⟨wr.heap.size,0,none⟩)) hH ?_;refine tq 14 (.agg #[x,y]) hH ?_;refine rd1 11 (by kernel_rfl) rfl fun K hK=>?_
   go_simp
   refine (HLI2.out _ hH.2.2.2.2.2.2.2.2.2.2.2.2).mono ?_
   rintro e u ⟨rfl,hb⟩
   go_wp2_with fail
   refine hK.out _ _ (let h:=hH.2.2.2.2.2.2.2.2.2.2.2.2.next hb; h.t.bv.d8 (h.t.bm.d2 (h.bk.d2 h))) ?_;clear hK K hH;intro hH
   try simp only [LAY]
   refine rd1 15 (by kernel_rfl) rfl fun K hK=>?_
   go_simp
   refine (of_any _ _ _).mono ?_
   rintro e u ⟨rfl,hb2⟩
   go_wp2_with fail
   refine hK.out _ _ (let h:=hH.2.2.2.2.2.2.2.2.2.2.2.2.next hb2; h.t.bv.d8 (h.t.bm.d2 (h.bk.d2 h))) ?_;clear hK K hH;intro hH
   try simp only [LAY]
   refine rd1 16 (by kernel_rfl) rfl fun K hK=>?_
   go_simp
   refine (HRL2.out _ hH.2.2.2.2.2.2.2.2.2.2.2.2).mono ?_
   rintro e u ⟨rfl,hb3⟩
   go_wp2_with fail
   refine hK.out _ _ (let h:=hH.2.2.2.2.2.2.2.2.2.2.2.2.next hb3; h.t.bv.d8 (h.t.bm.d2 (h.bk.d2 h))) ?_;clear hK K hH;intro hH
   try simp only [LAY]
   refine tq 17 (.bool false) hH ?_;refine tq 18 (.bool false) hH ?_;refine dnH ?_;have HY6:=Lh hH.2.2.2.2.2.2.2.2.2.2.2.2;clear hH hb hb2 hb3 HLI2 HRL2;have v0 := HY6.out.t.bv.c8;obtain ⟨g0,g1⟩:=HY6.out.bk.c2;go_wp2_with (go_at_call 14; refine (HMO2.out _ HY6.out).mono ?_; rintro e w6 ⟨rfl,hb⟩; refine Hid.out ?_)
   have hA:=bel1 w6 #[gg.1,gg.2] 48;have HZ:=Lh (show Y11 w w1.heap.size a b [c0,c1,c2,c3,c4,c5,c6,c7] vm vl m l bS wr.heap.size pq.1 pq.2 x y (w6.alloc (.cells #[gg.1,gg.2] 48))∧Blk (w6.alloc (.cells #[gg.1,gg.2] 48)) w6.heap.size [gg.1,gg.2] 48 from ⟨(HY6.out.next hb).next hA,Blk.start w6 _ _⟩);clear HY6 hb hA HMO2 v0 g0 g1;refine Lh ?_
   go_upto_region 18 with fail
   generalize w6.alloc (.cells #[gg.1,gg.2] 48)=W6 at *
   generalize w6.heap.size=bD at *
   go_cut [21,23,63] from 63 to 126 (fun ev yv tk wx=>tk=.int .i64 (k:Int)∧ev=.int .i64 E2∧∃ bY:Nat,yv=.pointer (some ⟨bY,0,none⟩)∧(Y11 w w1.heap.size a b [c0,c1,c2,c3,c4,c5,c6,c7] vm vl m l bS wr.heap.size pq.1 pq.2 x y wx∧Blk wx bD [gg.1,gg.2] 48)∧Blk wx bY [gg.1,gg.2] 52)
   case first=>
    refine rgH (fun W=>Cc2 W (w1.heap.size+1) vm vl (Cc2 W wr.heap.size x y (Y11 w w1.heap.size a b [c0,c1,c2,c3,c4,c5,c6,c7] vm vl m l bS wr.heap.size pq.1 pq.2 x y W∧Blk W bD [gg.1,gg.2] 48))) (let h:=(And.intro (HZ.out.1.next bdq) (HZ.out.2.next bdq)); h.1.t.bm.d2 (h.1.bk.d2 h)) fun hH=>?_
    clear HZ;generalize W6.drew=X at *
    refine tq 0 (.agg #[vm,vl]) hH ?_;refine tq 1 (.pointer (some ⟨wr.heap.size,0,none⟩)) hH ?_;refine tq 2 (.agg #[x,y]) hH ?_;refine tq 4 by_ hH ?_;refine wpAnyH_ready (rs:=[3,9]) (by kernel_rfl) (by simp) ?_;refine cons1 rfl (fun K hK=>?_) (cons1 rfl (fun K hK=>?_) AllReadyH.nil)
    ·go_simp
     refine (of_any _ _ _).mono ?_
     rintro e u20 ⟨rfl,hb⟩
     go_wp2_with fail
     refine hK.out _ _ (let h:=(And.intro (hH.2.2.2.2.1.next hb) (hH.2.2.2.2.2.next hb)); h.1.t.bm.d2 (h.1.bk.d2 h)) ?_;clear hK K hH;intro hH
     try simp only [LAY]
     clear hb;refine wpAnyH_ready (rs:=[5,9]) (by kernel_rfl) (by simp) ?_;refine cons1 rfl (fun K hK=>?_) (cons1 rfl (fun K hK=>?_) AllReadyH.nil)
     ·go_simp
      refine (HRM2.out _ hH.2.2.2.2.1).mono ?_
      rintro e u21 ⟨rfl,hb⟩
      go_wp2_with fail
      refine hK.out _ _ (let h:=(And.intro (hH.2.2.2.2.1.next hb) (hH.2.2.2.2.2.next hb)); h.1.t.bm.d2 (h.1.bk.d2 h)) ?_;clear hK K hH;intro hH
      try simp only [LAY]
      clear hb;refine tq 6 (.tuple #[.agg #[gg.1,gg.2],E2]) hH ?_;refine tq 7 (.agg #[gg.1,gg.2]) hH ?_;refine tq 8 E2 hH ?_;refine rd1 9 (by kernel_rfl) rfl fun K hK=>?_
      go_simp
      go_wp2_with fail
      have BY:=Lh (Blk.start u21 [.int .i64 0,.int .i64 0] 52);have hbY:w.heap.size≤u21.heap.size:=hH.2.2.2.2.1.t.bel.size;have hA:=bel1 u21 #[.int .i64 0,.int .i64 0] 52;refine hK.out _ _ (let h:=(And.intro (hH.2.2.2.2.1.next hA) (hH.2.2.2.2.2.next hA)); h.1.t.bm.d2 (h.1.bk.d2 h)) ?_;clear hK K hH;intro hH
      try simp only [LAY]
      clear hA;generalize u21.alloc (.cells #[.int .i64 0,.int .i64 0] 52)=XA at *
      generalize u21.heap.size=bY at *
      refine rd1 10 (by kernel_rfl) rfl fun K hK=>?_
      have n0 := BY.out.c2;have fn0 := BY.out.f2;have HQ:=Lh (And.intro (hH.2.2.2.2.1.putR BY.out hbY [gg.1,gg.2]) (And.intro (KT.setN (by decide) [gg.1,gg.2] 0 BY.out _ _ hH.2.2.2.2.2:Blk (setN XA bY 0 [gg.1,gg.2]) bD [gg.1,gg.2] 48) (setN_blk [gg.1,gg.2] 0 BY.out)));obtain ⟨Wz,hWz⟩:∃ Wz,Wz=setN XA bY 0 [gg.1,gg.2]:=⟨_,rfl⟩
      rw [←hWz] at HQ;simp only [setN, Nat.zero_add] at hWz
      have HWz:=Lh hWz;clear hWz;go_simp
      go_wp2_with fail
      rw [←HWz.out];refine hK.out _ _ (let h:=(And.intro HQ.out.1 HQ.out.2.1); h.1.t.bm.d2 (h.1.bk.d2 h)) ?_;clear hK K hH;intro hH
      try simp only [LAY]
      refine tq 11 E2 hH ?_;refine dnH ?_;clear hH n0 fn0;go_wp2_with fail
      go_meet
      exact ⟨rfl,rfl,bY,rfl,⟨HQ.out.1,HQ.out.2.1⟩,HQ.out.2.2⟩
     ·go_simp
      go_wp2_with fail
      have BY:=Lh (Blk.start u20 [.int .i64 0,.int .i64 0] 52);have hbY:w.heap.size≤u20.heap.size:=hH.2.2.2.2.1.t.bel.size;have hA:=bel1 u20 #[.int .i64 0,.int .i64 0] 52;refine hK.out _ _ (let h:=(And.intro (hH.2.2.2.2.1.next hA) (hH.2.2.2.2.2.next hA)); h.1.t.bm.d2 (h.1.bk.d2 h)) ?_;clear hK K hH;intro hH
      try simp only [LAY]
      clear hA;generalize u20.alloc (.cells #[.int .i64 0,.int .i64 0] 52)=XA at *
      generalize u20.heap.size=bY at *
      refine rd1 5 (by kernel_rfl) rfl fun K hK=>?_
      go_simp
      refine (HRM2.out _ hH.2.2.2.2.1).mono ?_
      rintro e u22 ⟨rfl,hb⟩
      go_wp2_with fail
      refine hK.out _ _ (let h:=(And.intro (hH.2.2.2.2.1.next hb) (hH.2.2.2.2.2.next hb)); h.1.t.bm.d2 (h.1.bk.d2 h)) ?_;clear hK K hH;intro hH
      try simp only [LAY]
      replace BY:=Lh (BY.out.next hb)
      clear hb;refine tq 6 (.tuple #[.agg #[gg.1,gg.2],E2]) hH ?_;refine tq 7 (.agg #[gg.1,gg.2]) hH ?_;refine tq 8 E2 hH ?_;refine rd1 10 (by kernel_rfl) rfl fun K hK=>?_
      have n0 := BY.out.c2;have fn0 := BY.out.f2;have HQ:=Lh (And.intro (hH.2.2.2.2.1.putR BY.out hbY [gg.1,gg.2]) (And.intro (KT.setN (by decide) [gg.1,gg.2] 0 BY.out _ _ hH.2.2.2.2.2:Blk (setN u22 bY 0 [gg.1,gg.2]) bD [gg.1,gg.2] 48) (setN_blk [gg.1,gg.2] 0 BY.out)));obtain ⟨Wz,hWz⟩:∃ Wz,Wz=setN u22 bY 0 [gg.1,gg.2]:=⟨_,rfl⟩
      rw [←hWz] at HQ;simp only [setN, Nat.zero_add] at hWz
      have HWz:=Lh hWz;clear hWz;go_simp
      go_wp2_with fail
      rw [←HWz.out];refine hK.out _ _ (let h:=(And.intro HQ.out.1 HQ.out.2.1); h.1.t.bm.d2 (h.1.bk.d2 h)) ?_;clear hK K hH;intro hH
      try simp only [LAY]
      refine tq 11 E2 hH ?_;refine dnH ?_;clear hH n0 fn0;go_wp2_with fail
      go_meet
      exact ⟨rfl,rfl,bY,rfl,⟨HQ.out.1,HQ.out.2.1⟩,HQ.out.2.2⟩
    ·go_simp
     go_wp2_with fail
     have BY:=Lh (Blk.start X [.int .i64 0,.int .i64 0] 52);have hbY:w.heap.size≤X.heap.size:=hH.2.2.2.2.1.t.bel.size;have hA:=bel1 X #[.int .i64 0,.int .i64 0] 52;refine hK.out _ _ (let h:=(And.intro (hH.2.2.2.2.1.next hA) (hH.2.2.2.2.2.next hA)); h.1.t.bm.d2 (h.1.bk.d2 h)) ?_;clear hK K hH;intro hH
     try simp only [LAY]
     clear hA;generalize X.alloc (.cells #[.int .i64 0,.int .i64 0] 52)=XA at *
     generalize X.heap.size=bY at *
     refine rd1 3 (by kernel_rfl) rfl fun K hK=>?_
     go_simp
     refine (of_any _ _ _).mono ?_
     rintro e u21 ⟨rfl,hb⟩
     go_wp2_with fail
     refine hK.out _ _ (let h:=(And.intro (hH.2.2.2.2.1.next hb) (hH.2.2.2.2.2.next hb)); h.1.t.bm.d2 (h.1.bk.d2 h)) ?_;clear hK K hH;intro hH
     try simp only [LAY]
     replace BY:=Lh (BY.out.next hb)
     clear hb;refine rd1 5 (by kernel_rfl) rfl fun K hK=>?_
     go_simp
     refine (HRM2.out _ hH.2.2.2.2.1).mono ?_
     rintro e u22 ⟨rfl,hb⟩
     go_wp2_with fail
     refine hK.out _ _ (let h:=(And.intro (hH.2.2.2.2.1.next hb) (hH.2.2.2.2.2.next hb)); h.1.t.bm.d2 (h.1.bk.d2 h)) ?_;clear hK K hH;intro hH
     try simp only [LAY]
     replace BY:=Lh (BY.out.next hb)
     clear hb;refine tq 6 (.tuple #[.agg #[gg.1,gg.2],E2]) hH ?_;refine tq 7 (.agg #[gg.1,gg.2]) hH ?_;refine tq 8 E2 hH ?_;refine rd1 10 (by kernel_rfl) rfl fun K hK=>?_
     have n0 := BY.out.c2;have fn0 := BY.out.f2;have HQ:=Lh (And.intro (hH.2.2.2.2.1.putR BY.out hbY [gg.1,gg.2]) (And.intro (KT.setN (by decide) [gg.1,gg.2] 0 BY.out _ _ hH.2.2.2.2.2:Blk (setN u22 bY 0 [gg.1,gg.2]) bD [gg.1,gg.2] 48) (setN_blk [gg.1,gg.2] 0 BY.out)));obtain ⟨Wz,hWz⟩:∃ Wz,Wz=setN u22 bY 0 [gg.1,gg.2]:=⟨_,rfl⟩
     rw [←hWz] at HQ;simp only [setN, Nat.zero_add] at hWz
     have HWz:=Lh hWz;clear hWz;go_simp
     go_wp2_with fail
     rw [←HWz.out];refine hK.out _ _ (let h:=(And.intro HQ.out.1 HQ.out.2.1); h.1.t.bm.d2 (h.1.bk.d2 h)) ?_;clear hK K hH;intro hH
     try simp only [LAY]
     refine tq 11 E2 hH ?_;refine dnH ?_;clear hH n0 fn0;go_wp2_with fail
     go_meet
     exact ⟨rfl,rfl,bY,rfl,⟨HQ.out.1,HQ.out.2.1⟩,HQ.out.2.2⟩
   case rest=>
   obtain ⟨rfl,rfl,bY,rfl,hZ,hY⟩:=hcut;have HZ2:=Lh (And.intro hZ hY);clear HZ HRM2 hZ hY;go_wp2_with fail
   refine rgH (fun W=>Cc2 W bD gg.1 gg.2 (Cc2 W bY gg.1 gg.2 ((Y11 w w1.heap.size a b [c0,c1,c2,c3,c4,c5,c6,c7] vm vl m l bS wr.heap.size pq.1 pq.2 x y W∧Blk W bD [gg.1,gg.2] 48)∧Blk W bY [gg.1,gg.2] 52))) (let h:=(And.intro (And.intro (HZ2.out.1.1.next bdq) (HZ2.out.1.2.next bdq)) (HZ2.out.2.next bdq)); h.1.2.d2 (h.2.d2 h)) fun hH=>?_
   clear HZ2;refine tq 0 (.pointer (some ⟨bD,0,none⟩)) hH ?_;refine tq 1 (.agg #[gg.1,gg.2]) hH ?_;refine tq 3 (.agg #[gg.1,gg.2]) hH ?_;refine rd1 2 (by kernel_rfl) rfl fun K hK=>?_
   go_simp
   refine (of_any _ _ _).mono ?_
   rintro e u ⟨rfl,hb⟩
   go_wp2_with fail
   refine hK.out _ _ (let h:=(And.intro (And.intro (hH.2.2.2.2.1.1.next hb) (hH.2.2.2.2.1.2.next hb)) (hH.2.2.2.2.2.next hb)); h.1.2.d2 (h.2.d2 h)) ?_;clear hK K hH;intro hH
   try simp only [LAY]
   refine tq 4 (.bool false) hH ?_;refine tq 5 (.bool false) hH ?_;refine tq 6 E2 hH ?_;refine tq 7 E2 hH ?_;refine tq 8 (.bool false) hH ?_;refine tq 9 (.bool false) hH ?_;refine dnH ?_;have HF:=Lh hH.2.2.2.2.1.1;clear hH hb;go_wp2_with fail
   go_roundg (2-(k+1))
   case measure=>omega
   case rel=>exact ⟨k+1,by omega,rfl,by go_num,HF.out.t,HF.out.bs⟩
  ·obtain rfl:k=2:=by omega
   clear HRE HRR HLI HRL HMO HRM;have HT:=Lh hT;clear hT hS;go_wp2_with (go_at_call 5; refine (HAW.out _ HT.out).mono ?_; rintro e w9 ⟨rfl,hb⟩)
   go_ret
   exact ⟨rfl,HT.out.bel.trans (hb.mono HT.out.bel.size)⟩
end Go.Proofs.YtifnijmienmmbaaGreatDoor
