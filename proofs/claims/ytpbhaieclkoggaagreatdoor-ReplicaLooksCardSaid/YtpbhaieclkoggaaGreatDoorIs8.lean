import Derived.Test.YtpbhaieclkoggaaGreatDoorVd8
set_option maxRecDepth 100000
set_option maxHeartbeats 12800000
namespace Go.Proofs.YtpbhaieclkoggaaGreatDoor
open Go Go.Proofs Go.RowKit
structure I8 (w:World) (cs:List Value) (vm vl:Value) (W:World):Prop where
 bel:Below w.heap.size w W
 bv:Blk W w.heap.size cs 39
 bm:Blk W (w.heap.size+1) [vm,vl] 47
theorem I8.next {w:World} {cs:List Value} {vm vl:Value} {W W':World} (h:I8 w cs vm vl W) (hb:Below W.heap.size W W'):I8 w cs vm vl W':=⟨h.bel.trans (hb.mono h.bel.size),h.bv.next hb,h.bm.next hb⟩
structure J8 (w:World) (cs:List Value) (vm vl:Value) (bS:Nat) (i:List (Int×Int)) (ve:Value) (L:List El) (vw:Value) (l:List Oq) (W:World):Prop where
 i8:I8 w cs vm vl W
 gs:w.heap.size+1<bS
 bs:Blk W bS [.int .i64 (nL i),.int .i64 (cL i),.int .i64 (sL i),.int .i64 (rL i),.int .i64 (iL i)] 114
 ie:IsE W ve L
 iw:IsP7 W vw l
theorem J8.next {w:World} {cs:List Value} {vm vl:Value} {bS:Nat} {i:List (Int×Int)} {ve:Value} {L:List El} {vw:Value} {l:List Oq} {W W':World} (h:J8 w cs vm vl bS i ve L vw l W) (hb:Below W.heap.size W W'):J8 w cs vm vl bS i ve L vw l W':=
 ⟨h.i8.next hb,h.gs,h.bs.next hb,h.ie.next hb,h.iw.next hb⟩
theorem J8.put {w:World} {cs:List Value} {vm vl:Value} {bS:Nat} {i j:List (Int×Int)} {ve:Value} {L:List El} {vw:Value} {l:List Oq} {W:World} (h:J8 w cs vm vl bS i ve L vw l W):
  J8 w cs vm vl bS j ve L vw l (((((W.setCell ⟨bS,0,none⟩ (.int .i64 (nL j))).setCell ⟨bS,1,none⟩ (.int .i64 (cL j))).setCell ⟨bS,2,none⟩ (.int .i64 (sL j))).setCell ⟨bS,3,none⟩ (.int .i64 (rL j))).setCell ⟨bS,4,none⟩ (.int .i64 (iL j))):=by
 have b1:=h.bs.set 0 (.int .i64 (nL j));have b2:=b1.set 1 (.int .i64 (cL j));have b3:=b2.set 2 (.int .i64 (sL j));have b4:=b3.set 3 (.int .i64 (rL j));have k:∀ t,114≠t→KT t W (((((W.setCell ⟨bS,0,none⟩ (.int .i64 (nL j))).setCell ⟨bS,1,none⟩ (.int .i64 (cL j))).setCell ⟨bS,2,none⟩ (.int .i64 (sL j))).setCell ⟨bS,3,none⟩ (.int .i64 (rL j))).setCell ⟨bS,4,none⟩ (.int .i64 (iL j))):=
  fun t ht=>((((KT.set h.bs ht 0 _).trans (KT.set b1 ht 1 _)).trans (KT.set b2 ht 2 _)).trans (KT.set b3 ht 3 _)).trans (KT.set b4 ht 4 _)
 have hg:=h.gs;have hb:=((((h.i8.bel.setCell (p:=⟨bS,0,none⟩) (by show w.heap.size≤bS; omega) (.int .i64 (nL j))).setCell (p:=⟨bS,1,none⟩) (by show w.heap.size≤bS; omega) (.int .i64 (cL j))).setCell (p:=⟨bS,2,none⟩) (by show w.heap.size≤bS; omega) (.int .i64 (sL j))).setCell (p:=⟨bS,3,none⟩) (by show w.heap.size≤bS; omega) (.int .i64 (rL j))).setCell (p:=⟨bS,4,none⟩) (by show w.heap.size≤bS; omega) (.int .i64 (iL j));exact ⟨⟨hb,k _ (by decide) _ _ h.i8.bv,k _ (by decide) _ _ h.i8.bm⟩,h.gs,b4.set 4 _,
  Sl.set b4 (by decide) 4 _ (Sl.set b3 (by decide) 3 _ (Sl.set b2 (by decide) 2 _ (Sl.set b1 (by decide) 1 _ (Sl.set h.bs (by decide) 0 _ h.ie)))),
  Sl.set b4 (by decide) 4 _ (Sl.set b3 (by decide) 3 _ (Sl.set b2 (by decide) 2 _ (Sl.set b1 (by decide) 1 _ (Sl.set h.bs (by decide) 0 _ h.iw))))⟩
theorem is8_any (hTx:VTextOk) (hLn:VLenOk) (hSq:VSeqOk) (hWt:VWaitOk) (hTy:VTallyOk) (m l:List Oq) (n:Nat) (hV:VOk m l n) (hn:n≤50) (c0 c1 c2 c3 c4 c5 c6 c7 vm vl:Value) (w:World) (hS:IsV w m l [c0,c1,c2,c3,c4,c5,c6,c7]) (hM:IsO w vm m) (hL:IsO w vl l) (hp:Pows w) (ht:Tabs w):
  Calls Tryz.prog 14 #[.agg #[c0,c1,c2,c3,c4,c5,c6,c7],.agg #[vm,vl]] w fun e w'=>e=.returned (.bool true)∧Below w.heap.size w w':=by
 have HM:=Lh hM;have HL:=Lh hL;have HTX:=Lh (fun W (h:Below w.heap.size w W)=>hTx m l n c0 c1 c2 c3 c4 c5 c6 c7 W hV hn (hS.next h) (ht.next h));have HLN:=Lh (fun W (h:Below w.heap.size w W)=>hLn m l n c0 c1 c2 c3 c4 c5 c6 c7 W hV hn (hS.next h));have HSQ:=Lh (fun W (h:Below w.heap.size w W)=>hSq m l n c0 c1 c2 c3 c4 c5 c6 c7 W hV hn (hS.next h));have HWT:=Lh (fun W (h:Below w.heap.size w W)=>hWt m l n c0 c1 c2 c3 c4 c5 c6 c7 W hV hn (hS.next h));have HTY:=Lh (fun W (h:Below w.heap.size w W)=>hTy m l n c0 c1 c2 c3 c4 c5 c6 c7 W hV hn (hS.next h));have hlen:=hV.len;have h16:=hV.l16;have HLS:=Lh (fun (u v:Value) (W:World) (h:IsO W u m)=>ref8List_any m (by omega) hV.ok.gd u v W h);have HRT:=Lh (fun (u v:Value) (W:World) (h:IsO W u m)=>ref8Text_any m (by omega) hV.ok.gd u v W h);have hdl:(docR m).length≤m.length:=by rw [docR_len]; exact row_len hV.ok.gd
 have HRK:=Lh (fun v W (h:IsE W v (docR m))=>refRank_any (docR m) ((docR m).length:Int) v W h (by omega));have HRM:=Lh hV.rm;have HPT:=Lh (fun W (h:Below w.heap.size w W)=>And.intro (hp.next h) (ht.next h));obtain ⟨ad,cap,rfl,hc1,hc2⟩:=hM.form;obtain ⟨al,cl,rfl,hc3,hc4⟩:=hL.form;generalize docR m=L at *
 generalize rkL L (L.length:Int)=RK at *
 generalize txtS L=tx at *
 have H0:=Lh (show I8 w [c0,c1,c2,c3,c4,c5,c6,c7] (.slice ad m.length cap) (.slice al l.length cl) ((w.alloc (.cells #[c0,c1,c2,c3,c4,c5,c6,c7] 39)).alloc (.cells #[.slice ad m.length cap,.slice al l.length cl] 47)) from
  ⟨(bA).alloc (by simp) _,(Blk.startAt (b:=w.heap.size) rfl).alloc _,Blk.startAt (b:=w.heap.size+1) (by simp)⟩)
 clear hTx hLn hSq hWt hTy hS hM hL hV hp ht;obtain ⟨x0,x1⟩:=H0.out.bm.c2
 go_enter Tryz.func14,Tryz.ntmps14
 go_wp2_with (go_at_call 27; refine (HLS.out _ _ _ (HM.out.next H0.out.bel)).mono ?_; rintro e w1 ⟨v3,rfl,hE,hb⟩; obtain ⟨a3,p3,rfl,hd3,hd4⟩:=hE.form; refine Hid.out ?_)
 have H1:=Lh (H0.out.next hb);have HE:=Lh hE;clear H0 hE hb x0 x1 HLS;obtain ⟨v0,v1,v2,v3,v4,v5,v6,v7⟩:=H1.out.bv.c8;refine Lh ?_;go_wp2_with (go_at_call 35; refine (HWT.out _ H1.out.bel).mono ?_; rintro e w2 ⟨vw,rfl,hw,hb⟩; obtain ⟨a4,p4,rfl,hd5,hd6⟩:=hw.form; refine Hid.out ?_)
 have H2:=Lh (H1.out.next hb);have HE2:=Lh (HE.out.next hb);have HW2:=Lh hw;clear H1 HE hw hb HWT v0 v1 v2 v3 v4 v5 v6 v7;have hs2:w.heap.size+1<w2.heap.size:=H2.out.bm.lt;have hb3:Below w2.heap.size w2 (w2.alloc (.cells #[.int .i64 0,.int .i64 0,.int .i64 0,.int .i64 0,.int .i64 0] 114)):=bA;have HJ:=Lh (show J8 w [c0,c1,c2,c3,c4,c5,c6,c7] (.slice ad m.length cap) (.slice al l.length cl) w2.heap.size [] (.slice a3 L.length p3) L (.slice a4 l.length p4) l (w2.alloc (.cells #[.int .i64 0,.int .i64 0,.int .i64 0,.int .i64 0,.int .i64 0] 114)) from
  ⟨H2.out.next hb3,hs2,Blk.startAt rfl,HE2.out.next hb3,HW2.out.next hb3⟩)
 have x0:=HJ.out.i8.bm.cell 0 rfl;clear H2 HE2 HW2 hb3;refine Lh ?_;go_wp2_with fail
 generalize hbS:w2.heap.size=bS at *
 go_loopg [19] m.length (fun g ti wr=>∃ k:Nat,k≤m.length∧g=m.length-k∧ti=.int .i64 (k:Int)∧J8 w [c0,c1,c2,c3,c4,c5,c6,c7] (.slice ad m.length cap) (.slice al l.length cl) bS (idsO (m.take k)) (.slice a3 L.length p3) L (.slice a4 l.length p4) l wr)
 case atStart=>exact ⟨0,Nat.zero_le _,rfl,rfl,HJ.out⟩
 case round=>
  obtain ⟨k,hk,rfl,rfl,hJ⟩:=hrel;clear HJ x0;have HJ:=Lh hJ;clear hJ;by_cases hlt:k<m.length
  ·obtain ⟨g,rfl,hg,hC⟩:=HM.out.at k hlt
   have HID:=Lh (ids_take hlt);have HMX:=Lh (show mayB m[k].c m[k].s=true from HRM.out _ (List.getElem_mem hlt));have HMI:=Lh (show Mays (idsO (m.take k)) from ids_may (fun x hx=>HRM.out x (List.mem_of_mem_take hx)));have hil:(idsO (m.take k)).length≤900:=by have:=ids_len (m.take k); rw [List.length_take] at this; omega
   generalize m[k]=x at *
   obtain ⟨y0,y1,y2,y3,y4,y5⟩:=hC _ HJ.out.i8.bel;have hbX:Below wr.heap.size wr (wr.alloc (.cells #[x.k,x.c,x.s,x.a,x.n,.int .i32 x.ch] 70)):=bA;have HJ1:=Lh (HJ.out.next hbX);have hbx:Blk (wr.alloc (.cells #[x.k,x.c,x.s,x.a,x.n,.int .i32 x.ch] 70)) wr.heap.size (oqL x) 70:=Blk.startAt rfl;have hsr:bS<wr.heap.size:=HJ.out.bs.lt;generalize hW4:wr.alloc (.cells #[x.k,x.c,x.s,x.a,x.n,.int .i32 x.ch] 70)=w4 at *
   generalize idsO (m.take k)=i0 at *
   clear hC HJ hbX;have z0 := hbx.c3;have t0 := HJ1.out.bs.c5;by_cases hx0:x.k=0
   ·have hk0:(x.k==0)=true:=by simpa using hx0
    have HI2:=Lh (show idsO (m.take (k+1))=i0++[(x.c,x.s)] by rw [HID.out,if_pos hx0]);have HPU:=Lh (fun W=>ref2Put_any (l:=i0) (x:=(x.c,x.s)) W HMI.out HMX.out (by omega));obtain ⟨j0,hj0⟩:∃ j0,j0=i0++[(x.c,x.s)]:=⟨_,rfl⟩
    rw [←hj0] at HPU HI2
    dsimp only at HPU
    clear hx0 HID hj0;go_wp2_with (go_at_call 36; refine (HPU.out _).mono ?_; rintro e w5 ⟨rfl,hb⟩; refine Hid.out ?_)
    have HJ2:=Lh (HJ1.out.next hb);clear HJ1 hb t0 z0 y0 y1 y2 y3 y4 y5 hbx hW4;have t0 := HJ2.out.bs.c5;have f0 := HJ2.out.bs.f5;have HJ3:=Lh (HJ2.out.put (j:=j0));generalize nL j0=q0 at *
    generalize cL j0=q1 at *
    generalize sL j0=q2 at *
    generalize rL j0=q3 at *
    generalize iL j0=q4 at *
    refine Lh ?_;go_wp2_with fail
    go_roundg (m.length-(k+1))
    case measure=>omega
    case rel=>exact ⟨k+1,by omega,rfl,by go_num,by rw [HI2.out]; exact HJ3.out⟩
   ·have hk0:(x.k==0)=false:=by simpa using hx0
    have HI2:=Lh (show idsO (m.take (k+1))=i0 by rw [HID.out,if_neg hx0]);clear hx0 HID;go_wp2_with fail
    go_roundg (m.length-(k+1))
    case measure=>omega
    case rel=>exact ⟨k+1,by omega,rfl,by go_num,by rw [HI2.out]; exact HJ1.out⟩
  ·obtain rfl:k=m.length:=by omega
   rw [List.take_length] at HJ;have x0:=HJ.out.i8.bm.cell 0 rfl;have hMI:Mays (idsO m):=ids_may HRM.out;have hil:(idsO m).length≤900:=by have:=ids_len m; omega
   have hSU:=sums_L hMI (by omega);have hn0:nL (idsO m)=((idsO m).length:Int):=rfl;have HST:=Lh (fun W (h:Below w.heap.size w W)=>string_any (N:=nL (idsO m)) (by omega) (by omega) hSU.1 hSU.2.1 hSU.2.2.1 hSU.2.2.2 W (HPT.out W h).1 (HPT.out W h).2.1);have HR2:=Lh (fun W=>ref2Text_any (N:=nL (idsO m)) (small_of (by omega) (by omega)) hSU.1 hSU.2.1 hSU.2.2.1 hSU.2.2.2 W);generalize tT [nL (idsO m),cL (idsO m),sL (idsO m),rL (idsO m),iL (idsO m)]=ts at *
   clear hMI hil hSU hn0;generalize idsO m=i9 at *
   go_wp2_with fail
   have hdum:=trivial;clear x0;refine rgH (fun W=>Cc8 W w.heap.size c0 c1 c2 c3 c4 c5 c6 c7 (Cc2 W (w.heap.size+1) (.slice ad m.length cap) (.slice al l.length cl) (Cc5 W bS (.int .i64 ((nL i9))) (.int .i64 ((cL i9))) (.int .i64 ((sL i9))) (.int .i64 ((rL i9))) (.int .i64 ((iL i9))) (J8 w [c0,c1,c2,c3,c4,c5,c6,c7] (.slice ad m.length cap) (.slice al l.length cl) bS i9 (.slice a3 L.length p3) L (.slice a4 l.length p4) l W)))) (let h:=HJ.out.next bdq; (h.i8.bv.d8 (h.i8.bm.d2 (h.bs.d5 h)))) fun hH=>?_
   clear hdum HJ;refine tq 0 (.agg #[c0,c1,c2,c3,c4,c5,c6,c7]) hH ?_;refine tq 2 (.agg #[.slice ad m.length cap,.slice al l.length cl]) hH ?_;refine rd1 1 (by kernel_rfl) rfl fun KK hK=>?_
   go_simp
   refine (HTX.out _ hH.2.2.2.2.2.2.2.2.2.2.2.2.2.2.2.i8.bel).mono ?_
   rintro e' u1 ⟨rfl,hb⟩
   go_wp2_with fail
   refine hK.out _ _ ((let h:=hH.2.2.2.2.2.2.2.2.2.2.2.2.2.2.2.next hb; (h.i8.bv.d8 (h.i8.bm.d2 (h.bs.d5 h))))) ?_;clear hK KK hH hb;intro hH
   try simp only [LAY]
   refine rd1 3 (by kernel_rfl) rfl fun KK hK=>?_
   go_simp
   refine (HRT.out _ _ _ (HM.out.next hH.2.2.2.2.2.2.2.2.2.2.2.2.2.2.2.i8.bel)).mono ?_
   rintro e' u1 ⟨rfl,hb⟩
   go_wp2_with fail
   refine hK.out _ _ ((let h:=hH.2.2.2.2.2.2.2.2.2.2.2.2.2.2.2.next hb; (h.i8.bv.d8 (h.i8.bm.d2 (h.bs.d5 h))))) ?_;clear hK KK hH hb;intro hH
   try simp only [LAY]
   refine tq 4 (.bool false) hH ?_;refine tq 5 (.bool false) hH ?_;refine tq 6 (.agg #[c0,c1,c2,c3,c4,c5,c6,c7]) hH ?_;refine tq 8 (.slice a3 L.length p3) hH ?_;refine tq 9 (.slice a3 L.length p3) hH ?_;refine tq 10 (.int .i64 ((L.length:Int))) hH ?_;refine rd1 7 (by kernel_rfl) rfl fun KK hK=>?_
   go_simp
   refine (HLN.out _ hH.2.2.2.2.2.2.2.2.2.2.2.2.2.2.2.i8.bel).mono ?_
   rintro e' u1 ⟨rfl,hb⟩
   go_wp2_with fail
   refine hK.out _ _ ((let h:=hH.2.2.2.2.2.2.2.2.2.2.2.2.2.2.2.next hb; (h.i8.bv.d8 (h.i8.bm.d2 (h.bs.d5 h))))) ?_;clear hK KK hH hb;intro hH
   try simp only [LAY]
   refine rd1 11 (by kernel_rfl) rfl fun KK hK=>?_
   go_simp
   refine (HRK.out _ _ hH.2.2.2.2.2.2.2.2.2.2.2.2.2.2.2.ie).mono ?_
   rintro e' u1 ⟨rfl,hb⟩
   go_wp2_with fail
   refine hK.out _ _ ((let h:=hH.2.2.2.2.2.2.2.2.2.2.2.2.2.2.2.next hb; (h.i8.bv.d8 (h.i8.bm.d2 (h.bs.d5 h))))) ?_;clear hK KK hH hb;intro hH
   try simp only [LAY]
   refine tq 12 (.bool false) hH ?_;refine tq 13 (.bool false) hH ?_;refine tq 14 (.bool false) hH ?_;refine tq 15 (.agg #[c0,c1,c2,c3,c4,c5,c6,c7]) hH ?_;refine tq 17 (.pointer (some ⟨w.heap.size+1,0,none⟩)) hH ?_;refine tq 18 (.slice ad m.length cap) hH ?_;refine tq 19 (.int .i64 ((m.length:Int))) hH ?_;refine rd1 16 (by kernel_rfl) rfl fun KK hK=>?_
   go_simp
   refine (HSQ.out _ hH.2.2.2.2.2.2.2.2.2.2.2.2.2.2.2.i8.bel).mono ?_
   rintro e' u1 ⟨rfl,hb⟩
   go_wp2_with fail
   refine hK.out _ _ ((let h:=hH.2.2.2.2.2.2.2.2.2.2.2.2.2.2.2.next hb; (h.i8.bv.d8 (h.i8.bm.d2 (h.bs.d5 h))))) ?_;clear hK KK hH hb;intro hH
   try simp only [LAY]
   refine tq 20 (.bool false) hH ?_;refine tq 21 (.bool false) hH ?_;refine tq 22 (.bool false) hH ?_;refine tq 23 (.slice a4 l.length p4) hH ?_;refine tq 24 (.int .i64 ((l.length:Int))) hH ?_;refine tq 25 (.pointer (some ⟨w.heap.size+1,1,none⟩)) hH ?_;refine tq 26 (.slice al l.length cl) hH ?_;refine tq 27 (.int .i64 ((l.length:Int))) hH ?_;refine tq 28 (.bool false) hH ?_;refine tq 29 (.bool false) hH ?_;refine tq 30 (.bool false) hH ?_;refine tq 31 (.agg #[c0,c1,c2,c3,c4,c5,c6,c7]) hH ?_;refine tq 34 (.agg #[.int .i64 ((nL i9)),.int .i64 ((cL i9)),.int .i64 ((sL i9)),.int .i64 ((rL i9)),.int .i64 ((iL i9))]) hH ?_;refine rd1 32 (by kernel_rfl) rfl fun KK hK=>?_
   go_simp
   refine (HTY.out _ hH.2.2.2.2.2.2.2.2.2.2.2.2.2.2.2.i8.bel).mono ?_
   rintro e' u1 ⟨rfl,hb⟩
   go_wp2_with fail
   refine hK.out _ _ ((let h:=hH.2.2.2.2.2.2.2.2.2.2.2.2.2.2.2.next hb; (h.i8.bv.d8 (h.i8.bm.d2 (h.bs.d5 h))))) ?_;clear hK KK hH hb;intro hH
   try simp only [LAY]
   refine rd1 33 (by kernel_rfl) rfl fun KK hK=>?_
   go_simp
   refine (HST.out _ hH.2.2.2.2.2.2.2.2.2.2.2.2.2.2.2.i8.bel).mono ?_
   rintro e' u1 ⟨rfl,hb⟩
   go_wp2_with fail
   refine hK.out _ _ ((let h:=hH.2.2.2.2.2.2.2.2.2.2.2.2.2.2.2.next hb; (h.i8.bv.d8 (h.i8.bm.d2 (h.bs.d5 h))))) ?_;clear hK KK hH hb;intro hH
   try simp only [LAY]
   refine rd1 35 (by kernel_rfl) rfl fun KK hK=>?_
   go_simp
   refine (HR2.out _).mono ?_
   rintro e' u1 ⟨rfl,hb⟩
   go_wp2_with fail
   refine hK.out _ _ ((let h:=hH.2.2.2.2.2.2.2.2.2.2.2.2.2.2.2.next hb; (h.i8.bv.d8 (h.i8.bm.d2 (h.bs.d5 h))))) ?_;clear hK KK hH hb;intro hH
   try simp only [LAY]
   refine tq 36 (.bool false) hH ?_;refine tq 37 (.bool false) hH ?_;refine dnH ?_;have HB:=Lh hH.2.2.2.2.2.2.2.2.2.2.2.2.2.2.2;clear hH;have x1:=HB.out.i8.bm.cell 1 rfl;go_wp2_with fail
   go_loopg [74] l.length (fun g ti W=>∃ k:Nat,k≤l.length∧g=l.length-k∧ti=.int .i64 (k:Int)∧J8 w [c0,c1,c2,c3,c4,c5,c6,c7] (.slice ad m.length cap) (.slice al l.length cl) bS i9 (.slice a3 L.length p3) L (.slice a4 l.length p4) l W)
   case atStart=>exact ⟨0,Nat.zero_le _,rfl,rfl,HB.out⟩
   case round=>
    obtain ⟨k,hk,rfl,rfl,hJ⟩:=hrel;clear HB x1;have HJ:=Lh hJ;clear hJ;by_cases hlt:k<l.length
    ·obtain ⟨g,rfl,hg,hC⟩:=HL.out.at k hlt
     obtain ⟨g1,rfl,-,-⟩:=HJ.out.iw.at k hlt;have HC:=Lh (fun (W:World) (hb:Below w.heap.size w W)=>hC W hb);have HD:=Lh (fun (X:World) (h:IsP7 X (.slice (some ⟨g1,0,none⟩) l.length p4) l)=>show OC X g1 k l[k] from by
      obtain ⟨g',e,-,h1⟩:=h.at k hlt
      cases e
      exact h1 X (Below.refl _ _))
     generalize l[k]=x at *
     clear hC;go_wp2_with fail
     have hdum:=trivial;refine rgH (fun W=>Ce W (w.heap.size+1) 1 (.slice ((some ⟨g,0,none⟩)) l.length cl)∧W.cell? ⟨g1,k * 6,none⟩=some (.int .i64 x.k)∧W.cell? ⟨g1,k * 6+1,none⟩=some (.int .i64 x.c)∧W.cell? ⟨g1,k * 6+2,none⟩=some (.int .i64 x.s)∧W.cell? ⟨g1,k * 6+3,none⟩=some (.int .i64 x.a)∧W.cell? ⟨g1,k * 6+4,none⟩=some (.int .i64 x.n)∧W.cell? ⟨g1,k * 6+5,none⟩=some (.int .i32 x.ch)∧W.cell? ⟨g,k * 6,none⟩=some (.int .i64 x.k)∧W.cell? ⟨g,k * 6+1,none⟩=some (.int .i64 x.c)∧W.cell? ⟨g,k * 6+2,none⟩=some (.int .i64 x.s)∧W.cell? ⟨g,k * 6+3,none⟩=some (.int .i64 x.a)∧W.cell? ⟨g,k * 6+4,none⟩=some (.int .i64 x.n)∧W.cell? ⟨g,k * 6+5,none⟩=some (.int .i32 x.ch)∧J8 w [c0,c1,c2,c3,c4,c5,c6,c7] (.slice ad m.length cap) (.slice (some ⟨g,0,none⟩) l.length cl) bS i9 (.slice a3 L.length p3) L (.slice (some ⟨g1,0,none⟩) l.length p4) l W) (let h:=HJ.out.next bdq; let c:=HC.out _ h.i8.bel; let d:=HD.out _ h.iw; ⟨h.i8.bm.cell 1 rfl,d.1,d.2.1,d.2.2.1,d.2.2.2.1,d.2.2.2.2.1,d.2.2.2.2.2,c.1,c.2.1,c.2.2.1,c.2.2.2.1,c.2.2.2.2.1,c.2.2.2.2.2,h⟩) fun hH=>?_
     clear hdum HJ;refine tq 0 (.slice ((some ⟨g1,0,none⟩)) l.length p4) hH ?_;refine tq 1 (.int .i64 ((k:Int))) hH ?_;refine tq 2 (.pointer (some ⟨g1,k * 6,none⟩)) hH ?_;refine tq 3 (.agg #[x.k,x.c,x.s,x.a,x.n,.int .i32 x.ch]) hH ?_;refine tq 5 (.pointer (some ⟨w.heap.size+1,1,none⟩)) hH ?_;refine tq 6 (.slice ((some ⟨g,0,none⟩)) l.length cl) hH ?_;refine tq 7 (.int .i64 ((k:Int))) hH ?_;refine tq 8 (.pointer (some ⟨g,k * 6,none⟩)) hH ?_;refine tq 9 (.agg #[x.k,x.c,x.s,x.a,x.n,.int .i32 x.ch]) hH ?_;refine rd1 4 (by kernel_rfl) rfl fun KK hK=>?_
     go_simp
     refine (of5_any x.k x.c x.s x.a x.n x.ch _).mono ?_
     rintro e' u1 ⟨rfl,hb⟩
     go_wp2_with fail
     refine hK.out _ _ ((let h:=hH.2.2.2.2.2.2.2.2.2.2.2.2.2.next hb; let c:=HC.out _ h.i8.bel; let d:=HD.out _ h.iw; ⟨h.i8.bm.cell 1 rfl,d.1,d.2.1,d.2.2.1,d.2.2.2.1,d.2.2.2.2.1,d.2.2.2.2.2,c.1,c.2.1,c.2.2.1,c.2.2.2.1,c.2.2.2.2.1,c.2.2.2.2.2,h⟩)) ?_;clear hK KK hH hb;intro hH
     try simp only [LAY]
     refine tq 10 (.bool false) hH ?_;refine dnH ?_;have HB:=Lh hH.2.2.2.2.2.2.2.2.2.2.2.2.2;clear hH;go_wp2_with fail
     go_roundg (l.length-(k+1))
     case measure=>omega
     case rel=>exact ⟨k+1,by omega,rfl,by go_num,HB.out⟩
    ·obtain rfl:k=l.length:=by omega
     go_wp2_with fail
     go_ret
     exact ⟨rfl,HJ.out.i8.bel⟩
end Go.Proofs.YtpbhaieclkoggaaGreatDoor
