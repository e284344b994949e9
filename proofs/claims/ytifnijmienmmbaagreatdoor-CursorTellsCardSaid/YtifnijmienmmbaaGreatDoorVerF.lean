import Derived.Test.YtifnijmienmmbaaGreatDoorVerE
set_option maxRecDepth 100000
set_option maxHeartbeats 12800000
namespace Go.Proofs.YtifnijmienmmbaaGreatDoor
open Go Go.Proofs Go.RowKit
structure Ow8 (w:World) (vc oc rc xc:List Value) (W:World):Prop where
 bel:Below w.heap.size w W
 bv:Blk W w.heap.size vc 41
 bo:Blk W (w.heap.size+1) oc 68
 br:Blk W (w.heap.size+1+1) rc 41
 bx:Blk W (w.heap.size+1+1+1) xc 68
theorem Ow8.next {w:World} {vc oc rc xc:List Value} {W W':World} (h:Ow8 w vc oc rc xc W) (hb:Below W.heap.size W W'):Ow8 w vc oc rc xc W':=⟨h.bel.trans (hb.mono h.bel.size),h.bv.next hb,h.bo.next hb,h.br.next hb,h.bx.next hb⟩
theorem Ow8.start (w:World) (vc oc rc xc:List Value):Ow8 w vc oc rc xc ((((w.alloc (.cells ⟨vc⟩ 41)).alloc (.cells ⟨oc⟩ 68)).alloc (.cells ⟨rc⟩ 41)).alloc (.cells ⟨xc⟩ 68)):=
 ⟨(below3 w _ _ _ _ _ _).alloc (by simp; omega) _,(((Blk.start w vc _).alloc _).alloc _).alloc _,((Blk.startAt (by simp)).alloc _).alloc _,(Blk.startAt (vs:=rc) (by simp)).alloc _,Blk.startAt (by simp)⟩
theorem Ow8.putR {w:World} {vc oc rc xc:List Value} {W:World} (h:Ow8 w vc oc rc xc W) (xs:List Value):Ow8 w vc oc (putN rc 0 xs) xc (setN W (w.heap.size+1+1) 0 xs):=⟨setN_below (by omega) xs 0 h.bel,h.bv.setN (by omega) xs 0,h.bo.setN (by omega) xs 0,setN_blk xs 0 h.br,h.bx.setN (by omega) xs 0⟩
theorem Ow8.putX {w:World} {vc oc rc xc:List Value} {W:World} (h:Ow8 w vc oc rc xc W) (xs:List Value):Ow8 w vc oc rc (putN xc 0 xs) (setN W (w.heap.size+1+1+1) 0 xs):=⟨setN_below (by omega) xs 0 h.bel,h.bv.setN (by omega) xs 0,h.bo.setN (by omega) xs 0,h.br.setN (by omega) xs 0,setN_blk xs 0 h.bx⟩
structure In8 (w:World) (vc rc xc:List Value) (W:World):Prop where
 bel:Below w.heap.size w W
 bv:Blk W w.heap.size vc 41
 br:Blk W (w.heap.size+1) rc 41
 bx:Blk W (w.heap.size+1+1) xc 68
theorem In8.next {w:World} {vc rc xc:List Value} {W W':World} (h:In8 w vc rc xc W) (hb:Below W.heap.size W W'):In8 w vc rc xc W':=⟨h.bel.trans (hb.mono h.bel.size),h.bv.next hb,h.br.next hb,h.bx.next hb⟩
theorem In8.start (w:World) (vc rc xc:List Value):In8 w vc rc xc (((w.alloc (.cells ⟨vc⟩ 41)).alloc (.cells ⟨rc⟩ 41)).alloc (.cells ⟨xc⟩ 68)):=
 ⟨below3 w _ _ _ _ _ _,((Blk.start w vc _).alloc _).alloc _,(Blk.startAt (by simp)).alloc _,Blk.startAt (by simp)⟩
theorem In8.putR {w:World} {vc rc xc:List Value} {W:World} (h:In8 w vc rc xc W) (xs:List Value):In8 w vc (putN rc 0 xs) xc (setN W (w.heap.size+1) 0 xs):=⟨setN_below (by omega) xs 0 h.bel,h.bv.setN (by omega) xs 0,setN_blk xs 0 h.br,h.bx.setN (by omega) xs 0⟩
theorem In8.putX {w:World} {vc rc xc:List Value} {W:World} (h:In8 w vc rc xc W) (xs:List Value):In8 w vc rc (putN xc 0 xs) (setN W (w.heap.size+1+1) 0 xs):=⟨setN_below (by omega) xs 0 h.bel,h.bv.setN (by omega) xs 0,h.br.setN (by omega) xs 0,setN_blk xs 0 h.bx⟩
theorem own_any (m l:List Oq) (n:Nat) (o:Oq) (c0 c1 c2 c3 c4 c5 c6 c7:Value) (w:World) (hV:VOk m l n) (hn:n≤50) (hS:IsV w m l [c0,c1,c2,c3,c4,c5,c6,c7]):
  Calls Tryz.prog 32 #[.agg #[c0,c1,c2,c3,c4,c5,c6,c7],.agg #[o.k,o.c,o.s,o.a,o.n,.int .i32 o.ch]] w fun r w'=>Below w.heap.size w w'∧∃ d0 d1 d2 d3 d4 d5 d6 d7 lc,r=.returned (.tuple #[.agg #[d0,d1,d2,d3,d4,d5,d6,d7],.agg #[o.k,o.c,o.s,o.a,o.n,.int .i32 o.ch],lc,.int .i64 (remE m l o)])∧IsV w' (remT m l o).1 (remT m l o).2.1 [d0,d1,d2,d3,d4,d5,d6,d7]∧IsVC w' lc (remT m l o).2.2:=by
 have H0:=Lh (Ow8.start w [c0,c1,c2,c3,c4,c5,c6,c7] [o.k,o.c,o.s,o.a,o.n,.int .i32 o.ch] [.pointer none,.pointer none,.int .i64 0,.slice none 0 0,.int .i64 0,.int .i64 0,.complex .f64 0 0,.complex .f64 0 0] [.int .i64 0,.int .i64 0,.int .i64 0,.int .i64 0,.int .i64 0,.int .i32 0]);have HR:=Lh (fun W h=>vremote_ok m l n o c0 c1 c2 c3 c4 c5 c6 c7 W hV hn (hS.next h));have HRL:=Lh (hV.rem o).rl;generalize remE m l o=E at *
 generalize remT m l o=RT at *
 clear hV hn hS;have v0 := H0.out.bv.c8;have oo0 := H0.out.bo.c6
 go_enter Tryz.func32,Tryz.ntmps32
 go_wp2_with (go_at_call 37; refine (HR.out _ H0.out.bel).mono ?_; rintro e w1 ⟨hb,d0,d1,d2,d3,d4,d5,d6,d7,lc,rfl,hiv,hic⟩; refine Hid.out ?_)
 obtain ⟨al,pl,rfl,hd1,hd2⟩:=hic.form;generalize RT.2.2.length=n3 at *
 have hbA:Below w1.heap.size w1 (w1.alloc (.cells #[d0,d1,d2,d3,d4,d5,d6,d7] 41)):=bA;have H1:=Lh ((H0.out.next hb).next hbA);have HV1:=Lh (And.intro (hiv.next hbA) (hic.next hbA));have HD1:=Lh (Blk.start w1 [d0,d1,d2,d3,d4,d5,d6,d7] 41);have hDlt:w.heap.size+1+1+1<w1.heap.size:=(H0.out.next hb).bx.lt;have hon:=hiv.one;have sdd0:=fun (W:World) (a:Addr) (md:Mode)=>run_store Tryz.prog W a d0 md (hon d0 (by simp))
 have sdd1:=fun (W:World) (a:Addr) (md:Mode)=>run_store Tryz.prog W a d1 md (hon d1 (by simp))
 have sdd2:=fun (W:World) (a:Addr) (md:Mode)=>run_store Tryz.prog W a d2 md (hon d2 (by simp))
 have sdd3:=fun (W:World) (a:Addr) (md:Mode)=>run_store Tryz.prog W a d3 md (hon d3 (by simp))
 have sdd4:=fun (W:World) (a:Addr) (md:Mode)=>run_store Tryz.prog W a d4 md (hon d4 (by simp))
 have sdd5:=fun (W:World) (a:Addr) (md:Mode)=>run_store Tryz.prog W a d5 md (hon d5 (by simp))
 have sdd6:=fun (W:World) (a:Addr) (md:Mode)=>run_store Tryz.prog W a d6 md (hon d6 (by simp))
 have sdd7:=fun (W:World) (a:Addr) (md:Mode)=>run_store Tryz.prog W a d7 md (hon d7 (by simp))
 clear hon;clear H0 HR hb hiv hic hbA hd1 hd2 v0 oo0;generalize hWA:w1.alloc (.cells #[d0,d1,d2,d3,d4,d5,d6,d7] 41)=W1 at *
 generalize hDD:w1.heap.size=D at *
 refine Lh ?_;go_wp2_with fail
 clear hWA hDD;have H6:=Lh (H1.out.next bdq);have HD6:=Lh (HD1.out.next bdq);have HV6:=Lh (And.intro (HV1.out.1.next bdq) (HV1.out.2.next bdq));have hdum:=trivial;refine rgH (fun W=>Cc8 W D d0 d1 d2 d3 d4 d5 d6 d7 (Cz6 W (w.heap.size+1) o.k o.c o.s o.a o.n (.int .i32 o.ch))) (let h:=H1.out; let d:=HD1.out; (d.d8 h.bo.c6)) fun hH=>?_
 clear hdum H1 HD1 HV1;generalize W1.drew=W55 at *
 have zz0 := H6.out.br.c8;have fz0 := H6.out.br.f8;have HA7:=Lh (show Ow8 w [c0,c1,c2,c3,c4,c5,c6,c7] [o.k,o.c,o.s,o.a,o.n,.int .i32 o.ch] [d0,d1,d2,d3,d4,d5,d6,d7] [.int .i64 0,.int .i64 0,.int .i64 0,.int .i64 0,.int .i64 0,.int .i32 0] (setN W55 (w.heap.size+1+1) 0 [d0,d1,d2,d3,d4,d5,d6,d7])∧Blk (setN W55 (w.heap.size+1+1) 0 [d0,d1,d2,d3,d4,d5,d6,d7]) D [d0,d1,d2,d3,d4,d5,d6,d7] 41∧IsV (setN W55 (w.heap.size+1+1) 0 [d0,d1,d2,d3,d4,d5,d6,d7]) RT.1 RT.2.1 [d0,d1,d2,d3,d4,d5,d6,d7]∧IsVC (setN W55 (w.heap.size+1+1) 0 [d0,d1,d2,d3,d4,d5,d6,d7]) (.slice al n3 pl) RT.2.2 from And.intro (H6.out.putR [d0,d1,d2,d3,d4,d5,d6,d7]) (And.intro (HD6.out.setN (by omega) _ 0) (And.intro (isv_set HV6.out.1 H6.out.br (by decide) (by decide) (by decide) 0 _) (isvc_set HV6.out.2 H6.out.br (by decide) 0 _))));simp only [setN] at HA7
 clear H6 HD6 HV6;refine tq 0 (.agg #[d0,d1,d2,d3,d4,d5,d6,d7]) hH ?_;refine tq 1 (.agg #[o.k,o.c,o.s,o.a,o.n,.int .i32 o.ch]) hH ?_;refine tq 2 (.slice al n3 pl) hH ?_;refine tq 3 E hH ?_;refine rd1 4 (by kernel_rfl) rfl fun KK hK=>?_
 go_simp
 go_wp2_with fail
 refine hK.out _ _ ((let h:=HA7.out.1; let d:=HA7.out.2.1; (d.d8 h.bo.c6))) ?_;clear hK KK hH;intro hH
 try simp only [LAY]
 clear zz0 fz0;generalize ((((((((W55.setCell ⟨w.heap.size+1+1,0,none⟩ (d0)).setCell ⟨w.heap.size+1+1,1,none⟩ (d1)).setCell ⟨w.heap.size+1+1,2,none⟩ (d2)).setCell ⟨w.heap.size+1+1,3,none⟩ (d3)).setCell ⟨w.heap.size+1+1,4,none⟩ (d4)).setCell ⟨w.heap.size+1+1,5,none⟩ (d5)).setCell ⟨w.heap.size+1+1,6,none⟩ (d6)).setCell ⟨w.heap.size+1+1,7,none⟩ (d7))=W7 at *
 have xx0 := HA7.out.1.bx.c6;have fx0 := HA7.out.1.bx.f6;have HB7:=Lh (show Ow8 w [c0,c1,c2,c3,c4,c5,c6,c7] [o.k,o.c,o.s,o.a,o.n,.int .i32 o.ch] [d0,d1,d2,d3,d4,d5,d6,d7] [o.k,o.c,o.s,o.a,o.n,.int .i32 o.ch] (setN W7 (w.heap.size+1+1+1) 0 (oqL o))∧Blk (setN W7 (w.heap.size+1+1+1) 0 (oqL o)) D [d0,d1,d2,d3,d4,d5,d6,d7] 41∧IsV (setN W7 (w.heap.size+1+1+1) 0 (oqL o)) RT.1 RT.2.1 [d0,d1,d2,d3,d4,d5,d6,d7]∧IsVC (setN W7 (w.heap.size+1+1+1) 0 (oqL o)) (.slice al n3 pl) RT.2.2 from And.intro (HA7.out.1.putX (oqL o)) (And.intro (HA7.out.2.1.setN (by omega) _ 0) (And.intro (IsV.setO HA7.out.1.bx HA7.out.2.2.1 HRL.out o) (isvc_set HA7.out.2.2.2 HA7.out.1.bx (by decide) 0 _))));simp only [setN, oqL] at HB7
 clear HA7;refine rd1 5 (by kernel_rfl) rfl fun KK hK=>?_
 go_simp
 go_wp2_with fail
 refine hK.out _ _ ((let h:=HB7.out.1; let d:=HB7.out.2.1; (d.d8 h.bo.c6))) ?_;clear hK KK hH;intro hH
 try simp only [LAY]
 clear xx0 fx0;generalize ((((((W7.setCell ⟨w.heap.size+1+1+1,0,none⟩ o.k).setCell ⟨w.heap.size+1+1+1,1,none⟩ o.c).setCell ⟨w.heap.size+1+1+1,2,none⟩ o.s).setCell ⟨w.heap.size+1+1+1,3,none⟩ o.a).setCell ⟨w.heap.size+1+1+1,4,none⟩ o.n).setCell ⟨w.heap.size+1+1+1,5,none⟩ (.int .i32 o.ch))=W8 at *
 refine tq 6 (.slice al n3 pl) hH ?_;refine tq 7 E hH ?_;refine dnH ?_;clear hH;go_wp2_with fail
 have y0 := HB7.out.1.br.c8;have u0 := HB7.out.1.bx.c6;exact bodyPost_ret (v:=.tuple #[.agg #[d0,d1,d2,d3,d4,d5,d6,d7],.agg #[o.k,o.c,o.s,o.a,o.n,.int .i32 o.ch],.slice al n3 pl,E]) (by simp [results, Tryz.results32, go_sem, y0, u0]) rfl ⟨HB7.out.1.bel,d0,d1,d2,d3,d4,d5,d6,d7,_,rfl,HB7.out.2.2.1,HB7.out.2.2.2⟩
theorem vdelete_ok:VDeleteOk:=by
 intro m l n k c0 c1 c2 c3 c4 c5 c6 c7 w hV hn hk0 hk1 hS
 have H0:=Lh (In8.start w [c0,c1,c2,c3,c4,c5,c6,c7] [.pointer none,.pointer none,.int .i64 0,.slice none 0 0,.int .i64 0,.int .i64 0,.complex .f64 0 0,.complex .f64 0 0] [.int .i64 0,.int .i64 0,.int .i64 0,.int .i64 0,.int .i64 0,.int .i32 0]);have HN:=Lh (fun W h=>vnamed_ok m l n k c0 c1 c2 c3 c4 c5 c6 c7 W hV hn hk0 hk1 (hS.next h));by_cases hnm:namC (docR m) k=(0,0)
 ·have hE1:deE8 m l k=2:=by unfold deE8; rw [if_pos hnm]
  have hE2:deT8 m l k=(m,l,[]):=by unfold deT8; rw [if_pos hnm]
  rw [hE1];have HE:=Lh (And.intro (show opP 2 (deV8 m k)=zeroO from rfl) hE2);clear hE1 hE2;have HRL:=Lh hV.rl;have HVS:=Lh hS;rw [hnm] at HN;generalize deT8 m l k=RT at *
  generalize deV8 m k=dv at *
  have HN:=Lh (fun W h=>HN.out W h)
  dsimp only [noneB] at HN
  clear hV hn hk0 hk1 hnm;have hon:=hS.one;have sdc0:=fun (W:World) (a:Addr) (md:Mode)=>run_store Tryz.prog W a c0 md (hon c0 (by simp))
  have sdc1:=fun (W:World) (a:Addr) (md:Mode)=>run_store Tryz.prog W a c1 md (hon c1 (by simp))
  have sdc2:=fun (W:World) (a:Addr) (md:Mode)=>run_store Tryz.prog W a c2 md (hon c2 (by simp))
  have sdc3:=fun (W:World) (a:Addr) (md:Mode)=>run_store Tryz.prog W a c3 md (hon c3 (by simp))
  have sdc4:=fun (W:World) (a:Addr) (md:Mode)=>run_store Tryz.prog W a c4 md (hon c4 (by simp))
  have sdc5:=fun (W:World) (a:Addr) (md:Mode)=>run_store Tryz.prog W a c5 md (hon c5 (by simp))
  have sdc6:=fun (W:World) (a:Addr) (md:Mode)=>run_store Tryz.prog W a c6 md (hon c6 (by simp))
  have sdc7:=fun (W:World) (a:Addr) (md:Mode)=>run_store Tryz.prog W a c7 md (hon c7 (by simp))
  clear hon;clear hS;have v0 := H0.out.bv.c8
  go_enter Tryz.func18,Tryz.ntmps18
  go_wp2_with (go_at_call 21; refine (HN.out _ H0.out.bel).mono ?_; rintro e w1 ⟨rfl,hb⟩; refine Hid.out ?_)
  have H1:=Lh (H0.out.next hb);have HV1:=Lh ((HVS.out.next H0.out.bel).next hb);have hlt2:w.heap.size+1+1<w1.heap.size:=(H0.out.next hb).bx.lt;have hlt1:w.heap.size+1<w1.heap.size:=by omega
  have hlt0:w.heap.size<w1.heap.size:=by omega
  have hbA:∀ W:World,Below W.heap.size W (W.alloc (.cells #[.int .i64 0,.int .i64 0] 24)):=fun W=>bA
  clear H0 HN hb HVS v0;have HA7:=Lh (show In8 w [c0,c1,c2,c3,c4,c5,c6,c7] [c0,c1,c2,c3,c4,c5,c6,c7] [.int .i64 0,.int .i64 0,.int .i64 0,.int .i64 0,.int .i64 0,.int .i32 0] (setN (setN w1 (w.heap.size+1) 0 [c0,c1,c2,c3,c4,c5,c6,c7]) (w.heap.size+1+1) 0 [.int .i64 0,.int .i64 0,.int .i64 0,.int .i64 0,.int .i64 0,.int .i32 0])∧IsV (setN (setN w1 (w.heap.size+1) 0 [c0,c1,c2,c3,c4,c5,c6,c7]) (w.heap.size+1+1) 0 [.int .i64 0,.int .i64 0,.int .i64 0,.int .i64 0,.int .i64 0,.int .i32 0]) m l [c0,c1,c2,c3,c4,c5,c6,c7] from And.intro ((H1.out.putR [c0,c1,c2,c3,c4,c5,c6,c7]).putX [.int .i64 0,.int .i64 0,.int .i64 0,.int .i64 0,.int .i64 0,.int .i32 0]) (IsV.setO (x:=zeroO) (H1.out.putR [c0,c1,c2,c3,c4,c5,c6,c7]).bx (isv_set HV1.out H1.out.br (by decide) (by decide) (by decide) 0 _) HRL.out));simp only [setN] at HA7
  have HA8:=Lh (And.intro (HA7.out.1.next (hbA _)) (HA7.out.2.next (hbA _)));clear hbA;have v0 := H1.out.bv.c8;have zz0 := H1.out.br.c8;have fz0 := H1.out.br.f8;have xx0 := H1.out.bx.c6;have fx0 := H1.out.bx.f6;refine Lh ?_;go_wp2_with fail
  have y0 := HA8.out.1.br.c8;have u0 := HA8.out.1.bx.c6;exact bodyPost_ret (v:=.tuple #[.agg #[c0,c1,c2,c3,c4,c5,c6,c7],.agg #[.int .i64 0,.int .i64 0,.int .i64 0,.int .i64 0,.int .i64 0,.int .i32 0],.slice none 0 0,.int .i64 2]) (by simp [results, Tryz.results18, go_sem, y0, u0]) rfl ⟨HA8.out.1.bel,c0,c1,c2,c3,c4,c5,c6,c7,_,zeroO,by rw [HE.out.1],rfl,by rw [HE.out.2]; exact HA8.out.2,by rw [HE.out.2]; exact .inl ⟨rfl,rfl⟩⟩
 ·have hE1:deE8 m l k=0:=by unfold deE8; rw [if_neg hnm,del_w hV.ok hnm]
  have hE2:deT8 m l k=remT m l (deV8 m k):=by unfold deT8; rw [if_neg hnm]
  rw [hE1];have HE:=Lh (show opP 0 (deV8 m k)=deV8 m k from rfl);have HRL:=Lh (hV.rem (deV8 m k)).rl;have hy:=nam_yes hnm;have hfl:=nam_flag hV.ok hy.1 hy.2;rw [hfl] at HN;have HO:=Lh (fun W (h:Below w.heap.size w W)=>own_any m l n (deV8 m k) c0 c1 c2 c3 c4 c5 c6 c7 W hV hn (hS.next h));rw [del_w hV.ok hnm] at HO;rw [←hE2] at HO HRL;clear hE1 hE2;have hdk:(deV8 m k).k=1:=rfl;have hdc:(deV8 m k).c=(namC (docR m) k).1:=rfl;have hds:(deV8 m k).s=(namC (docR m) k).2:=rfl;have hda:(deV8 m k).a=0:=rfl;have hdn:(deV8 m k).n=0:=rfl;have hdh:(deV8 m k).ch=0:=rfl;rw [hdk,hdc,hds,hda,hdn,hdh] at HO;generalize deT8 m l k=RT at *
  have HQ:=Lh (And.intro hdk (And.intro hdc (And.intro hds (And.intro hda (And.intro hdn hdh)))));generalize deV8 m k=dv at *
  generalize (namC (docR m) k).1=g1 at *
  generalize (namC (docR m) k).2=g2 at *
  clear hV hn hk0 hk1 hnm hfl hy hS hdk hdc hds hda hdn hdh;have v0 := H0.out.bv.c8
  go_enter Tryz.func18,Tryz.ntmps18
  go_wp2_with (go_at_call 21; refine (HN.out _ H0.out.bel).mono ?_; rintro e w1 ⟨rfl,hb⟩; refine Hid.out ?_)
  have hbA:Below w1.heap.size w1 (w1.alloc (.cells #[g1,g2] 24)):=bA;have H1:=Lh ((H0.out.next hb).next hbA);have e0 := (Blk.start w1 [g1,g2] 24).c2;clear H0 HN hb hbA v0;generalize hWA:w1.alloc (.cells #[g1,g2] 24)=W1 at *
  have v0 := H1.out.bv.c8;refine Lh ?_;go_wp2_with (go_at_call 32; refine (HO.out _ H1.out.bel).mono ?_; rintro e w4 ⟨hb,d0,d1,d2,d3,d4,d5,d6,d7,lc,rfl,hiv,hic⟩; refine Hid.out ?_)
  obtain ⟨al,pl,rfl,hd1,hd2⟩:=hic.form;generalize RT.2.2.length=n3 at *
  have H4:=Lh (H1.out.next hb);have HV4:=Lh (And.intro hiv hic);have hon:=hiv.one;have sdd0:=fun (W:World) (a:Addr) (md:Mode)=>run_store Tryz.prog W a d0 md (hon d0 (by simp))
  have sdd1:=fun (W:World) (a:Addr) (md:Mode)=>run_store Tryz.prog W a d1 md (hon d1 (by simp))
  have sdd2:=fun (W:World) (a:Addr) (md:Mode)=>run_store Tryz.prog W a d2 md (hon d2 (by simp))
  have sdd3:=fun (W:World) (a:Addr) (md:Mode)=>run_store Tryz.prog W a d3 md (hon d3 (by simp))
  have sdd4:=fun (W:World) (a:Addr) (md:Mode)=>run_store Tryz.prog W a d4 md (hon d4 (by simp))
  have sdd5:=fun (W:World) (a:Addr) (md:Mode)=>run_store Tryz.prog W a d5 md (hon d5 (by simp))
  have sdd6:=fun (W:World) (a:Addr) (md:Mode)=>run_store Tryz.prog W a d6 md (hon d6 (by simp))
  have sdd7:=fun (W:World) (a:Addr) (md:Mode)=>run_store Tryz.prog W a d7 md (hon d7 (by simp))
  clear hon;clear H1 HO hb hiv hic hd1 hd2 hWA e0 v0;have HA7:=Lh (show In8 w [c0,c1,c2,c3,c4,c5,c6,c7] [d0,d1,d2,d3,d4,d5,d6,d7] (oqL ⟨1,g1,g2,0,0,0,by decide,by decide⟩) (setN (setN w4 (w.heap.size+1) 0 [d0,d1,d2,d3,d4,d5,d6,d7]) (w.heap.size+1+1) 0 (oqL ⟨1,g1,g2,0,0,0,by decide,by decide⟩))∧IsV (setN (setN w4 (w.heap.size+1) 0 [d0,d1,d2,d3,d4,d5,d6,d7]) (w.heap.size+1+1) 0 (oqL ⟨1,g1,g2,0,0,0,by decide,by decide⟩)) RT.1 RT.2.1 [d0,d1,d2,d3,d4,d5,d6,d7]∧IsVC (setN (setN w4 (w.heap.size+1) 0 [d0,d1,d2,d3,d4,d5,d6,d7]) (w.heap.size+1+1) 0 (oqL ⟨1,g1,g2,0,0,0,by decide,by decide⟩)) (.slice al n3 pl) RT.2.2 from And.intro ((H4.out.putR [d0,d1,d2,d3,d4,d5,d6,d7]).putX (oqL ⟨1,g1,g2,0,0,0,by decide,by decide⟩)) (And.intro (IsV.setO (H4.out.putR [d0,d1,d2,d3,d4,d5,d6,d7]).bx (isv_set HV4.out.1 H4.out.br (by decide) (by decide) (by decide) 0 _) HRL.out ⟨1,g1,g2,0,0,0,by decide,by decide⟩) (isvc_set (isvc_set HV4.out.2 H4.out.br (by decide) 0 _) (H4.out.putR [d0,d1,d2,d3,d4,d5,d6,d7]).bx (by decide) 0 _)));simp only [setN, oqL] at HA7
  have zz0 := H4.out.br.c8;have fz0 := H4.out.br.f8;have xx0 := H4.out.bx.c6;have fx0 := H4.out.bx.f6;refine Lh ?_;go_wp2_with fail
  have y0 := HA7.out.1.br.c8;have u0 := HA7.out.1.bx.c6;exact bodyPost_ret (v:=.tuple #[.agg #[d0,d1,d2,d3,d4,d5,d6,d7],.agg #[.int .i64 1,g1,g2,.int .i64 0,.int .i64 0,.int .i32 0],.slice al n3 pl,.int .i64 0]) (by simp [results, Tryz.results18, go_sem, y0, u0]) rfl ⟨HA7.out.1.bel,d0,d1,d2,d3,d4,d5,d6,d7,_,dv,by rw [HE.out],by rw [HQ.out.1,HQ.out.2.1,HQ.out.2.2.1,HQ.out.2.2.2.1,HQ.out.2.2.2.2.1,HQ.out.2.2.2.2.2],HA7.out.2.1,HA7.out.2.2⟩
end Go.Proofs.YtifnijmienmmbaaGreatDoor
