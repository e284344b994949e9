import Derived.Test.YtifnijmienmmbaaGreatDoorRa8
set_option maxRecDepth 100000
set_option maxHeartbeats 12800000
namespace Go.Proofs.YtifnijmienmmbaaGreatDoor
open Go Go.Proofs Go.RowKit
structure Tk8 (w:World) (vm vl:Value) (o:Oq) (W:World):Prop where
 bel:Below w.heap.size w W
 bv:Blk W w.heap.size [vm,vl] 44
 bo:Blk W (w.heap.size+1) (oqL o) 95
 b2:Blk W (w.heap.size+1+1) [.slice none 0 0,.slice none 0 0] 44
 b3:Blk W (w.heap.size+1+1+1) [.int .i64 0,.int .i64 0,.int .i64 0,.int .i64 0,.int .i32 0,.bool false] 133
theorem Tk8.next {w:World} {vm vl:Value} {o:Oq} {W W':World} (h:Tk8 w vm vl o W) (hb:Below W.heap.size W W'):Tk8 w vm vl o W':=⟨h.bel.trans (hb.mono h.bel.size),h.bv.next hb,h.bo.next hb,h.b2.next hb,h.b3.next hb⟩
theorem Tk8.grow {w:World} {vm vl:Value} {o:Oq} {W W':World} {X:Nat} (h:Tk8 w vm vl o W) (hb:Below X W W') (hX:w.heap.size+1+1+1+1≤X):Tk8 w vm vl o W':=
 ⟨h.bel.trans (hb.mono (by omega)),h.bv.below hb (by omega),h.bo.below hb (by omega),h.b2.below hb (by omega),h.b3.below hb (by omega)⟩
theorem Tk8.put {w:World} {vm vl:Value} {o:Oq} {W:World} (h:Tk8 w vm vl o W) (x:Value):Tk8 w x vl o (W.setCell ⟨w.heap.size,0,none⟩ x):=
 ⟨h.bel.setCell (p:=⟨w.heap.size,0,none⟩) (Nat.le_refl _) _,h.bv.set 0 x,h.bo.other ⟨w.heap.size,0,none⟩ (by simp) _,h.b2.other ⟨w.heap.size,0,none⟩ (by show w.heap.size+1+1≠w.heap.size; omega) _,h.b3.other ⟨w.heap.size,0,none⟩ (by show w.heap.size+1+1+1≠w.heap.size; omega) _⟩
theorem Tk8.start (w:World) (vm vl:Value) (o:Oq):Tk8 w vm vl o ((((w.alloc (.cells #[vm,vl] 44)).alloc (.cells #[o.k,o.c,o.s,o.a,o.n,.int .i32 o.ch] 95)).alloc (.cells #[.slice none 0 0,.slice none 0 0] 44)).alloc (.cells #[.int .i64 0,.int .i64 0,.int .i64 0,.int .i64 0,.int .i32 0,.bool false] 133)):=by
 refine ⟨(((bA).alloc (by simp) _).alloc (by simp; omega) _).alloc (by simp; omega) _,?_,?_,?_,?_⟩
 ·exact (((Blk.startAt (b:=w.heap.size) rfl).alloc _).alloc _).alloc _
 ·exact ((Blk.startAt (b:=w.heap.size+1) (by simp)).alloc _).alloc _
 ·exact (Blk.startAt (b:=w.heap.size+1+1) (by simp)).alloc _
 ·exact Blk.startAt (b:=w.heap.size+1+1+1) (by simp)
structure Tq8 (w:World) (vm vl:Value) (o:Oq) (M:List Oq) (v3:Value) (L:List El) (z2 z3:List Value) (W:World):Prop where
 bel:Below w.heap.size w W
 bv:Blk W w.heap.size [vm,vl] 44
 bo:Blk W (w.heap.size+1) (oqL o) 95
 b2:Blk W (w.heap.size+1+1) z2 44
 b3:Blk W (w.heap.size+1+1+1) z3 133
 e:IsE W v3 L
 io:IsO W vm M
theorem Tq8.next {w:World} {vm vl:Value} {o:Oq} {M:List Oq} {v3:Value} {L:List El} {z2 z3:List Value} {W W':World} (h:Tq8 w vm vl o M v3 L z2 z3 W) (hb:Below W.heap.size W W'):Tq8 w vm vl o M v3 L z2 z3 W':=
 ⟨h.bel.trans (hb.mono h.bel.size),h.bv.next hb,h.bo.next hb,h.b2.next hb,h.b3.next hb,h.e.next hb,h.io.next hb⟩
theorem Tq8.set2 {w:World} {vm vl:Value} {o:Oq} {M:List Oq} {v3:Value} {L:List El} {z2 z3:List Value} {W:World} (h:Tq8 w vm vl o M v3 L z2 z3 W) (i:Nat) (x:Value):Tq8 w vm vl o M v3 L (z2.set i x) z3 (W.setCell ⟨w.heap.size+1+1,i,none⟩ x):=
 ⟨h.bel.setCell (p:=⟨w.heap.size+1+1,i,none⟩) (by show w.heap.size≤w.heap.size+1+1; omega) _,h.bv.other ⟨w.heap.size+1+1,i,none⟩ (by show w.heap.size≠w.heap.size+1+1; omega) _,h.bo.other ⟨w.heap.size+1+1,i,none⟩ (by show w.heap.size+1≠w.heap.size+1+1; omega) _,h.b2.set i x,h.b3.other ⟨w.heap.size+1+1,i,none⟩ (by show w.heap.size+1+1+1≠w.heap.size+1+1; omega) _,Sl.set h.b2 (by decide) i x h.e,Sl.set h.b2 (by decide) i x h.io⟩
theorem Tq8.set3 {w:World} {vm vl:Value} {o:Oq} {M:List Oq} {v3:Value} {L:List El} {z2 z3:List Value} {W:World} (h:Tq8 w vm vl o M v3 L z2 z3 W) (i:Nat) (x:Value):Tq8 w vm vl o M v3 L z2 (z3.set i x) (W.setCell ⟨w.heap.size+1+1+1,i,none⟩ x):=
 ⟨h.bel.setCell (p:=⟨w.heap.size+1+1+1,i,none⟩) (by show w.heap.size≤w.heap.size+1+1+1; omega) _,h.bv.other ⟨w.heap.size+1+1+1,i,none⟩ (by show w.heap.size≠w.heap.size+1+1+1; omega) _,h.bo.other ⟨w.heap.size+1+1+1,i,none⟩ (by show w.heap.size+1≠w.heap.size+1+1+1; omega) _,h.b2.other ⟨w.heap.size+1+1+1,i,none⟩ (by show w.heap.size+1+1≠w.heap.size+1+1+1; omega) _,h.b3.set i x,Sl.set h.b3 (by decide) i x h.e,Sl.set h.b3 (by decide) i x h.io⟩
theorem ref8List_any (m:List Oq) (hm:m.length≤1000) (g:Gd m) (vm vl:Value) (w:World) (hL:IsO w vm m):
  Calls Tryz.prog 22 #[.agg #[vm,vl]] w fun e w'=>∃ v,e=.returned v∧IsE w' v (docR m)∧Below w.heap.size w w':=by
 have HF:=Lh (fun (W:World) (h:IsO W vm m)=>refList_any m hm g vm W h);have HL:=Lh hL;have hb1:=(Below.refl w.heap.size w).alloc (Nat.le_refl _) (.cells #[vm,vl] 44);have HB:=Lh hb1;have x0:=(Blk.start w [vm,vl] 44).cell 0 rfl;clear hL hb1
 go_enter Tryz.func22,Tryz.ntmps22
 go_wp2_with (go_at_call 46; refine (HF.out _ (HL.out.next HB.out)).mono ?_; rintro e' W3 ⟨v3,rfl,hv3,hb3⟩)
 go_ret
 exact ⟨_,rfl,hv3,HB.out.trans (hb3.mono HB.out.size)⟩
theorem refTake_any (m l:List Oq) (o:Oq) (hO:OkO m) (hw0:wrongE m o=0) (hm:m.length≤900) (vm vl:Value) (w:World) (hM:IsO w vm m) (hL:IsO w vl l):
  Calls Tryz.prog 67 #[.agg #[vm,vl],.agg #[o.k,o.c,o.s,o.a,o.n,.int .i32 o.ch]] w
   fun e w'=>∃ vm',e=.returned (.tuple #[.agg #[vm',vl],.agg #[.int .i64 (chgO m o).q,.int .i64 (chgO m o).a,.int .i64 (chgO m o).c,.int .i64 (chgO m o).s,.int .i32 (chgO m o).ch,.bool (chgO m o).d]])∧IsO w' vm' (m++[o])∧Below w.heap.size w w':=by
 have HM:=Lh hM;obtain ⟨ad,cap,rfl,hc1,hc2⟩:=hM.form;obtain ⟨al,cl,rfl,hc3,hc4⟩:=hL.form;obtain ⟨i0,hi0,hz0,hz1,hz2⟩:=info_parts infoOq;clear hM hL;have H0:=Lh (Tk8.start w (.slice ad m.length cap) (.slice al l.length cl) o);have HOK:=Lh (wrong_ok hO hw0);have HPL:=Lh (pl_in hO hw0);have HPF:=Lh (show plO m o=fnd (elB o.c o.s) (docR (m++[o])) 0 from rfl);have HCG:=Lh (show chgO m o=⟨(m.length:Int)+1,(rkL (docR (m++[o])) (plO m o):Int),o.c,o.s,chO m o,decide (o.k=1)⟩ from rfl);generalize chgO m o=cg at *
 obtain ⟨M,hME⟩:∃ M,M=m++[o]:=⟨_,rfl⟩
 have HME:=Lh hME;rw [←hME] at HOK HPL HPF HCG;have HLS:=Lh (fun (vm vl:Value) (W:World) (h:IsO W vm M)=>ref8List_any M (by rw [HME.out]; simp; omega) HOK.out.gd vm vl W h);have HML:=Lh (show M.length=m.length+1 by rw [HME.out]; simp);have hMl:M.length≤901:=by rw [HML.out]; omega
 have hdl:(docR M).length≤M.length:=by rw [docR_len]; exact row_len HOK.out.gd
 generalize hLd:docR M=L at *
 clear hME;clear hO hw0
 go_enter Tryz.func67,Tryz.ntmps67
 go_wp2_with fail
 generalize (((w.alloc (.cells #[.slice ad m.length cap,.slice al l.length cl] 44)).alloc (.cells #[o.k,o.c,o.s,o.a,o.n,.int .i32 o.ch] 95)).alloc (.cells #[.slice none 0 0,.slice none 0 0] 44)).alloc (.cells #[.int .i64 0,.int .i64 0,.int .i64 0,.int .i64 0,.int .i32 0,.bool false] 133)=W7 at *
 rename_i K hK0
 have hgo:∀ (W:World) (t8 t11 t13:Value) (a2:Option Addr) (c2:Nat),Tk8 w (.slice a2 M.length c2) (.slice al l.length cl) o W→IsO W (.slice a2 M.length c2) M →
   K ⟨#[.agg #[.slice ad m.length cap,.slice al l.length cl],.agg #[o.k,o.c,o.s,o.a,o.n,.int .i32 o.ch],.pointer (some ⟨w.heap.size,0,none⟩),.pointer (some ⟨w.heap.size+1,0,none⟩),.pointer (some ⟨w.heap.size+1+1,0,none⟩),.pointer (some ⟨w.heap.size+1+1+1,0,none⟩),undef,undef,
    t8,.pointer (some ⟨w.heap.size,0,none⟩),.slice ad m.length cap,t11,.agg #[o.k,o.c,o.s,o.a,o.n,.int .i32 o.ch],t13,.slice a2 M.length c2,.pointer (some ⟨w.heap.size,0,none⟩),undef,undef,undef,undef,undef,undef,undef,undef,undef,undef,undef,undef,undef,undef,undef,undef,undef,undef,undef,undef,undef,undef,undef,undef],[]⟩ W:=by
  intro W t8 t11 t13 a2 c2 hT hI
  clear H0;obtain ⟨_,_,he,hd1,hd2⟩:=hI.form
  cases he
  have HT:=Lh hT;have HI:=Lh hI;clear hT hI;refine hK0 _ _ ?_;clear hK0;obtain ⟨x0,x1⟩:=HT.out.bv.c2;go_wp2_with (go_at_call 22; refine (HLS.out _ _ _ HI.out).mono ?_; rintro e w1 ⟨v3,rfl,hE,hb⟩; refine Hid.out ?_)
  have HQ:=Lh (show Tq8 w (.slice a2 M.length c2) (.slice al l.length cl) o M v3 L _ _ w1 from ⟨(HT.out.next hb).bel,(HT.out.next hb).bv,(HT.out.next hb).bo,(HT.out.next hb).b2,(HT.out.next hb).b3,hE,HI.out.next hb⟩);clear HT HI x0 x1 hE hb;obtain ⟨a3,c3,hv3,hd3,hd4⟩:=HQ.out.e.form;obtain ⟨i,hi,hp,hch⟩:=HPL.out;obtain ⟨g,hg0,hg,hC⟩:∃ g,a3=some ⟨g,0,none⟩∧g<w1.heap.size∧∀ X,Below w1.heap.size w1 X→EC X g i L[i]:=by
   have h:=HQ.out.e;rw [hv3] at h;exact IsE.at h i hi
  subst hg0;subst hv3;have HPC:=Lh (fun W (h:IsE W (.slice (some ⟨g,0,none⟩) L.length c3) L)=>refPlace_any o.c o.s L _ W h);have HRK:=Lh (fun W (h:IsE W (.slice (some ⟨g,0,none⟩) L.length c3) L)=>refRank_any L (i:Int) _ W h (by omega));have hp':fnd (elB o.c o.s) L 0=(i:Int):=by rw [←HPF.out]; exact hp
  rw [hp'] at HPC;obtain ⟨xch,hx⟩:∃ x,x=L[i].ch:=⟨_,rfl⟩
  obtain ⟨RK,hRK⟩:∃ R,R=rkL L (i:Int):=⟨_,rfl⟩
  have HCE:=Lh (show cg=⟨(M.length:Int),(RK:Int),o.c,o.s,xch,decide (o.k=1)⟩ by rw [HCG.out,hp,hch,hRK,HML.out,hx]; simp);rw [←hRK] at HRK;have HEC:=Lh (fun (X:World) (h:IsE X (.slice (some ⟨g,0,none⟩) L.length c3) L)=>show X.cell? ⟨g,i * 4+2,none⟩=some (.int .i32 xch) from by
   obtain ⟨g',e',_,h1⟩:=IsE.at h i hi
   cases e'
   rw [hx];exact (h1 X (Below.refl _ _)).2.2.1)
  clear hp hp' hC hch hx hRK;have y1:=HQ.out.bo.cell 1 rfl;have y2:=HQ.out.bo.cell 2 rfl;refine Lh ?_;go_wp2_with (go_at_call 27; refine (HPC.out _ HQ.out.e).mono ?_; rintro e w2 ⟨rfl,hb⟩; refine Hid.out ?_)
  have HQ2:=Lh (HQ.out.next hb);have HQ3:=Lh (HQ2.out.next bdq);have hdum:=trivial;clear HQ y1 y2 hb;refine Lh ?_;go_wp2_with fail
  refine rgH (fun W=>Cc2 W w.heap.size (.slice a2 M.length c2) (.slice al l.length cl) (W.cell? ⟨g,i * 4+2,none⟩=some (.int .i32 xch)∧Cz6 W (w.heap.size+1) o.k o.c o.s o.a o.n (.int .i32 o.ch))) (let h:=HQ3.out; (h.bv.d2 ⟨HEC.out _ h.e,h.bo.c6⟩)) fun hHeld=>?_
  clear hdum HQ2;generalize w2.drew=w3 at *
  refine tq 0 (.agg #[.slice a2 M.length c2,.slice al l.length cl]) hHeld ?_;refine tq 1 (.pointer (some ⟨w.heap.size,0,none⟩)) hHeld ?_;refine tq 2 (.slice a2 M.length c2) hHeld ?_;refine tq 3 (.int .i64 ((M.length:Int))) hHeld ?_;refine tq 4 (.slice ((some ⟨g,0,none⟩)) L.length c3) hHeld ?_;refine tq 5 (.int .i64 ((i:Int))) hHeld ?_;refine tq 7 (.pointer (some ⟨w.heap.size+1,1,none⟩)) hHeld ?_;refine tq 8 (.agg #[o.c,o.s]) hHeld ?_;refine tq 9 (.slice ((some ⟨g,0,none⟩)) L.length c3) hHeld ?_;refine tq 10 (.int .i64 ((i:Int))) hHeld ?_;refine tq 11 (.pointer (some ⟨g,i * 4,none⟩)) hHeld ?_;refine tq 12 (.pointer (some ⟨g,i * 4+2,none⟩)) hHeld ?_;refine tq 13 (.int .i32 xch) hHeld ?_;refine tq 14 (.pointer (some ⟨w.heap.size+1,0,none⟩)) hHeld ?_;refine tq 15 o.k hHeld ?_;refine tq 16 (.bool (o.k==1)) hHeld ?_;refine rd1 6 (by kernel_rfl) rfl fun KK hK=>?_
  go_simp
  refine (HRK.out _ HQ3.out.e).mono ?_
  rintro e' w4 ⟨rfl,hb⟩
  go_wp2_with fail
  refine hK.out _ _ ((let h:=HQ3.out.next hb; (h.bv.d2 ⟨HEC.out _ h.e,h.bo.c6⟩))) ?_;clear hK KK hHeld;intro hHeld
  try simp only [LAY]
  have HQ4:=Lh (HQ3.out.next hb);clear HQ3 hb;have z0 := HQ4.out.b2.c2;have fz0 := HQ4.out.b2.f2;refine tq 17 (.agg #[.int .i64 ((M.length:Int)),.int .i64 ((RK:Int)),o.c,o.s,.int .i32 xch,.bool (o.k==1)]) hHeld ?_;refine rd1 18 (by kernel_rfl) rfl fun KK hK=>?_
  go_simp
  go_wp2_with fail
  refine hK.out _ _ ((let h:=((HQ4.out.set2 0 (.slice a2 M.length c2)).set2 1 (.slice al l.length cl)); (h.bv.d2 ⟨HEC.out _ h.e,h.bo.c6⟩))) ?_;clear hK KK hHeld z0 fz0;intro hHeld
  try simp only [LAY]
  have HQ5:=Lh ((HQ4.out.set2 0 (.slice a2 M.length c2)).set2 1 (.slice al l.length cl));clear HQ4;generalize ((w4.setCell ⟨w.heap.size+1+1,0,none⟩ (.slice a2 M.length c2)).setCell ⟨w.heap.size+1+1,1,none⟩ (.slice al l.length cl))=w5 at *
  have u0 := HQ5.out.b3.c6;have fu0 := HQ5.out.b3.f6;refine rd1 19 (by kernel_rfl) rfl fun KK hK=>?_
  go_simp
  go_wp2_with fail
  refine hK.out _ _ ((let h:=((((((HQ5.out.set3 0 (.int .i64 (M.length:Int))).set3 1 (.int .i64 (RK:Int))).set3 2 o.c).set3 3 o.s).set3 4 (.int .i32 xch)).set3 5 (.bool (o.k==1))); (h.bv.d2 ⟨HEC.out _ h.e,h.bo.c6⟩))) ?_;clear hK KK hHeld u0 fu0;intro hHeld
  try simp only [LAY]
  have HQ6:=Lh ((((((HQ5.out.set3 0 (.int .i64 (M.length:Int))).set3 1 (.int .i64 (RK:Int))).set3 2 o.c).set3 3 o.s).set3 4 (.int .i32 xch)).set3 5 (.bool (o.k==1)));clear HQ5;refine dnH ?_;clear hHeld;have HF:=Lh HQ6.out;clear HQ6;have z0 := HF.out.b2.c2;have u0 := HF.out.b3.c6;go_wp2_with fail
  refine bodyPost_ret (v:=.tuple #[.agg #[.slice a2 M.length c2,.slice al l.length cl],.agg #[.int .i64 (M.length:Int),.int .i64 (RK:Int),o.c,o.s,.int .i32 xch,.bool (o.k==1)]]) (by simp [results, Tryz.results67, go_sem, z0, u0]) rfl ⟨.slice a2 M.length c2,by rw [HCE.out]; rfl,by rw [←HME.out]; exact HF.out.io,HF.out.bel⟩
 have HA8:=Lh (H0.out.next bdq);have hdum:=trivial;have HG:=Lh hgo;clear hK0 hgo H0;refine rgH (fun W=>Cz6 W (w.heap.size+1) o.k o.c o.s o.a o.n (.int .i32 o.ch)) (let h:=HA8.out; h.bo.c6) fun hHeld=>?_
 clear hdum;generalize W7.drew=W8 at *
 refine tq 1 (.pointer (some ⟨w.heap.size,0,none⟩)) hHeld ?_;refine tq 4 (.agg #[o.k,o.c,o.s,o.a,o.n,.int .i32 o.ch]) hHeld ?_;refine wpAnyH_ready (rs:=[0,2,5]) (by kernel_rfl) (by simp) ?_;refine cons1 rfl (fun KK hK=>?_) (cons1 rfl (fun KK hK=>?_) (cons1 rfl (fun KK hK=>?_) AllReadyH.nil))
 ·go_simp
  go_wp2_with fail
  refine hK.out _ _ ((let h:=HA8.out.next ((Below.refl W8.heap.size W8).alloc (Nat.le_refl _) (.cells ⟨[]⟩ 95)); h.bo.c6)) ?_;clear hK KK hHeld;intro hHeld
  try simp only [LAY]
  have hXo:=own_zero W8 6 95;have HA2:=Lh (HA8.out.next ((Below.refl W8.heap.size W8).alloc (Nat.le_refl _) (.cells ⟨[]⟩ 95)));have hsX:=HA8.out.b3.lt;have hzX:W8.heap.size+1≤(W8.alloc (.cells ⟨[]⟩ 95)).heap.size:=by simp
  have hH2:(fun W=>Cz6 W (w.heap.size+1) o.k o.c o.s o.a o.n (.int .i32 o.ch)) (W8.alloc (.cells ⟨[]⟩ 95)):=hHeld
  change wpAnyH _ _ _ _ _ _ _ _ (W8.alloc (.cells ⟨[]⟩ 95))
  clear hHeld HA8;have hHeld:=hH2;have HA8:=HA2;clear hH2 HA2;generalize (W8.alloc (.cells ⟨[]⟩ 95))=W9 at *
  generalize W8.heap.size=X at *
  refine wpAnyH_ready (rs:=[2,5]) (by kernel_rfl) (by simp) ?_;refine cons1 rfl (fun KK hK=>?_) (cons1 rfl (fun KK hK=>?_) AllReadyH.nil)
  ·rw [if_pos (by rfl)]
   have x0:=HA8.out.bv.cell 0 rfl;go_simp
   go_wp2_with fail
   refine hK.out _ _ ((let h:=HA8.out; h.bo.c6)) ?_;clear hK KK hHeld x0;intro hHeld
   try simp only [LAY]
   refine wpAnyH_ready (rs:=[3,5]) (by kernel_rfl) (by simp) ?_;refine cons1 rfl (fun KK hK=>?_) (cons1 rfl (fun KK hK=>?_) AllReadyH.nil)
   ·rw [if_pos (by rfl)]
    refine wp_append_sl _ (.tmp 8) (.tmp 10) 42 rfl X 95 i0 zOq 6 48 Tryz.underlying42 hi0 hz0 hz1 hz2 rfl (by decide) _ 0 [] rfl hXo oqL_len oq_one _ m rfl (HM.out.next HA8.out.bel) (by unfold maxLen; omega) (by omega) (by omega) ?_;intro v1 W10 ho1 hg1
    have hb1:Below X W9 W10:=Below.of_grown hg1 (by omega) (own_ge hXo);go_wp2_with fail
    refine hK.out _ _ ((let h:=HA8.out.grow hb1 (by omega); h.bo.c6)) ?_;clear hK KK hHeld;intro hHeld
    try simp only [LAY]
    have HO1:=Lh ho1;have hs1:=hg1.size;have HA2:=Lh (HA8.out.grow hb1 (by omega));clear HA8;have HA8:=HA2;clear ho1 hg1 hb1 HA2 hXo;refine rd1 5 (by kernel_rfl) rfl fun KK hK=>?_
    go_simp
    go_wp2_with fail
    refine hK.out _ _ ((let h:=HA8.out.next ((Below.refl W10.heap.size W10).alloc (Nat.le_refl _) (.cells ⟨oqL o⟩ 95)); h.bo.c6)) ?_;clear hK KK hHeld;intro hHeld
    try simp only [LAY]
    have HO1h:=HO1.out;clear HO1;have hYo:=own_new W10 (oqL o) 6 rfl 95;have HA2:=Lh (HA8.out.next ((Below.refl W10.heap.size W10).alloc (Nat.le_refl _) (.cells ⟨oqL o⟩ 95)));have hsY:=HA8.out.b3.lt;have hzY:W10.heap.size+1≤(W10.alloc (.cells ⟨oqL o⟩ 95)).heap.size:=by simp
    have HO1h2:=ownsRow_next HO1h ((Below.refl W10.heap.size W10).alloc (Nat.le_refl _) (.cells ⟨oqL o⟩ 95));have hH2:(fun W=>Cz6 W (w.heap.size+1) o.k o.c o.s o.a o.n (.int .i32 o.ch)) (W10.alloc (.cells ⟨oqL o⟩ 95)):=hHeld
    change wpAnyH _ _ _ _ _ _ _ _ (W10.alloc (.cells ⟨oqL o⟩ 95))
    clear hHeld HA8 HO1h;have hHeld:=hH2;have HA8:=HA2;clear hH2 HA2;have HO1h:=HO1h2;clear HO1h2;generalize (W10.alloc (.cells ⟨oqL o⟩ 95))=W11 at *
    generalize W10.heap.size=Y at *
    have HO1:=Lh HO1h;clear HO1h;refine rd1 6 (by kernel_rfl) rfl fun KK hK=>?_
    rw [if_pos (by rfl)];refine wp_append_at _ (.tmp 11) (.tmp 13) 42 rfl X 95 i0 zOq 6 48 Tryz.underlying42 hi0 hz0 hz1 hz2 rfl (by decide) _ (0+m.length) _ rfl HO1.out ⟨Y,0,none⟩ 1 1 (oqL o) rfl rfl (hYo.cells rfl) (oq_one o) (by unfold maxLen; omega) (by omega) (by omega) ?_;intro v2 W12 ho2 hg2 _
    have hb2:Below X W11 W12:=Below.of_grown hg2 (by omega) (own_ge HO1.out);go_wp2_with fail
    refine hK.out _ _ ((let h:=HA8.out.grow hb2 (by omega); h.bo.c6)) ?_;clear hK KK hHeld;intro hHeld
    try simp only [LAY]
    have HA2:=Lh (HA8.out.grow hb2 (by omega));have hi2:IsO W12 v2 M:=by rw [HME.out]; exact Sl.of (by rw [List.length_append,List.flatMap_append,show m.length+[o].length=0+m.length+1 by simp]; simpa using ho2)
    clear HA8 ho2 hg2 hb2;obtain ⟨a2,c2,rfl,hd1,hd2⟩:=hi2.form;have HI2:=Lh hi2;clear hi2;have x0:=HA2.out.bv.cell 0 rfl;have f0:=HA2.out.bv.free 0;refine tq 7 (.pointer (some ⟨w.heap.size,0,none⟩)) hHeld ?_;refine rd1 8 (by kernel_rfl) rfl fun KK hK=>?_
    go_simp
    go_wp2_with fail
    refine hK.out _ _ ((let h:=HA2.out.put (.slice a2 M.length c2); h.bo.c6)) ?_;clear hK KK hHeld;intro hHeld
    try simp only [LAY]
    have HA3:=Lh (And.intro (HA2.out.put (.slice a2 M.length c2)) (Sl.set HA2.out.bv (by decide) 0 (.slice a2 M.length c2) HI2.out));refine dnH ?_;clear hHeld x0 f0;exact HG.out _ _ _ _ _ _ HA3.out.1 HA3.out.2
   ·go_simp
    go_wp2_with fail
    refine hK.out _ _ ((let h:=HA8.out.next ((Below.refl W9.heap.size W9).alloc (Nat.le_refl _) (.cells ⟨oqL o⟩ 95)); h.bo.c6)) ?_;clear hK KK hHeld;intro hHeld
    try simp only [LAY]
    have hYo:=own_new W9 (oqL o) 6 rfl 95;have HA2:=Lh (HA8.out.next ((Below.refl W9.heap.size W9).alloc (Nat.le_refl _) (.cells ⟨oqL o⟩ 95)));have hsY:=HA8.out.b3.lt;have hzY:W9.heap.size+1≤(W9.alloc (.cells ⟨oqL o⟩ 95)).heap.size:=by simp
    have hXo2:=ownsRow_next hXo ((Below.refl W9.heap.size W9).alloc (Nat.le_refl _) (.cells ⟨oqL o⟩ 95));have hXY:X<W9.heap.size:=own_lt hXo _ rfl;have hH2:(fun W=>Cz6 W (w.heap.size+1) o.k o.c o.s o.a o.n (.int .i32 o.ch)) (W9.alloc (.cells ⟨oqL o⟩ 95)):=hHeld
    change wpAnyH _ _ _ _ _ _ _ _ (W9.alloc (.cells ⟨oqL o⟩ 95))
    clear hHeld HA8 hXo;have hHeld:=hH2;have HA8:=HA2;clear hH2 HA2;have hXo:=hXo2;clear hXo2;generalize (W9.alloc (.cells ⟨oqL o⟩ 95))=W10 at *
    generalize W9.heap.size=Y at *
    refine rd1 3 (by kernel_rfl) rfl fun KK hK=>?_
    rw [if_pos (by rfl)];refine wp_append_sl _ (.tmp 8) (.tmp 10) 42 rfl X 95 i0 zOq 6 48 Tryz.underlying42 hi0 hz0 hz1 hz2 rfl (by decide) _ 0 [] rfl hXo oqL_len oq_one _ m rfl (HM.out.next HA8.out.bel) (by unfold maxLen; omega) (by omega) (by omega) ?_;intro v1 W11 ho1 hg1
    have hb1:Below X W10 W11:=Below.of_grown hg1 (by omega) (own_ge hXo);go_wp2_with fail
    refine hK.out _ _ ((let h:=HA8.out.grow hb1 (by omega); h.bo.c6)) ?_;clear hK KK hHeld;intro hHeld
    try simp only [LAY]
    have HO1:=Lh ho1;have hs1:=hg1.size;have HA2:=Lh (HA8.out.grow hb1 (by omega));clear HA8;have HA8:=HA2;have hY2:=own_apart hYo hg1 (fun r e1 e2=>by cases e1; cases e2; omega);clear hYo;have hYo:=hY2;clear hY2;clear ho1 hg1 hb1 HA2 hXo;refine rd1 6 (by kernel_rfl) rfl fun KK hK=>?_
    rw [if_pos (by rfl)];refine wp_append_at _ (.tmp 11) (.tmp 13) 42 rfl X 95 i0 zOq 6 48 Tryz.underlying42 hi0 hz0 hz1 hz2 rfl (by decide) _ (0+m.length) _ rfl HO1.out ⟨Y,0,none⟩ 1 1 (oqL o) rfl rfl (hYo.cells rfl) (oq_one o) (by unfold maxLen; omega) (by omega) (by omega) ?_;intro v2 W12 ho2 hg2 _
    have hb2:Below X W11 W12:=Below.of_grown hg2 (by omega) (own_ge HO1.out);go_wp2_with fail
    refine hK.out _ _ ((let h:=HA8.out.grow hb2 (by omega); h.bo.c6)) ?_;clear hK KK hHeld;intro hHeld
    try simp only [LAY]
    have HA2:=Lh (HA8.out.grow hb2 (by omega));have hi2:IsO W12 v2 M:=by rw [HME.out]; exact Sl.of (by rw [List.length_append,List.flatMap_append,show m.length+[o].length=0+m.length+1 by simp]; simpa using ho2)
    clear HA8 ho2 hg2 hb2;obtain ⟨a2,c2,rfl,hd1,hd2⟩:=hi2.form;have HI2:=Lh hi2;clear hi2;have x0:=HA2.out.bv.cell 0 rfl;have f0:=HA2.out.bv.free 0;refine tq 7 (.pointer (some ⟨w.heap.size,0,none⟩)) hHeld ?_;refine rd1 8 (by kernel_rfl) rfl fun KK hK=>?_
    go_simp
    go_wp2_with fail
    refine hK.out _ _ ((let h:=HA2.out.put (.slice a2 M.length c2); h.bo.c6)) ?_;clear hK KK hHeld;intro hHeld
    try simp only [LAY]
    have HA3:=Lh (And.intro (HA2.out.put (.slice a2 M.length c2)) (Sl.set HA2.out.bv (by decide) 0 (.slice a2 M.length c2) HI2.out));refine dnH ?_;clear hHeld x0 f0;exact HG.out _ _ _ _ _ _ HA3.out.1 HA3.out.2
  ·go_simp
   go_wp2_with fail
   refine hK.out _ _ ((let h:=HA8.out.next ((Below.refl W9.heap.size W9).alloc (Nat.le_refl _) (.cells ⟨oqL o⟩ 95)); h.bo.c6)) ?_;clear hK KK hHeld;intro hHeld
   try simp only [LAY]
   have hYo:=own_new W9 (oqL o) 6 rfl 95;have HA2:=Lh (HA8.out.next ((Below.refl W9.heap.size W9).alloc (Nat.le_refl _) (.cells ⟨oqL o⟩ 95)));have hsY:=HA8.out.b3.lt;have hzY:W9.heap.size+1≤(W9.alloc (.cells ⟨oqL o⟩ 95)).heap.size:=by simp
   have hXo2:=ownsRow_next hXo ((Below.refl W9.heap.size W9).alloc (Nat.le_refl _) (.cells ⟨oqL o⟩ 95));have hXY:X<W9.heap.size:=own_lt hXo _ rfl;have hH2:(fun W=>Cz6 W (w.heap.size+1) o.k o.c o.s o.a o.n (.int .i32 o.ch)) (W9.alloc (.cells ⟨oqL o⟩ 95)):=hHeld
   change wpAnyH _ _ _ _ _ _ _ _ (W9.alloc (.cells ⟨oqL o⟩ 95))
   clear hHeld HA8 hXo;have hHeld:=hH2;have HA8:=HA2;clear hH2 HA2;have hXo:=hXo2;clear hXo2;generalize (W9.alloc (.cells ⟨oqL o⟩ 95))=W10 at *
   generalize W9.heap.size=Y at *
   refine rd1 2 (by kernel_rfl) rfl fun KK hK=>?_
   rw [if_pos (by rfl)];have x0:=HA8.out.bv.cell 0 rfl;go_simp
   go_wp2_with fail
   refine hK.out _ _ ((let h:=HA8.out; h.bo.c6)) ?_;clear hK KK hHeld x0;intro hHeld
   try simp only [LAY]
   refine rd1 3 (by kernel_rfl) rfl fun KK hK=>?_
   rw [if_pos (by rfl)];refine wp_append_sl _ (.tmp 8) (.tmp 10) 42 rfl X 95 i0 zOq 6 48 Tryz.underlying42 hi0 hz0 hz1 hz2 rfl (by decide) _ 0 [] rfl hXo oqL_len oq_one _ m rfl (HM.out.next HA8.out.bel) (by unfold maxLen; omega) (by omega) (by omega) ?_;intro v1 W11 ho1 hg1
   have hb1:Below X W10 W11:=Below.of_grown hg1 (by omega) (own_ge hXo);go_wp2_with fail
   refine hK.out _ _ ((let h:=HA8.out.grow hb1 (by omega); h.bo.c6)) ?_;clear hK KK hHeld;intro hHeld
   try simp only [LAY]
   have HO1:=Lh ho1;have hs1:=hg1.size;have HA2:=Lh (HA8.out.grow hb1 (by omega));clear HA8;have HA8:=HA2;have hY2:=own_apart hYo hg1 (fun r e1 e2=>by cases e1; cases e2; omega);clear hYo;have hYo:=hY2;clear hY2;clear ho1 hg1 hb1 HA2 hXo;refine rd1 6 (by kernel_rfl) rfl fun KK hK=>?_
   rw [if_pos (by rfl)];refine wp_append_at _ (.tmp 11) (.tmp 13) 42 rfl X 95 i0 zOq 6 48 Tryz.underlying42 hi0 hz0 hz1 hz2 rfl (by decide) _ (0+m.length) _ rfl HO1.out ⟨Y,0,none⟩ 1 1 (oqL o) rfl rfl (hYo.cells rfl) (oq_one o) (by unfold maxLen; omega) (by omega) (by omega) ?_;intro v2 W12 ho2 hg2 _
   have hb2:Below X W11 W12:=Below.of_grown hg2 (by omega) (own_ge HO1.out);go_wp2_with fail
   refine hK.out _ _ ((let h:=HA8.out.grow hb2 (by omega); h.bo.c6)) ?_;clear hK KK hHeld;intro hHeld
   try simp only [LAY]
   have HA2:=Lh (HA8.out.grow hb2 (by omega));have hi2:IsO W12 v2 M:=by rw [HME.out]; exact Sl.of (by rw [List.length_append,List.flatMap_append,show m.length+[o].length=0+m.length+1 by simp]; simpa using ho2)
   clear HA8 ho2 hg2 hb2;obtain ⟨a2,c2,rfl,hd1,hd2⟩:=hi2.form;have HI2:=Lh hi2;clear hi2;have x0:=HA2.out.bv.cell 0 rfl;have f0:=HA2.out.bv.free 0;refine tq 7 (.pointer (some ⟨w.heap.size,0,none⟩)) hHeld ?_;refine rd1 8 (by kernel_rfl) rfl fun KK hK=>?_
   go_simp
   go_wp2_with fail
   refine hK.out _ _ ((let h:=HA2.out.put (.slice a2 M.length c2); h.bo.c6)) ?_;clear hK KK hHeld;intro hHeld
   try simp only [LAY]
   have HA3:=Lh (And.intro (HA2.out.put (.slice a2 M.length c2)) (Sl.set HA2.out.bv (by decide) 0 (.slice a2 M.length c2) HI2.out));refine dnH ?_;clear hHeld x0 f0;exact HG.out _ _ _ _ _ _ HA3.out.1 HA3.out.2
 ·rw [if_pos (by rfl)]
  have x0:=HA8.out.bv.cell 0 rfl;go_simp
  go_wp2_with fail
  refine hK.out _ _ ((let h:=HA8.out; h.bo.c6)) ?_;clear hK KK hHeld x0;intro hHeld
  try simp only [LAY]
  refine wpAnyH_ready (rs:=[0,5]) (by kernel_rfl) (by simp) ?_;refine cons1 rfl (fun KK hK=>?_) (cons1 rfl (fun KK hK=>?_) AllReadyH.nil)
  ·go_simp
   go_wp2_with fail
   refine hK.out _ _ ((let h:=HA8.out.next ((Below.refl W8.heap.size W8).alloc (Nat.le_refl _) (.cells ⟨[]⟩ 95)); h.bo.c6)) ?_;clear hK KK hHeld;intro hHeld
   try simp only [LAY]
   have hXo:=own_zero W8 6 95;have HA2:=Lh (HA8.out.next ((Below.refl W8.heap.size W8).alloc (Nat.le_refl _) (.cells ⟨[]⟩ 95)));have hsX:=HA8.out.b3.lt;have hzX:W8.heap.size+1≤(W8.alloc (.cells ⟨[]⟩ 95)).heap.size:=by simp
   have hH2:(fun W=>Cz6 W (w.heap.size+1) o.k o.c o.s o.a o.n (.int .i32 o.ch)) (W8.alloc (.cells ⟨[]⟩ 95)):=hHeld
   change wpAnyH _ _ _ _ _ _ _ _ (W8.alloc (.cells ⟨[]⟩ 95))
   clear hHeld HA8;have hHeld:=hH2;have HA8:=HA2;clear hH2 HA2;generalize (W8.alloc (.cells ⟨[]⟩ 95))=W9 at *
   generalize W8.heap.size=X at *
   refine wpAnyH_ready (rs:=[3,5]) (by kernel_rfl) (by simp) ?_;refine cons1 rfl (fun KK hK=>?_) (cons1 rfl (fun KK hK=>?_) AllReadyH.nil)
   ·rw [if_pos (by rfl)]
    refine wp_append_sl _ (.tmp 8) (.tmp 10) 42 rfl X 95 i0 zOq 6 48 Tryz.underlying42 hi0 hz0 hz1 hz2 rfl (by decide) _ 0 [] rfl hXo oqL_len oq_one _ m rfl (HM.out.next HA8.out.bel) (by unfold maxLen; omega) (by omega) (by omega) ?_;intro v1 W10 ho1 hg1
    have hb1:Below X W9 W10:=Below.of_grown hg1 (by omega) (own_ge hXo);go_wp2_with fail
    refine hK.out _ _ ((let h:=HA8.out.grow hb1 (by omega); h.bo.c6)) ?_;clear hK KK hHeld;intro hHeld
    try simp only [LAY]
    have HO1:=Lh ho1;have hs1:=hg1.size;have HA2:=Lh (HA8.out.grow hb1 (by omega));clear HA8;have HA8:=HA2;clear ho1 hg1 hb1 HA2 hXo;refine rd1 5 (by kernel_rfl) rfl fun KK hK=>?_
    go_simp
    go_wp2_with fail
    refine hK.out _ _ ((let h:=HA8.out.next ((Below.refl W10.heap.size W10).alloc (Nat.le_refl _) (.cells ⟨oqL o⟩ 95)); h.bo.c6)) ?_;clear hK KK hHeld;intro hHeld
    try simp only [LAY]
    have HO1h:=HO1.out;clear HO1;have hYo:=own_new W10 (oqL o) 6 rfl 95;have HA2:=Lh (HA8.out.next ((Below.refl W10.heap.size W10).alloc (Nat.le_refl _) (.cells ⟨oqL o⟩ 95)));have hsY:=HA8.out.b3.lt;have hzY:W10.heap.size+1≤(W10.alloc (.cells ⟨oqL o⟩ 95)).heap.size:=by simp
    have HO1h2:=ownsRow_next HO1h ((Below.refl W10.heap.size W10).alloc (Nat.le_refl _) (.cells ⟨oqL o⟩ 95));have hH2:(fun W=>Cz6 W (w.heap.size+1) o.k o.c o.s o.a o.n (.int .i32 o.ch)) (W10.alloc (.cells ⟨oqL o⟩ 95)):=hHeld
    change wpAnyH _ _ _ _ _ _ _ _ (W10.alloc (.cells ⟨oqL o⟩ 95))
    clear hHeld HA8 HO1h;have hHeld:=hH2;have HA8:=HA2;clear hH2 HA2;have HO1h:=HO1h2;clear HO1h2;generalize (W10.alloc (.cells ⟨oqL o⟩ 95))=W11 at *
    generalize W10.heap.size=Y at *
    have HO1:=Lh HO1h;clear HO1h;refine rd1 6 (by kernel_rfl) rfl fun KK hK=>?_
    rw [if_pos (by rfl)];refine wp_append_at _ (.tmp 11) (.tmp 13) 42 rfl X 95 i0 zOq 6 48 Tryz.underlying42 hi0 hz0 hz1 hz2 rfl (by decide) _ (0+m.length) _ rfl HO1.out ⟨Y,0,none⟩ 1 1 (oqL o) rfl rfl (hYo.cells rfl) (oq_one o) (by unfold maxLen; omega) (by omega) (by omega) ?_;intro v2 W12 ho2 hg2 _
    have hb2:Below X W11 W12:=Below.of_grown hg2 (by omega) (own_ge HO1.out);go_wp2_with fail
    refine hK.out _ _ ((let h:=HA8.out.grow hb2 (by omega); h.bo.c6)) ?_;clear hK KK hHeld;intro hHeld
    try simp only [LAY]
    have HA2:=Lh (HA8.out.grow hb2 (by omega));have hi2:IsO W12 v2 M:=by rw [HME.out]; exact Sl.of (by rw [List.length_append,List.flatMap_append,show m.length+[o].length=0+m.length+1 by simp]; simpa using ho2)
    clear HA8 ho2 hg2 hb2;obtain ⟨a2,c2,rfl,hd1,hd2⟩:=hi2.form;have HI2:=Lh hi2;clear hi2;have x0:=HA2.out.bv.cell 0 rfl;have f0:=HA2.out.bv.free 0;refine tq 7 (.pointer (some ⟨w.heap.size,0,none⟩)) hHeld ?_;refine rd1 8 (by kernel_rfl) rfl fun KK hK=>?_
    go_simp
    go_wp2_with fail
    refine hK.out _ _ ((let h:=HA2.out.put (.slice a2 M.length c2); h.bo.c6)) ?_;clear hK KK hHeld;intro hHeld
    try simp only [LAY]
    have HA3:=Lh (And.intro (HA2.out.put (.slice a2 M.length c2)) (Sl.set HA2.out.bv (by decide) 0 (.slice a2 M.length c2) HI2.out));refine dnH ?_;clear hHeld x0 f0;exact HG.out _ _ _ _ _ _ HA3.out.1 HA3.out.2
   ·go_simp
    go_wp2_with fail
    refine hK.out _ _ ((let h:=HA8.out.next ((Below.refl W9.heap.size W9).alloc (Nat.le_refl _) (.cells ⟨oqL o⟩ 95)); h.bo.c6)) ?_;clear hK KK hHeld;intro hHeld
    try simp only [LAY]
    have hYo:=own_new W9 (oqL o) 6 rfl 95;have HA2:=Lh (HA8.out.next ((Below.refl W9.heap.size W9).alloc (Nat.le_refl _) (.cells ⟨oqL o⟩ 95)));have hsY:=HA8.out.b3.lt;have hzY:W9.heap.size+1≤(W9.alloc (.cells ⟨oqL o⟩ 95)).heap.size:=by simp
    have hXo2:=ownsRow_next hXo ((Below.refl W9.heap.size W9).alloc (Nat.le_refl _) (.cells ⟨oqL o⟩ 95));have hXY:X<W9.heap.size:=own_lt hXo _ rfl;have hH2:(fun W=>Cz6 W (w.heap.size+1) o.k o.c o.s o.a o.n (.int .i32 o.ch)) (W9.alloc (.cells ⟨oqL o⟩ 95)):=hHeld
    change wpAnyH _ _ _ _ _ _ _ _ (W9.alloc (.cells ⟨oqL o⟩ 95))
    clear hHeld HA8 hXo;have hHeld:=hH2;have HA8:=HA2;clear hH2 HA2;have hXo:=hXo2;clear hXo2;generalize (W9.alloc (.cells ⟨oqL o⟩ 95))=W10 at *
    generalize W9.heap.size=Y at *
    refine rd1 3 (by kernel_rfl) rfl fun KK hK=>?_
    rw [if_pos (by rfl)];refine wp_append_sl _ (.tmp 8) (.tmp 10) 42 rfl X 95 i0 zOq 6 48 Tryz.underlying42 hi0 hz0 hz1 hz2 rfl (by decide) _ 0 [] rfl hXo oqL_len oq_one _ m rfl (HM.out.next HA8.out.bel) (by unfold maxLen; omega) (by omega) (by omega) ?_;intro v1 W11 ho1 hg1
    have hb1:Below X W10 W11:=Below.of_grown hg1 (by omega) (own_ge hXo);go_wp2_with fail
    refine hK.out _ _ ((let h:=HA8.out.grow hb1 (by omega); h.bo.c6)) ?_;clear hK KK hHeld;intro hHeld
    try simp only [LAY]
    have HO1:=Lh ho1;have hs1:=hg1.size;have HA2:=Lh (HA8.out.grow hb1 (by omega));clear HA8;have HA8:=HA2;have hY2:=own_apart hYo hg1 (fun r e1 e2=>by cases e1; cases e2; omega);clear hYo;have hYo:=hY2;clear hY2;clear ho1 hg1 hb1 HA2 hXo;refine rd1 6 (by kernel_rfl) rfl fun KK hK=>?_
    rw [if_pos (by rfl)];refine wp_append_at _ (.tmp 11) (.tmp 13) 42 rfl X 95 i0 zOq 6 48 Tryz.underlying42 hi0 hz0 hz1 hz2 rfl (by decide) _ (0+m.length) _ rfl HO1.out ⟨Y,0,none⟩ 1 1 (oqL o) rfl rfl (hYo.cells rfl) (oq_one o) (by unfold maxLen; omega) (by omega) (by omega) ?_;intro v2 W12 ho2 hg2 _
    have hb2:Below X W11 W12:=Below.of_grown hg2 (by omega) (own_ge HO1.out);go_wp2_with fail
    refine hK.out _ _ ((let h:=HA8.out.grow hb2 (by omega); h.bo.c6)) ?_;clear hK KK hHeld;intro hHeld
    try simp only [LAY]
    have HA2:=Lh (HA8.out.grow hb2 (by omega));have hi2:IsO W12 v2 M:=by rw [HME.out]; exact Sl.of (by rw [List.length_append,List.flatMap_append,show m.length+[o].length=0+m.length+1 by simp]; simpa using ho2)
    clear HA8 ho2 hg2 hb2;obtain ⟨a2,c2,rfl,hd1,hd2⟩:=hi2.form;have HI2:=Lh hi2;clear hi2;have x0:=HA2.out.bv.cell 0 rfl;have f0:=HA2.out.bv.free 0;refine tq 7 (.pointer (some ⟨w.heap.size,0,none⟩)) hHeld ?_;refine rd1 8 (by kernel_rfl) rfl fun KK hK=>?_
    go_simp
    go_wp2_with fail
    refine hK.out _ _ ((let h:=HA2.out.put (.slice a2 M.length c2); h.bo.c6)) ?_;clear hK KK hHeld;intro hHeld
    try simp only [LAY]
    have HA3:=Lh (And.intro (HA2.out.put (.slice a2 M.length c2)) (Sl.set HA2.out.bv (by decide) 0 (.slice a2 M.length c2) HI2.out));refine dnH ?_;clear hHeld x0 f0;exact HG.out _ _ _ _ _ _ HA3.out.1 HA3.out.2
  ·go_simp
   go_wp2_with fail
   refine hK.out _ _ ((let h:=HA8.out.next ((Below.refl W8.heap.size W8).alloc (Nat.le_refl _) (.cells ⟨oqL o⟩ 95)); h.bo.c6)) ?_;clear hK KK hHeld;intro hHeld
   try simp only [LAY]
   have hYo:=own_new W8 (oqL o) 6 rfl 95;have HA2:=Lh (HA8.out.next ((Below.refl W8.heap.size W8).alloc (Nat.le_refl _) (.cells ⟨oqL o⟩ 95)));have hsY:=HA8.out.b3.lt;have hzY:W8.heap.size+1≤(W8.alloc (.cells ⟨oqL o⟩ 95)).heap.size:=by simp
   have hH2:(fun W=>Cz6 W (w.heap.size+1) o.k o.c o.s o.a o.n (.int .i32 o.ch)) (W8.alloc (.cells ⟨oqL o⟩ 95)):=hHeld
   change wpAnyH _ _ _ _ _ _ _ _ (W8.alloc (.cells ⟨oqL o⟩ 95))
   clear hHeld HA8;have hHeld:=hH2;have HA8:=HA2;clear hH2 HA2;generalize (W8.alloc (.cells ⟨oqL o⟩ 95))=W9 at *
   generalize W8.heap.size=Y at *
   refine rd1 0 (by kernel_rfl) rfl fun KK hK=>?_
   go_simp
   go_wp2_with fail
   refine hK.out _ _ ((let h:=HA8.out.next ((Below.refl W9.heap.size W9).alloc (Nat.le_refl _) (.cells ⟨[]⟩ 95)); h.bo.c6)) ?_;clear hK KK hHeld;intro hHeld
   try simp only [LAY]
   have hXo:=own_zero W9 6 95;have HA2:=Lh (HA8.out.next ((Below.refl W9.heap.size W9).alloc (Nat.le_refl _) (.cells ⟨[]⟩ 95)));have hsX:=HA8.out.b3.lt;have hzX:W9.heap.size+1≤(W9.alloc (.cells ⟨[]⟩ 95)).heap.size:=by simp
   have hYo2:=ownsRow_next hYo ((Below.refl W9.heap.size W9).alloc (Nat.le_refl _) (.cells ⟨[]⟩ 95));have hXY:Y<W9.heap.size:=own_lt hYo _ rfl;have hH2:(fun W=>Cz6 W (w.heap.size+1) o.k o.c o.s o.a o.n (.int .i32 o.ch)) (W9.alloc (.cells ⟨[]⟩ 95)):=hHeld
   change wpAnyH _ _ _ _ _ _ _ _ (W9.alloc (.cells ⟨[]⟩ 95))
   clear hHeld HA8 hYo;have hHeld:=hH2;have HA8:=HA2;clear hH2 HA2;have hYo:=hYo2;clear hYo2;generalize (W9.alloc (.cells ⟨[]⟩ 95))=W10 at *
   generalize W9.heap.size=X at *
   refine rd1 3 (by kernel_rfl) rfl fun KK hK=>?_
   rw [if_pos (by rfl)];refine wp_append_sl _ (.tmp 8) (.tmp 10) 42 rfl X 95 i0 zOq 6 48 Tryz.underlying42 hi0 hz0 hz1 hz2 rfl (by decide) _ 0 [] rfl hXo oqL_len oq_one _ m rfl (HM.out.next HA8.out.bel) (by unfold maxLen; omega) (by omega) (by omega) ?_;intro v1 W11 ho1 hg1
   have hb1:Below X W10 W11:=Below.of_grown hg1 (by omega) (own_ge hXo);go_wp2_with fail
   refine hK.out _ _ ((let h:=HA8.out.grow hb1 (by omega); h.bo.c6)) ?_;clear hK KK hHeld;intro hHeld
   try simp only [LAY]
   have HO1:=Lh ho1;have hs1:=hg1.size;have HA2:=Lh (HA8.out.grow hb1 (by omega));clear HA8;have HA8:=HA2;have hY2:=own_apart hYo hg1 (fun r e1 e2=>by cases e1; cases e2; omega);clear hYo;have hYo:=hY2;clear hY2;clear ho1 hg1 hb1 HA2 hXo;refine rd1 6 (by kernel_rfl) rfl fun KK hK=>?_
   rw [if_pos (by rfl)];refine wp_append_at _ (.tmp 11) (.tmp 13) 42 rfl X 95 i0 zOq 6 48 Tryz.underlying42 hi0 hz0 hz1 hz2 rfl (by decide) _ (0+m.length) _ rfl HO1.out ⟨Y,0,none⟩ 1 1 (oqL o) rfl rfl (hYo.cells rfl) (oq_one o) (by unfold maxLen; omega) (by omega) (by omega) ?_;intro v2 W12 ho2 hg2 _
   have hb2:Below X W11 W12:=Below.of_grown hg2 (by omega) (own_ge HO1.out);go_wp2_with fail
   refine hK.out _ _ ((let h:=HA8.out.grow hb2 (by omega); h.bo.c6)) ?_;clear hK KK hHeld;intro hHeld
   try simp only [LAY]
   have HA2:=Lh (HA8.out.grow hb2 (by omega));have hi2:IsO W12 v2 M:=by rw [HME.out]; exact Sl.of (by rw [List.length_append,List.flatMap_append,show m.length+[o].length=0+m.length+1 by simp]; simpa using ho2)
   clear HA8 ho2 hg2 hb2;obtain ⟨a2,c2,rfl,hd1,hd2⟩:=hi2.form;have HI2:=Lh hi2;clear hi2;have x0:=HA2.out.bv.cell 0 rfl;have f0:=HA2.out.bv.free 0;refine tq 7 (.pointer (some ⟨w.heap.size,0,none⟩)) hHeld ?_;refine rd1 8 (by kernel_rfl) rfl fun KK hK=>?_
   go_simp
   go_wp2_with fail
   refine hK.out _ _ ((let h:=HA2.out.put (.slice a2 M.length c2); h.bo.c6)) ?_;clear hK KK hHeld;intro hHeld
   try simp only [LAY]
   have HA3:=Lh (And.intro (HA2.out.put (.slice a2 M.length c2)) (Sl.set HA2.out.bv (by decide) 0 (.slice a2 M.length c2) HI2.out));refine dnH ?_;clear hHeld x0 f0;exact HG.out _ _ _ _ _ _ HA3.out.1 HA3.out.2
 ·go_simp
  go_wp2_with fail
  refine hK.out _ _ ((let h:=HA8.out.next ((Below.refl W8.heap.size W8).alloc (Nat.le_refl _) (.cells ⟨oqL o⟩ 95)); h.bo.c6)) ?_;clear hK KK hHeld;intro hHeld
  try simp only [LAY]
  have hYo:=own_new W8 (oqL o) 6 rfl 95;have HA2:=Lh (HA8.out.next ((Below.refl W8.heap.size W8).alloc (Nat.le_refl _) (.cells ⟨oqL o⟩ 95)));have hsY:=HA8.out.b3.lt;have hzY:W8.heap.size+1≤(W8.alloc (.cells ⟨oqL o⟩ 95)).heap.size:=by simp
  have hH2:(fun W=>Cz6 W (w.heap.size+1) o.k o.c o.s o.a o.n (.int .i32 o.ch)) (W8.alloc (.cells ⟨oqL o⟩ 95)):=hHeld
  change wpAnyH _ _ _ _ _ _ _ _ (W8.alloc (.cells ⟨oqL o⟩ 95))
  clear hHeld HA8;have hHeld:=hH2;have HA8:=HA2;clear hH2 HA2;generalize (W8.alloc (.cells ⟨oqL o⟩ 95))=W9 at *
  generalize W8.heap.size=Y at *
  refine wpAnyH_ready (rs:=[0,2]) (by kernel_rfl) (by simp) ?_;refine cons1 rfl (fun KK hK=>?_) (cons1 rfl (fun KK hK=>?_) AllReadyH.nil)
  ·go_simp
   go_wp2_with fail
   refine hK.out _ _ ((let h:=HA8.out.next ((Below.refl W9.heap.size W9).alloc (Nat.le_refl _) (.cells ⟨[]⟩ 95)); h.bo.c6)) ?_;clear hK KK hHeld;intro hHeld
   try simp only [LAY]
   have hXo:=own_zero W9 6 95;have HA2:=Lh (HA8.out.next ((Below.refl W9.heap.size W9).alloc (Nat.le_refl _) (.cells ⟨[]⟩ 95)));have hsX:=HA8.out.b3.lt;have hzX:W9.heap.size+1≤(W9.alloc (.cells ⟨[]⟩ 95)).heap.size:=by simp
   have hYo2:=ownsRow_next hYo ((Below.refl W9.heap.size W9).alloc (Nat.le_refl _) (.cells ⟨[]⟩ 95));have hXY:Y<W9.heap.size:=own_lt hYo _ rfl;have hH2:(fun W=>Cz6 W (w.heap.size+1) o.k o.c o.s o.a o.n (.int .i32 o.ch)) (W9.alloc (.cells ⟨[]⟩ 95)):=hHeld
   change wpAnyH _ _ _ _ _ _ _ _ (W9.alloc (.cells ⟨[]⟩ 95))
   clear hHeld HA8 hYo;have hHeld:=hH2;have HA8:=HA2;clear hH2 HA2;have hYo:=hYo2;clear hYo2;generalize (W9.alloc (.cells ⟨[]⟩ 95))=W10 at *
   generalize W9.heap.size=X at *
   refine rd1 2 (by kernel_rfl) rfl fun KK hK=>?_
   rw [if_pos (by rfl)];have x0:=HA8.out.bv.cell 0 rfl;go_simp
   go_wp2_with fail
   refine hK.out _ _ ((let h:=HA8.out; h.bo.c6)) ?_;clear hK KK hHeld x0;intro hHeld
   try simp only [LAY]
   refine rd1 3 (by kernel_rfl) rfl fun KK hK=>?_
   rw [if_pos (by rfl)];refine wp_append_sl _ (.tmp 8) (.tmp 10) 42 rfl X 95 i0 zOq 6 48 Tryz.underlying42 hi0 hz0 hz1 hz2 rfl (by decide) _ 0 [] rfl hXo oqL_len oq_one _ m rfl (HM.out.next HA8.out.bel) (by unfold maxLen; omega) (by omega) (by omega) ?_;intro v1 W11 ho1 hg1
   have hb1:Below X W10 W11:=Below.of_grown hg1 (by omega) (own_ge hXo);go_wp2_with fail
   refine hK.out _ _ ((let h:=HA8.out.grow hb1 (by omega); h.bo.c6)) ?_;clear hK KK hHeld;intro hHeld
   try simp only [LAY]
   have HO1:=Lh ho1;have hs1:=hg1.size;have HA2:=Lh (HA8.out.grow hb1 (by omega));clear HA8;have HA8:=HA2;have hY2:=own_apart hYo hg1 (fun r e1 e2=>by cases e1; cases e2; omega);clear hYo;have hYo:=hY2;clear hY2;clear ho1 hg1 hb1 HA2 hXo;refine rd1 6 (by kernel_rfl) rfl fun KK hK=>?_
   rw [if_pos (by rfl)];refine wp_append_at _ (.tmp 11) (.tmp 13) 42 rfl X 95 i0 zOq 6 48 Tryz.underlying42 hi0 hz0 hz1 hz2 rfl (by decide) _ (0+m.length) _ rfl HO1.out ⟨Y,0,none⟩ 1 1 (oqL o) rfl rfl (hYo.cells rfl) (oq_one o) (by unfold maxLen; omega) (by omega) (by omega) ?_;intro v2 W12 ho2 hg2 _
   have hb2:Below X W11 W12:=Below.of_grown hg2 (by omega) (own_ge HO1.out);go_wp2_with fail
   refine hK.out _ _ ((let h:=HA8.out.grow hb2 (by omega); h.bo.c6)) ?_;clear hK KK hHeld;intro hHeld
   try simp only [LAY]
   have HA2:=Lh (HA8.out.grow hb2 (by omega));have hi2:IsO W12 v2 M:=by rw [HME.out]; exact Sl.of (by rw [List.length_append,List.flatMap_append,show m.length+[o].length=0+m.length+1 by simp]; simpa using ho2)
   clear HA8 ho2 hg2 hb2;obtain ⟨a2,c2,rfl,hd1,hd2⟩:=hi2.form;have HI2:=Lh hi2;clear hi2;have x0:=HA2.out.bv.cell 0 rfl;have f0:=HA2.out.bv.free 0;refine tq 7 (.pointer (some ⟨w.heap.size,0,none⟩)) hHeld ?_;refine rd1 8 (by kernel_rfl) rfl fun KK hK=>?_
   go_simp
   go_wp2_with fail
   refine hK.out _ _ ((let h:=HA2.out.put (.slice a2 M.length c2); h.bo.c6)) ?_;clear hK KK hHeld;intro hHeld
   try simp only [LAY]
   have HA3:=Lh (And.intro (HA2.out.put (.slice a2 M.length c2)) (Sl.set HA2.out.bv (by decide) 0 (.slice a2 M.length c2) HI2.out));refine dnH ?_;clear hHeld x0 f0;exact HG.out _ _ _ _ _ _ HA3.out.1 HA3.out.2
  ·rw [if_pos (by rfl)]
   have x0:=HA8.out.bv.cell 0 rfl;go_simp
   go_wp2_with fail
   refine hK.out _ _ ((let h:=HA8.out; h.bo.c6)) ?_;clear hK KK hHeld x0;intro hHeld
   try simp only [LAY]
   refine rd1 0 (by kernel_rfl) rfl fun KK hK=>?_
   go_simp
   go_wp2_with fail
   refine hK.out _ _ ((let h:=HA8.out.next ((Below.refl W9.heap.size W9).alloc (Nat.le_refl _) (.cells ⟨[]⟩ 95)); h.bo.c6)) ?_;clear hK KK hHeld;intro hHeld
   try simp only [LAY]
   have hXo:=own_zero W9 6 95;have HA2:=Lh (HA8.out.next ((Below.refl W9.heap.size W9).alloc (Nat.le_refl _) (.cells ⟨[]⟩ 95)));have hsX:=HA8.out.b3.lt;have hzX:W9.heap.size+1≤(W9.alloc (.cells ⟨[]⟩ 95)).heap.size:=by simp
   have hYo2:=ownsRow_next hYo ((Below.refl W9.heap.size W9).alloc (Nat.le_refl _) (.cells ⟨[]⟩ 95));have hXY:Y<W9.heap.size:=own_lt hYo _ rfl;have hH2:(fun W=>Cz6 W (w.heap.size+1) o.k o.c o.s o.a o.n (.int .i32 o.ch)) (W9.alloc (.cells ⟨[]⟩ 95)):=hHeld
   change wpAnyH _ _ _ _ _ _ _ _ (W9.alloc (.cells ⟨[]⟩ 95))
   clear hHeld HA8 hYo;have hHeld:=hH2;have HA8:=HA2;clear hH2 HA2;have hYo:=hYo2;clear hYo2;generalize (W9.alloc (.cells ⟨[]⟩ 95))=W10 at *
   generalize W9.heap.size=X at *
   refine rd1 3 (by kernel_rfl) rfl fun KK hK=>?_
   rw [if_pos (by rfl)];refine wp_append_sl _ (.tmp 8) (.tmp 10) 42 rfl X 95 i0 zOq 6 48 Tryz.underlying42 hi0 hz0 hz1 hz2 rfl (by decide) _ 0 [] rfl hXo oqL_len oq_one _ m rfl (HM.out.next HA8.out.bel) (by unfold maxLen; omega) (by omega) (by omega) ?_;intro v1 W11 ho1 hg1
   have hb1:Below X W10 W11:=Below.of_grown hg1 (by omega) (own_ge hXo);go_wp2_with fail
   refine hK.out _ _ ((let h:=HA8.out.grow hb1 (by omega); h.bo.c6)) ?_;clear hK KK hHeld;intro hHeld
   try simp only [LAY]
   have HO1:=Lh ho1;have hs1:=hg1.size;have HA2:=Lh (HA8.out.grow hb1 (by omega));clear HA8;have HA8:=HA2;have hY2:=own_apart hYo hg1 (fun r e1 e2=>by cases e1; cases e2; omega);clear hYo;have hYo:=hY2;clear hY2;clear ho1 hg1 hb1 HA2 hXo;refine rd1 6 (by kernel_rfl) rfl fun KK hK=>?_
   rw [if_pos (by rfl)];refine wp_append_at _ (.tmp 11) (.tmp 13) 42 rfl X 95 i0 zOq 6 48 Tryz.underlying42 hi0 hz0 hz1 hz2 rfl (by decide) _ (0+m.length) _ rfl HO1.out ⟨Y,0,none⟩ 1 1 (oqL o) rfl rfl (hYo.cells rfl) (oq_one o) (by unfold maxLen; omega) (by omega) (by omega) ?_;intro v2 W12 ho2 hg2 _
   have hb2:Below X W11 W12:=Below.of_grown hg2 (by omega) (own_ge HO1.out);go_wp2_with fail
   refine hK.out _ _ ((let h:=HA8.out.grow hb2 (by omega); h.bo.c6)) ?_;clear hK KK hHeld;intro hHeld
   try simp only [LAY]
   have HA2:=Lh (HA8.out.grow hb2 (by omega));have hi2:IsO W12 v2 M:=by rw [HME.out]; exact Sl.of (by rw [List.length_append,List.flatMap_append,show m.length+[o].length=0+m.length+1 by simp]; simpa using ho2)
   clear HA8 ho2 hg2 hb2;obtain ⟨a2,c2,rfl,hd1,hd2⟩:=hi2.form;have HI2:=Lh hi2;clear hi2;have x0:=HA2.out.bv.cell 0 rfl;have f0:=HA2.out.bv.free 0;refine tq 7 (.pointer (some ⟨w.heap.size,0,none⟩)) hHeld ?_;refine rd1 8 (by kernel_rfl) rfl fun KK hK=>?_
   go_simp
   go_wp2_with fail
   refine hK.out _ _ ((let h:=HA2.out.put (.slice a2 M.length c2); h.bo.c6)) ?_;clear hK KK hHeld;intro hHeld
   try simp only [LAY]
   have HA3:=Lh (And.intro (HA2.out.put (.slice a2 M.length c2)) (Sl.set HA2.out.bv (by decide) 0 (.slice a2 M.length c2) HI2.out));refine dnH ?_;clear hHeld x0 f0;exact HG.out _ _ _ _ _ _ HA3.out.1 HA3.out.2
end Go.Proofs.YtifnijmienmmbaaGreatDoor
