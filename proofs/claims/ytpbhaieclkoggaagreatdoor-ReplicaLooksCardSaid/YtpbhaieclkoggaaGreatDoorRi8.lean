import Derived.Test.YtpbhaieclkoggaaGreatDoorRb
set_option maxRecDepth 100000
set_option maxHeartbeats 12800000
namespace Go.Proofs.YtpbhaieclkoggaaGreatDoor
open Go Go.Proofs Go.RowKit
def IsC (W:World) (v:Value) (L:List Chg):Prop:=Sl 111 6 chgL W v L
theorem IsC.next {W W':World} {v:Value} {L:List Chg} (h:IsC W v L) (hb:Below W.heap.size W W'):IsC W' v L:=Sl.next h hb
def zCh:Value:=.agg #[.int .i64 0,.int .i64 0,.int .i64 0,.int .i64 0,.int .i32 0,.bool false]
theorem infoCh:(Tryz.prog.info? 111).map (fun i=>(i.zero,i.size,i.bytes))=some (some zCh,6,40):=by kernel_rfl
structure Rm8 (w:World) (o:Oq) (m l:List Oq) (vm vl:Value) (W:World):Prop where
 bel:Below w.heap.size w W
 bv:Blk W w.heap.size [vm,vl] 47
 bo:Blk W (w.heap.size+1) (oqL o) 70
 b2:Blk W (w.heap.size+1+1) [.slice none 0 0,.slice none 0 0] 47
 io:IsO W vm m
 il:IsO W vl l
theorem Rm8.next {w:World} {o:Oq} {m l:List Oq} {vm vl:Value} {W W':World} (h:Rm8 w o m l vm vl W) (hb:Below W.heap.size W W'):Rm8 w o m l vm vl W':=
 ⟨h.bel.trans (hb.mono h.bel.size),h.bv.next hb,h.bo.next hb,h.b2.next hb,h.io.next hb,h.il.next hb⟩
theorem Rm8.start (w:World) (o:Oq) (m l:List Oq) (vm vl:Value) (hM:IsO w vm m) (hL:IsO w vl l):Rm8 w o m l vm vl (((w.alloc (.cells #[vm,vl] 47)).alloc (.cells #[o.k,o.c,o.s,o.a,o.n,.int .i32 o.ch] 70)).alloc (.cells #[.slice none 0 0,.slice none 0 0] 47)):=by
 have hb:Below w.heap.size w (((w.alloc (.cells #[vm,vl] 47)).alloc (.cells #[o.k,o.c,o.s,o.a,o.n,.int .i32 o.ch] 70)).alloc (.cells #[.slice none 0 0,.slice none 0 0] 47)):=((bA).alloc (by simp) _).alloc (by simp; omega) _;refine ⟨hb,?_,?_,?_,hM.next hb,hL.next hb⟩
 ·exact ((Blk.startAt (b:=w.heap.size) rfl).alloc _).alloc _
 ·exact (Blk.startAt (b:=w.heap.size+1) (by simp)).alloc _
 ·exact Blk.startAt (b:=w.heap.size+1+1) (by simp)
theorem Rm8.put1 {w:World} {o:Oq} {m l l2:List Oq} {vm vl x:Value} {W:World} (h:Rm8 w o m l vm vl W) (hx:IsO W x l2):Rm8 w o m l2 vm x (W.setCell ⟨w.heap.size,1,none⟩ x):=
 ⟨h.bel.setCell (p:=⟨w.heap.size,1,none⟩) (Nat.le_refl _) _,h.bv.set 1 x,h.bo.other ⟨w.heap.size,1,none⟩ (by simp) _,h.b2.other ⟨w.heap.size,1,none⟩ (by show w.heap.size+1+1≠w.heap.size; omega) _,Sl.set h.bv (by decide) 1 x h.io,Sl.set h.bv (by decide) 1 x hx⟩
theorem Rm8.put2 {w:World} {o:Oq} {m m2 l l2:List Oq} {vm vl x y:Value} {W:World} (h:Rm8 w o m l vm vl W) (hx:IsO W x m2) (hy:IsO W y l2):Rm8 w o m2 l2 x y ((W.setCell ⟨w.heap.size,0,none⟩ x).setCell ⟨w.heap.size,1,none⟩ y):=by
 have b1:=h.bv.set 0 x;exact ⟨(h.bel.setCell (p:=⟨w.heap.size,0,none⟩) (Nat.le_refl _) _).setCell (p:=⟨w.heap.size,1,none⟩) (Nat.le_refl _) _,b1.set 1 y,(h.bo.other ⟨w.heap.size,0,none⟩ (by simp) _).other ⟨w.heap.size,1,none⟩ (by simp) _,
  (h.b2.other ⟨w.heap.size,0,none⟩ (by show w.heap.size+1+1≠w.heap.size; omega) _).other ⟨w.heap.size,1,none⟩ (by show w.heap.size+1+1≠w.heap.size; omega) _,
  Sl.set b1 (by decide) 1 y (Sl.set h.bv (by decide) 0 x hx),Sl.set b1 (by decide) 1 y (Sl.set h.bv (by decide) 0 x hy)⟩
theorem Rm8.ret {w:World} {o:Oq} {m l:List Oq} {vm vl:Value} {W:World} (h:Rm8 w o m l vm vl W) (x y:Value) {a:List Chg} {cs:Value} (hc:IsC W cs a):
  IsO ((W.setCell ⟨w.heap.size+1+1,0,none⟩ x).setCell ⟨w.heap.size+1+1,1,none⟩ y) vm m∧IsO ((W.setCell ⟨w.heap.size+1+1,0,none⟩ x).setCell ⟨w.heap.size+1+1,1,none⟩ y) vl l ∧
  IsC ((W.setCell ⟨w.heap.size+1+1,0,none⟩ x).setCell ⟨w.heap.size+1+1,1,none⟩ y) cs a∧Below w.heap.size w ((W.setCell ⟨w.heap.size+1+1,0,none⟩ x).setCell ⟨w.heap.size+1+1,1,none⟩ y):=by
 have b1:=h.b2.set 0 x;have hle:w.heap.size≤w.heap.size+1+1:=by omega
 exact ⟨Sl.set b1 (by decide) 1 y (Sl.set h.b2 (by decide) 0 x h.io),Sl.set b1 (by decide) 1 y (Sl.set h.b2 (by decide) 0 x h.il),Sl.set b1 (by decide) 1 y (Sl.set h.b2 (by decide) 0 x hc),
  (h.bel.setCell (p:=⟨w.heap.size+1+1,0,none⟩) hle _).setCell (p:=⟨w.heap.size+1+1,1,none⟩) hle _⟩
theorem own_low {W:World} {b b' size n:Nat} {e:TypeId} {v:Value} {xs:List Value} (h:W.ownsRow b e size v n xs) (hb:b'≤b):W.ownsRow b' e size v n xs:=by
 refine ⟨h.1,?_⟩;rcases h.2 with h | ⟨g,cap,cur,hv,hg,h⟩
 ·exact .inl h
 ·exact .inr ⟨g,cap,cur,hv,Nat.le_trans hb hg,h⟩
structure Rl8 (w:World) (o:Oq) (m l:List Oq) (vm vl:Value) (a:List Chg) (cs:Value) (W:World):Prop where
 rm:Rm8 w o m l vm vl W
 own:W.ownsRow (w.heap.size+1+1+1) 111 6 cs a.length (a.flatMap chgL)
theorem Rl8.next {w:World} {o:Oq} {m l:List Oq} {vm vl:Value} {a:List Chg} {cs:Value} {W W':World} (h:Rl8 w o m l vm vl a cs W) (hb:Below W.heap.size W W'):Rl8 w o m l vm vl a cs W':=⟨h.rm.next hb,ownsRow_next h.own hb⟩
theorem Rl8.put1 {w:World} {o:Oq} {m l l2:List Oq} {vm vl x:Value} {a:List Chg} {cs:Value} {W:World} (h:Rl8 w o m l vm vl a cs W) (hx:IsO W x l2):Rl8 w o m l2 vm x a cs (W.setCell ⟨w.heap.size,1,none⟩ x):=
 ⟨h.rm.put1 hx,own_kt h.own (KT.set h.rm.bv (by decide) 1 x)⟩
theorem Rl8.put2 {w:World} {o:Oq} {m m2 l l2:List Oq} {vm vl x y:Value} {a:List Chg} {cs:Value} {W:World} (h:Rl8 w o m l vm vl a cs W) (hx:IsO W x m2) (hy:IsO W y l2):Rl8 w o m2 l2 x y a cs ((W.setCell ⟨w.heap.size,0,none⟩ x).setCell ⟨w.heap.size,1,none⟩ y):=
 ⟨h.rm.put2 hx hy,own_kt h.own ((KT.set h.rm.bv (by decide) 0 x).trans (KT.set (h.rm.bv.set 0 x) (by decide) 1 y))⟩
theorem Rl8.grow {w:World} {o:Oq} {m l:List Oq} {vm vl:Value} {a:List Chg} {cs v2:Value} {cg:Chg} {W W2:World} (h:Rl8 w o m l vm vl a cs W)
  (ho:W2.ownsRow (w.heap.size+1+1+1) 111 6 v2 (a.length+1) (a.flatMap chgL++chgL cg)) (hg:W.grownBy W2 cs.ownBlock):Rl8 w o m l vm vl (a++[cg]) v2 W2:=by
 have hs:w.heap.size+1+1+1≤W.heap.size:=h.rm.b2.lt;have hlow:Below (w.heap.size+1+1+1) W W2:=Below.of_grown hg hs (own_ge h.own);exact ⟨⟨h.rm.bel.trans (hlow.mono (by omega)),h.rm.bv.below hlow (by omega),h.rm.bo.below hlow (by omega),h.rm.b2.below hlow (by omega),Sl.apart h.rm.io h.own (by decide) hg,Sl.apart h.rm.il h.own (by decide) hg⟩,
  by rw [List.length_append,List.flatMap_append]; simpa using ho⟩
theorem nxI_two (m l:List Oq):nxI m l = -1∨∃ i:Nat,nxI m l=(i:Int)∧i<l.length:=by
 rcases fnd_spec (nxB m) l 0 with ⟨h,_⟩ | ⟨i,hi,h,_⟩
 ·exact .inl h
 ·exact .inr ⟨i,by unfold nxI; rw [h]; simp,hi⟩
theorem refRemote_any (m l:List Oq) (o:Oq) (hO:OkO m) (hl:l.length≤16) (hm:m.length≤800) (vm vl:Value) (w:World) (hM:IsO w vm m) (hL:IsO w vl l):
  Calls Tryz.prog 25 #[.agg #[vm,vl],.agg #[o.k,o.c,o.s,o.a,o.n,.int .i32 o.ch]] w
   fun e w'=>∃ vm' vl' cs,e=.returned (.tuple #[.agg #[vm',vl'],cs,.int .i64 (remE m l o)])∧IsO w' vm' (remT m l o).1∧IsO w' vl' (remT m l o).2.1∧IsC w' cs (remT m l o).2.2∧Below w.heap.size w w':=by
 have H0:=Lh (Rm8.start w o m l vm vl hM hL);obtain ⟨ad,cap,rfl,hc1,hc2⟩:=hM.form;obtain ⟨al,cl,rfl,hc3,hc4⟩:=hL.form;have HWR:=Lh (fun v W (h:IsO W v m)=>refWrong_any m o (by omega) v W h);have HOK:=Lh hO;have hnil:∀ W,IsC W (.slice none 0 0) []:=fun W=>.inl ⟨rfl,rfl⟩
 have HNI:=Lh hnil;clear hM hL hO hnil;obtain ⟨E,hE⟩:∃ E,E=remE m l o:=⟨_,rfl⟩
 obtain ⟨⟨m9,l9,a9⟩,hT⟩:∃ T,T=remT m l o:=⟨_,rfl⟩
 rw [←hE,←hT]
 show Calls Tryz.prog 25 _ w fun e w'=>∃ vm' vl' cs,e=.returned (.tuple #[.agg #[vm',vl'],cs,E])∧IsO w' vm' m9∧IsO w' vl' l9∧IsC w' cs a9∧Below w.heap.size w w'
 have HET:=Lh (And.intro hE hT);clear hE hT;have x0:=H0.out.bv.cell 0 rfl;obtain ⟨y0,y1,y2,y3,y4,y5⟩:=H0.out.bo.c6
 go_enter Tryz.func25,Tryz.ntmps25
 go_wp2_with (go_at_call 67; refine (HWR.out _ _ H0.out.io).mono ?_; rintro e w1 ⟨rfl,hb⟩; refine Hid.out ?_)
 have HA:=Lh (H0.out.next hb);clear H0 hb x0 y0 y1 y2 y3 y4 y5 HWR;by_cases h6:wrongE m o=6
 ·obtain ⟨he,ht⟩:E=addE l o∧(m9,l9,a9)=(m,addL l o,[]):=⟨HET.out.1.trans (by unfold remE; rw [if_pos h6]),HET.out.2.trans (by unfold remT; rw [if_pos h6])⟩
  simp only [Prod.mk.injEq] at ht
  obtain ⟨ht1,ht2,ht3⟩:=ht;have HAD:=Lh (fun v W (h:IsO W v l)=>refAdd_any l o (by omega) v W h);rw [h6];have x1:=HA.out.bv.cell 1 rfl;obtain ⟨y0,y1,y2,y3,y4,y5⟩:=HA.out.bo.c6;have HZ:=Lh (show addE l o≠0→addL l o=l from fun h=>by unfold addL; rw [if_neg h]);generalize addE l o=ae at *
  generalize addL l o=l2 at *
  have HTT:=Lh (And.intro he (And.intro ht1 (And.intro ht2 ht3)));clear h6 he ht1 ht2 ht3;refine Lh ?_;go_wp2_with (go_at_call 68; refine (HAD.out _ _ HA.out.il).mono ?_; rintro e w2 ⟨v2,rfl,hi2,hb⟩; obtain ⟨a2,c2,rfl,hd1,hd2⟩:=hi2.form; refine Hid.out ?_)
  have HB:=Lh (HA.out.next hb);have HI2:=Lh hi2;clear HA hb hi2 x1 y0 y1 y2 y3 y4 y5 HAD;by_cases h0:ae=0
  ·subst h0
   obtain ⟨x0,x1⟩:=HB.out.bv.c2;have fx1:=HB.out.bv.free 1;have HC:=Lh (HB.out.put1 HI2.out);generalize hW:w2.setCell ⟨w.heap.size,1,none⟩ (.slice a2 l2.length c2)=w3 at HC;have z0 := HC.out.b2.c2;have fz0 := HC.out.b2.f2;have v0 := HC.out.bv.c2;refine Lh ?_;go_wp2_with fail
   exact bodyPost_ret (v:=.tuple #[.agg #[.slice ad m.length cap,.slice a2 l2.length c2],.slice none 0 0,.int .i64 0]) (by simp [results, Tryz.results25, go_sem, z0]) rfl (by have h:=HC.out.ret (.slice ad m.length cap) (.slice a2 l2.length c2) (HNI.out _); exact ⟨_,_,_,by rw [HTT.out.1],by rw [HTT.out.2.1]; exact h.1,by rw [HTT.out.2.2.1]; exact h.2.1,by rw [HTT.out.2.2.2]; exact h.2.2.1,h.2.2.2⟩)
  ·have hne:(ae==0)=false:=by simpa using h0
   have HL2:=Lh (HZ.out h0);clear h0 HZ;have z0 := HB.out.b2.c2;have fz0 := HB.out.b2.f2;obtain ⟨x0,x1⟩:=HB.out.bv.c2;refine Lh ?_;go_wp2_with fail
   exact bodyPost_ret (v:=.tuple #[.agg #[.slice ad m.length cap,.slice al l.length cl],.slice none 0 0,ae]) (by simp [results, Tryz.results25, go_sem, z0]) rfl (by have h:=HB.out.ret (.slice ad m.length cap) (.slice al l.length cl) (HNI.out _); exact ⟨_,_,_,by rw [HTT.out.1],by rw [HTT.out.2.1]; exact h.1,by rw [HTT.out.2.2.1,HL2.out]; exact h.2.1,by rw [HTT.out.2.2.2]; exact h.2.2.1,h.2.2.2⟩)
 ·by_cases h0:wrongE m o=0
  rotate_left
  ·obtain ⟨he,ht⟩:E=wrongE m o∧(m9,l9,a9)=(m,l,[]):=⟨HET.out.1.trans (by unfold remE; rw [if_neg h6]),HET.out.2.trans (by unfold remT; rw [if_neg h6,if_neg h0])⟩
   simp only [Prod.mk.injEq] at ht
   obtain ⟨ht1,ht2,ht3⟩:=ht;generalize wrongE m o=ae at *
   have hn6:(ae==6)=false:=by simpa using h6
   have hn0:(ae==0)=false:=by simpa using h0
   have HTT:=Lh (And.intro he (And.intro ht1 (And.intro ht2 ht3)));clear h0 h6 he ht1 ht2 ht3;have z0 := HA.out.b2.c2;have fz0 := HA.out.b2.f2;obtain ⟨x0,x1⟩:=HA.out.bv.c2;refine Lh ?_;go_wp2_with fail
   exact bodyPost_ret (v:=.tuple #[.agg #[.slice ad m.length cap,.slice al l.length cl],.slice none 0 0,ae]) (by simp [results, Tryz.results25, go_sem, z0]) rfl (by have h:=HA.out.ret (.slice ad m.length cap) (.slice al l.length cl) (HNI.out _); exact ⟨_,_,_,by rw [HTT.out.1],by rw [HTT.out.2.1]; exact h.1,by rw [HTT.out.2.2.1]; exact h.2.1,by rw [HTT.out.2.2.2]; exact h.2.2.1,h.2.2.2⟩)
  ·obtain ⟨he,ht⟩:E=0∧(m9,l9,a9)=casG l.length (m++[o]) l [chgO m o]:=⟨HET.out.1.trans (by unfold remE; rw [if_neg h6]; exact h0),HET.out.2.trans (by unfold remT; rw [if_neg h6,if_pos h0])⟩
   subst he;have HTK:=Lh (fun v W (h:IsO W v m) (h2:IsO W (.slice al l.length cl) l)=>refTake_any m l o HOK.out h0 (by omega) v (.slice al l.length cl) W h h2);have HO2:=Lh (wrong_ok HOK.out h0);obtain ⟨M,hME⟩:∃ M,M=m++[o]:=⟨_,rfl⟩
   have hMl:M.length≤801:=by rw [hME]; simp; omega
   rw [←hME] at ht HTK HO2;generalize chgO m o=cg at *
   have HT:=Lh ht;clear h6 hME ht HET;rw [h0];clear h0;obtain ⟨x0,x1⟩:=HA.out.bv.c2;obtain ⟨y0,y1,y2,y3,y4,y5⟩:=HA.out.bo.c6;refine Lh ?_;go_wp2_with (go_at_call 69; refine (HTK.out _ _ HA.out.io HA.out.il).mono ?_; rintro e w2 ⟨v2,rfl,hi2,hb⟩; obtain ⟨a2,c2,rfl,hd1,hd2⟩:=hi2.form; refine Hid.out ?_)
   have HB:=Lh (HA.out.next hb);have HI2:=Lh hi2;clear HA hb hi2 x0 x1 y0 y1 y2 y3 y4 y5 HTK;have hbA:Below w2.heap.size w2 ((w2.alloc (.cells #[.slice a2 M.length c2,.slice al l.length cl] 47)).alloc (.cells #[cg.q,cg.a,cg.c,cg.s,.int .i32 cg.ch,.bool cg.d] 111)):=(bA).alloc (by simp) _;have HC:=Lh (HB.out.next hbA);have HI3:=Lh (HI2.out.next hbA);have hn0:Blk ((w2.alloc (.cells #[.slice a2 M.length c2,.slice al l.length cl] 47)).alloc (.cells #[cg.q,cg.a,cg.c,cg.s,.int .i32 cg.ch,.bool cg.d] 111)) w2.heap.size [.slice a2 M.length c2,.slice al l.length cl] 47:=(Blk.startAt (b:=w2.heap.size) rfl).alloc _;have hn1:Blk ((w2.alloc (.cells #[.slice a2 M.length c2,.slice al l.length cl] 47)).alloc (.cells #[cg.q,cg.a,cg.c,cg.s,.int .i32 cg.ch,.bool cg.d] 111)) (w2.heap.size+1) (chgL cg) 111:=Blk.startAt (by simp);generalize hWA:(w2.alloc (.cells #[.slice a2 M.length c2,.slice al l.length cl] 47)).alloc (.cells #[cg.q,cg.a,cg.c,cg.s,.int .i32 cg.ch,.bool cg.d] 111)=wa at *
   have hs0:=HB.out.bv.lt;clear HB HI2 hbA;obtain ⟨x0,x1⟩:=HC.out.bv.c2;obtain ⟨fx0,fx1⟩:=HC.out.bv.f2;have n0 := hn0.c2;have HD:=Lh (HC.out.put2 HI3.out HC.out.il);have hlt0:=HC.out.bv.lt;have hs2:w.heap.size<w2.heap.size:=hs0;have hn2:=(hn1.other ⟨w.heap.size,0,none⟩ (by show w2.heap.size+1≠w.heap.size; omega) (.slice a2 M.length c2)).other ⟨w.heap.size,1,none⟩ (by show w2.heap.size+1≠w.heap.size; omega) (.slice al l.length cl);generalize hWB:(wa.setCell ⟨w.heap.size,0,none⟩ (.slice a2 M.length c2)).setCell ⟨w.heap.size,1,none⟩ (.slice al l.length cl)=wb at *
   have k0 := hn2.c6;clear hn0 hn1;refine Lh ?_;go_wp2_with fail
   have HL:=Lh (show Rl8 w o M l (.slice a2 M.length c2) (.slice al l.length cl) [cg] (.slice (some ⟨wb.heap.size,0,none⟩) 1 1) (wb.alloc (.cells #[cg.q,cg.a,cg.c,cg.s,.int .i32 cg.ch,.bool cg.d] 111)) from
    ⟨HD.out.next (bA),own_low (own_new wb (chgL cg) 6 rfl _) HD.out.b2.lt⟩)
   clear HD HC HI3 hWA hWB hn2 k0 x0 x1 fx0 fx1 n0 hs0 hs2 hlt0
   go_loopg [12] (l.length+1) (fun g tc wr=>∃ (m' l':List Oq) (a':List Chg) (vm' vl':Value),g=l'.length+1∧Hid (OkO m'∧(m9,l9,a9)=casG l'.length m' l' a')∧m'.length+l'.length≤817∧l'.length≤16∧a'.length+l'.length≤17∧Rl8 w o m' l' vm' vl' a' tc wr)
   case atStart=>exact ⟨M,l,[cg],_,_,rfl,Lh ⟨HO2.out,HT.out⟩,by omega,hl,by simp; omega,HL.out⟩
   case round=>
    obtain ⟨m',l',a',vm',vl',rfl,HQ,hlen,hl16,ha17,hR⟩:=hrel;clear HL HT HO2 hd1 hd2 hMl;obtain ⟨ad',cp',rfl,he1,he2⟩:=hR.rm.io.form;obtain ⟨al',cl',rfl,he3,he4⟩:=hR.rm.il.form;have HR:=Lh hR;obtain ⟨x0,x1⟩:=hR.rm.bv.c2;have HNX:=Lh (fun W v u (h1:IsO W v l') (h2:IsO W u m')=>refNext_any m' l' (by omega) v u W h1 h2);clear hR;go_wp2_with (go_at_call 70; refine (HNX.out _ _ _ HR.out.rm.il HR.out.rm.io).mono ?_; rintro e w4 ⟨rfl,hb⟩; refine Hid.out ?_)
    have HR1:=Lh (HR.out.next hb);clear HR hb x0 x1 HNX;rcases nxI_two m' l' with hn | ⟨i,hn,hi⟩
    ·have HC9:=Lh (show (m9,l9,a9)=(m',l',a') by rw [HQ.out.2,cas_no (by omega)])
     rw [hn];clear hn;have z0 := HR1.out.rm.b2.c2;have fz0 := HR1.out.rm.b2.f2;obtain ⟨x0,x1⟩:=HR1.out.rm.bv.c2;refine Lh ?_;go_wp2_with fail
     refine bodyPost_ret (v:=.tuple #[.agg #[.slice ad' m'.length cp',.slice al' l'.length cl'],_,.int .i64 0]) (by simp [results, Tryz.results25, go_sem, z0]; rfl) rfl ?_;have h:=HR1.out.rm.ret (.slice ad' m'.length cp') (.slice al' l'.length cl') (Sl.of HR1.out.own);obtain ⟨rfl,h2⟩:=Prod.mk.inj HC9.out;obtain ⟨rfl,rfl⟩:=Prod.mk.inj h2;exact ⟨_,_,_,rfl,h.1,h.2.1,h.2.2.1,h.2.2.2⟩
    ·have HN:=Lh hn
     rw [hn];clear hn;obtain ⟨gx,rfl,hgx,hC⟩:=HR1.out.rm.il.at i hi;obtain ⟨x,hx⟩:∃ x,x=l'[i]:=⟨_,rfl⟩
     obtain ⟨l2,hl2⟩:∃ l2,l2=l'.eraseIdx i:=⟨_,rfl⟩
     have hl2n:l2.length+1=l'.length:=by rw [hl2,List.length_eraseIdx_of_lt hi]; omega
     have HIN:=Lh (show wrongE m' x=0→(m9,l9,a9)=casG l2.length (m'++[x]) l2 (a'++[chgO m' x]) from fun hw=>by rw [HQ.out.2,←hl2n,cas_in HN.out hi (by rw [←hx]; exact hw),←hx,←hl2]);have HOU:=Lh (show ¬ wrongE m' x=0→(m9,l9,a9)=casG l2.length m' l2 a' from fun hw=>by rw [HQ.out.2,←hl2n,cas_out HN.out hi (by rw [←hx]; exact hw),←hl2]);have HWO:=Lh (fun W v (h:IsO W v l')=>refWithout_any l' i hi (by omega) v W h);rw [←hl2] at HWO;rw [←hx] at hC;obtain ⟨c0,c1,c2',c3,c4,c5⟩:=hC _ (Below.refl _ _);clear hC hx hl2 HN;have hbX:Below w4.heap.size w4 (w4.alloc (.cells #[x.k,x.c,x.s,x.a,x.n,.int .i32 x.ch] 70)):=bA;have HR2:=Lh (HR1.out.next hbX);have hbx:Blk (w4.alloc (.cells #[x.k,x.c,x.s,x.a,x.n,.int .i32 x.ch] 70)) w4.heap.size (oqL x) 70:=Blk.startAt rfl;have y1:=HR1.out.rm.bv.cell 1 rfl;generalize hW5:w4.alloc (.cells #[x.k,x.c,x.s,x.a,x.n,.int .i32 x.ch] 70)=w5 at *
     have x1:=HR2.out.rm.bv.cell 1 rfl;have hlx:=HR1.out.rm.b2.lt;clear HR1 hbX;refine Lh ?_;go_wp2_with (go_at_call 71; refine (HWO.out _ _ HR2.out.rm.il).mono ?_; rintro e w6 ⟨v6,rfl,hi6,hb⟩; obtain ⟨a6,c6,rfl,hf1,hf2⟩:=hi6.form; refine Hid.out ?_)
     have HR3:=Lh (HR2.out.next hb);have hbx3:=hbx.next hb;have HI6:=Lh hi6;have hs6:w4.heap.size<w6.heap.size:=hbx3.lt;clear HR2 hb hi6 x1 y1 c0 c1 c2' c3 c4 c5 HWO hbx hW5;have x1:=HR3.out.rm.bv.cell 1 rfl;have fx1:=HR3.out.rm.bv.free 1;have HR4:=Lh (HR3.out.put1 HI6.out);have hbx4:=hbx3.other ⟨w.heap.size,1,none⟩ (by show w4.heap.size≠w.heap.size; omega) (.slice a6 l2.length c6);generalize hW7:w6.setCell ⟨w.heap.size,1,none⟩ (.slice a6 l2.length c6)=w7 at *
     have x0:=HR4.out.rm.bv.cell 0 rfl;obtain ⟨y0,y1,y2,y3,y4,y5⟩:=hbx4.c6;have HWR:=Lh (fun v W (h:IsO W v m')=>refWrong_any m' x (by omega) v W h);clear hbx3;refine Lh ?_;go_wp2_with (go_at_call 67; refine (HWR.out _ _ HR4.out.rm.io).mono ?_; rintro e w8 ⟨rfl,hb⟩; refine Hid.out ?_)
     have HR5:=Lh (HR4.out.next hb);have hbx5:=hbx4.next hb;have hs8:w4.heap.size<w8.heap.size:=hbx5.lt;clear HR3 HR4 hb x0 x1 fx1 y0 y1 y2 y3 y4 y5 HWR hbx4 hW7 HI6;by_cases hw:wrongE m' x=0
     ·have HTK:=Lh (fun v u W (h:IsO W v m') (h2:IsO W u l2)=>refTake_any m' l2 x HQ.out.1 hw (by omega) v u W h h2)
      have HQ2:=Lh (And.intro (wrong_ok HQ.out.1 hw) (HIN.out hw));rw [hw];obtain ⟨M2,hM2⟩:∃ M2,M2=m'++[x]:=⟨_,rfl⟩
      have hM2l:M2.length=m'.length+1:=by rw [hM2]; simp
      have hM2i:M2.length≤818:=by omega
      have HML:=Lh hM2l;rw [←hM2] at HTK HQ2;generalize chgO m' x=dg at *
      clear hw HIN HOU HQ hM2 hM2l;obtain ⟨x0,x1⟩:=HR5.out.rm.bv.c2;obtain ⟨y0,y1,y2,y3,y4,y5⟩:=hbx5.c6;refine Lh ?_;go_wp2_with (go_at_call 69; refine (HTK.out _ _ _ HR5.out.rm.io HR5.out.rm.il).mono ?_; rintro e w9 ⟨v9,rfl,hi9,hb⟩; obtain ⟨a0,c0,rfl,hd1,hd2⟩:=hi9.form; refine Hid.out ?_)
      have HR6:=Lh (HR5.out.next hb);have HI9:=Lh hi9;clear HR5 hb hi9 x0 x1 y0 y1 y2 y3 y4 y5 HTK hbx5;have hbA:Below w9.heap.size w9 ((w9.alloc (.cells #[.slice a0 M2.length c0,.slice a6 l2.length c6] 47)).alloc (.cells #[dg.q,dg.a,dg.c,dg.s,.int .i32 dg.ch,.bool dg.d] 111)):=(bA).alloc (by simp) _;have HC:=Lh (HR6.out.next hbA);have HI3:=Lh (HI9.out.next hbA);have hn0:Blk ((w9.alloc (.cells #[.slice a0 M2.length c0,.slice a6 l2.length c6] 47)).alloc (.cells #[dg.q,dg.a,dg.c,dg.s,.int .i32 dg.ch,.bool dg.d] 111)) w9.heap.size [.slice a0 M2.length c0,.slice a6 l2.length c6] 47:=(Blk.startAt (b:=w9.heap.size) rfl).alloc _;have hn1:Blk ((w9.alloc (.cells #[.slice a0 M2.length c0,.slice a6 l2.length c6] 47)).alloc (.cells #[dg.q,dg.a,dg.c,dg.s,.int .i32 dg.ch,.bool dg.d] 111)) (w9.heap.size+1) (chgL dg) 111:=Blk.startAt (by simp);generalize hWA:(w9.alloc (.cells #[.slice a0 M2.length c0,.slice a6 l2.length c6] 47)).alloc (.cells #[dg.q,dg.a,dg.c,dg.s,.int .i32 dg.ch,.bool dg.d] 111)=wa' at *
      have hs0:=HR6.out.rm.bv.lt;clear HR6 HI9 hbA;obtain ⟨x0,x1⟩:=HC.out.rm.bv.c2;obtain ⟨fx0,fx1⟩:=HC.out.rm.bv.f2;have n0 := hn0.c2;have HD:=Lh (HC.out.put2 HI3.out HC.out.rm.il);have hn2:=(hn1.other ⟨w.heap.size,0,none⟩ (by show w9.heap.size+1≠w.heap.size; omega) (.slice a0 M2.length c0)).other ⟨w.heap.size,1,none⟩ (by show w9.heap.size+1≠w.heap.size; omega) (.slice a6 l2.length c6);generalize hWB:(wa'.setCell ⟨w.heap.size,0,none⟩ (.slice a0 M2.length c0)).setCell ⟨w.heap.size,1,none⟩ (.slice a6 l2.length c6)=wb' at *
      have k0 := hn2.c6;clear hn0 hn1;have HE:=Lh (HD.out.next ((Below.refl _ _).alloc (Nat.le_refl _) (.cells #[dg.q,dg.a,dg.c,dg.s,.int .i32 dg.ch,.bool dg.d] 111)));have hsb:w.heap.size+1+1+1≤wb'.heap.size:=HD.out.rm.b2.lt;obtain ⟨i0,hi0,hz0,hz1,hz2⟩:=info_parts infoCh;refine Lh ?_;go_wp2_with (at_builtin; refine wpList_append_own _ rfl _ _ 65 rfl (w.heap.size+1+1+1) 111 i0 zCh 6 40 Tryz.underlying65 hi0 hz0 hz1 hz2 rfl (by decide) _ _ _ rfl HE.out.own ⟨wb'.heap.size,0,none⟩ 1 1 (chgL dg) rfl rfl (cells_new wb' (chgL dg) _) (chg_one dg) (by unfold maxLen; omega) (by omega) (by simp; omega) ?_; intro v5 W5 ho5 hg5 _; refine Hid.out ?_)
      have HF:=Lh (HE.out.grow ho5 hg5);clear HE HD HC HI3 hWA hWB hn2 k0 x0 x1 fx0 fx1 n0 hs0 hsb ho5 hg5;refine Lh ?_;go_wp2_with fail
      go_roundg (l2.length+1)
      case measure=>omega
      case rel=>exact ⟨M2,l2,a'++[dg],_,_,rfl,HQ2,by have:=HML.out; omega,by omega,by simp; omega,HF.out⟩
     ·have HQ2:=Lh (And.intro HQ.out.1 (HOU.out hw))
      have hwf:(wrongE m' x==0)=false:=by simpa using hw
      generalize wrongE m' x=we at *
      clear hw HIN HOU HQ hbx5;refine Lh ?_;go_wp2_with fail
      go_roundg (l2.length+1)
      case measure=>omega
      case rel=>exact ⟨m',l2,a',_,_,rfl,HQ2,by omega,by omega,by omega,HR5.out⟩
end Go.Proofs.YtpbhaieclkoggaaGreatDoor
