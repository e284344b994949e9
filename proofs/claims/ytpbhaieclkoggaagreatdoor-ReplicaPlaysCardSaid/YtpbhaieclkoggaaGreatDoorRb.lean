import Derived.Test.YtpbhaieclkoggaaGreatDoorVn8
set_option maxHeartbeats 12800000
namespace Go.Proofs.YtpbhaieclkoggaaGreatDoor
open Go Go.Proofs Go.RowKit
theorem rkL_len (L:List El):rkL L (L.length:Int)=(L.map El.al).sum:=by unfold rkL; rw [Int.toNat_natCast,List.take_length]
theorem rkL_neg (L:List El) {i:Int} (h:i≤0):rkL L i=0:=by unfold rkL; rw [show i.toNat=0 by omega]; rfl
theorem refRank_any (L:List El) (i:Int) (v0:Value) (w:World) (hL:IsE w v0 L) (hl:L.length≤20000):
  Calls Tryz.prog 28 #[v0,i] w fun e w'=>e=.returned (.int .i64 (rkL L i:Int))∧Below w.heap.size w w':=by
 have HL:=Lh hL;obtain ⟨a,cap,rfl,hc1,hc2⟩:=Sl.form hL;clear hL;obtain ⟨R,hR⟩:∃ R:Nat,R=rkL L i:=⟨_,rfl⟩
 rw [←hR];have HR:=Lh hR;clear hR
 go_enter Tryz.func28,Tryz.ntmps28
 go_wp2_with fail
 go_loopg [5,6] L.length (fun g tn ti wr=>∃ k:Nat,k≤L.length∧k≤i.toNat∧g=L.length-k∧ti=.int .i64 (k:Int)∧tn=.int .i64 (((L.take k).map El.al).sum:Int)∧Below w.heap.size w wr)
 case atStart=>exact ⟨0,Nat.zero_le _,Nat.zero_le _,rfl,rfl,rfl,Below.refl _ _⟩
 case round=>
  obtain ⟨k,hk,hki,rfl,rfl,rfl,hB⟩:=hrel;by_cases hlt:k<L.length
  ·by_cases hi:(k:Int)<i
   ·obtain ⟨g,rfl,hg,hC⟩:=HL.out.at k hlt
    have HT:=Lh (alive_take hlt);have hsz:=alive_le (L.take k);generalize L[k]=x at *
    have hll:(L.take k).length≤20000:=by rw [List.length_take]; omega
    generalize ((L.take k).map El.al).sum=s at *
    have x3:=(hC wr hB).2.2.2;have HB:=Lh hB;clear hC hB
    cases hd:x.d with
    | true=>
     rw [hd] at x3;go_wp2_with fail
     go_roundg (L.length-(k+1))
     case measure=>omega
     case rel=>exact ⟨k+1,by omega,by omega,rfl,by go_num,by rw [HT.out]; simp [El.al,hd],HB.out⟩
    | false=>
     rw [hd] at x3;go_wp2_with fail
     go_roundg (L.length-(k+1))
     case measure=>omega
     case rel=>exact ⟨k+1,by omega,by omega,rfl,by go_num,by rw [HT.out]; simp [El.al,hd],HB.out⟩
   ·have HE:=Lh (show ((L.take k).map El.al).sum=R by rw [HR.out]; unfold rkL; rw [show i.toNat=k by omega])
    have hi2:decide ((k:Int)<i)=false:=decide_eq_false hi;clear hi;generalize ((L.take k).map El.al).sum=s at *
    go_wp2_with fail
    go_ret
    exact ⟨by rw [HE.out]; rfl,hB⟩
  ·obtain rfl:k=L.length:=by omega
   have HE:=Lh (show ((L.take L.length).map El.al).sum=R by rw [HR.out]; unfold rkL; rw [List.take_of_length_le hki,List.take_length]);generalize ((L.take L.length).map El.al).sum=s at *
   go_wp2_with fail
   go_ret
   exact ⟨by rw [HE.out]; rfl,hB⟩
theorem refSelect_any (L:List El) (k0:Int) (hk0 : -9223372036854775808≤k0) (hk1:k0≤9223372036854775807) (v0:Value) (w:World) (hL:IsE w v0 L) (hl:L.length≤20000):
  Calls Tryz.prog 74 #[v0,k0] w fun e w'=>∃ r:Nat,e=.returned (.int .i64 (r:Int))∧r≤L.length∧(0≤k0→r=slL L k0.toNat)∧Below w.heap.size w w':=by
 have HL:=Lh hL;obtain ⟨a,cap,rfl,hc1,hc2⟩:=Sl.form hL;clear hL
 go_enter Tryz.func74,Tryz.ntmps74
 go_wp2_with fail
 go_loopg [1,5] L.length (fun g tk ti wr=>∃ (i:Nat) (q:Int),i≤L.length∧g=L.length-i∧ti=.int .i64 (i:Int)∧tk=.int .i64 q ∧ -9223372036854775808≤q∧q≤9223372036854775807∧Hid (0≤k0→0≤q∧slL L k0.toNat=i+slL (L.drop i) q.toNat)∧Below w.heap.size w wr)
 case atStart=>exact ⟨0,k0,Nat.zero_le _,rfl,rfl,rfl,hk0,hk1,Lh (fun h=>⟨h,by simp⟩),Below.refl _ _⟩
 case round=>
  obtain ⟨i,q,hi,rfl,rfl,rfl,hq0,hq1,HQ,hB⟩:=hrel;by_cases hlt:i<L.length
  ·obtain ⟨g,rfl,hg,hC⟩:=HL.out.at i hlt
   have HD:=Lh (List.drop_eq_getElem_cons hlt);generalize L[i]=x at *
   have x3:=(hC wr hB).2.2.2;have HB:=Lh hB;clear hC hB
   cases hd:x.d with
   | true=>
    have HQ2:Hid (0≤k0→0≤q∧slL L k0.toNat=(i+1:Nat)+slL (L.drop (i+1)) q.toNat):=Lh (fun h=>by
     obtain ⟨h1,h2⟩:=HQ.out h;refine ⟨h1,?_⟩;rw [h2,HD.out,slL,if_pos hd]; omega)
    rw [hd] at x3;clear HQ;go_wp2_with fail
    go_roundg (L.length-(i+1))
    case measure=>omega
    case rel=>exact ⟨i+1,q,by omega,rfl,by go_num,rfl,hq0,hq1,HQ2,HB.out⟩
   | false=>
    rw [hd] at x3;by_cases hz:q=0
    ·subst hz
     have HQ2:Hid (0≤k0→i=slL L k0.toNat):=Lh (fun h=>by
      obtain ⟨h1,h2⟩:=HQ.out h;rw [h2,HD.out,slL,if_neg (by simp [hd])]; simp)
     clear HQ;go_wp2_with fail
     go_ret
     exact ⟨i,rfl,by omega,HQ2.out,HB.out⟩
    ·by_cases hm:q = -9223372036854775808
     ·subst hm
      have HQ2:Hid (0≤k0→0≤(9223372036854775807:Int)∧slL L k0.toNat=(i+1:Nat)+slL (L.drop (i+1)) (9223372036854775807:Int).toNat):=Lh (fun h=>by have h1:=(HQ.out h).1; omega);clear HQ;go_wp2_with fail
      go_roundg (L.length-(i+1))
      case measure=>omega
      case rel=>exact ⟨i+1,9223372036854775807,by omega,rfl,by go_num,congrArg (Value.int .i64) (show wrap64 (-9223372036854775809)=9223372036854775807 by simp only [wrap64]; decide),by decide,by decide,HQ2,HB.out⟩
     ·have HQ2:Hid (0≤k0→0≤q - 1∧slL L k0.toNat=(i+1:Nat)+slL (L.drop (i+1)) (q - 1).toNat):=Lh (fun h=>by
       obtain ⟨h1,h2⟩:=HQ.out h;refine ⟨by omega,?_⟩;rw [h2,HD.out,slL,if_neg (by simp [hd]),if_neg (by omega),show (q - 1).toNat=q.toNat - 1 by omega]; omega)
      clear HQ;go_wp2_with fail
      go_roundg (L.length-(i+1))
      case measure=>omega
      case rel=>exact ⟨i+1,q - 1,by omega,rfl,by go_num,rfl,by omega,by omega,HQ2,HB.out⟩
  ·obtain rfl:i=L.length:=by omega
   have HQ2:Hid (0≤k0→L.length=slL L k0.toNat):=Lh (fun h=>by
    obtain ⟨h1,h2⟩:=HQ.out h;rw [h2,List.drop_length]; rfl)
   clear HQ;go_wp2_with fail
   go_ret
   exact ⟨L.length,rfl,Nat.le_refl _,HQ2.out,hB⟩
end Go.Proofs.YtpbhaieclkoggaaGreatDoor
set_option maxRecDepth 100000
set_option maxHeartbeats 12800000
namespace Go.Proofs.YtpbhaieclkoggaaGreatDoor
open Go Go.Proofs Go.RowKit
structure Tk8 (w:World) (vm vl:Value) (o:Oq) (W:World):Prop where
 bel:Below w.heap.size w W
 bv:Blk W w.heap.size [vm,vl] 47
 bo:Blk W (w.heap.size+1) (oqL o) 70
 b2:Blk W (w.heap.size+1+1) [.slice none 0 0,.slice none 0 0] 47
 b3:Blk W (w.heap.size+1+1+1) [.int .i64 0,.int .i64 0,.int .i64 0,.int .i64 0,.int .i32 0,.bool false] 111
theorem Tk8.next {w:World} {vm vl:Value} {o:Oq} {W W':World} (h:Tk8 w vm vl o W) (hb:Below W.heap.size W W'):Tk8 w vm vl o W':=⟨h.bel.trans (hb.mono h.bel.size),h.bv.next hb,h.bo.next hb,h.b2.next hb,h.b3.next hb⟩
theorem Tk8.grow {w:World} {vm vl:Value} {o:Oq} {W W':World} {X:Nat} (h:Tk8 w vm vl o W) (hb:Below X W W') (hX:w.heap.size+1+1+1+1≤X):Tk8 w vm vl o W':=
 ⟨h.bel.trans (hb.mono (by omega)),h.bv.below hb (by omega),h.bo.below hb (by omega),h.b2.below hb (by omega),h.b3.below hb (by omega)⟩
theorem Tk8.put {w:World} {vm vl:Value} {o:Oq} {W:World} (h:Tk8 w vm vl o W) (x:Value):Tk8 w x vl o (W.setCell ⟨w.heap.size,0,none⟩ x):=
 ⟨h.bel.setCell (p:=⟨w.heap.size,0,none⟩) (Nat.le_refl _) _,h.bv.set 0 x,h.bo.other ⟨w.heap.size,0,none⟩ (by simp) _,h.b2.other ⟨w.heap.size,0,none⟩ (by show w.heap.size+1+1≠w.heap.size; omega) _,h.b3.other ⟨w.heap.size,0,none⟩ (by show w.heap.size+1+1+1≠w.heap.size; omega) _⟩
theorem Tk8.start (w:World) (vm vl:Value) (o:Oq):Tk8 w vm vl o ((((w.alloc (.cells #[vm,vl] 47)).alloc (.cells #[o.k,o.c,o.s,o.a,o.n,.int .i32 o.ch] 70)).alloc (.cells #[.slice none 0 0,.slice none 0 0] 47)).alloc (.cells #[.int .i64 0,.int .i64 0,.int .i64 0,.int .i64 0,.int .i32 0,.bool false] 111)):=by
 refine ⟨(((bA).alloc (by simp) _).alloc (by simp; omega) _).alloc (by simp; omega) _,?_,?_,?_,?_⟩
 ·exact (((Blk.startAt (b:=w.heap.size) rfl).alloc _).alloc _).alloc _
 ·exact ((Blk.startAt (b:=w.heap.size+1) (by simp)).alloc _).alloc _
 ·exact (Blk.startAt (b:=w.heap.size+1+1) (by simp)).alloc _
 ·exact Blk.startAt (b:=w.heap.size+1+1+1) (by simp)
structure Tq8 (w:World) (vm vl:Value) (o:Oq) (M:List Oq) (v3:Value) (L:List El) (z2 z3:List Value) (W:World):Prop where
 bel:Below w.heap.size w W
 bv:Blk W w.heap.size [vm,vl] 47
 bo:Blk W (w.heap.size+1) (oqL o) 70
 b2:Blk W (w.heap.size+1+1) z2 47
 b3:Blk W (w.heap.size+1+1+1) z3 111
 e:IsE W v3 L
 io:IsO W vm M
theorem Tq8.next {w:World} {vm vl:Value} {o:Oq} {M:List Oq} {v3:Value} {L:List El} {z2 z3:List Value} {W W':World} (h:Tq8 w vm vl o M v3 L z2 z3 W) (hb:Below W.heap.size W W'):Tq8 w vm vl o M v3 L z2 z3 W':=
 ⟨h.bel.trans (hb.mono h.bel.size),h.bv.next hb,h.bo.next hb,h.b2.next hb,h.b3.next hb,h.e.next hb,h.io.next hb⟩
theorem Tq8.set2 {w:World} {vm vl:Value} {o:Oq} {M:List Oq} {v3:Value} {L:List El} {z2 z3:List Value} {W:World} (h:Tq8 w vm vl o M v3 L z2 z3 W) (i:Nat) (x:Value):Tq8 w vm vl o M v3 L (z2.set i x) z3 (W.setCell ⟨w.heap.size+1+1,i,none⟩ x):=
 ⟨h.bel.setCell (p:=⟨w.heap.size+1+1,i,none⟩) (by show w.heap.size≤w.heap.size+1+1; omega) _,h.bv.other ⟨w.heap.size+1+1,i,none⟩ (by show w.heap.size≠w.heap.size+1+1; omega) _,h.bo.other ⟨w.heap.size+1+1,i,none⟩ (by show w.heap.size+1≠w.heap.size+1+1; omega) _,h.b2.set i x,h.b3.other ⟨w.heap.size+1+1,i,none⟩ (by show w.heap.size+1+1+1≠w.heap.size+1+1; omega) _,Sl.set h.b2 (by decide) i x h.e,Sl.set h.b2 (by decide) i x h.io⟩
theorem Tq8.set3 {w:World} {vm vl:Value} {o:Oq} {M:List Oq} {v3:Value} {L:List El} {z2 z3:List Value} {W:World} (h:Tq8 w vm vl o M v3 L z2 z3 W) (i:Nat) (x:Value):Tq8 w vm vl o M v3 L z2 (z3.set i x) (W.setCell ⟨w.heap.size+1+1+1,i,none⟩ x):=
 ⟨h.bel.setCell (p:=⟨w.heap.size+1+1+1,i,none⟩) (by show w.heap.size≤w.heap.size+1+1+1; omega) _,h.bv.other ⟨w.heap.size+1+1+1,i,none⟩ (by show w.heap.size≠w.heap.size+1+1+1; omega) _,h.bo.other ⟨w.heap.size+1+1+1,i,none⟩ (by show w.heap.size+1≠w.heap.size+1+1+1; omega) _,h.b2.other ⟨w.heap.size+1+1+1,i,none⟩ (by show w.heap.size+1+1≠w.heap.size+1+1+1; omega) _,h.b3.set i x,Sl.set h.b3 (by decide) i x h.e,Sl.set h.b3 (by decide) i x h.io⟩
theorem ref8List_any (m:List Oq) (hm:m.length≤1000) (g:Gd m) (vm vl:Value) (w:World) (hL:IsO w vm m):
  Calls Tryz.prog 27 #[.agg #[vm,vl]] w fun e w'=>∃ v,e=.returned v∧IsE w' v (docR m)∧Below w.heap.size w w':=by
 have HF:=Lh (fun (W:World) (h:IsO W vm m)=>refList_any m hm g vm W h);have HL:=Lh hL;have hb1:=(Below.refl w.heap.size w).alloc (Nat.le_refl _) (.cells #[vm,vl] 47);have HB:=Lh hb1;have x0:=(Blk.start w [vm,vl] 47).cell 0 rfl;clear hL hb1
 go_enter Tryz.func27,Tryz.ntmps27
 go_wp2_with (go_at_call 73; refine (HF.out _ (HL.out.next HB.out)).mono ?_; rintro e' W3 ⟨v3,rfl,hv3,hb3⟩)
 go_ret
 exact ⟨_,rfl,hv3,HB.out.trans (hb3.mono HB.out.size)⟩
theorem lsd {P:Program} {md:Region.Mode} {ops:Array Oper} {Q:Exit→Act→World→Prop} {S:World→Prop} {fuel:Nat} {l:Array Bool} {a:Act} {w:World} (l':Array Bool) (h:l=l') (k:wpAnyH P md ops Q S fuel l' a w):wpAnyH P md ops Q S fuel l a w:=by rw [h]; exact k
theorem refTake_any (m l:List Oq) (o:Oq) (hO:OkO m) (hw0:wrongE m o=0) (hm:m.length≤900) (vm vl:Value) (w:World) (hM:IsO w vm m) (hL:IsO w vl l):
  Calls Tryz.prog 69 #[.agg #[vm,vl],.agg #[o.k,o.c,o.s,o.a,o.n,.int .i32 o.ch]] w
   fun e w'=>∃ vm',e=.returned (.tuple #[.agg #[vm',vl],.agg #[.int .i64 (chgO m o).q,.int .i64 (chgO m o).a,.int .i64 (chgO m o).c,.int .i64 (chgO m o).s,.int .i32 (chgO m o).ch,.bool (chgO m o).d]])∧IsO w' vm' (m++[o])∧Below w.heap.size w w':=by
 have HM:=Lh hM;obtain ⟨ad,cap,rfl,hc1,hc2⟩:=hM.form;obtain ⟨al,cl,rfl,hc3,hc4⟩:=hL.form;obtain ⟨i0,hi0,hz0,hz1,hz2⟩:=info_parts infoOq;clear hM hL;have H0:=Lh (Tk8.start w (.slice ad m.length cap) (.slice al l.length cl) o);have HOK:=Lh (wrong_ok hO hw0);have HPL:=Lh (pl_in hO hw0);have HPF:=Lh (show plO m o=fnd (elB o.c o.s) (docR (m++[o])) 0 from rfl);have HCG:=Lh (show chgO m o=⟨(m.length:Int)+1,(rkL (docR (m++[o])) (plO m o):Int),o.c,o.s,chO m o,decide (o.k=1)⟩ from rfl);generalize chgO m o=cg at *
 obtain ⟨M,hME⟩:∃ M,M=m++[o]:=⟨_,rfl⟩
 have HME:=Lh hME;rw [←hME] at HOK HPL HPF HCG;have HLS:=Lh (fun (vm vl:Value) (W:World) (h:IsO W vm M)=>ref8List_any M (by rw [HME.out]; simp; omega) HOK.out.gd vm vl W h);have HML:=Lh (show M.length=m.length+1 by rw [HME.out]; simp);have hMl:M.length≤901:=by rw [HML.out]; omega
 have hdl:(docR M).length≤M.length:=by rw [docR_len]; exact row_len HOK.out.gd
 generalize hLd:docR M=L at *
 clear hME;clear hO hw0
 go_enter Tryz.func69,Tryz.ntmps69
 go_wp2_with fail
 generalize (((w.alloc (.cells #[.slice ad m.length cap,.slice al l.length cl] 47)).alloc (.cells #[o.k,o.c,o.s,o.a,o.n,.int .i32 o.ch] 70)).alloc (.cells #[.slice none 0 0,.slice none 0 0] 47)).alloc (.cells #[.int .i64 0,.int .i64 0,.int .i64 0,.int .i64 0,.int .i32 0,.bool false] 111)=W7 at *
 rename_i K hK0
 have hgo:∀ (W:World) (t8 t11 t13:Value) (a2:Option Addr) (c2:Nat),Tk8 w (.slice a2 M.length c2) (.slice al l.length cl) o W→IsO W (.slice a2 M.length c2) M →
   K ⟨#[.agg #[.slice ad m.length cap,.slice al l.length cl],.agg #[o.k,o.c,o.s,o.a,o.n,.int .i32 o.ch],.pointer (some ⟨w.heap.size,0,none⟩),.pointer (some ⟨w.heap.size+1,0,none⟩),.pointer (some ⟨w.heap.size+1+1,0,none⟩),.pointer (some ⟨w.heap.size+1+1+1,0,none⟩),undef,undef,
    t8,.pointer (some ⟨w.heap.size,0,none⟩),.slice ad m.length cap,t11,.agg #[o.k,o.c,o.s,o.a,o.n,.int .i32 o.ch],t13,.slice a2 M.length c2,.pointer (some ⟨w.heap.size,0,none⟩),undef,undef,undef,undef,undef,undef,undef,undef,undef,undef,undef,undef,undef,undef,undef,undef,undef,undef,undef,undef,undef,undef,undef,undef],[]⟩ W:=by
  intro W t8 t11 t13 a2 c2 hT hI
  clear H0;obtain ⟨_,_,he,hd1,hd2⟩:=hI.form
  cases he
  have HT:=Lh hT;have HI:=Lh hI;clear hT hI;refine hK0 _ _ ?_;clear hK0;obtain ⟨x0,x1⟩:=HT.out.bv.c2;go_wp2_with (go_at_call 27; refine (HLS.out _ _ _ HI.out).mono ?_; rintro e w1 ⟨v3,rfl,hE,hb⟩; refine Hid.out ?_)
  have HQ:=Lh (show Tq8 w (.slice a2 M.length c2) (.slice al l.length cl) o M v3 L _ _ w1 from ⟨(HT.out.next hb).bel,(HT.out.next hb).bv,(HT.out.next hb).bo,(HT.out.next hb).b2,(HT.out.next hb).b3,hE,HI.out.next hb⟩);clear HT HI x0 x1 hE hb;obtain ⟨a3,c3,hv3,hd3,hd4⟩:=HQ.out.e.form;obtain ⟨i,hi,hp,hch⟩:=HPL.out;obtain ⟨g,hg0,hg,hC⟩:∃ g,a3=some ⟨g,0,none⟩∧g<w1.heap.size∧∀ X,Below w1.heap.size w1 X→EC X g i L[i]:=by
   have h:=HQ.out.e;rw [hv3] at h;exact IsE.at h i hi
  subst hg0;subst hv3;have HPC:=Lh (fun W (h:IsE W (.slice (some ⟨g,0,none⟩) L.length c3) L)=>refPlace_any o.c o.s L _ W h);have HRK:=Lh (fun W (h:IsE W (.slice (some ⟨g,0,none⟩) L.length c3) L)=>refRank_any L (i:Int) _ W h (by omega));have hp':fnd (elB o.c o.s) L 0=(i:Int):=by rw [←HPF.out]; exact hp
  rw [hp'] at HPC;obtain ⟨xch,hx⟩:∃ x,x=L[i].ch:=⟨_,rfl⟩
  obtain ⟨RK,hRK⟩:∃ R,R=rkL L (i:Int):=⟨_,rfl⟩
  have HCE:=Lh (show cg=⟨(M.length:Int),(RK:Int),o.c,o.s,xch,decide (o.k=1)⟩ by rw [HCG.out,hp,hch,hRK,HML.out,hx]; simp);rw [←hRK] at HRK;have HEC:=Lh (fun (X:World) (h:IsE X (.slice (some ⟨g,0,none⟩) L.length c3) L)=>show X.cell? ⟨g,i * 4+2,none⟩=some (.int .i32 xch) from by
   obtain ⟨g',e',_,h1⟩:=IsE.at h i hi
   cases e'
   rw [hx];exact (h1 X (Below.refl _ _)).2.2.1)
  clear hp hp' hC hch hx hRK;have y1:=HQ.out.bo.cell 1 rfl;have y2:=HQ.out.bo.cell 2 rfl;refine Lh ?_;go_wp2_with (go_at_call 77; refine (HPC.out _ HQ.out.e).mono ?_; rintro e w2 ⟨rfl,hb⟩; refine Hid.out ?_)
  have HQ2:=Lh (HQ.out.next hb);have HQ3:=Lh (HQ2.out.next bdq);have hdum:=trivial;clear HQ y1 y2 hb;refine Lh ?_;go_wp2_with fail
  refine rgH (fun W=>Cc2 W w.heap.size (.slice a2 M.length c2) (.slice al l.length cl) (W.cell? ⟨g,i * 4+2,none⟩=some (.int .i32 xch)∧Cz6 W (w.heap.size+1) o.k o.c o.s o.a o.n (.int .i32 o.ch))) (let h:=HQ3.out; (h.bv.d2 ⟨HEC.out _ h.e,h.bo.c6⟩)) fun hHeld=>?_
  clear hdum HQ2;generalize w2.drew=w3 at *
  refine tq 0 (.agg #[.slice a2 M.length c2,.slice al l.length cl]) hHeld ?_;refine tq 1 (.pointer (some ⟨w.heap.size,0,none⟩)) hHeld ?_;refine tq 2 (.slice a2 M.length c2) hHeld ?_;refine tq 3 (.int .i64 ((M.length:Int))) hHeld ?_;refine tq 4 (.slice ((some ⟨g,0,none⟩)) L.length c3) hHeld ?_;refine tq 5 (.int .i64 ((i:Int))) hHeld ?_;refine tq 7 (.pointer (some ⟨w.heap.size+1,1,none⟩)) hHeld ?_;refine tq 8 (.agg #[o.c,o.s]) hHeld ?_;refine tq 9 (.slice ((some ⟨g,0,none⟩)) L.length c3) hHeld ?_;refine tq 10 (.int .i64 ((i:Int))) hHeld ?_;refine tq 11 (.pointer (some ⟨g,i * 4,none⟩)) hHeld ?_;refine tq 12 (.pointer (some ⟨g,i * 4+2,none⟩)) hHeld ?_;refine tq 13 (.int .i32 xch) hHeld ?_;refine tq 14 (.pointer (some ⟨w.heap.size+1,0,none⟩)) hHeld ?_;refine tq 15 o.k hHeld ?_;refine tq 16 (.bool (o.k==1)) hHeld ?_;refine rd1 6 (by kernel_rfl) rfl fun KK hK=>?_
  go_simp
  refine (HRK.out _ HQ3.out.e).mono ?_
  rintro e' w4 ⟨rfl,hb⟩
  go_wp2_with fail
  refine hK.out _ _ ((let h:=HQ3.out.next hb; (h.bv.d2 ⟨HEC.out _ h.e,h.bo.c6⟩))) ?_;clear hK KK hHeld;intro hHeld
  try simp only [LAY]
  have HQ4:=Lh (HQ3.out.next hb);clear HQ3 hb;have z0 := HQ4.out.b2.c2;have fz0 := HQ4.out.b2.f2;refine tq 17 (.agg #[.int .i64 ((M.length:Int)),.int .i64 ((RK:Int)),o.c,o.s,.int .i32 xch,.bool (o.k==1)]) hHeld ?_;refine rd1 18 (by kernel_rfl) rfl fun KK hK=>?_
  go_simp
  go_wp2_with fail
  refine hK.out _ _ ((let h:=((HQ4.out.set2 0 (.slice a2 M.length c2)).set2 1 (.slice al l.length cl)); (h.bv.d2 ⟨HEC.out _ h.e,h.bo.c6⟩))) ?_;clear hK KK hHeld z0 fz0;intro hHeld
  try simp only [LAY]
  have HQ5:=Lh ((HQ4.out.set2 0 (.slice a2 M.length c2)).set2 1 (.slice al l.length cl));clear HQ4;generalize ((w4.setCell ⟨w.heap.size+1+1,0,none⟩ (.slice a2 M.length c2)).setCell ⟨w.heap.size+1+1,1,none⟩ (.slice al l.length cl))=w5 at *
  have u0 := HQ5.out.b3.c6;have fu0 := HQ5.out.b3.f6;refine rd1 19 (by kernel_rfl) rfl fun KK hK=>?_
  go_simp
  go_wp2_with fail
  refine hK.out _ _ ((let h:=((((((HQ5.out.set3 0 (.int .i64 (M.length:Int))).set3 1 (.int .i64 (RK:Int))).set3 2 o.c).set3 3 o.s).set3 4 (.int .i32 xch)).set3 5 (.bool (o.k==1))); (h.bv.d2 ⟨HEC.out _ h.e,h.bo.c6⟩))) ?_;clear hK KK hHeld u0 fu0;intro hHeld
  try simp only [LAY]
  have HQ6:=Lh ((((((HQ5.out.set3 0 (.int .i64 (M.length:Int))).set3 1 (.int .i64 (RK:Int))).set3 2 o.c).set3 3 o.s).set3 4 (.int .i32 xch)).set3 5 (.bool (o.k==1)));clear HQ5;refine dnH ?_;clear hHeld;have HF:=Lh HQ6.out;clear HQ6;have z0 := HF.out.b2.c2;have u0 := HF.out.b3.c6;go_wp2_with fail
  refine bodyPost_ret (v:=.tuple #[.agg #[.slice a2 M.length c2,.slice al l.length cl],.agg #[.int .i64 (M.length:Int),.int .i64 (RK:Int),o.c,o.s,.int .i32 xch,.bool (o.k==1)]]) (by simp [results, Tryz.results69, go_sem, z0, u0]) rfl ⟨.slice a2 M.length c2,by rw [HCE.out]; rfl,by rw [←HME.out]; exact HF.out.io,HF.out.bel⟩
 have HG:=Lh hgo;clear hK0 hgo
 refine' (fun (M1111:Hid (_:Prop))=>_) _
 rotate_left
 refine' (fun (M1110:Hid (_:Prop))=>_) _
 rotate_left
 refine' (fun (M1101:Hid (_:Prop))=>_) _
 rotate_left
 refine' (fun (M1100:Hid (_:Prop))=>_) _
 rotate_left
 refine' (fun (M1001:Hid (_:Prop))=>_) _
 rotate_left
 refine' (fun (M0101:Hid (_:Prop))=>_) _
 rotate_left
 refine' (fun (M1000:Hid (_:Prop))=>_) _
 rotate_left
 refine' (fun (M0100:Hid (_:Prop))=>_) _
 rotate_left
 refine' (fun (M0001:Hid (_:Prop))=>_) _
 rotate_left
 ·refine wp_region_noPanic ?_
  have HA8:=Lh (H0.out.next bdq);refine wp_region_held_drew (S:=(fun W=>Cz6 W (w.heap.size+1) o.k o.c o.s o.a o.n (.int .i32 o.ch))) (by kernel_rfl) ?_ (fun hH=>?_)
  ·exact (let h:=HA8.out; h.bo.c6)
  generalize W7.drew=W8 at HA8 hH ⊢;refine tk 1 (.pointer (some ⟨w.heap.size,0,none⟩)) hH (fun w hSw=>?_) ?_
  ·(go_simp)
  try simp only [LAY]
  refine tk 4 (.agg #[o.k,o.c,o.s,o.a,o.n,.int .i32 o.ch]) hH (fun w hSw=>?_) ?_
  ·(go_simp)
  try simp only [LAY]
  refine wpAnyH_ready (rs:=[0,2,5]) (by kernel_rfl) (by simp) ?_;refine cons1 rfl (fun K hK=>?_) (cons1 rfl (fun K hK=>?_) (cons1 rfl (fun K hK=>?_) AllReadyH.nil))
  ·go_simp
   go_wp2_with fail
   refine hK.out _ _ (let h:=HA8.out.next ((Below.refl W8.heap.size W8).alloc (Nat.le_refl _) (.cells ⟨[]⟩ 70)); h.bo.c6) ?_;clear hK K hH;intro hH
   try simp only [LAY]
   have hXo:=own_zero W8 6 70;have hsX:=HA8.out.b3.lt;have hzX:W8.heap.size+1≤(W8.alloc (.cells ⟨[]⟩ 70)).heap.size:=by simp
   have hle:W8.heap.size≤(W8.alloc (.cells ⟨[]⟩ 70)).heap.size:=by simp
   replace HA8:=Lh (HA8.out.next ((Below.refl W8.heap.size W8).alloc (Nat.le_refl _) (.cells ⟨[]⟩ 70)))
   replace hH:(fun W=>Cz6 W (w.heap.size+1) o.k o.c o.s o.a o.n (.int .i32 o.ch)) (W8.alloc (.cells ⟨[]⟩ 70)):=hH
   change wpAnyH _ _ _ _ _ _ _ _ (W8.alloc (.cells ⟨[]⟩ 70))
   generalize (W8.alloc (.cells ⟨[]⟩ 70))=U at hH HA8 hXo hzX hle ⊢;generalize W8.heap.size=X at hXo hsX hzX hle ⊢;clear hle;refine lsd #[true,true,false,false,true,false,false,false,false] (by kernel_rfl) ?_
   revert hH
   revert hXo
   revert hzX
   revert hsX
   revert HA8
   revert U
   revert X
   exact M1000.out
  ·rw [if_pos (by rfl)]
   have x0:=HA8.out.bv.cell 0 rfl;go_simp
   go_wp2_with fail
   refine hK.out _ _ (let h:=HA8.out; h.bo.c6) ?_;clear hK K hH;intro hH
   try simp only [LAY]
   clear x0;refine lsd #[false,true,true,false,true,false,false,false,false] (by kernel_rfl) ?_
   revert hH
   revert HA8
   revert W8
   exact M0100.out
  ·go_simp
   go_wp2_with fail
   refine hK.out _ _ (let h:=HA8.out.next ((Below.refl W8.heap.size W8).alloc (Nat.le_refl _) (.cells ⟨oqL o⟩ 70)); h.bo.c6) ?_;clear hK K hH;intro hH
   try simp only [LAY]
   have hYo:=own_new W8 (oqL o) 6 rfl 70;have hsY:=HA8.out.b3.lt;have hzY:W8.heap.size+1≤(W8.alloc (.cells ⟨oqL o⟩ 70)).heap.size:=by simp
   have hle:W8.heap.size≤(W8.alloc (.cells ⟨oqL o⟩ 70)).heap.size:=by simp
   replace HA8:=Lh (HA8.out.next ((Below.refl W8.heap.size W8).alloc (Nat.le_refl _) (.cells ⟨oqL o⟩ 70)))
   replace hH:(fun W=>Cz6 W (w.heap.size+1) o.k o.c o.s o.a o.n (.int .i32 o.ch)) (W8.alloc (.cells ⟨oqL o⟩ 70)):=hH
   change wpAnyH _ _ _ _ _ _ _ _ (W8.alloc (.cells ⟨oqL o⟩ 70))
   generalize (W8.alloc (.cells ⟨oqL o⟩ 70))=U at hH HA8 hYo hzY hle ⊢;generalize W8.heap.size=Y at hYo hsY hzY hle ⊢;clear hle;refine lsd #[false,true,false,false,true,true,false,false,false] (by kernel_rfl) ?_
   revert hH
   revert hzY
   revert hsY
   revert hYo
   revert HA8
   revert U
   revert Y
   exact M0001.out
 ·refine Lh ?_
  intro Y u HA8 hYo hsY hzY hH
  refine wpAnyH_ready (rs:=[0,2]) (by kernel_rfl) (by simp) ?_;refine cons1 rfl (fun K hK=>?_) (cons1 rfl (fun K hK=>?_) AllReadyH.nil)
  ·go_simp
   go_wp2_with fail
   refine hK.out _ _ (let h:=HA8.out.next ((Below.refl u.heap.size u).alloc (Nat.le_refl _) (.cells ⟨[]⟩ 70)); h.bo.c6) ?_;clear hK K hH;intro hH
   try simp only [LAY]
   have hXo:=own_zero u 6 70;have hsX:=HA8.out.b3.lt;have hzX:u.heap.size+1≤(u.alloc (.cells ⟨[]⟩ 70)).heap.size:=by simp
   have hle:u.heap.size≤(u.alloc (.cells ⟨[]⟩ 70)).heap.size:=by simp
   replace HA8:=Lh (HA8.out.next ((Below.refl u.heap.size u).alloc (Nat.le_refl _) (.cells ⟨[]⟩ 70)))
   replace hYo:=ownsRow_next hYo ((Below.refl u.heap.size u).alloc (Nat.le_refl _) (.cells ⟨[]⟩ 70))
   have hXY:u.heap.size≠Y:=by omega
   replace hzY:=Nat.le_trans hzY hle
   replace hH:(fun W=>Cz6 W (w.heap.size+1) o.k o.c o.s o.a o.n (.int .i32 o.ch)) (u.alloc (.cells ⟨[]⟩ 70)):=hH
   change wpAnyH _ _ _ _ _ _ _ _ (u.alloc (.cells ⟨[]⟩ 70))
   generalize (u.alloc (.cells ⟨[]⟩ 70))=U at hH HA8 hXo hzX hle hYo hzY ⊢;generalize u.heap.size=X at hXo hsX hzX hle hXY ⊢;clear hle;refine lsd #[true,true,false,false,true,true,false,false,false] (by kernel_rfl) ?_
   revert hH
   revert hXY
   revert hzY
   revert hsY
   revert hYo
   revert hXo
   revert hzX
   revert hsX
   revert HA8
   revert U
   revert Y
   revert X
   exact M1001.out
  ·rw [if_pos (by rfl)]
   have x0:=HA8.out.bv.cell 0 rfl;go_simp
   go_wp2_with fail
   refine hK.out _ _ (let h:=HA8.out; h.bo.c6) ?_;clear hK K hH;intro hH
   try simp only [LAY]
   clear x0;refine lsd #[false,true,true,false,true,true,false,false,false] (by kernel_rfl) ?_
   revert hH
   revert hzY
   revert hsY
   revert hYo
   revert HA8
   revert u
   revert Y
   exact M0101.out
 ·refine Lh ?_
  intro u HA8 hH
  refine wpAnyH_ready (rs:=[0,5]) (by kernel_rfl) (by simp) ?_;refine cons1 rfl (fun K hK=>?_) (cons1 rfl (fun K hK=>?_) AllReadyH.nil)
  ·go_simp
   go_wp2_with fail
   refine hK.out _ _ (let h:=HA8.out.next ((Below.refl u.heap.size u).alloc (Nat.le_refl _) (.cells ⟨[]⟩ 70)); h.bo.c6) ?_;clear hK K hH;intro hH
   try simp only [LAY]
   have hXo:=own_zero u 6 70;have hsX:=HA8.out.b3.lt;have hzX:u.heap.size+1≤(u.alloc (.cells ⟨[]⟩ 70)).heap.size:=by simp
   have hle:u.heap.size≤(u.alloc (.cells ⟨[]⟩ 70)).heap.size:=by simp
   replace HA8:=Lh (HA8.out.next ((Below.refl u.heap.size u).alloc (Nat.le_refl _) (.cells ⟨[]⟩ 70)))
   replace hH:(fun W=>Cz6 W (w.heap.size+1) o.k o.c o.s o.a o.n (.int .i32 o.ch)) (u.alloc (.cells ⟨[]⟩ 70)):=hH
   change wpAnyH _ _ _ _ _ _ _ _ (u.alloc (.cells ⟨[]⟩ 70))
   generalize (u.alloc (.cells ⟨[]⟩ 70))=U at hH HA8 hXo hzX hle ⊢;generalize u.heap.size=X at hXo hsX hzX hle ⊢;clear hle;refine lsd #[true,true,true,false,true,false,false,false,false] (by kernel_rfl) ?_
   revert hH
   revert hXo
   revert hzX
   revert hsX
   revert HA8
   revert U
   revert X
   exact M1100.out
  ·go_simp
   go_wp2_with fail
   refine hK.out _ _ (let h:=HA8.out.next ((Below.refl u.heap.size u).alloc (Nat.le_refl _) (.cells ⟨oqL o⟩ 70)); h.bo.c6) ?_;clear hK K hH;intro hH
   try simp only [LAY]
   have hYo:=own_new u (oqL o) 6 rfl 70;have hsY:=HA8.out.b3.lt;have hzY:u.heap.size+1≤(u.alloc (.cells ⟨oqL o⟩ 70)).heap.size:=by simp
   have hle:u.heap.size≤(u.alloc (.cells ⟨oqL o⟩ 70)).heap.size:=by simp
   replace HA8:=Lh (HA8.out.next ((Below.refl u.heap.size u).alloc (Nat.le_refl _) (.cells ⟨oqL o⟩ 70)))
   replace hH:(fun W=>Cz6 W (w.heap.size+1) o.k o.c o.s o.a o.n (.int .i32 o.ch)) (u.alloc (.cells ⟨oqL o⟩ 70)):=hH
   change wpAnyH _ _ _ _ _ _ _ _ (u.alloc (.cells ⟨oqL o⟩ 70))
   generalize (u.alloc (.cells ⟨oqL o⟩ 70))=U at hH HA8 hYo hzY hle ⊢;generalize u.heap.size=Y at hYo hsY hzY hle ⊢;clear hle;refine lsd #[false,true,true,false,true,true,false,false,false] (by kernel_rfl) ?_;exact M0101.out Y U HA8 hYo hsY hzY hH
 ·refine Lh ?_
  intro X u HA8 hsX hzX hXo hH
  refine wpAnyH_ready (rs:=[2,5]) (by kernel_rfl) (by simp) ?_;refine cons1 rfl (fun K hK=>?_) (cons1 rfl (fun K hK=>?_) AllReadyH.nil)
  ·rw [if_pos (by rfl)]
   have x0:=HA8.out.bv.cell 0 rfl;go_simp
   go_wp2_with fail
   refine hK.out _ _ (let h:=HA8.out; h.bo.c6) ?_;clear hK K hH;intro hH
   try simp only [LAY]
   clear x0;refine lsd #[true,true,true,false,true,false,false,false,false] (by kernel_rfl) ?_;exact M1100.out X u HA8 hsX hzX hXo hH
  ·go_simp
   go_wp2_with fail
   refine hK.out _ _ (let h:=HA8.out.next ((Below.refl u.heap.size u).alloc (Nat.le_refl _) (.cells ⟨oqL o⟩ 70)); h.bo.c6) ?_;clear hK K hH;intro hH
   try simp only [LAY]
   have hYo:=own_new u (oqL o) 6 rfl 70;have hsY:=HA8.out.b3.lt;have hzY:u.heap.size+1≤(u.alloc (.cells ⟨oqL o⟩ 70)).heap.size:=by simp
   have hle:u.heap.size≤(u.alloc (.cells ⟨oqL o⟩ 70)).heap.size:=by simp
   replace HA8:=Lh (HA8.out.next ((Below.refl u.heap.size u).alloc (Nat.le_refl _) (.cells ⟨oqL o⟩ 70)))
   have hXY:X≠u.heap.size:=by omega
   replace hzX:=Nat.le_trans hzX hle
   replace hXo:=ownsRow_next hXo ((Below.refl u.heap.size u).alloc (Nat.le_refl _) (.cells ⟨oqL o⟩ 70))
   replace hH:(fun W=>Cz6 W (w.heap.size+1) o.k o.c o.s o.a o.n (.int .i32 o.ch)) (u.alloc (.cells ⟨oqL o⟩ 70)):=hH
   change wpAnyH _ _ _ _ _ _ _ _ (u.alloc (.cells ⟨oqL o⟩ 70))
   generalize (u.alloc (.cells ⟨oqL o⟩ 70))=U at hH HA8 hYo hzY hle hzX hXo ⊢;generalize u.heap.size=Y at hYo hsY hzY hle hXY ⊢;clear hle;refine lsd #[true,true,false,false,true,true,false,false,false] (by kernel_rfl) ?_;exact M1001.out X Y U HA8 hsX hzX hXo hYo hsY hzY hXY hH
 ·refine Lh ?_
  intro Y u HA8 hYo hsY hzY hH
  refine rd1 0 (by kernel_rfl) rfl fun K hK=>?_
  go_simp
  go_wp2_with fail
  refine hK.out _ _ (let h:=HA8.out.next ((Below.refl u.heap.size u).alloc (Nat.le_refl _) (.cells ⟨[]⟩ 70)); h.bo.c6) ?_;clear hK K hH;intro hH
  try simp only [LAY]
  have hXo:=own_zero u 6 70;have hsX:=HA8.out.b3.lt;have hzX:u.heap.size+1≤(u.alloc (.cells ⟨[]⟩ 70)).heap.size:=by simp
  have hle:u.heap.size≤(u.alloc (.cells ⟨[]⟩ 70)).heap.size:=by simp
  replace HA8:=Lh (HA8.out.next ((Below.refl u.heap.size u).alloc (Nat.le_refl _) (.cells ⟨[]⟩ 70)))
  replace hYo:=ownsRow_next hYo ((Below.refl u.heap.size u).alloc (Nat.le_refl _) (.cells ⟨[]⟩ 70))
  have hXY:u.heap.size≠Y:=by omega
  replace hzY:=Nat.le_trans hzY hle
  replace hH:(fun W=>Cz6 W (w.heap.size+1) o.k o.c o.s o.a o.n (.int .i32 o.ch)) (u.alloc (.cells ⟨[]⟩ 70)):=hH
  change wpAnyH _ _ _ _ _ _ _ _ (u.alloc (.cells ⟨[]⟩ 70))
  generalize (u.alloc (.cells ⟨[]⟩ 70))=U at hH HA8 hXo hzX hle hYo hzY ⊢;generalize u.heap.size=X at hXo hsX hzX hle hXY ⊢;clear hle;refine lsd #[true,true,true,false,true,true,false,false,false] (by kernel_rfl) ?_
  revert hH
  revert hXY
  revert hzY
  revert hsY
  revert hYo
  revert hXo
  revert hzX
  revert hsX
  revert HA8
  revert U
  revert Y
  revert X
  exact M1101.out
 ·refine Lh ?_
  intro X Y u HA8 hsX hzX hXo hYo hsY hzY hXY hH
  refine rd1 2 (by kernel_rfl) rfl fun K hK=>?_
  rw [if_pos (by rfl)];have x0:=HA8.out.bv.cell 0 rfl;go_simp
  go_wp2_with fail
  refine hK.out _ _ (let h:=HA8.out; h.bo.c6) ?_;clear hK K hH;intro hH
  try simp only [LAY]
  clear x0;refine lsd #[true,true,true,false,true,true,false,false,false] (by kernel_rfl) ?_;exact M1101.out X Y u HA8 hsX hzX hXo hYo hsY hzY hXY hH
 ·refine Lh ?_
  intro X u HA8 hsX hzX hXo hH
  refine wpAnyH_ready (rs:=[3,5]) (by kernel_rfl) (by simp) ?_;refine cons1 rfl (fun K hK=>?_) (cons1 rfl (fun K hK=>?_) AllReadyH.nil)
  ·rw [if_pos (by rfl)]
   refine wp_append_sl _ (.tmp 8) (.tmp 10) 45 rfl X 70 i0 zOq 6 48 Tryz.underlying45 hi0 hz0 hz1 hz2 rfl (by decide) _ 0 [] rfl hXo oqL_len oq_one _ m rfl (HM.out.next HA8.out.bel) (by unfold maxLen; omega) (by omega) (by omega) ?_;intro v1 U ho1 hg1
   have hb1:Below X u U:=Below.of_grown hg1 (by omega) (own_ge hXo);go_wp2_with fail
   refine hK.out _ _ (let h:=HA8.out.grow hb1 (by omega); h.bo.c6) ?_;clear hK K hH;intro hH
   try simp only [LAY]
   have HO1:=Lh ho1;have hs1:=hg1.size
   replace HA8:=Lh (HA8.out.grow hb1 (by omega))
   replace hzX:=Nat.le_trans hzX hs1
   clear ho1 hg1 hb1 hXo hs1;refine lsd #[true,true,true,true,true,false,false,false,false] (by kernel_rfl) ?_
   revert hH
   revert HO1
   revert hzX
   revert hsX
   revert HA8
   revert U
   revert v1
   revert X
   exact M1110.out
  ·go_simp
   go_wp2_with fail
   refine hK.out _ _ (let h:=HA8.out.next ((Below.refl u.heap.size u).alloc (Nat.le_refl _) (.cells ⟨oqL o⟩ 70)); h.bo.c6) ?_;clear hK K hH;intro hH
   try simp only [LAY]
   have hYo:=own_new u (oqL o) 6 rfl 70;have hsY:=HA8.out.b3.lt;have hzY:u.heap.size+1≤(u.alloc (.cells ⟨oqL o⟩ 70)).heap.size:=by simp
   have hle:u.heap.size≤(u.alloc (.cells ⟨oqL o⟩ 70)).heap.size:=by simp
   replace HA8:=Lh (HA8.out.next ((Below.refl u.heap.size u).alloc (Nat.le_refl _) (.cells ⟨oqL o⟩ 70)))
   have hXY:X≠u.heap.size:=by omega
   replace hzX:=Nat.le_trans hzX hle
   replace hXo:=ownsRow_next hXo ((Below.refl u.heap.size u).alloc (Nat.le_refl _) (.cells ⟨oqL o⟩ 70))
   replace hH:(fun W=>Cz6 W (w.heap.size+1) o.k o.c o.s o.a o.n (.int .i32 o.ch)) (u.alloc (.cells ⟨oqL o⟩ 70)):=hH
   change wpAnyH _ _ _ _ _ _ _ _ (u.alloc (.cells ⟨oqL o⟩ 70))
   generalize (u.alloc (.cells ⟨oqL o⟩ 70))=U at hH HA8 hYo hzY hle hzX hXo ⊢;generalize u.heap.size=Y at hYo hsY hzY hle hXY ⊢;clear hle;refine lsd #[true,true,true,false,true,true,false,false,false] (by kernel_rfl) ?_;exact M1101.out X Y U HA8 hsX hzX hXo hYo hsY hzY hXY hH
 ·refine Lh ?_
  intro X Y u HA8 hsX hzX hXo hYo hsY hzY hXY hH
  refine rd1 3 (by kernel_rfl) rfl fun K hK=>?_
  rw [if_pos (by rfl)];refine wp_append_sl _ (.tmp 8) (.tmp 10) 45 rfl X 70 i0 zOq 6 48 Tryz.underlying45 hi0 hz0 hz1 hz2 rfl (by decide) _ 0 [] rfl hXo oqL_len oq_one _ m rfl (HM.out.next HA8.out.bel) (by unfold maxLen; omega) (by omega) (by omega) ?_;intro v1 U ho1 hg1
  have hb1:Below X u U:=Below.of_grown hg1 (by omega) (own_ge hXo);go_wp2_with fail
  refine hK.out _ _ (let h:=HA8.out.grow hb1 (by omega); h.bo.c6) ?_;clear hK K hH;intro hH
  try simp only [LAY]
  have HO1:=Lh ho1;have hs1:=hg1.size
  replace HA8:=Lh (HA8.out.grow hb1 (by omega))
  replace hzX:=Nat.le_trans hzX hs1
  replace hYo:=own_apart hYo hg1 (fun r e1 e2=>by cases e1; cases e2; omega)
  replace hzY:=Nat.le_trans hzY hs1
  clear ho1 hg1 hb1 hXo hs1;refine lsd #[true,true,true,true,true,true,false,false,false] (by kernel_rfl) ?_
  revert hH
  revert hXY
  revert hzY
  revert hsY
  revert hYo
  revert HO1
  revert hzX
  revert hsX
  revert HA8
  revert U
  revert Y
  revert v1
  revert X
  exact M1111.out
 ·refine Lh ?_
  intro X v1 u HA8 hsX hzX HO1 hH
  refine rd1 5 (by kernel_rfl) rfl fun K hK=>?_
  go_simp
  go_wp2_with fail
  refine hK.out _ _ (let h:=HA8.out.next ((Below.refl u.heap.size u).alloc (Nat.le_refl _) (.cells ⟨oqL o⟩ 70)); h.bo.c6) ?_;clear hK K hH;intro hH
  try simp only [LAY]
  have hYo:=own_new u (oqL o) 6 rfl 70;have hsY:=HA8.out.b3.lt;have hzY:u.heap.size+1≤(u.alloc (.cells ⟨oqL o⟩ 70)).heap.size:=by simp
  have hle:u.heap.size≤(u.alloc (.cells ⟨oqL o⟩ 70)).heap.size:=by simp
  replace HA8:=Lh (HA8.out.next ((Below.refl u.heap.size u).alloc (Nat.le_refl _) (.cells ⟨oqL o⟩ 70)))
  have hXY:X≠u.heap.size:=by omega
  replace hzX:=Nat.le_trans hzX hle
  replace HO1:=Lh (ownsRow_next HO1.out ((Below.refl u.heap.size u).alloc (Nat.le_refl _) (.cells ⟨oqL o⟩ 70)))
  replace hH:(fun W=>Cz6 W (w.heap.size+1) o.k o.c o.s o.a o.n (.int .i32 o.ch)) (u.alloc (.cells ⟨oqL o⟩ 70)):=hH
  change wpAnyH _ _ _ _ _ _ _ _ (u.alloc (.cells ⟨oqL o⟩ 70))
  generalize (u.alloc (.cells ⟨oqL o⟩ 70))=U at hH HA8 hYo hzY hle hzX HO1 ⊢;generalize u.heap.size=Y at hYo hsY hzY hle hXY ⊢;clear hle;refine lsd #[true,true,true,true,true,true,false,false,false] (by kernel_rfl) ?_;exact M1111.out X v1 Y U HA8 hsX hzX HO1 hYo hsY hzY hXY hH
 ·refine Lh ?_
  intro X v1 Y u HA8 hsX hzX HO1 hYo hsY hzY hXY hH
  refine rd1 6 (by kernel_rfl) rfl fun K hK=>?_
  rw [if_pos (by rfl)];refine wp_append_at _ (.tmp 11) (.tmp 13) 45 rfl X 70 i0 zOq 6 48 Tryz.underlying45 hi0 hz0 hz1 hz2 rfl (by decide) _ (0+m.length) _ rfl HO1.out ⟨Y,0,none⟩ 1 1 (oqL o) rfl rfl (hYo.cells rfl) (oq_one o) (by unfold maxLen; omega) (by omega) (by omega) ?_;intro v2 U ho2 hg2 _
  have hb2:Below X u U:=Below.of_grown hg2 (by omega) (own_ge HO1.out);go_wp2_with fail
  refine hK.out _ _ (let h:=HA8.out.grow hb2 (by omega); h.bo.c6) ?_;clear hK K hH;intro hH
  try simp only [LAY]
  have HA2:=Lh (HA8.out.grow hb2 (by omega));have hi2:IsO U v2 M:=by rw [HME.out]; exact Sl.of (by rw [List.length_append,List.flatMap_append,show m.length+[o].length=0+m.length+1 by simp]; simpa using ho2)
  clear HA8 ho2 hg2 hb2;obtain ⟨a2,c2,rfl,hd1,hd2⟩:=hi2.form;have HI2:=Lh hi2;clear hi2;have x0:=HA2.out.bv.cell 0 rfl;have f0:=HA2.out.bv.free 0;refine tk 7 (.pointer (some ⟨w.heap.size,0,none⟩)) hH (fun w hSw=>?_) ?_
  ·(go_simp)
  try simp only [LAY]
  refine rd1 8 (by kernel_rfl) rfl fun K hK=>?_
  go_simp
  go_wp2_with fail
  refine hK.out _ _ (let h:=HA2.out.put (.slice a2 M.length c2); h.bo.c6) ?_;clear hK K hH;intro hH
  try simp only [LAY]
  have HA3:=Lh (And.intro (HA2.out.put (.slice a2 M.length c2)) (Sl.set HA2.out.bv (by decide) 0 (.slice a2 M.length c2) HI2.out));refine dnH ?_;clear hH x0 f0;exact HG.out _ _ _ _ _ _ HA3.out.1 HA3.out.2
end Go.Proofs.YtpbhaieclkoggaaGreatDoor
set_option maxRecDepth 100000
set_option maxHeartbeats 12800000
namespace Go.Proofs.YtpbhaieclkoggaaGreatDoor
open Go Go.Proofs Go.RowKit
structure V8 (w:World) (vm vl:Value) (W:World):Prop where
 bel:Below w.heap.size w W
 bv:Blk W w.heap.size [vm,vl] 47
theorem V8.next {w:World} {vm vl:Value} {W W':World} (h:V8 w vm vl W) (hb:Below W.heap.size W W'):V8 w vm vl W':=⟨h.bel.trans (hb.mono h.bel.size),h.bv.next hb⟩
theorem V8.start (w:World) (vm vl:Value):V8 w vm vl (w.alloc (.cells #[vm,vl] 47)):=⟨bA,Blk.start w _ _⟩
theorem refCtr_any (m l:List Oq) (hO:OkO m) (hR:RmO l) (vm vl:Value) (w:World) (hM:IsO w vm m) (hL:IsO w vl l):
  Calls Tryz.prog 63 #[.agg #[vm,vl]] w fun e w'=>e=.returned (.int .i64 (ctrI m l))∧Below w.heap.size w w':=by
 have HM:=Lh hM;have HTP:=Lh (fun W (h:IsO W vl l)=>refTop_any l vl W h);have HL:=Lh hL;obtain ⟨ad,cap,rfl,hc1,hc2⟩:=hM.form;obtain ⟨al,cl,rfl,hc3,hc4⟩:=hL.form;have HC:=Lh (show ctrI m l=topM m (topI l)+1 from rfl);have HIN:=Lh (ctr_in hO hR);have hlo:=Int.le_trans (top_ge l) (topM_ge m (topI l));have hhi:=topM_le hO (topI_le hR);generalize ctrI m l=cc at *
 generalize hn:topI l=n0 at *
 have H0:=Lh (V8.start w (.slice ad m.length cap) (.slice al l.length cl));have x1:=H0.out.bv.cell 1 rfl;clear hM hL hO hR
 go_enter Tryz.func63,Tryz.ntmps63
 go_wp2_with (go_at_call 103; refine (HTP.out _ (HL.out.next H0.out.bel)).mono ?_; rintro e w1 ⟨rfl,hb⟩; refine Hid.out ?_)
 have HB:=Lh (H0.out.next hb);clear H0 hb x1;refine Lh ?_;go_wp2_with fail
 go_loopg [3,4] m.length (fun g tn ti wr=>∃ k:Nat,k≤m.length∧g=m.length-k∧ti=.int .i64 (k:Int)∧tn=.int .i64 (topM (m.take k) n0)∧V8 w (.slice ad m.length cap) (.slice al l.length cl) wr)
 case atStart=>exact ⟨0,Nat.zero_le _,rfl,rfl,rfl,HB.out⟩
 case round=>
  obtain ⟨k,hk,rfl,rfl,rfl,hV⟩:=hrel;clear HB;have HV:=Lh hV;have x0:=hV.bv.cell 0 rfl;clear hV;by_cases hlt:k<m.length
  ·obtain ⟨g,rfl,hg,hC⟩:=HM.out.at k hlt
   have HT:=Lh (topM_take (n:=n0) hlt);generalize m[k]=x at *
   obtain ⟨c0,c1,c2,c3,c4,c5⟩:=hC _ HV.out.bel;clear hC;generalize topM (m.take k) n0=t at *
   by_cases hk0:x.k=0
   ·have he0:(x.k==0)=true:=by simpa using hk0
    by_cases hx:t<x.c
    ·have HN:=Lh (show topM (m.take (k+1)) n0=x.c by rw [HT.out,if_pos ⟨hk0,hx⟩])
     clear hk0;go_wp2_with fail
     go_roundg (m.length-(k+1))
     case measure=>omega
     case rel=>exact ⟨k+1,by omega,rfl,by go_num,by rw [HN.out],HV.out⟩
    ·have HN:=Lh (show topM (m.take (k+1)) n0=t by rw [HT.out,if_neg (fun h=>hx h.2)])
     clear hk0;go_wp2_with fail
     go_roundg (m.length-(k+1))
     case measure=>omega
     case rel=>exact ⟨k+1,by omega,rfl,by go_num,by rw [HN.out],HV.out⟩
   ·have he0:(x.k==0)=false:=by simpa using hk0
    have HN:=Lh (show topM (m.take (k+1)) n0=t by rw [HT.out,if_neg (fun h=>hk0 h.1)]);clear hk0;go_wp2_with fail
    go_roundg (m.length-(k+1))
    case measure=>omega
    case rel=>exact ⟨k+1,by omega,rfl,by go_num,by rw [HN.out],HV.out⟩
  ·obtain rfl:k=m.length:=by omega
   rw [List.take_length];generalize topM m n0=t at *
   have HC2:=Lh (show t+1=cc by rw [HC.out]);go_wp2_with fail
   go_ret
   exact ⟨by rw [←HC2.out]; rfl,HV.out.bel⟩
theorem refNamed_any (m:List Oq) (k0:Int) (hk0 : -9223372036854775808≤k0) (hk1:k0≤9223372036854775807) (hO:OkO m) (hm:m.length≤900) (vm vl:Value) (w:World) (hM:IsO w vm m):
  Calls Tryz.prog 64 #[.agg #[vm,vl],k0] w fun e w'=>e=.returned (.agg #[.int .i64 (namC (docR m) k0).1,.int .i64 (namC (docR m) k0).2])∧Below w.heap.size w w':=by
 have HM:=Lh hM;have HLS:=Lh (fun (vm vl:Value) (W:World) (h:IsO W vm m)=>ref8List_any m (by omega) hO.gd vm vl W h);have hdl:(docR m).length≤m.length:=by rw [docR_len]; exact row_len hO.gd
 generalize docR m=L at *
 have HSE:=Lh (fun v W (h:IsE W v L)=>refSelect_any L k0 hk0 hk1 v W h (by omega));have H0:=Lh (V8.start w vm vl);have H1:=Lh (show V8 w vm vl ((w.alloc (.cells #[vm,vl] 47)).alloc (.cells #[.int .i64 0,.int .i64 0] 68)) from H0.out.next (bA));have HI:=Lh (show Blk ((w.alloc (.cells #[vm,vl] 47)).alloc (.cells #[.int .i64 0,.int .i64 0] 68)) (w.heap.size+1) [.int .i64 0,.int .i64 0] 68 from Blk.startAt (by simp));have x0 := H1.out.bv.c2;clear H0 hM hO hk0 hk1
 go_enter Tryz.func64,Tryz.ntmps64
 go_wp2_with (go_at_call 27; refine (HLS.out _ _ _ (HM.out.next H1.out.bel)).mono ?_; rintro e w1 ⟨v3,rfl,hE,hb⟩; obtain ⟨a3,c3,rfl,hd3,hd4⟩:=hE.form; refine Hid.out ?_)
 have HB:=Lh (And.intro (H1.out.next hb).bel (HI.out.next hb));have HE:=Lh hE;clear H1 HI hE hb x0;refine Lh ?_;go_wp2_with (go_at_call 74; refine (HSE.out _ _ HE.out).mono ?_; rintro e w2 ⟨r,rfl,hr,hs,hb⟩; refine Hid.out ?_)
 have HS:=Lh hs;have HB2:=Lh (And.intro (HB.out.1.trans (hb.mono HB.out.1.size)) (HB.out.2.next hb));have HE2:=Lh (HE.out.next hb);clear HB HE hb hs;have z0 := HB2.out.2.c2;have f0 := HB2.out.2.f2;refine Lh ?_;have hle:w.heap.size≤w.heap.size+1:=by omega
 by_cases hk:k0<0
 ·have HN:=Lh (show namC L k0=(0,0) by unfold namC; rw [if_pos hk])
  go_wp2_with fail
  refine bodyPost_ret (v:=.agg #[.int .i64 0,.int .i64 0]) (by simp [results, Tryz.results64, go_sem, z0]) rfl ⟨by rw [HN.out],(HB2.out.1.setCell (p:=⟨w.heap.size+1,0,none⟩) hle _).setCell (p:=⟨w.heap.size+1,1,none⟩) hle _⟩
 ·have HR:=Lh (HS.out (by omega))
  by_cases hrl:r=L.length
  ·have HN:=Lh (show namC L k0=(0,0) by unfold namC; rw [if_neg hk,←HR.out,hrl,List.getElem?_eq_none (Nat.le_refl _)])
   subst hrl;have hkf:decide (k0<0)=false:=decide_eq_false hk;clear hk;go_wp2_with fail
   refine bodyPost_ret (v:=.agg #[.int .i64 0,.int .i64 0]) (by simp [results, Tryz.results64, go_sem, z0]) rfl ⟨by rw [HN.out],(HB2.out.1.setCell (p:=⟨w.heap.size+1,0,none⟩) hle _).setCell (p:=⟨w.heap.size+1,1,none⟩) hle _⟩
  ·have hlt:r<L.length:=by omega
   have HN:=Lh (show namC L k0=(L[r].c,L[r].s) by unfold namC; rw [if_neg hk,←HR.out,List.getElem?_eq_getElem hlt]);obtain ⟨g,rfl,hg,hC⟩:=HE2.out.at r hlt;generalize L[r]=x at *
   obtain ⟨c0,c1,_,_⟩:=hC _ (Below.refl _ _);have hne:((r:Int)==(L.length:Int))=false:=by simp; omega
   have hkf:decide (k0<0)=false:=decide_eq_false hk;clear hC hrl hk;go_wp2_with fail
   refine bodyPost_ret (v:=.agg #[x.c,x.s]) (by simp [results, Tryz.results64, go_sem, z0]) rfl ⟨by rw [HN.out],(HB2.out.1.setCell (p:=⟨w.heap.size+1,0,none⟩) hle _).setCell (p:=⟨w.heap.size+1,1,none⟩) hle _⟩
end Go.Proofs.YtpbhaieclkoggaaGreatDoor
