import Derived.Test.YtifnijmienmmbaaGreatDoorRg8
set_option maxRecDepth 100000
set_option maxHeartbeats 12800000
namespace Go.Proofs.YtifnijmienmmbaaGreatDoor
open Go Go.Proofs Go.RowKit
structure V8 (w:World) (vm vl:Value) (W:World):Prop where
 bel:Below w.heap.size w W
 bv:Blk W w.heap.size [vm,vl] 44
theorem V8.next {w:World} {vm vl:Value} {W W':World} (h:V8 w vm vl W) (hb:Below W.heap.size W W'):V8 w vm vl W':=⟨h.bel.trans (hb.mono h.bel.size),h.bv.next hb⟩
theorem V8.start (w:World) (vm vl:Value):V8 w vm vl (w.alloc (.cells #[vm,vl] 44)):=⟨bA,Blk.start w _ _⟩
theorem refCtr_any (m l:List Oq) (hO:OkO m) (hR:RmO l) (vm vl:Value) (w:World) (hM:IsO w vm m) (hL:IsO w vl l):
  Calls Tryz.prog 70 #[.agg #[vm,vl]] w fun e w'=>e=.returned (.int .i64 (ctrI m l))∧Below w.heap.size w w':=by
 have HM:=Lh hM;have HTP:=Lh (fun W (h:IsO W vl l)=>refTop_any l vl W h);have HL:=Lh hL;obtain ⟨ad,cap,rfl,hc1,hc2⟩:=hM.form;obtain ⟨al,cl,rfl,hc3,hc4⟩:=hL.form;have HC:=Lh (show ctrI m l=topM m (topI l)+1 from rfl);have HIN:=Lh (ctr_in hO hR);have hlo:=Int.le_trans (top_ge l) (topM_ge m (topI l));have hhi:=topM_le hO (topI_le hR);generalize ctrI m l=cc at *
 generalize hn:topI l=n0 at *
 have H0:=Lh (V8.start w (.slice ad m.length cap) (.slice al l.length cl));have x1:=H0.out.bv.cell 1 rfl;clear hM hL hO hR
 go_enter Tryz.func70,Tryz.ntmps70
 go_wp2_with (go_at_call 110; refine (HTP.out _ (HL.out.next H0.out.bel)).mono ?_; rintro e w1 ⟨rfl,hb⟩; refine Hid.out ?_)
 have HB:=Lh (H0.out.next hb);clear H0 hb x1;refine Lh ?_;go_wp2_with fail
 go_loopg [3,4] m.length (fun g tn ti wr=>∃ k:Nat,k≤m.length∧g=m.length-k∧ti=.int .i64 (k:Int)∧tn=.int .i64 (topM (m.take k) n0)∧V8 w (.slice ad m.length cap) (.slice al l.length cl) wr)
 case atStart=>exact ⟨0,Nat.zero_le _,rfl,rfl,rfl,HB.out⟩
 case round=>
  obtain ⟨k,hk,rfl,rfl,rfl,hV⟩:=hrel;clear HB;have HV:=Lh hV;have x0:=hV.bv.cell 0 rfl;clear hV;by_cases hlt:k<m.length
  ·obtain ⟨g,rfl,hg,hC⟩:=HM.out.at k hlt
   have HT:=Lh (topM_take (n:=n0) hlt);generalize m[k]=x at *
   obtain ⟨c0,c1,c2,c3,c4,c5⟩:=hC _ HV.out.bel;clear hC;generalize topM (m.take k) n0=t at *
   by_cases hk0:x.k=0
   ·have he0:(x.k==0)=true:=by simpa using hk0
    by_cases hx:t<x.c
    ·have HN:=Lh (show topM (m.take (k+1)) n0=x.c by rw [HT.out,if_pos ⟨hk0,hx⟩])
     clear hk0;go_wp2_with fail
     go_roundg (m.length-(k+1))
     case measure=>omega
     case rel=>exact ⟨k+1,by omega,rfl,by go_num,by rw [HN.out],HV.out⟩
    ·have HN:=Lh (show topM (m.take (k+1)) n0=t by rw [HT.out,if_neg (fun h=>hx h.2)])
     clear hk0;go_wp2_with fail
     go_roundg (m.length-(k+1))
     case measure=>omega
     case rel=>exact ⟨k+1,by omega,rfl,by go_num,by rw [HN.out],HV.out⟩
   ·have he0:(x.k==0)=false:=by simpa using hk0
    have HN:=Lh (show topM (m.take (k+1)) n0=t by rw [HT.out,if_neg (fun h=>hk0 h.1)]);clear hk0;go_wp2_with fail
    go_roundg (m.length-(k+1))
    case measure=>omega
    case rel=>exact ⟨k+1,by omega,rfl,by go_num,by rw [HN.out],HV.out⟩
  ·obtain rfl:k=m.length:=by omega
   rw [List.take_length];generalize topM m n0=t at *
   have HC2:=Lh (show t+1=cc by rw [HC.out]);go_wp2_with fail
   go_ret
   exact ⟨by rw [←HC2.out]; rfl,HV.out.bel⟩
theorem refNamed_any (m:List Oq) (k0:Int) (hk0 : -9223372036854775808≤k0) (hk1:k0≤9223372036854775807) (hO:OkO m) (hm:m.length≤900) (vm vl:Value) (w:World) (hM:IsO w vm m):
  Calls Tryz.prog 71 #[.agg #[vm,vl],k0] w fun e w'=>e=.returned (.agg #[.int .i64 (namC (docR m) k0).1,.int .i64 (namC (docR m) k0).2])∧Below w.heap.size w w':=by
 have HM:=Lh hM;have HLS:=Lh (fun (vm vl:Value) (W:World) (h:IsO W vm m)=>ref8List_any m (by omega) hO.gd vm vl W h);have hdl:(docR m).length≤m.length:=by rw [docR_len]; exact row_len hO.gd
 generalize docR m=L at *
 have HSE:=Lh (fun v W (h:IsE W v L)=>refSelect_any L k0 hk0 hk1 v W h (by omega));have H0:=Lh (V8.start w vm vl);have H1:=Lh (show V8 w vm vl ((w.alloc (.cells #[vm,vl] 44)).alloc (.cells #[.int .i64 0,.int .i64 0] 52)) from H0.out.next (bA));have HI:=Lh (show Blk ((w.alloc (.cells #[vm,vl] 44)).alloc (.cells #[.int .i64 0,.int .i64 0] 52)) (w.heap.size+1) [.int .i64 0,.int .i64 0] 52 from Blk.startAt (by simp));have x0 := H1.out.bv.c2;clear H0 hM hO hk0 hk1
 go_enter Tryz.func71,Tryz.ntmps71
 go_wp2_with (go_at_call 22; refine (HLS.out _ _ _ (HM.out.next H1.out.bel)).mono ?_; rintro e w1 ⟨v3,rfl,hE,hb⟩; obtain ⟨a3,c3,rfl,hd3,hd4⟩:=hE.form; refine Hid.out ?_)
 have HB:=Lh (And.intro (H1.out.next hb).bel (HI.out.next hb));have HE:=Lh hE;clear H1 HI hE hb x0;refine Lh ?_;go_wp2_with (go_at_call 24; refine (HSE.out _ _ HE.out).mono ?_; rintro e w2 ⟨r,rfl,hr,hs,hb⟩; refine Hid.out ?_)
 have HS:=Lh hs;have HB2:=Lh (And.intro (HB.out.1.trans (hb.mono HB.out.1.size)) (HB.out.2.next hb));have HE2:=Lh (HE.out.next hb);clear HB HE hb hs;have z0 := HB2.out.2.c2;have f0 := HB2.out.2.f2;refine Lh ?_;have hle:w.heap.size≤w.heap.size+1:=by omega
 by_cases hk:k0<0
 ·have HN:=Lh (show namC L k0=(0,0) by unfold namC; rw [if_pos hk])
  go_wp2_with fail
  refine bodyPost_ret (v:=.agg #[.int .i64 0,.int .i64 0]) (by simp [results, Tryz.results71, go_sem, z0]) rfl ⟨by rw [HN.out],(HB2.out.1.setCell (p:=⟨w.heap.size+1,0,none⟩) hle _).setCell (p:=⟨w.heap.size+1,1,none⟩) hle _⟩
 ·have HR:=Lh (HS.out (by omega))
  by_cases hrl:r=L.length
  ·have HN:=Lh (show namC L k0=(0,0) by unfold namC; rw [if_neg hk,←HR.out,hrl,List.getElem?_eq_none (Nat.le_refl _)])
   subst hrl;have hkf:decide (k0<0)=false:=decide_eq_false hk;clear hk;go_wp2_with fail
   refine bodyPost_ret (v:=.agg #[.int .i64 0,.int .i64 0]) (by simp [results, Tryz.results71, go_sem, z0]) rfl ⟨by rw [HN.out],(HB2.out.1.setCell (p:=⟨w.heap.size+1,0,none⟩) hle _).setCell (p:=⟨w.heap.size+1,1,none⟩) hle _⟩
  ·have hlt:r<L.length:=by omega
   have HN:=Lh (show namC L k0=(L[r].c,L[r].s) by unfold namC; rw [if_neg hk,←HR.out,List.getElem?_eq_getElem hlt]);obtain ⟨g,rfl,hg,hC⟩:=HE2.out.at r hlt;generalize L[r]=x at *
   obtain ⟨c0,c1,_,_⟩:=hC _ (Below.refl _ _);have hne:((r:Int)==(L.length:Int))=false:=by simp; omega
   have hkf:decide (k0<0)=false:=decide_eq_false hk;clear hC hrl hk;go_wp2_with fail
   refine bodyPost_ret (v:=.agg #[x.c,x.s]) (by simp [results, Tryz.results71, go_sem, z0]) rfl ⟨by rw [HN.out],(HB2.out.1.setCell (p:=⟨w.heap.size+1,0,none⟩) hle _).setCell (p:=⟨w.heap.size+1,1,none⟩) hle _⟩
end Go.Proofs.YtifnijmienmmbaaGreatDoor
