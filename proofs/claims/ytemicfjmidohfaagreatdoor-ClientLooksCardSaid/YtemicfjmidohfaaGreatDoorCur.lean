import Derived.Test.YtemicfjmidohfaaGreatDoorVer
import Derived.Test.YtemicfjmidohfaaGreatDoorEb
import Derived.Deep.CutRange
set_option maxRecDepth 100000
set_option maxHeartbeats 12800000
namespace Go.Proofs.YtemicfjmidohfaaGreatDoor
open Go Go.Proofs Go.RowKit
theorem bel1c (w:World) (l:Array Value) (t:TypeId):Below w.heap.size w (w.alloc (.cells l t)):=bA
structure U11 (w:World) (cs z:List Value) (m l:List Oq) (W:World):Prop where
 bel:Below w.heap.size w W
 bv:Blk W w.heap.size cs 43
 br:Blk W (w.heap.size+1) z 230
 iv:IsV W m l cs
theorem U11.next {w:World} {cs z:List Value} {m l:List Oq} {W W':World} (h:U11 w cs z m l W) (hb:Below W.heap.size W W'):U11 w cs z m l W':=⟨h.bel.trans (hb.mono h.bel.size),h.bv.next hb,h.br.next hb,h.iv.next hb⟩
theorem U11.start {w:World} {cs z:List Value} {m l:List Oq} (hv:IsV w m l cs):U11 w cs z m l ((w.alloc (.cells ⟨cs⟩ 43)).alloc (.cells ⟨z⟩ 230)):=by
 have hb:Below w.heap.size w ((w.alloc (.cells ⟨cs⟩ 43)).alloc (.cells ⟨z⟩ 230)):=(bA).alloc (by simp) _;exact ⟨hb,(Blk.start w cs _).alloc _,Blk.startAt (by simp),hv.next hb⟩
theorem U11.put {w:World} {cs z:List Value} {m l:List Oq} {W:World} (h:U11 w cs z m l W) (x y:Value):Below w.heap.size w ((W.setCell ⟨w.heap.size+1,0,none⟩ x).setCell ⟨w.heap.size+1,1,none⟩ y)∧Blk ((W.setCell ⟨w.heap.size+1,0,none⟩ x).setCell ⟨w.heap.size+1,1,none⟩ y) (w.heap.size+1) ((z.set 0 x).set 1 y) 230:=
 ⟨(h.bel.setCell (p:=⟨w.heap.size+1,0,none⟩) (by simp) x).setCell (p:=⟨w.heap.size+1,1,none⟩) (by simp) y,(h.br.set 0 x).set 1 y⟩
theorem ali_le {m l:List Oq} {n:Nat} (hV:VOk m l n) (hn:n≤130):0≤aliN (docR m)∧aliN (docR m)≤300:=by
 have h1:=hV.len;have h2:=row_len hV.ok.gd;have h3:=alive_le (docR m);rw [ali_sum]; rw [docR_len] at h3; omega
theorem cat_ok (hLn:VLenOk) (hNm:VNamedOk):CAtOk:=by
 intro m l n k c0 c1 c2 c3 c4 c5 c6 c7 w hV hn hk0 hk1 hS;have HLN:=Lh (fun W h=>hLn m l n c0 c1 c2 c3 c4 c5 c6 c7 W hV hn h);have HNM:=Lh (fun W h=>hNm m l n k c0 c1 c2 c3 c4 c5 c6 c7 W hV hn hk0 hk1 h);have hal:=ali_le hV hn;have HL:=Lh (show (rkL (docR m) ((docR m).length:Int):Int)=aliN (docR m) from rfl);rw [HL.out] at HLN;have hend:=fun h=>nam_end (docR m) k h
 have HCU:=Lh (show cuE (docR m) k=if k<0∨aliN (docR m)<k then 2 else 0 from rfl);have H0:=Lh (U11.start (z:=[.int .i64 0,.int .i64 0]) hS);obtain ⟨sd0,sd1,sd2,sd3,sd4,sd5,sd6,sd7⟩:=st8 hS.one;clear hLn hNm hS hV HL;generalize aliN (docR m)=ax at *;generalize cuE (docR m) k=E at *;generalize namC (docR m) k=q at *;have v0 := H0.out.bv.c8;have HEND:=Lh hend;clear hend;go_enter Tryz.func131,Tryz.ntmps131;go_wp2_with fail;refine (HLN.out _ H0.out.iv).mono ?_;rintro e w1 ⟨rfl,hb⟩;have H1:=Lh (H0.out.next hb);clear H0 hb HLN v0;have y0 := H1.out.br.c2;have f0 := H1.out.br.f2;have HP:=Lh (H1.out.put (.int .i64 0) (.int .i64 0));by_cases hbad:k<0∨ax<k
 ·have HN:=Lh (And.intro (HEND.out (by omega)) (HCU.out.trans (if_pos hbad)));clear HCU HEND HNM;rcases hbad with hbad | hbad;rotate_left;have hk:(decide (k<0))=false:=by simp; omega
  rotate_left
  all_goals
   go_wp2_with fail;have p0 := HP.out.2.c2;exact bodyPost_ret (v:=.tuple #[.agg #[.int .i64 0,.int .i64 0],.int .i64 2]) (by simp [results, Tryz.results131, go_sem, p0]) rfl ⟨by rw [HN.out.1,HN.out.2],HP.out.1⟩
 have hb0:¬ k<0:=by omega
 have hb1:¬ ax<k:=by omega
 have hE:E=0:=HCU.out.trans (if_neg hbad);clear HCU hbad;by_cases hke:k=ax
 ·have HN:=Lh (And.intro (HEND.out (by omega)) hE);clear HEND HNM hE;subst hke;go_wp2_with fail;have p0 := HP.out.2.c2;exact bodyPost_ret (v:=.tuple #[.agg #[.int .i64 0,.int .i64 0],.int .i64 0]) (by simp [results, Tryz.results131, go_sem, p0]) rfl ⟨by rw [HN.out.1,HN.out.2],HP.out.1⟩
 ·have HN:=Lh hE;have hke':(k==ax)=false:=by simpa using hke
  clear hE hke HEND HP;have v0 := H1.out.bv.c8;go_wp2_with fail;refine (HNM.out _ H1.out.iv).mono ?_;rintro e w2 ⟨rfl,hb⟩;have hA:=bel1c w2 #[q.1,q.2] 71;have H2:=Lh ((H1.out.next hb).next hA);have BI:=Lh (Blk.start w2 [q.1,q.2] 71);clear H1 hb hA v0 y0 f0 HNM;go_upto_region 3 with fail;generalize w2.alloc (.cells #[q.1,q.2] 71)=W2 at *;generalize w2.heap.size=bI at *;have y0 := H2.out.br.c2;have f0 := H2.out.br.f2;have g0 := BI.out.c2;have HP:=Lh (H2.out.put q.1 q.2);go_wp2_with fail;have p0 := HP.out.2.c2;exact bodyPost_ret (v:=.tuple #[.agg #[q.1,q.2],.int .i64 0]) (by simp [results, Tryz.results131, go_sem, p0]) rfl ⟨by rw [HN.out],HP.out.1⟩
structure V11 (w:World) (a b:Int) (cs:List Value) (m l:List Oq) (W:World):Prop where
 bel:Below w.heap.size w W
 bc:Blk W w.heap.size [a,b] 230
 bv:Blk W (w.heap.size+1) cs 43
 iv:IsV W m l cs
theorem V11.next {w:World} {a b:Int} {cs:List Value} {m l:List Oq} {W W':World} (h:V11 w a b cs m l W) (hb:Below W.heap.size W W'):V11 w a b cs m l W':=⟨h.bel.trans (hb.mono h.bel.size),h.bc.next hb,h.bv.next hb,h.iv.next hb⟩
theorem V11.start {w:World} (a b:Int) {cs:List Value} {m l:List Oq} (hv:IsV w m l cs):V11 w a b cs m l ((w.alloc (.cells #[a,b] 230)).alloc (.cells ⟨cs⟩ 43)):=by
 have hb:Below w.heap.size w ((w.alloc (.cells #[a,b] 230)).alloc (.cells ⟨cs⟩ 43)):=(bA).alloc (by simp) _;exact ⟨hb,(Blk.start w [a,b] _).alloc _,Blk.startAt (by simp),hv.next hb⟩
theorem cre_ok (hLn:VLenOk) (hBf:VBeforeOk):CReOk:=by
 intro m l n a b c0 c1 c2 c3 c4 c5 c6 c7 w hV hn hS;have HLN:=Lh (fun W h=>hLn m l n c0 c1 c2 c3 c4 c5 c6 c7 W hV hn h);have HBF:=Lh (fun W h=>hBf m l n a b c0 c1 c2 c3 c4 c5 c6 c7 W hV hn h);have HL:=Lh (show (rkL (docR m) ((docR m).length:Int):Int)=aliN (docR m) from rfl);rw [HL.out] at HLN;have HRN:=Lh (show reN (docR m) a b=(if noneB a b=true then aliN (docR m) else (rkL (docR m) (fnd (elB a b) (docR m) 0):Int))∧reE (docR m) a b=(if noneB a b=true then 0 else if fnd (elB a b) (docR m) 0<0 then 6 else 0) from ⟨rfl,rfl⟩);have hneg:fnd (elB a b) (docR m) 0<0→(rkL (docR m) (fnd (elB a b) (docR m) 0):Int)=0:=fun h=>by rw [rkL_neg _ (by omega)]; rfl
 have HNG:=Lh hneg;have H0:=Lh (V11.start a b hS);obtain ⟨sd0,sd1,sd2,sd3,sd4,sd5,sd6,sd7⟩:=st8 hS.one;clear hLn hBf hS hV HL hneg;generalize aliN (docR m)=ax at *;generalize (rkL (docR m) (fnd (elB a b) (docR m) 0):Int)=N at *;generalize fnd (elB a b) (docR m) 0=f at *;generalize reN (docR m) a b=N1 at *;generalize reE (docR m) a b=E1 at *;have x0 := H0.out.bc.c2;go_enter Tryz.func134,Tryz.ntmps134;go_wp2_with fail;refine (none_any a b _).mono ?_;rintro e w1 ⟨rfl,hb⟩;have H1:=Lh (H0.out.next hb);clear H0 hb x0;have x0 := H1.out.bc.c2;have v0 := H1.out.bv.c8;cases hno:noneB a b with
 | true=>
  rw [hno] at HRN;have HN:=Lh (show N1=ax∧E1=0 from ⟨HRN.out.1.trans (if_pos rfl),HRN.out.2.trans (if_pos rfl)⟩);clear HRN HNG HBF hno;go_wp2_with (go_at_call 129; refine (HLN.out _ H1.out.iv).mono ?_; rintro e w2 ⟨rfl,hb⟩);go_ret2;exact ⟨by rw [HN.out.1,HN.out.2]; rfl,H1.out.bel.trans (hb.mono H1.out.bel.size)⟩
 | false=>
  rw [hno] at HRN;clear hno HLN;by_cases hf:f<0;have hd:decide (0≤f)=false:=by simp; omega
  have HN:=Lh (show N1=0∧E1=6 from ⟨(HRN.out.1.trans (if_neg (by simp))).trans (HNG.out hf),(HRN.out.2.trans (if_neg (by simp))).trans (if_pos hf)⟩);rotate_left;have hd:decide (0≤f)=true:=by simp; omega
  have HN:=Lh (show N1=N∧E1=0 from ⟨HRN.out.1.trans (if_neg (by simp)),(HRN.out.2.trans (if_neg (by simp))).trans (if_neg hf)⟩);rotate_left
  all_goals
   rw [hd] at HBF;clear HRN HNG hd hf;go_wp2_with (go_at_call 191; refine (HBF.out _ H1.out.iv).mono ?_; rintro e w2 ⟨rfl,hb⟩);go_ret2;exact ⟨by rw [HN.out.1,HN.out.2]; rfl,H1.out.bel.trans (hb.mono H1.out.bel.size)⟩
theorem call_of (H:VAll):CAll:=
 have at_:=cat_ok H.len H.nam;have re:=cre_ok H.len H.bef
 { at_:=at_,re:=re
  }
theorem call_ok:CAll:=call_of vall_ok
end Go.Proofs.YtemicfjmidohfaaGreatDoor
