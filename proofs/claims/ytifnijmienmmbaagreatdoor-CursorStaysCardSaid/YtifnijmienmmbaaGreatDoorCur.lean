import Derived.Test.YtifnijmienmmbaaGreatDoorVer
import Derived.Test.YtifnijmienmmbaaGreatDoorCa11
import Derived.Deep.CutRange
set_option maxRecDepth 100000
set_option maxHeartbeats 12800000
namespace Go.Proofs.YtifnijmienmmbaaGreatDoor
open Go Go.Proofs Go.RowKit
theorem id_one {L:List El} (h:IdsOk L) {x y:El} (hx:x∈L) (hy:y∈L) (hc:x.c=y.c) (hs:x.s=y.s):x=y:=by
 obtain ⟨i,hi,rfl⟩:=List.getElem_of_mem hx;obtain ⟨j,hj,rfl⟩:=List.getElem_of_mem hy;rcases Nat.lt_trichotomy i j with hlt | rfl | hlt
 ·exact absurd ⟨hc,hs⟩ (List.pairwise_iff_getElem.1 h.nod i j hi hj hlt)
 ·rfl
 ·exact absurd ⟨hc.symm,hs.symm⟩ (List.pairwise_iff_getElem.1 h.nod j i hj hi hlt)
theorem li_named {L:List El} (h:IdsOk L) {a b:Int} (hn:noneB a b=false) (hf:0≤fnd (elB a b) L 0):liB L a b=(decide ((namC L (reN L a b)).1=a)&&decide ((namC L (reN L a b)).2=b)):=by
 obtain ⟨i,hi,hfi,hp⟩:∃ (i:Nat) (hi:i<L.length),fnd (elB a b) L 0=(i:Int)∧elB a b L[i]=true:=by
  rcases fnd_spec (elB a b) L 0 with ⟨h1,_⟩ | ⟨i,hi,h1,h2⟩
  ·omega
  ·exact ⟨i,hi,by rw [h1,Nat.zero_add],h2⟩
 obtain ⟨A,x,B,rfl,rfl⟩:∃ A x B,L=A++x::B∧i=A.length:=⟨L.take i,L[i],L.drop (i+1),by simp,by simp; omega⟩
 have hx:(A++x::B)[A.length]=x:=by simp
 rw [hx] at hp;obtain ⟨rfl,rfl⟩:x.c=a∧x.s=b:=by simpa [elB] using hp
 obtain ⟨r1,r2,r3⟩:=re_mid h;rw [r2,r3]
 cases hd:x.d with
 | false=>rw [nam_mid hd]; simp
 | true=>
  have:¬ ((namC (A++x::B) ((A.map El.al).sum:Int)).1=x.c∧(namC (A++x::B) ((A.map El.al).sum:Int)).2=x.s):=by
   rintro ⟨e1,e2⟩
   by_cases hk:aliN (A++x::B)≤((A.map El.al).sum:Int)
   ·rw [nam_end _ _ (.inr hk)] at e1 e2
    rw [←e1,←e2] at hn
    cases hn
   ·rw [ali_sum] at hk
    obtain ⟨A',B',y,g1,g2,g3,_⟩:=sl_split (A++x::B) (A.map El.al).sum (by omega);rw [←g3] at e1 e2;rw [g1,nam_mid g2] at e1 e2;have:=id_one h (x:=y) (y:=x) (by rw [g1]; simp) (by simp) e1 e2;rw [this,hd] at g2
    cases g2
  rw [Bool.not_true]
  symm
  rw [Bool.and_eq_false_iff,decide_eq_false_iff_not,decide_eq_false_iff_not];omega
theorem bel1c (w:World) (l:Array Value) (t:TypeId):Below w.heap.size w (w.alloc (.cells l t)):=bA
structure U11 (w:World) (cs z:List Value) (m l:List Oq) (W:World):Prop where
 bel:Below w.heap.size w W
 bv:Blk W w.heap.size cs 41
 br:Blk W (w.heap.size+1) z 48
 iv:IsV W m l cs
theorem U11.next {w:World} {cs z:List Value} {m l:List Oq} {W W':World} (h:U11 w cs z m l W) (hb:Below W.heap.size W W'):U11 w cs z m l W':=⟨h.bel.trans (hb.mono h.bel.size),h.bv.next hb,h.br.next hb,h.iv.next hb⟩
theorem U11.start {w:World} {cs z:List Value} {m l:List Oq} (hv:IsV w m l cs):U11 w cs z m l ((w.alloc (.cells ⟨cs⟩ 41)).alloc (.cells ⟨z⟩ 48)):=by
 have hb:Below w.heap.size w ((w.alloc (.cells ⟨cs⟩ 41)).alloc (.cells ⟨z⟩ 48)):=(bA).alloc (by simp) _;exact ⟨hb,(Blk.start w cs _).alloc _,Blk.startAt (by simp),hv.next hb⟩
theorem U11.put {w:World} {cs z:List Value} {m l:List Oq} {W:World} (h:U11 w cs z m l W) (x y:Value):Below w.heap.size w ((W.setCell ⟨w.heap.size+1,0,none⟩ x).setCell ⟨w.heap.size+1,1,none⟩ y)∧Blk ((W.setCell ⟨w.heap.size+1,0,none⟩ x).setCell ⟨w.heap.size+1,1,none⟩ y) (w.heap.size+1) ((z.set 0 x).set 1 y) 48:=
 ⟨(h.bel.setCell (p:=⟨w.heap.size+1,0,none⟩) (by simp) x).setCell (p:=⟨w.heap.size+1,1,none⟩) (by simp) y,(h.br.set 0 x).set 1 y⟩
theorem ali_le {m l:List Oq} {n:Nat} (hV:VOk m l n) (hn:n≤50):0≤aliN (docR m)∧aliN (docR m)≤100:=by
 have h1:=hV.len;have h2:=row_len hV.ok.gd;have h3:=alive_le (docR m);rw [ali_sum]; rw [docR_len] at h3; omega
theorem cat_ok (hLn:VLenOk) (hNm:VNamedOk):CAtOk:=by
 intro m l n k c0 c1 c2 c3 c4 c5 c6 c7 w hV hn hk0 hk1 hS
 have HLN:=Lh (fun W h=>hLn m l n c0 c1 c2 c3 c4 c5 c6 c7 W hV hn h);have HNM:=Lh (fun W h=>hNm m l n k c0 c1 c2 c3 c4 c5 c6 c7 W hV hn hk0 hk1 h);have hal:=ali_le hV hn;have HL:=Lh (show (rkL (docR m) ((docR m).length:Int):Int)=aliN (docR m) from rfl);rw [HL.out] at HLN;have hend:=fun h=>nam_end (docR m) k h
 have HCU:=Lh (show cuE (docR m) k=if k<0∨aliN (docR m)<k then 2 else 0 from rfl);have H0:=Lh (U11.start (z:=[.int .i64 0,.int .i64 0]) hS);obtain ⟨sd0,sd1,sd2,sd3,sd4,sd5,sd6,sd7⟩:=st8 hS.one;clear hLn hNm hS hV HL;generalize aliN (docR m)=ax at *
 generalize cuE (docR m) k=E at *
 generalize namC (docR m) k=q at *
 have v0 := H0.out.bv.c8;have HEND:=Lh hend;clear hend
 go_enter Tryz.func7,Tryz.ntmps7
 go_wp2_with (go_at_call 16; refine (HLN.out _ H0.out.iv).mono ?_; rintro e w1 ⟨rfl,hb⟩; refine Hid.out ?_)
 have H1:=Lh (H0.out.next hb);clear H0 hb HLN v0;have y0 := H1.out.br.c2;have f0 := H1.out.br.f2;have HP:=Lh (H1.out.put (.int .i64 0) (.int .i64 0));by_cases hbad:k<0∨ax<k
 ·have HN:=Lh (And.intro (HEND.out (by omega)) (HCU.out.trans (if_pos hbad)))
  clear HCU HEND HNM;refine Lh ?_;rcases hbad with hbad | hbad
  ·go_wp2_with fail
   have p0 := HP.out.2.c2;exact bodyPost_ret (v:=.tuple #[.agg #[.int .i64 0,.int .i64 0],.int .i64 2]) (by simp [results, Tryz.results7, go_sem, p0]) rfl ⟨by rw [HN.out.1,HN.out.2],HP.out.1⟩
  ·have hk:(decide (k<0))=false:=by simp; omega
   go_wp2_with fail
   have p0 := HP.out.2.c2;exact bodyPost_ret (v:=.tuple #[.agg #[.int .i64 0,.int .i64 0],.int .i64 2]) (by simp [results, Tryz.results7, go_sem, p0]) rfl ⟨by rw [HN.out.1,HN.out.2],HP.out.1⟩
 have hb0:¬ k<0:=by omega
 have hb1:¬ ax<k:=by omega
 have hE:E=0:=HCU.out.trans (if_neg hbad);clear HCU hbad;by_cases hke:k=ax
 ·have HN:=Lh (And.intro (HEND.out (by omega)) hE)
  clear HEND HNM hE;subst hke;refine Lh ?_;go_wp2_with fail
  have p0 := HP.out.2.c2;exact bodyPost_ret (v:=.tuple #[.agg #[.int .i64 0,.int .i64 0],.int .i64 0]) (by simp [results, Tryz.results7, go_sem, p0]) rfl ⟨by rw [HN.out.1,HN.out.2],HP.out.1⟩
 ·have HN:=Lh hE
  have hke':(k==ax)=false:=by simpa using hke
  clear hE hke HEND HP;have v0 := H1.out.bv.c8;refine Lh ?_;go_wp2_with (go_at_call 21; refine (HNM.out _ H1.out.iv).mono ?_; rintro e w2 ⟨rfl,hb⟩; refine Hid.out ?_)
  have hA:=bel1c w2 #[q.1,q.2] 24;have H2:=Lh ((H1.out.next hb).next hA);have BI:=Lh (Blk.start w2 [q.1,q.2] 24);clear H1 hb hA v0 y0 f0 HNM;refine Lh ?_
  go_upto_region 3 with fail
  generalize w2.alloc (.cells #[q.1,q.2] 24)=W2 at *
  generalize w2.heap.size=bI at *
  have y0 := H2.out.br.c2;have f0 := H2.out.br.f2;have g0 := BI.out.c2;have HP:=Lh (H2.out.put q.1 q.2);go_wp2_with fail
  have p0 := HP.out.2.c2;exact bodyPost_ret (v:=.tuple #[.agg #[q.1,q.2],.int .i64 0]) (by simp [results, Tryz.results7, go_sem, p0]) rfl ⟨by rw [HN.out],HP.out.1⟩
structure V11 (w:World) (a b:Int) (cs:List Value) (m l:List Oq) (W:World):Prop where
 bel:Below w.heap.size w W
 bc:Blk W w.heap.size [a,b] 48
 bv:Blk W (w.heap.size+1) cs 41
 iv:IsV W m l cs
theorem V11.next {w:World} {a b:Int} {cs:List Value} {m l:List Oq} {W W':World} (h:V11 w a b cs m l W) (hb:Below W.heap.size W W'):V11 w a b cs m l W':=⟨h.bel.trans (hb.mono h.bel.size),h.bc.next hb,h.bv.next hb,h.iv.next hb⟩
theorem V11.start {w:World} (a b:Int) {cs:List Value} {m l:List Oq} (hv:IsV w m l cs):V11 w a b cs m l ((w.alloc (.cells #[a,b] 48)).alloc (.cells ⟨cs⟩ 41)):=by
 have hb:Below w.heap.size w ((w.alloc (.cells #[a,b] 48)).alloc (.cells ⟨cs⟩ 41)):=(bA).alloc (by simp) _;exact ⟨hb,(Blk.start w [a,b] _).alloc _,Blk.startAt (by simp),hv.next hb⟩
theorem cre_ok (hLn:VLenOk) (hBf:VBeforeOk):CReOk:=by
 intro m l n a b c0 c1 c2 c3 c4 c5 c6 c7 w hV hn hS
 have HLN:=Lh (fun W h=>hLn m l n c0 c1 c2 c3 c4 c5 c6 c7 W hV hn h);have HBF:=Lh (fun W h=>hBf m l n a b c0 c1 c2 c3 c4 c5 c6 c7 W hV hn h);have HL:=Lh (show (rkL (docR m) ((docR m).length:Int):Int)=aliN (docR m) from rfl);rw [HL.out] at HLN;have HRN:=Lh (show reN (docR m) a b=(if noneB a b=true then aliN (docR m) else (rkL (docR m) (fnd (elB a b) (docR m) 0):Int))∧reE (docR m) a b=(if noneB a b=true then 0 else if fnd (elB a b) (docR m) 0<0 then 6 else 0) from ⟨rfl,rfl⟩);have hneg:fnd (elB a b) (docR m) 0<0→(rkL (docR m) (fnd (elB a b) (docR m) 0):Int)=0:=fun h=>by rw [rkL_neg _ (by omega)]; rfl
 have HNG:=Lh hneg;have H0:=Lh (V11.start a b hS);obtain ⟨sd0,sd1,sd2,sd3,sd4,sd5,sd6,sd7⟩:=st8 hS.one;clear hLn hBf hS hV HL hneg;generalize aliN (docR m)=ax at *
 generalize (rkL (docR m) (fnd (elB a b) (docR m) 0):Int)=N at *
 generalize fnd (elB a b) (docR m) 0=f at *
 generalize reN (docR m) a b=N1 at *
 generalize reE (docR m) a b=E1 at *
 have x0 := H0.out.bc.c2
 go_enter Tryz.func10,Tryz.ntmps10
 go_wp2_with (go_at_call 25; refine (none_any a b _).mono ?_; rintro e w1 ⟨rfl,hb⟩; refine Hid.out ?_)
 have H1:=Lh (H0.out.next hb);clear H0 hb x0;have x0 := H1.out.bc.c2;have v0 := H1.out.bv.c8
 cases hno:noneB a b with
 | true=>
  rw [hno] at HRN;have HN:=Lh (show N1=ax∧E1=0 from ⟨HRN.out.1.trans (if_pos rfl),HRN.out.2.trans (if_pos rfl)⟩);clear HRN HNG HBF hno;refine Lh ?_;go_wp2_with (go_at_call 16; refine (HLN.out _ H1.out.iv).mono ?_; rintro e w2 ⟨rfl,hb⟩)
  go_ret2
  exact ⟨by rw [HN.out.1,HN.out.2]; rfl,H1.out.bel.trans (hb.mono H1.out.bel.size)⟩
 | false=>
  rw [hno] at HRN;clear hno HLN;by_cases hf:f<0
  ·have hd:decide (0≤f)=false:=by simp; omega
   have HN:=Lh (show N1=0∧E1=6 from ⟨(HRN.out.1.trans (if_neg (by simp))).trans (HNG.out hf),(HRN.out.2.trans (if_neg (by simp))).trans (if_pos hf)⟩);rw [hd] at HBF;clear HRN HNG hd hf;refine Lh ?_;go_wp2_with (go_at_call 26; refine (HBF.out _ H1.out.iv).mono ?_; rintro e w2 ⟨rfl,hb⟩)
   go_ret2
   exact ⟨by rw [HN.out.1,HN.out.2]; rfl,H1.out.bel.trans (hb.mono H1.out.bel.size)⟩
  ·have hd:decide (0≤f)=true:=by simp; omega
   have HN:=Lh (show N1=N∧E1=0 from ⟨HRN.out.1.trans (if_neg (by simp)),(HRN.out.2.trans (if_neg (by simp))).trans (if_neg hf)⟩);rw [hd] at HBF;clear HRN HNG hd hf;refine Lh ?_;go_wp2_with (go_at_call 26; refine (HBF.out _ H1.out.iv).mono ?_; rintro e w2 ⟨rfl,hb⟩)
   go_ret2
   exact ⟨by rw [HN.out.1,HN.out.2]; rfl,H1.out.bel.trans (hb.mono H1.out.bel.size)⟩
theorem cli_ok (hBf:VBeforeOk) (hNm:VNamedOk):CLiOk:=by
 intro m l n a b c0 c1 c2 c3 c4 c5 c6 c7 w hV hn hS
 have HBF:=Lh (fun W h=>hBf m l n a b c0 c1 c2 c3 c4 c5 c6 c7 W hV hn h);have hrk:(rkL (docR m) (fnd (elB a b) (docR m) 0):Int)≤100:=by
  have h1:=hV.len;have h2:=row_len hV.ok.gd;unfold rkL
  have h3:=alive_le ((docR m).take (fnd (elB a b) (docR m) 0).toNat);rw [List.length_take,docR_len] at h3; omega
 have HNM:=Lh (fun W h=>hNm m l n (rkL (docR m) (fnd (elB a b) (docR m) 0):Int) c0 c1 c2 c3 c4 c5 c6 c7 W hV hn (by omega) (by omega) h);have HLB:=Lh (show (noneB a b=true→liB (docR m) a b=true)∧(noneB a b=false→fnd (elB a b) (docR m) 0<0→liB (docR m) a b=false)∧(noneB a b=false→¬ fnd (elB a b) (docR m) 0<0→liB (docR m) a b=(decide ((namC (docR m) (rkL (docR m) (fnd (elB a b) (docR m) 0):Int)).1=a)&&decide ((namC (docR m) (rkL (docR m) (fnd (elB a b) (docR m) 0):Int)).2=b))) from by
  refine ⟨fun h=>by unfold liB; rw [if_pos h],fun h hf=>?_,fun h hf=>?_⟩
  ·unfold liB
   rw [if_neg (by rw [h]; simp)]
   cases hx:(docR m)[(fnd (elB a b) (docR m) 0).toNat]? with
   | none=>rfl
   | some x=>simp; intro h0; omega
  ·have:=li_named (ids_row hV) h (by omega)
   unfold reN at this
   rwa [if_neg (by rw [h]; simp)] at this)
 have H0:=Lh (V11.start a b hS);obtain ⟨sd0,sd1,sd2,sd3,sd4,sd5,sd6,sd7⟩:=st8 hS.one;clear hBf hNm hS hV hrk;generalize liB (docR m) a b=lb at *
 generalize namC (docR m) (rkL (docR m) (fnd (elB a b) (docR m) 0):Int)=q at *
 generalize (rkL (docR m) (fnd (elB a b) (docR m) 0):Int)=N at *
 generalize fnd (elB a b) (docR m) 0=f at *
 have x0 := H0.out.bc.c2
 go_enter Tryz.func12,Tryz.ntmps12
 go_wp2_with (go_at_call 25; refine (none_any a b _).mono ?_; rintro e w1 ⟨rfl,hb⟩; refine Hid.out ?_)
 have H1:=Lh (H0.out.next hb);clear H0 hb x0
 cases hno:noneB a b with
 | true=>
  have HN:=Lh (HLB.out.1 hno);clear HLB HBF HNM hno;refine Lh ?_;go_wp2_with fail
  go_ret
  exact ⟨by rw [HN.out]; rfl,H1.out.bel⟩
 | false=>
  have HLC:=Lh (And.intro (HLB.out.2.1 hno) (HLB.out.2.2 hno));clear HLB hno;have x0 := H1.out.bc.c2;have v0 := H1.out.bv.c8;by_cases hf:f<0
  ·have hd:decide (0≤f)=false:=by simp; omega
   have HN:=Lh (HLC.out.1 hf);rw [hd] at HBF;clear HLC HNM hd hf;refine Lh ?_;go_wp2_with (go_at_call 26; refine (HBF.out _ H1.out.iv).mono ?_; rintro e w2 ⟨rfl,hb⟩)
   go_ret
   exact ⟨by rw [HN.out]; rfl,H1.out.bel.trans (hb.mono H1.out.bel.size)⟩
  ·have hd:decide (0≤f)=true:=by simp; omega
   have HLC:=Lh (HLC.out.2 (by omega));rw [hd] at HBF;clear hd hf;refine Lh ?_;go_wp2_with (go_at_call 26; refine (HBF.out _ H1.out.iv).mono ?_; rintro e w2 ⟨rfl,hb⟩; refine Hid.out ?_)
   have H2:=Lh (H1.out.next hb);clear H1 hb x0 v0 HBF;have v0 := H2.out.bv.c8;refine Lh ?_;go_wp2_with (go_at_call 21; refine (HNM.out _ H2.out.iv).mono ?_; rintro e w3 ⟨rfl,hb⟩; refine Hid.out ?_)
   have hA:=bel1c w3 #[q.1,q.2] 24;have H3:=Lh ((H2.out.next hb).next hA);have BI:=Lh (Blk.start w3 [q.1,q.2] 24);clear H2 hb hA v0 HNM;refine Lh ?_
   go_upto_region 7 with fail
   generalize w3.alloc (.cells #[q.1,q.2] 24)=W3 at *
   generalize w3.heap.size=bI at *
   have x0 := H3.out.bc.c2;have g0 := BI.out.c2;obtain ⟨q1,q2⟩:=q;by_cases h1:q1=a
   ·by_cases h2:q2=b
    ·subst h1 h2
     have HM:=Lh (show lb=true by rw [HLC.out]; simp);clear HLC;go_wp2_with fail
     go_ret
     exact ⟨by rw [HM.out]; rfl,H3.out.bel⟩
    ·subst h1
     have HM:=Lh (show lb=false by rw [HLC.out]; simp [h2]);clear HLC;go_wp2_with fail
     go_ret
     exact ⟨by rw [HM.out]; rfl,H3.out.bel⟩
   ·have HM:=Lh (show lb=false by rw [HLC.out]; simp [h1])
    clear HLC;go_wp2_with fail
    go_ret
    exact ⟨by rw [HM.out]; rfl,H3.out.bel⟩
structure W11 (w:World) (a b:Int) (cs z:List Value) (m l:List Oq) (W:World):Prop where
 bel:Below w.heap.size w W
 bc:Blk W w.heap.size [a,b] 48
 bv:Blk W (w.heap.size+1) cs 41
 br:Blk W (w.heap.size+1+1) z 48
 iv:IsV W m l cs
theorem W11.next {w:World} {a b:Int} {cs z:List Value} {m l:List Oq} {W W':World} (h:W11 w a b cs z m l W) (hb:Below W.heap.size W W'):W11 w a b cs z m l W':=⟨h.bel.trans (hb.mono h.bel.size),h.bc.next hb,h.bv.next hb,h.br.next hb,h.iv.next hb⟩
theorem W11.start {w:World} (a b:Int) {cs:List Value} (z:List Value) {m l:List Oq} (hv:IsV w m l cs):W11 w a b cs z m l (((w.alloc (.cells #[a,b] 48)).alloc (.cells ⟨cs⟩ 41)).alloc (.cells ⟨z⟩ 48)):=by
 have hb:Below w.heap.size w (((w.alloc (.cells #[a,b] 48)).alloc (.cells ⟨cs⟩ 41)).alloc (.cells ⟨z⟩ 48)):=((bA).alloc (by simp) _).alloc (by simp; omega) _;exact ⟨hb,((Blk.start w [a,b] _).alloc _).alloc _,(Blk.startAt (b:=w.heap.size+1) (by simp)).alloc _,Blk.startAt (by simp),hv.next hb⟩
theorem W11.put {w:World} {a b:Int} {cs z:List Value} {m l:List Oq} {W:World} (h:W11 w a b cs z m l W) (x y:Value):Below w.heap.size w ((W.setCell ⟨w.heap.size+1+1,0,none⟩ x).setCell ⟨w.heap.size+1+1,1,none⟩ y)∧Blk ((W.setCell ⟨w.heap.size+1+1,0,none⟩ x).setCell ⟨w.heap.size+1+1,1,none⟩ y) (w.heap.size+1+1) ((z.set 0 x).set 1 y) 48:=
 ⟨(h.bel.setCell (p:=⟨w.heap.size+1+1,0,none⟩) (by simp; omega) x).setCell (p:=⟨w.heap.size+1+1,1,none⟩) (by simp; omega) y,(h.br.set 0 x).set 1 y⟩
theorem cmo_ok (hLn:VLenOk) (hAt:CAtOk) (hRe:CReOk):CMoOk:=by
 intro m l n a b k c0 c1 c2 c3 c4 c5 c6 c7 w hV hn hk0 hk1 hS
 have HR:=Lh (fun W h=>hRe m l n a b c0 c1 c2 c3 c4 c5 c6 c7 W hV hn h);have HA:=Lh (fun q h1 h2 W h=>hAt m l n q c0 c1 c2 c3 c4 c5 c6 c7 W hV hn h1 h2 h);have HLN:=Lh (fun W h=>hLn m l n c0 c1 c2 c3 c4 c5 c6 c7 W hV hn h);have HL:=Lh (show (rkL (docR m) ((docR m).length:Int):Int)=aliN (docR m) from rfl);rw [HL.out] at HLN;have hal:=ali_le hV hn;have hrn:0≤reN (docR m) a b∧reN (docR m) a b≤100:=by
  have h1:=hV.len;have h2:=row_len hV.ok.gd;have h:=fun i=>(show rkL (docR m) i≤(docR m).length from by unfold rkL; have:=alive_le ((docR m).take i.toNat); rw [List.length_take] at this; omega)
  have hd:=docR_len m;unfold reN aliN
  split
  ·have:=h ((docR m).length:Int); omega
  ·have:=h (fnd (elB a b) (docR m) 0); omega
 have hbig:10000<k→cuE (docR m) (reN (docR m) a b+k)=2:=fun h=>if_pos (by omega)
 have hsml:k < -10000→cuE (docR m) (reN (docR m) a b+k)=2:=fun h=>if_pos (by omega)
 have hov:aliN (docR m)-reN (docR m) a b<k→cuE (docR m) (reN (docR m) a b+k)=2:=fun h=>if_pos (by omega)
 have HN:=Lh (show (reE (docR m) a b≠0→moE (docR m) a b k=reE (docR m) a b∧moA (docR m) a b k=(0,0))∧(reE (docR m) a b=0→moE (docR m) a b k=cuE (docR m) (reN (docR m) a b+k)∧moA (docR m) a b k=namC (docR m) (reN (docR m) a b+k))∧(reE (docR m) a b=0→aliN (docR m)-reN (docR m) a b<k→moE (docR m) a b k=2∧moA (docR m) a b k=(0,0)) from by
  have e0:reE (docR m) a b=0→moE (docR m) a b k=cuE (docR m) (reN (docR m) a b+k):=fun h=>by
   unfold moE
   rw [if_neg (by simp [h])];split
   ·rename_i h2
    rcases h2 with h2 | h2
    ·exact (hbig h2).symm
    ·exact (hsml h2).symm
   ·rfl
  refine ⟨fun h=>?_,fun h=>⟨e0 h,?_⟩,fun h hk=>?_⟩
  ·have e1:moE (docR m) a b k=reE (docR m) a b:=by unfold moE; rw [if_pos h]
   exact ⟨e1,by unfold moA; rw [if_pos (by rw [e1]; exact h)]⟩
  ·unfold moA
   split
   ·rename_i h2
    rw [e0 h] at h2;unfold cuE at h2
    split at h2
    ·exact (nam_end _ _ (by omega)).symm
    ·exact absurd rfl h2
   ·rfl
  ·have e1:=(e0 h).trans (hov hk)
   exact ⟨e1,by unfold moA; rw [if_pos (by rw [e1]; decide)]⟩)
 have H0:=Lh (W11.start a b [.int .i64 0,.int .i64 0] hS);obtain ⟨sd0,sd1,sd2,sd3,sd4,sd5,sd6,sd7⟩:=st8 hS.one;clear hLn hAt hRe hS hV hbig hsml hov HL;generalize reE (docR m) a b=E at *
 generalize moE (docR m) a b k=ME at *
 generalize moA (docR m) a b k=MA at *
 generalize reN (docR m) a b=N at *
 generalize aliN (docR m)=ax at *
 generalize docR m=L at *
 have x0 := H0.out.bc.c2;have v0 := H0.out.bv.c8
 go_enter Tryz.func14,Tryz.ntmps14
 go_wp2_with (go_at_call 10; refine (HR.out _ H0.out.iv).mono ?_; rintro e w1 ⟨rfl,hb⟩; refine Hid.out ?_)
 have H1:=Lh (H0.out.next hb);clear H0 hb HR x0 v0;have y0 := H1.out.br.c2;have f0 := H1.out.br.f2;have HP:=Lh (H1.out.put (.int .i64 0) (.int .i64 0));by_cases hE:E=0
 ·subst hE
  have HX1:=Lh (HN.out.2.1 rfl);have HX2:=Lh (HN.out.2.2 rfl);clear HP HN y0 f0;have v0 := H1.out.bv.c8;refine Lh ?_;go_wp2_with (go_at_call 16; refine (HLN.out _ H1.out.iv).mono ?_; rintro e w2 ⟨rfl,hb⟩; refine Hid.out ?_)
  have H2:=Lh (H1.out.next hb);clear H1 hb HLN v0;have hw0:IntKind.i64.wrap (ax-N)=ax-N:=IntWalk.i64_in _ (by omega);by_cases hk:ax-N<k
  ·have HX:=Lh (HX2.out (by omega))
   clear HX1 HX2 HA;have y0 := H2.out.br.c2;have f0 := H2.out.br.f2;have HP:=Lh (H2.out.put (.int .i64 0) (.int .i64 0));refine Lh ?_;go_wp2_with fail
   have p0 := HP.out.2.c2;exact bodyPost_ret (v:=.tuple #[.agg #[.int .i64 0,.int .i64 0],.int .i64 2]) (by simp [results, Tryz.results14, go_sem, p0]) rfl ⟨by rw [HX.out.1,HX.out.2],HP.out.1⟩
  ·have hw1:IntKind.i64.wrap (N+k)=N+k:=IntWalk.i64_in _ (by omega)
   have HAA:=Lh (fun W h=>HA.out (N+k) (by omega) (by omega) W h);clear HX2 HA;generalize namC L (N+k)=q at *
   generalize cuE L (N+k)=E2 at *
   have v0 := H2.out.bv.c8;refine Lh ?_;go_wp2_with (go_at_call 7; refine (HAA.out _ H2.out.iv).mono ?_; rintro e w3 ⟨rfl,hb⟩; refine Hid.out ?_)
   have H3:=Lh (H2.out.next hb);clear H2 hb HAA v0;have y0 := H3.out.br.c2;have f0 := H3.out.br.f2;have HP:=Lh (H3.out.put q.1 q.2);refine Lh ?_;go_wp2_with fail
   have p0 := HP.out.2.c2;exact bodyPost_ret (v:=.tuple #[.agg #[q.1,q.2],E2]) (by simp [results, Tryz.results14, go_sem, p0]) rfl ⟨by rw [HX1.out.1,HX1.out.2],HP.out.1⟩
 ·have HX:=Lh (HN.out.1 hE)
  clear HN HA;refine Lh ?_;go_wp2_with fail
  have p0 := HP.out.2.c2;exact bodyPost_ret (v:=.tuple #[.agg #[.int .i64 0,.int .i64 0],E]) (by simp [results, Tryz.results14, go_sem, p0]) rfl ⟨by rw [HX.out.1,HX.out.2],HP.out.1⟩
theorem call_of (H:VAll):CAll:=
 have at_:=cat_ok H.len H.nam;have re:=cre_ok H.len H.bef
 { at_:=at_,re:=re
   mo:=cmo_ok H.len at_ re
   li:=cli_ok H.bef H.nam
  }
theorem call_ok:CAll:=call_of vall_ok
end Go.Proofs.YtifnijmienmmbaaGreatDoor
