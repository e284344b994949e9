import Derived.Test.YtifnijmienmmbaaGreatDoorCt11
set_option maxRecDepth 100000
set_option maxHeartbeats 12800000
namespace Go.Proofs.YtifnijmienmmbaaGreatDoor
open Go Go.Proofs Go.RowKit
theorem ins_stay {m l:List Oq} {n:Nat} (hV:VOk m l n) (hq:Qt m l) {site o ch:Int} (lo : -2147483648≤ch) (hi:ch≤2147483647) (hE:inE8 m l site o ch lo hi=0) {k:Int} (h0:0≤k) (h1:k≤aliN (docR m)):
  reE (docR (inT8 m l site o ch lo hi).1) (namC (docR m) k).1 (namC (docR m) k).2=0∧reN (docR (inT8 m l site o ch lo hi).1) (namC (docR m) k).1 (namC (docR m) k).2=k+(if o≤k then 1 else 0):=by
 obtain ⟨_,hT,_,_,_,_,A,B,g1,g2,_,g4⟩:=ins_own hV hq lo hi (ins_good lo hi hE);have h2:=ids_row (hV.ins site o ch lo hi);rw [hT] at h2 ⊢
 dsimp only at h2 ⊢
 rw [g2] at h2 ⊢;have h3:=ids_row hV;rw [g1] at h3 h1 ⊢;exact stay_ins h3 h2 rfl g4 h0 h1
theorem del_stay {m l:List Oq} {n:Nat} (hV:VOk m l n) (hq:Qt m l) {o:Int} (hE:deE8 m l o=0) {k:Int} (h0:0≤k) (h1:k≤aliN (docR m)):
  reE (docR (deT8 m l o).1) (namC (docR m) k).1 (namC (docR m) k).2=0∧reN (docR (deT8 m l o).1) (namC (docR m) k).1 (namC (docR m) k).2=k-(if o<k then 1 else 0)∧liB (docR (deT8 m l o).1) (namC (docR m) k).1 (namC (docR m) k).2 = !decide (o=k):=by
 obtain ⟨A,B,e,e',g1,g2,g3,g4,g5,g6,g7⟩:=del_at hV hq hE;have h3:=ids_row hV;rw [g7];rw [g1] at h3 h1 ⊢;exact stay_del h3 g2 g3 g4 g5 g6 h0 h1
theorem bel2 (w:World) (l l':Array Value) (t t':TypeId):Below w.heap.size w ((w.alloc (.cells l t)).alloc (.cells l' t')):=(bel1 w l t).alloc (by simp) _
structure S11 (w:World) (bV:Nat) (cs:List Value) (m l:List Oq) (W:World):Prop where
 bel:Below w.heap.size w W
 bv:Blk W bV cs 41
 iv:IsV W m l cs
theorem S11.next {w:World} {bV:Nat} {cs:List Value} {m l:List Oq} {W W':World} (h:S11 w bV cs m l W) (hb:Below W.heap.size W W'):S11 w bV cs m l W':=⟨h.bel.trans (hb.mono h.bel.size),h.bv.next hb,h.iv.next hb⟩
theorem S11.start {w w1:World} {cs:List Value} {vm vl:Value} {m l:List Oq} (hb:Below w.heap.size w w1) (hv:IsV w1 m l cs):
  S11 w w1.heap.size cs m l ((w1.alloc (.cells ⟨cs⟩ 41)).alloc (.cells #[vm,vl] 44)):=by
 have hA:Below w1.heap.size w1 ((w1.alloc (.cells ⟨cs⟩ 41)).alloc (.cells #[vm,vl] 44)):=(bA).alloc (by simp) _;exact ⟨hb.trans (hA.mono hb.size),(Blk.start w1 cs _).alloc _,hv.next hA⟩
theorem cstays_main (H:VAll) (HC:CAll) (hAw:Awake11Ok) (ad:Option Addr) (cap:Nat) (acts:List Act8) (at_ o_:Int) (ha0 : -9223372036854775808≤at_) (ha1:at_≤9223372036854775807) (hb0 : -9223372036854775808≤o_) (hb1:o_≤9223372036854775807) (w:World) (hl:acts.length≤30) (hc:acts.length≤cap) (hc2:cap≤9223372036854775807)
  (hL:acts≠[]→∃ b off,ad=some ⟨b,off,none⟩∧b<w.heap.size∧LiesA w b off acts) (hp:Pows w) (ht:Tabs w):
  Calls Tryz.prog 4 #[.slice ad acts.length cap,at_,o_] w fun e w'=>e=.returned (.bool true)∧Below w.heap.size w w':=by
 have HPT:=Lh (And.intro hp ht);have HH:=Lh (And.intro H (And.intro HC hAw));have hl':¬ (30:Int)<(acts.length:Int):=by omega
 have HPL:=Lh (played_any H ad cap acts w (by omega) hc hc2 hL hp ht);clear hL hp ht H HC hAw
 go_enter Tryz.func4,Tryz.ntmps4
 go_wp2_with (go_at_call 6; refine HPL.out.mono ?_; rintro e w1 ⟨hb,c0,c1,c2,c3,c4,c5,c6,c7,vm,vl,m,l,rfl,hv,hiv,hio,hil⟩; obtain ⟨a1,p1,rfl,e1,e2⟩:=Sl.form hio; obtain ⟨a2,p2,rfl,e3,e4⟩:=Sl.form hil; refine Hid.out ?_)
 obtain ⟨sd0,sd1,sd2,sd3,sd4,sd5,sd6,sd7⟩:=st8 hiv.one;have HV:=Lh hv;have HS:=Lh (S11.start (vm:=.slice a1 m.length p1) (vl:=.slice a2 l.length p2) hb hiv);clear HPL hb hiv hio hil hv;refine Lh ?_
 go_upto_region 6 with fail
 clear e1 e2 e3 e4 sd0 sd1 sd2 sd3 sd4 sd5 sd6 sd7;generalize Value.slice a1 m.length p1=vm at *
 generalize Value.slice a2 l.length p2=vl at *
 generalize (w1.alloc (.cells #[c0,c1,c2,c3,c4,c5,c6,c7] 41)).alloc (.cells #[vm,vl] 44)=WS at *
 have hvn:acts.length≤50:=by omega
 have HAT:=Lh (fun W (h:S11 w w1.heap.size [c0,c1,c2,c3,c4,c5,c6,c7] m l W)=>HH.out.2.1.at_ m l acts.length at_ c0 c1 c2 c3 c4 c5 c6 c7 W HV.out.1 hvn ha0 ha1 h.iv);have HRE:=Lh (fun x y W (h:S11 w w1.heap.size [c0,c1,c2,c3,c4,c5,c6,c7] m l W)=>HH.out.2.1.re m l acts.length x y c0 c1 c2 c3 c4 c5 c6 c7 W HV.out.1 hvn h.iv);have HLI:=Lh (fun x y W (h:S11 w w1.heap.size [c0,c1,c2,c3,c4,c5,c6,c7] m l W)=>HH.out.2.1.li m l acts.length x y c0 c1 c2 c3 c4 c5 c6 c7 W HV.out.1 hvn h.iv);have HLN:=Lh (fun W (h:S11 w w1.heap.size [c0,c1,c2,c3,c4,c5,c6,c7] m l W)=>HH.out.1.len m l acts.length c0 c1 c2 c3 c4 c5 c6 c7 W HV.out.1 hvn h.iv);have HAW:=Lh (fun W (h:Below w.heap.size w W)=>HH.out.2.2 W (HPT.out.1.next h) (HPT.out.2.next h));have hal:aliN (docR m)≤100:=by
  have h1:=HV.out.1.len;have h2:=row_len HV.out.1.ok.gd;have h3:=alive_le (docR m);rw [ali_sum]; rw [docR_len] at h3; omega
 have HAL:=Lh (show (rkL (docR m) ((docR m).length:Int):Int)=aliN (docR m) from rfl);rw [HAL.out] at HLN;have v0 := HS.out.bv.c8;go_wp2_with (go_at_call 7; refine (HAT.out _ HS.out).mono ?_; rintro e w2 ⟨rfl,hb⟩; refine Hid.out ?_)
 have HS2:=Lh (HS.out.next hb);clear HS hb HAT v0;obtain ⟨pq,hpq⟩:∃ pq,pq=namC (docR m) at_:=⟨_,rfl⟩
 rw [←hpq];have HPQ:=Lh hpq;clear hpq;have HA:=Lh (And.intro (HS2.out.next (bel1 w2 #[pq.1,pq.2] 48)) (Blk.start w2 [pq.1,pq.2] 48));clear HS2;by_cases hE:at_<0∨aliN (docR m)<at_
 ·have hcu:cuE (docR m) at_=2:=if_pos hE
  rw [hcu];clear HRE HLI hcu;refine Lh ?_;generalize aliN (docR m)=al at *
  rcases hE with hE | hE
  ·go_wp2_with (go_at_call 5; refine (HAW.out _ HA.out.1.bel).mono ?_; rintro e w9 ⟨rfl,hb⟩)
   go_ret
   exact ⟨rfl,HA.out.1.bel.trans (hb.mono HA.out.1.bel.size)⟩
  ·by_cases hE2:at_<0
   ·go_wp2_with (go_at_call 5; refine (HAW.out _ HA.out.1.bel).mono ?_; rintro e w9 ⟨rfl,hb⟩)
    go_ret
    exact ⟨rfl,HA.out.1.bel.trans (hb.mono HA.out.1.bel.size)⟩
   ·go_wp2_with (go_at_call 5; refine (HAW.out _ HA.out.1.bel).mono ?_; rintro e w9 ⟨rfl,hb⟩; refine Hid.out ?_)
    have HA2:=Lh (HA.out.1.next hb);clear HA hb;have v0 := HA2.out.bv.c8;refine Lh ?_;go_wp2_with (go_at_call 16; refine (HLN.out _ HA2.out).mono ?_; rintro e w10 ⟨rfl,hb⟩)
    go_ret
    exact ⟨rfl,HA2.out.bel.trans (hb.mono HA2.out.bel.size)⟩
 have hz0:0≤at_:=by omega
 have hz1:at_≤aliN (docR m):=by omega
 have hcu:cuE (docR m) at_=0:=if_neg hE;rw [hcu];clear hcu hE HLN;have hcr:=cu_here (ids_row HV.out.1) hz0 hz1;rw [←HPQ.out] at hcr;have HRE1:=Lh (HRE.out pq.1 pq.2);rw [hcr.1,hcr.2.1] at HRE1;have HLI1:=Lh (HLI.out pq.1 pq.2);rw [hcr.2.2] at HLI1;clear HRE HLI hcr;refine Lh ?_
 go_upto_region 9 with fail
 generalize w2.alloc (.cells #[pq.1,pq.2] 48)=W2 at *
 generalize w2.heap.size=bC at *
 have v0 := HA.out.1.bv.c8;have g0 := HA.out.2.c2;go_wp2_with (go_at_call 10; refine (HRE1.out _ HA.out.1).mono ?_; rintro e w3 ⟨rfl,hb⟩; refine Hid.out ?_)
 have HB:=Lh (And.intro (HA.out.1.next hb) (HA.out.2.next hb));clear HA HRE1 hb v0 g0;have v0 := HB.out.1.bv.c8;have g0 := HB.out.2.c2;refine Lh ?_;go_wp2_with (go_at_call 12; refine (HLI1.out _ HB.out.1).mono ?_; rintro e w4 ⟨rfl,hb⟩; refine Hid.out ?_)
 have HC4:=Lh (And.intro (HB.out.1.next hb) (HB.out.2.next hb));clear HB HLI1 hb v0 g0;have HIN:=Lh (fun W (h:S11 w w1.heap.size [c0,c1,c2,c3,c4,c5,c6,c7] m l W)=>HH.out.1.ins m l acts.length 7 o_ 122 (by decide) (by decide) c0 c1 c2 c3 c4 c5 c6 c7 W HV.out.1 hvn hb0 hb1 h.iv);have HDE:=Lh (fun W (h:S11 w w1.heap.size [c0,c1,c2,c3,c4,c5,c6,c7] m l W)=>HH.out.1.del m l acts.length o_ c0 c1 c2 c3 c4 c5 c6 c7 W HV.out.1 hvn hb0 hb1 h.iv);have v0 := HC4.out.1.bv.c8;have g0 := HC4.out.2.c2;refine Lh ?_;go_wp2_with (go_at_call 17; refine (HIN.out _ HC4.out.1).mono ?_; rintro e w5 ⟨hb,d0,d1,d2,d3,d4,d5,d6,d7,lc,x,-,rfl,hiv,hic⟩; obtain ⟨al,pl,rfl,hd1,hd2⟩:=hic.form; refine Hid.out ?_)
 obtain ⟨sd0,sd1,sd2,sd3,sd4,sd5,sd6,sd7⟩:=st8 hiv.one;have hA:=bel2 w5 #[d0,d1,d2,d3,d4,d5,d6,d7] #[x.k,x.c,x.s,x.a,x.n,.int .i32 x.ch] 41 68;have HZ:=Lh (And.intro (HC4.out.1.next hb) (HC4.out.2.next hb));have HZ2:=Lh (And.intro (HZ.out.1.next hA) (HZ.out.2.next hA));have HI:=Lh (And.intro (hiv.next hA) ((Blk.start w5 [d0,d1,d2,d3,d4,d5,d6,d7] 41).alloc (.cells #[x.k,x.c,x.s,x.a,x.n,.int .i32 x.ch] 68)));clear HC4 HIN hiv hic HZ hA hb v0 g0;refine Lh ?_
 go_upto_if 86 with fail
 generalize (w5.alloc (.cells #[d0,d1,d2,d3,d4,d5,d6,d7] 41)).alloc (.cells #[x.k,x.c,x.s,x.a,x.n,.int .i32 x.ch] 68)=W5 at *
 generalize w5.heap.size=bI at *
 clear sd0 sd1 sd2 sd3 sd4 sd5 sd6 sd7 hd1 hd2
 go_cut [] from 13 to 104 (fun wx=>S11 w w1.heap.size [c0,c1,c2,c3,c4,c5,c6,c7] m l wx∧Blk wx bC [pq.1,pq.2] 48)
 case first=>
  by_cases hI:inE8 m l 7 o_ 122 (by decide) (by decide)=0
  ·have hst:=ins_stay HV.out.1 HV.out.2 (by decide) (by decide) hI hz0 hz1
   have HR2:=Lh (fun W (h:IsV W (inT8 m l 7 o_ 122 (by decide) (by decide)).1 (inT8 m l 7 o_ 122 (by decide) (by decide)).2.1 [d0,d1,d2,d3,d4,d5,d6,d7])=>HH.out.2.1.re _ _ (acts.length+1) pq.1 pq.2 d0 d1 d2 d3 d4 d5 d6 d7 W (HV.out.1.ins 7 o_ 122 (by decide) (by decide)) (by omega) h);rw [←HPQ.out] at hst;rw [hst.1,hst.2] at HR2;rw [hI];clear hst hI;have hal2:at_≤100:=by omega
   have hw1:IntKind.i64.wrap (at_+1)=at_+1:=IntWalk.i64_in _ (by omega);generalize inT8 m l 7 o_ 122 (by decide) (by decide)=T3 at *
   have v0 := HI.out.2.c8;have g0 := HZ2.out.2.c2;by_cases hle:o_≤at_
   ·rw [if_pos hle] at HR2
    go_wp2_with (go_at_call 10; refine (HR2.out _ HI.out.1).mono ?_; rintro e w6 ⟨rfl,hb⟩; refine Hid.out ?_)
    have HF:=Lh (And.intro (HZ2.out.1.next hb) (HZ2.out.2.next hb));clear HZ2 HI hb v0 g0;refine Lh ?_;go_wp2_with fail
    go_meet
    exact HF.out
   ·rw [if_neg hle,Int.add_zero] at HR2
    go_wp2_with (go_at_call 10; refine (HR2.out _ HI.out.1).mono ?_; rintro e w6 ⟨rfl,hb⟩; refine Hid.out ?_)
    have HF:=Lh (And.intro (HZ2.out.1.next hb) (HZ2.out.2.next hb));clear HZ2 HI hb v0 g0;refine Lh ?_;go_wp2_with fail
    go_meet
    exact HF.out
  ·have hI':(inE8 m l 7 o_ 122 (by decide) (by decide)==0)=false:=by simpa using hI
   clear hI;generalize inE8 m l 7 o_ 122 (by decide) (by decide)=E1 at *
   go_wp2_with fail
   go_meet
   exact HZ2.out
 case rest=>
 have HC4:=Lh hcut;clear hcut HZ2 HI;generalize wc=W6 at *
 have v0 := HC4.out.1.bv.c8;have g0 := HC4.out.2.c2;go_wp2_with (go_at_call 18; refine (HDE.out _ HC4.out.1).mono ?_; rintro e w7 ⟨hb,d0,d1,d2,d3,d4,d5,d6,d7,lc,x,-,rfl,hiv,hic⟩; obtain ⟨al,pl,rfl,hd1,hd2⟩:=hic.form; refine Hid.out ?_)
 obtain ⟨sd0,sd1,sd2,sd3,sd4,sd5,sd6,sd7⟩:=st8 hiv.one;have hA:=bel2 w7 #[d0,d1,d2,d3,d4,d5,d6,d7] #[x.k,x.c,x.s,x.a,x.n,.int .i32 x.ch] 41 68;have HZ:=Lh (And.intro (HC4.out.1.next hb) (HC4.out.2.next hb));have HZ2:=Lh (And.intro (HZ.out.1.next hA) (HZ.out.2.next hA));have HI:=Lh (And.intro (hiv.next hA) ((Blk.start w7 [d0,d1,d2,d3,d4,d5,d6,d7] 41).alloc (.cells #[x.k,x.c,x.s,x.a,x.n,.int .i32 x.ch] 68)));clear HC4 HDE hiv hic HZ hA hb v0 g0;refine Lh ?_
 go_upto_if 114 with fail
 generalize (w7.alloc (.cells #[d0,d1,d2,d3,d4,d5,d6,d7] 41)).alloc (.cells #[x.k,x.c,x.s,x.a,x.n,.int .i32 x.ch] 68)=W7 at *
 generalize w7.heap.size=bI at *
 clear sd0 sd1 sd2 sd3 sd4 sd5 sd6 sd7 hd1 hd2;by_cases hD:deE8 m l o_=0
 ·have hst:=del_stay HV.out.1 HV.out.2 hD hz0 hz1
  have HR2:=Lh (fun W (h:IsV W (deT8 m l o_).1 (deT8 m l o_).2.1 [d0,d1,d2,d3,d4,d5,d6,d7])=>HH.out.2.1.re _ _ (acts.length+1) pq.1 pq.2 d0 d1 d2 d3 d4 d5 d6 d7 W (HV.out.1.del o_) (by omega) h);have HL2:=Lh (fun W (h:IsV W (deT8 m l o_).1 (deT8 m l o_).2.1 [d0,d1,d2,d3,d4,d5,d6,d7])=>HH.out.2.1.li _ _ (acts.length+1) pq.1 pq.2 d0 d1 d2 d3 d4 d5 d6 d7 W (HV.out.1.del o_) (by omega) h);rw [←HPQ.out] at hst;rw [hst.1,hst.2.1] at HR2;rw [hst.2.2] at HL2;rw [hD];clear hst hD;have hal2:at_≤100:=by omega
  have hw1:IntKind.i64.wrap (at_ - 1)=at_ - 1:=IntWalk.i64_in _ (by omega);generalize deT8 m l o_=T3 at *
  have v0 := HI.out.2.c8;have g0 := HZ2.out.2.c2;have hdum:=trivial;clear hl' hal HAL hvn hal2;rcases (show o_<at_∨o_=at_∨at_<o_ by omega) with hle | hle | hle
  ·rw [if_pos hle] at HR2
   have hn0:¬ (o_=at_):=by omega
   rw [show (!decide (o_=at_))=true by simp [hn0]] at HL2;have hne:(o_ != at_)=true:=by simpa using hn0
   clear hn0;go_wp2_with (go_at_call 10; refine (HR2.out _ HI.out.1).mono ?_; rintro e w8 ⟨rfl,hb⟩; refine Hid.out ?_)
   have HF:=Lh (And.intro (HZ2.out.1.next hb) (HZ2.out.2.next hb));have HI2:=Lh (And.intro (HI.out.1.next hb) (HI.out.2.next hb));clear HZ2 HI HR2 hb v0 g0;have v0 := HI2.out.2.c8;have g0 := HF.out.2.c2;refine Lh ?_;go_wp2_with (go_at_call 12; refine (HL2.out _ HI2.out.1).mono ?_; rintro e w10 ⟨rfl,hb⟩; refine Hid.out ?_)
   have HG:=Lh (And.intro (HF.out.1.next hb) (HF.out.2.next hb));clear HF HI2 HL2 hb v0 g0;refine Lh ?_;go_wp2_with (go_at_call 5; refine (HAW.out _ HG.out.1.bel).mono ?_; rintro e w9 ⟨rfl,hb⟩)
   go_ret
   exact ⟨rfl,HG.out.1.bel.trans (hb.mono HG.out.1.bel.size)⟩
  ·subst hle
   rw [if_neg (by omega),Int.sub_zero] at HR2;rw [show (!decide (o_=o_))=false by simp] at HL2;go_wp2_with (go_at_call 10; refine (HR2.out _ HI.out.1).mono ?_; rintro e w8 ⟨rfl,hb⟩; refine Hid.out ?_)
   have HF:=Lh (And.intro (HZ2.out.1.next hb) (HZ2.out.2.next hb));have HI2:=Lh (And.intro (HI.out.1.next hb) (HI.out.2.next hb));clear HZ2 HI HR2 hb v0 g0;have v0 := HI2.out.2.c8;have g0 := HF.out.2.c2;refine Lh ?_;go_wp2_with (go_at_call 12; refine (HL2.out _ HI2.out.1).mono ?_; rintro e w10 ⟨rfl,hb⟩; refine Hid.out ?_)
   have HG:=Lh (And.intro (HF.out.1.next hb) (HF.out.2.next hb));clear HF HI2 HL2 hb v0 g0;refine Lh ?_;go_wp2_with (go_at_call 5; refine (HAW.out _ HG.out.1.bel).mono ?_; rintro e w9 ⟨rfl,hb⟩)
   go_ret
   exact ⟨rfl,HG.out.1.bel.trans (hb.mono HG.out.1.bel.size)⟩
  ·rw [if_neg (by omega),Int.sub_zero] at HR2
   have hn0:¬ (o_=at_):=by omega
   rw [show (!decide (o_=at_))=true by simp [hn0]] at HL2;have hne:(o_ != at_)=true:=by simpa using hn0
   clear hn0;have hnl:¬ (o_<at_):=by omega
   go_wp2_with (go_at_call 10; refine (HR2.out _ HI.out.1).mono ?_; rintro e w8 ⟨rfl,hb⟩; refine Hid.out ?_)
   have HF:=Lh (And.intro (HZ2.out.1.next hb) (HZ2.out.2.next hb));have HI2:=Lh (And.intro (HI.out.1.next hb) (HI.out.2.next hb));clear HZ2 HI HR2 hb v0 g0;have v0 := HI2.out.2.c8;have g0 := HF.out.2.c2;refine Lh ?_;go_wp2_with (go_at_call 12; refine (HL2.out _ HI2.out.1).mono ?_; rintro e w10 ⟨rfl,hb⟩; refine Hid.out ?_)
   have HG:=Lh (And.intro (HF.out.1.next hb) (HF.out.2.next hb));clear HF HI2 HL2 hb v0 g0;refine Lh ?_;go_wp2_with (go_at_call 5; refine (HAW.out _ HG.out.1.bel).mono ?_; rintro e w9 ⟨rfl,hb⟩)
   go_ret
   exact ⟨rfl,HG.out.1.bel.trans (hb.mono HG.out.1.bel.size)⟩
 ·have hD':(deE8 m l o_==0)=false:=by simpa using hD
  clear hD;generalize deE8 m l o_=E1 at *
  go_wp2_with (go_at_call 5; refine (HAW.out _ HZ2.out.1.bel).mono ?_; rintro e w9 ⟨rfl,hb⟩)
  go_ret
  exact ⟨rfl,HZ2.out.1.bel.trans (hb.mono HZ2.out.1.bel.size)⟩
end Go.Proofs.YtifnijmienmmbaaGreatDoor
