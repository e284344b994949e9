import Derived.Test.YtemicfjmidohfaaGreatDoorYb
import Derived.Test.YtemicfjmidohfaaGreatDoorYa
import Derived.Deep.CutBlock
set_option maxRecDepth 100000
set_option maxHeartbeats 12800000
namespace Go.Proofs.YtemicfjmidohfaaGreatDoor
open Go Go.Proofs Go.RowKit
def fndK (n:Nat):Code→Option Code
 | .block m c=>if m=n then some (.block m c) else fndK n c
 | .seq a b=>match fndK n a with
  | some c=>some c
  | none=>fndK n b
 | .cond _ a b=>match fndK n a with
  | some c=>some c
  | none=>fndK n b
 | .loop c=>fndK n c
 | .scope c=>fndK n c
 | _=>none
noncomputable def bdc:Code:=(fndK 1 (Tryz.f5.body.getD .skip)).getD .skip
theorem bd16 (w:World) (bt:Int) (n m:Nat) (c d:Cal) (g g1 g2 cB i:Nat) (b0:Brd) (y0 z0:Wy) (cs0:List Value) (w0:World) (Q:Exit→Act→World→Prop) {u0 u1 u2 u4 u6 u7 u8 u11 u14 u15 u16 u17 u18 u19 u20 u21 u22 u23 u24 u25 u26 u27 u28 u29 u30 u31 u32 u34 u35 u36 u37 u38 u39 u40 u41 u42 u43 u44 u45 u46 u47 u48 u49 u50 u51 u52 u53 u54 u55 u56 u57 u58 u59 u60 u61 u62 u63 u64 u65 u66 u67 u68 u69 u70 u71 u72 u73 u74 u75 u76 u77 u78 u79 u80 u81 u82 u83 u84 u85 u86 u87 u88 u89 u90 u91 u92 u93 u94 u95 u96 u97 u98 u99 u100 u101 u102 u103 u104 u105 u106 u107 u108 u109 u110 u111 u112 u113 u114 u115 u116 u117 u118 u119 u120 u121 u122 u123 u124 u125 u126 u127 u128 u129 u130 u131 u132 u133 u134 u135 u136 u137 u138 u139 u140 u141 u142 u143 u144 u145 u146 u147 u148 u149 u150 u151 u152 u153:Value}
  (HC:Hid (C16 w bt n m c d)) (hi:i<60) (HI0:Hid (I16 w g g1 g2 n c d cB (4 * i) (atA m (begA n (absK c) (absK d)) i) b0 y0 z0 cs0 w0))
  (hQ:∀ {v8 v14 v15 v16 v34 v35 v36 v37 v38 v39 v40 v41 v42 v43 v44 v45 v46 v47 v48 v49 v50 v51 v52 v53 v54 v55 v56 v57 v58 v59 v60 v61 v62 v63 v64 v65 v66 v67 v68 v69 v70 v71 v72 v73 v74 v75 v76 v77 v78 v79 v80 v81 v82 v83 v84 v85 v86 v87 v88 v89 v90 v91 v92 v93 v94 v95 v96 v97 v98 v99 v100 v101 v102 v103 v104 v105 v106 v107 v108 v109 v110 v111 v112 v113 v114 v115 v116 v117 v118 v119:Value} {w':World} {b:Brd} {y z:Wy} {cs:List Value},I16 w g g1 g2 n c d cB (4 * (i+1)) (atA m (begA n (absK c) (absK d)) (i+1)) b y z cs w'→Q .normal { tmps:=(u0::u1::u2::.int .u8 bt::u4::.pointer (some ⟨cB,0,none⟩)::u6::u7::v8::.int .i64 (n:Int)::.pointer (some ⟨g,0,none⟩)::u11::.pointer (some ⟨g1,0,none⟩)::.pointer (some ⟨g2,0,none⟩)::v14::v15::v16::u17::u18::u19::u20::u21::u22::u23::u24::u25::u26::u27::u28::u29::u30::u31::u32::.int .i64 (i:Int)::v34::v35::v36::v37::v38::v39::v40::v41::v42::v43::v44::v45::v46::v47::v48::v49::v50::v51::v52::v53::v54::v55::v56::v57::v58::v59::v60::v61::v62::v63::v64::v65::v66::v67::v68::v69::v70::v71::v72::v73::v74::v75::v76::v77::v78::v79::v80::v81::v82::v83::v84::v85::v86::v87::v88::v89::v90::v91::v92::v93::v94::v95::v96::v97::v98::v99::v100::v101::v102::v103::v104::v105::v106::v107::v108::v109::v110::v111::v112::v113::v114::v115::v116::v117::v118::v119::u120::u121::u122::u123::u124::u125::u126::u127::u128::u129::u130::u131::u132::u133::u134::u135::u136::u137::u138::u139::u140::u141::u142::u143::u144::u145::u146::u147::u148::u149::u150::u151::u152::u153::[]).toArray,defers:=[] } w'):
  Code.wp Tryz.prog bdc Q { tmps:=(u0::u1::u2::.int .u8 bt::u4::.pointer (some ⟨cB,0,none⟩)::u6::u7::u8::.int .i64 (n:Int)::.pointer (some ⟨g,0,none⟩)::u11::.pointer (some ⟨g1,0,none⟩)::.pointer (some ⟨g2,0,none⟩)::u14::u15::u16::u17::u18::u19::u20::u21::u22::u23::u24::u25::u26::u27::u28::u29::u30::u31::u32::.int .i64 (i:Int)::u34::u35::u36::u37::u38::u39::u40::u41::u42::u43::u44::u45::u46::u47::u48::u49::u50::u51::u52::u53::u54::u55::u56::u57::u58::u59::u60::u61::u62::u63::u64::u65::u66::u67::u68::u69::u70::u71::u72::u73::u74::u75::u76::u77::u78::u79::u80::u81::u82::u83::u84::u85::u86::u87::u88::u89::u90::u91::u92::u93::u94::u95::u96::u97::u98::u99::u100::u101::u102::u103::u104::u105::u106::u107::u108::u109::u110::u111::u112::u113::u114::u115::u116::u117::u118::u119::u120::u121::u122::u123::u124::u125::u126::u127::u128::u129::u130::u131::u132::u133::u134::u135::u136::u137::u138::u139::u140::u141::u142::u143::u144::u145::u146::u147::u148::u149::u150::u151::u152::u153::[]).toArray,defers:=[] } w0:=by
 conv=>arg 2; whnf
 have HIL:=Lh hi;have hw3:IntKind.i64.wrap (bt.tmod 5)=(m:Int):=by rw [HC.out.hm]; exact IntWalk.i64_in _ (by have:=HC.out.m5; omega)
 obtain ⟨B,hB⟩:∃ B,B=decide (i<m∨z0.q=11):=⟨_,rfl⟩
 have HBB:=Lh hB;clear hi hB
 go_upto_region 9 with fail
 go_cut [44] from 36 to 45 (fun v wx=>v=.bool B∧Hid (I16 w g g1 g2 n c d cB (4 * i) (atA m (begA n (absK c) (absK d)) i) b0 y0 z0 cs0 wx))
 case first=>
  by_cases hm:i<m
  ·have HT:=Lh (HBB.out.trans (decide_eq_true (.inl hm)))
   go_wp2_with fail
   go_meet
   exact ⟨by rw [HT.out],HI0⟩
  ·have hm':decide (i<m)=false:=decide_eq_false hm
   have HT:=Lh (show B=doneW z0 from HBB.out.trans (decide_eq_decide.2 ⟨fun h=>h.resolve_left hm,.inr⟩));have HD:=Lh (fun W=>done_any z0 W);clear hm HBB;go_wp2_with (first | (refine kld (n:=18) HI0.out.l.b2 rfl ?_) | (go_at_call 26; refine (HD.out _).mono ?_; rintro e w1 ⟨rfl,hb1⟩; have HI:=Lh (HI0.out.next hb1); clear hb1))
   go_meet
   exact ⟨by rw [HT.out],HI⟩
 case rest=>
 obtain ⟨rfl,HI1⟩:=hcut;clear HI0 hw3;have HK:=Lh (show 4 * i≤990 from by have:=HIL.out; omega)
 go_upto_if 44 with fail
 go_cut [8] from 45 to 66 (fun _ wx=>∃ (b:Brd) (y z:Wy) (cs:List Value),Hid (I16 w g g1 g2 n c d cB (4 * i+1) (nextA m i (atA m (begA n (absK c) (absK d)) i)) b y z cs wx))
 case first=>
  generalize b0=b at *
  generalize cs0=cs at *
  cases B
  ·have HNO:=Lh (show ¬ (i<m∨z0.q=11) from of_decide_eq_false HBB.out.symm)
   have HI0:=HI1;have HRD:=Lh (fun W h=>HC.out.rd z0 b _ cs W HI0.out.ok HK.out h HI0.out.pv.oz);obtain ⟨r,hr⟩:∃ r,readyW z0 b=r:=⟨_,rfl⟩
   rw [hr] at HRD;have HR:=Lh hr;clear HI1 HBB hr
   cases r
   ·have HA:=Lh ((nxtY (m:=m) (i:=i) HI0.out.pv (.inr (.inr HR.out))).symm.trans (by rw [HI0.out.ab]))
    clear HNO HR;go_wp2_with (first | (refine kld (n:=nBd) HI.out.l.k.bb HI.out.l.k.ib.len ?_) | (refine kld (n:=18) HI.out.l.b1 rfl ?_) | (refine kst (n:=18) H6.out.1 rfl rfl (wy_one (stepW y0 b).2) (fun w5 hw5=>?_)) | (refine kst (n:=nBd) (HI.out.l.k.next hb).bb HI.out.l.k.ib.len hI.len hI.one (fun w4 hw4=>?_); have H6:=Lh (HI.out.l.mid hb hw4.out)) | (go_at_call 17; refine (HC.out.st y0 b _ cs _ HI.out.ok HK.out HI.out.l.k.ib HI.out.pv.oy HI.out.pv.rp HI.out.l.k.bel).mono ?_; rintro e w3 ⟨hb,ds,rfl,hI⟩) | (go_at_call 27; refine (HRD.out _ HI0.out.l.k.ib).mono ?_; rintro e w1 ⟨rfl,hb1⟩; have HI:=Lh (HI0.out.next hb1); clear hb1) | (refine kld (n:=nBd) HI0.out.l.k.bb HI0.out.l.k.ib.len ?_) | (refine kld (n:=18) HI0.out.l.b2 rfl ?_))
    have H8:=HI.out.stY hb hI hw4.out hw5.out HA.out
    go_meet
    exact ⟨_,_,_,_,Lh H8⟩
   ·have HA:=Lh ((nxtZ (m:=m) (i:=i) HI0.out.pv (by rintro (h | h | h); exact HNO.out (.inl h); exact HNO.out (.inr h); rw [HR.out] at h; cases h)).symm.trans (by rw [HI0.out.ab]))
    clear HNO HR;go_wp2_with (first | (refine kld (n:=nBd) HI.out.l.k.bb HI.out.l.k.ib.len ?_) | (refine kld (n:=18) HI.out.l.b2 rfl ?_) | (refine kst (n:=18) H6.out.2 rfl rfl (wy_one (stepW z0 b).2) (fun w5 hw5=>?_)) | (refine kst (n:=nBd) (HI.out.l.k.next hb).bb HI.out.l.k.ib.len hI.len hI.one (fun w4 hw4=>?_); have H6:=Lh (HI.out.l.mid hb hw4.out)) | (go_at_call 17; refine (HC.out.st z0 b _ cs _ HI.out.ok HK.out HI.out.l.k.ib HI.out.pv.oz HI.out.pv.rp HI.out.l.k.bel).mono ?_; rintro e w3 ⟨hb,ds,rfl,hI⟩) | (go_at_call 27; refine (HRD.out _ HI0.out.l.k.ib).mono ?_; rintro e w1 ⟨rfl,hb1⟩; have HI:=Lh (HI0.out.next hb1); clear hb1) | (refine kld (n:=nBd) HI0.out.l.k.bb HI0.out.l.k.ib.len ?_) | (refine kld (n:=18) HI0.out.l.b2 rfl ?_))
    have H8:=HI.out.stZ hb hI hw4.out hw5.out HA.out
    go_meet
    exact ⟨_,_,_,_,Lh H8⟩
  ·have HI:=HI1
   have HA:=Lh ((nxtY (m:=m) (i:=i) HI.out.pv (by rcases of_decide_eq_true HBB.out.symm with h | h; exact .inl h; exact .inr (.inl h))).symm.trans (by rw [HI.out.ab]));clear HI1 HBB;go_wp2_with (first | (refine kld (n:=nBd) HI.out.l.k.bb HI.out.l.k.ib.len ?_) | (refine kld (n:=18) HI.out.l.b1 rfl ?_) | (refine kst (n:=18) H6.out.1 rfl rfl (wy_one (stepW y0 b).2) (fun w5 hw5=>?_)) | (refine kst (n:=nBd) (HI.out.l.k.next hb).bb HI.out.l.k.ib.len hI.len hI.one (fun w4 hw4=>?_); have H6:=Lh (HI.out.l.mid hb hw4.out)) | (go_at_call 17; refine (HC.out.st y0 b _ cs _ HI.out.ok HK.out HI.out.l.k.ib HI.out.pv.oy HI.out.pv.rp HI.out.l.k.bel).mono ?_; rintro e w3 ⟨hb,ds,rfl,hI⟩))
   have H8:=HI.out.stY hb hI hw4.out hw5.out HA.out
   go_meet
   exact ⟨_,_,_,_,Lh H8⟩
 case rest=>
 obtain ⟨b,y,z,cs,HI⟩:=hcut;clear HI1 HBB;have HCK:=Lh (HI.out.pv.chk (by rw [HI.out.ab]; exact HC.out.run.1 i (Nat.zero_le _) (by have:=HIL.out; omega)))
 go_upto_region 14 with fail
 go_cut [85] from 66 to 86 (fun v wx=>v=.bool false∧Hid (I16 w g g1 g2 n c d cB (4 * i+1) (nextA m i (atA m (begA n (absK c) (absK d)) i)) b y z cs wx))
 case first=>
  have HWR:=Lh HC.out.wr;have HD:=Lh (fun W=>done_any y W);have HRD:=Lh (fun W h=>HC.out.rd y b _ cs W HI.out.ok (show 4 * i+1≤990 from by have:=HIL.out; omega) h HI.out.pv.oy);have HC1:=Lh HCK.out.1;clear HC HCK HK HIL;obtain ⟨a,ha⟩:∃ a,writesB c.k=a:=⟨_,rfl⟩
  obtain ⟨o,ho⟩:∃ o,doneW y=o:=⟨_,rfl⟩
  obtain ⟨r,hr⟩:∃ r,readyW y b=r:=⟨_,rfl⟩
  obtain ⟨k,hk⟩:∃ k,c.k=k:=⟨_,rfl⟩
  have HX:=Lh (show a=true∨k=8∨o=true∨r=true from by
   rcases HC1.out with h | h | h | h
   ·exact .inl (ha.symm.trans h)
   ·exact .inr (.inl (hk.symm.trans h))
   ·exact .inr (.inr (.inl (ho.symm.trans (decide_eq_true h))))
   ·exact .inr (.inr (.inr (hr.symm.trans h))))
  rw [ha,hk] at HWR;rw [ho] at HD;rw [hr] at HRD;have q0:=HI.out.bc.cell (v:=.int .i64 k) 0 (by rw [←hk]; rfl);have HCK:=Lh hk;clear ha ho hr hk HC1
  cases a
  rotate_left
  ·go_wp2_with (first | (go_at_call 28; refine (HWR.out _).mono ?_; rintro e w1 ⟨rfl,hb1⟩; have HI1:=Lh (HI.out.next hb1); have q1:=HI1.out.bc.cell (v:=.int .i64 k) 0 (by rw [←HCK.out]; rfl); clear hb1) | (refine kld (n:=18) HI1.out.l.b1 rfl ?_) | (refine kld (n:=18) HI2.out.l.b1 rfl ?_) | (refine kld (n:=nBd) HI2.out.l.k.bb HI2.out.l.k.ib.len ?_) | (go_at_call 26; refine (HD.out _).mono ?_; rintro e w2 ⟨rfl,hb2⟩; have HI2:=Lh (HI1.out.next hb2); clear hb2) | (go_at_call 27; refine (HRD.out _ HI2.out.l.k.ib).mono ?_; rintro e w4 ⟨rfl,hb3⟩; have HI3:=Lh (HI2.out.next hb3); clear hb3))
   go_meet
   exact ⟨rfl,HI1⟩
  by_cases h8:k=8
  ·have h8':(k != 8)=false:=by simpa using h8
   clear h8;go_wp2_with (first | (go_at_call 28; refine (HWR.out _).mono ?_; rintro e w1 ⟨rfl,hb1⟩; have HI1:=Lh (HI.out.next hb1); have q1:=HI1.out.bc.cell (v:=.int .i64 k) 0 (by rw [←HCK.out]; rfl); clear hb1) | (refine kld (n:=18) HI1.out.l.b1 rfl ?_) | (refine kld (n:=18) HI2.out.l.b1 rfl ?_) | (refine kld (n:=nBd) HI2.out.l.k.bb HI2.out.l.k.ib.len ?_) | (go_at_call 26; refine (HD.out _).mono ?_; rintro e w2 ⟨rfl,hb2⟩; have HI2:=Lh (HI1.out.next hb2); clear hb2) | (go_at_call 27; refine (HRD.out _ HI2.out.l.k.ib).mono ?_; rintro e w4 ⟨rfl,hb3⟩; have HI3:=Lh (HI2.out.next hb3); clear hb3))
   go_meet
   exact ⟨rfl,HI1⟩
  have h8':(k != 8)=true:=by simpa using h8
  cases o
  rotate_left
  ·clear h8
   go_wp2_with (first | (go_at_call 28; refine (HWR.out _).mono ?_; rintro e w1 ⟨rfl,hb1⟩; have HI1:=Lh (HI.out.next hb1); have q1:=HI1.out.bc.cell (v:=.int .i64 k) 0 (by rw [←HCK.out]; rfl); clear hb1) | (refine kld (n:=18) HI1.out.l.b1 rfl ?_) | (refine kld (n:=18) HI2.out.l.b1 rfl ?_) | (refine kld (n:=nBd) HI2.out.l.k.bb HI2.out.l.k.ib.len ?_) | (go_at_call 26; refine (HD.out _).mono ?_; rintro e w2 ⟨rfl,hb2⟩; have HI2:=Lh (HI1.out.next hb2); clear hb2) | (go_at_call 27; refine (HRD.out _ HI2.out.l.k.ib).mono ?_; rintro e w4 ⟨rfl,hb3⟩; have HI3:=Lh (HI2.out.next hb3); clear hb3))
   go_meet
   exact ⟨rfl,HI2⟩
  cases r
  ·exact absurd HX.out (by simp [h8])
  clear h8;go_wp2_with (first | (go_at_call 28; refine (HWR.out _).mono ?_; rintro e w1 ⟨rfl,hb1⟩; have HI1:=Lh (HI.out.next hb1); have q1:=HI1.out.bc.cell (v:=.int .i64 k) 0 (by rw [←HCK.out]; rfl); clear hb1) | (refine kld (n:=18) HI1.out.l.b1 rfl ?_) | (refine kld (n:=18) HI2.out.l.b1 rfl ?_) | (refine kld (n:=nBd) HI2.out.l.k.bb HI2.out.l.k.ib.len ?_) | (go_at_call 26; refine (HD.out _).mono ?_; rintro e w2 ⟨rfl,hb2⟩; have HI2:=Lh (HI1.out.next hb2); clear hb2) | (go_at_call 27; refine (HRD.out _ HI2.out.l.k.ib).mono ?_; rintro e w4 ⟨rfl,hb3⟩; have HI3:=Lh (HI2.out.next hb3); clear hb3))
  go_meet
  exact ⟨rfl,HI3⟩
 case rest=>
 obtain ⟨rfl,HI1⟩:=hcut;clear HI;have HCS:=Lh HCK.out.2;clear HCK;go_wp2_with fail
 go_loopg [87] n (fun q t87 wr=>∃ s:Nat,s≤n∧q=n-s∧t87=.int .i64 (s:Int)∧Hid (I16 w g g1 g2 n c d cB (4 * i+1) (nextA m i (atA m (begA n (absK c) (absK d)) i)) b y z cs wr))
 case atStart=>exact ⟨0,Nat.zero_le _,rfl,rfl,HI1⟩
 case round=>
  clear HI1;obtain ⟨s,hs,rfl,rfl,HI⟩:=hrel;by_cases hlt:s<n
  ·have hS:=HCS.out s hlt
   have HHO:=Lh (fun W h=>HC.out.ho b s (by omega) (by rw [HI.out.pv.ln]; omega) (4 * i+1) cs W HI.out.ok (by have:=HIL.out; omega) h);have HDy:=Lh (fun W=>done_any y W);have HDz:=Lh (fun W=>done_any z W);obtain ⟨hd,hhd⟩:∃ hd,(b.at s).h=hd:=⟨_,rfl⟩
   rw [hhd] at hS HHO;clear hhd;have HLT:=Lh hlt;have hin:IntKind.i64.wrap ((s:Int)+1)=(s:Int)+1:=IntWalk.i64_in _ (by have h2:=HC.out.n8; omega);by_cases e0:hd=0
   ·subst e0
    rw [show doneW y=false from decide_eq_false fun e=>hS.1 ⟨rfl,e⟩] at HDy;clear hS;go_wp2_with (first | (refine kld (n:=nBd) HI.out.l.k.bb HI.out.l.k.ib.len ?_) | (go_at_call 29; refine (HHO.out _ HI.out.l.k.ib).mono ?_; rintro e w1 ⟨rfl,hb1⟩; have HI1:=Lh (HI.out.next hb1); clear hb1) | (refine kld (n:=18) HI1.out.l.b1 rfl ?_) | (refine kld (n:=18) HI1.out.l.b2 rfl ?_) | (go_at_call 26; refine (HDy.out _).mono ?_; rintro e w2 ⟨rfl,hb2⟩; have HI2:=Lh (HI1.out.next hb2); clear hb2) | (go_at_call 26; refine (HDz.out _).mono ?_; rintro e w2 ⟨rfl,hb2⟩; have HI2:=Lh (HI1.out.next hb2); clear hb2))
    go_roundg (n-(s+1))
    case measure=>have:=HLT.out; omega
    case rel=>
     have h8:s<8:=by have h1:=HLT.out; have h2:=HC.out.n8; omega
     exact ⟨s+1,by have:=HLT.out; omega,rfl,by go_num,HI2⟩
   have f0:(hd==0)=false:=by simpa using e0
   by_cases e1:hd=1
   ·subst e1
    rw [show doneW z=false from decide_eq_false fun e=>hS.2.1 ⟨rfl,e⟩] at HDz;clear hS e0 f0;go_wp2_with (first | (refine kld (n:=nBd) HI.out.l.k.bb HI.out.l.k.ib.len ?_) | (go_at_call 29; refine (HHO.out _ HI.out.l.k.ib).mono ?_; rintro e w1 ⟨rfl,hb1⟩; have HI1:=Lh (HI.out.next hb1); clear hb1) | (refine kld (n:=18) HI1.out.l.b1 rfl ?_) | (refine kld (n:=18) HI1.out.l.b2 rfl ?_) | (go_at_call 26; refine (HDy.out _).mono ?_; rintro e w2 ⟨rfl,hb2⟩; have HI2:=Lh (HI1.out.next hb2); clear hb2) | (go_at_call 26; refine (HDz.out _).mono ?_; rintro e w2 ⟨rfl,hb2⟩; have HI2:=Lh (HI1.out.next hb2); clear hb2))
    go_roundg (n-(s+1))
    case measure=>have:=HLT.out; omega
    case rel=>
     have h8:s<8:=by have h1:=HLT.out; have h2:=HC.out.n8; omega
     exact ⟨s+1,by have:=HLT.out; omega,rfl,by go_num,HI2⟩
   have f1:(hd==1)=false:=by simpa using e1
   have f2:decide (1<hd)=false:=decide_eq_false (by have:=hS.2.2; omega);clear hS e0 e1;go_wp2_with (first | (refine kld (n:=nBd) HI.out.l.k.bb HI.out.l.k.ib.len ?_) | (go_at_call 29; refine (HHO.out _ HI.out.l.k.ib).mono ?_; rintro e w1 ⟨rfl,hb1⟩; have HI1:=Lh (HI.out.next hb1); clear hb1) | (refine kld (n:=18) HI1.out.l.b1 rfl ?_) | (refine kld (n:=18) HI1.out.l.b2 rfl ?_) | (go_at_call 26; refine (HDy.out _).mono ?_; rintro e w2 ⟨rfl,hb2⟩; have HI2:=Lh (HI1.out.next hb2); clear hb2) | (go_at_call 26; refine (HDz.out _).mono ?_; rintro e w2 ⟨rfl,hb2⟩; have HI2:=Lh (HI1.out.next hb2); clear hb2))
   go_roundg (n-(s+1))
   case measure=>have:=HLT.out; omega
   case rel=>
    have h8:s<8:=by have h1:=HLT.out; have h2:=HC.out.n8; omega
    exact ⟨s+1,by have:=HLT.out; omega,rfl,by go_num,HI1⟩
  ·obtain rfl:n=s:=by omega
   clear hlt hs HCS;by_cases h30:i=30
   ·have f30:((i:Int)==30)=true:=by simpa using (show (i:Int)=30 by omega)
    have HA:=Lh (show fillA 30 (nextA m i (atA m (begA n (absK c) (absK d)) i))=atA m (begA n (absK c) (absK d)) (i+1) from by rw [←h30]; rfl);have HL5:=Lh (show 4 * i+5≤1000 from by omega);have T1:True:=trivial;clear h30;go_wp2_with (first | (refine kld (n:=nBd) HI.out.l.k.bb HI.out.l.k.ib.len ?_) | (refine kst (n:=nBd) (HI.out.l.k.next HF2.out.1).bb HI.out.l.k.ib.len hI3.len hI3.one (fun w4 hw4=>?_)) | (have q1:=T1; go_at_call 19; refine (HC.out.fl b 1 (by decide) (by decide) (4 * i+1) cs _ HI.out.ok (by have:=HL5.out; omega) HI.out.l.k.ib).mono ?_; rintro e w1 ⟨hb1,ds1,rfl,hI1⟩; have HF1:=Lh (And.intro hb1 hI1); clear hb1 hI1 T1 q1) | (go_at_call 19; refine (HC.out.fl (fillB b 5 1 ⟨0,0,⟨#[]⟩⟩) 2 (by decide) (by decide) (4 * i+2) ds1 _ (HI.out.ok.fill _ _ _) (by have:=HL5.out; omega) HF1.out.2).mono ?_; rintro e w2 ⟨hb2,ds2,rfl,hI2⟩; have HF3:=Lh (And.intro (HF1.out.1.trans (hb2.mono HF1.out.1.size)) hI2); clear hb2 hI2 HF1) | (go_at_call 23; refine (HC.out.lv (fillB (fillB b 5 1 ⟨0,0,⟨#[]⟩⟩) 5 2 ⟨0,0,⟨#[]⟩⟩) (4 * i+3) ds2 _ ((HI.out.ok.fill _ _ _).fill _ _ _) (by have:=HL5.out; omega) HF3.out.2).mono ?_; rintro e w3 ⟨hb3,ds3,rfl,hI3⟩; have HF2:=Lh (And.intro (HF3.out.1.trans (hb3.mono HF3.out.1.size)) True.intro); clear hb3 HF3))
    exact hQ ((HI.out.put (x:=⟨0,0,⟨#[]⟩⟩) HF2.out.1 hI3 hw4.out).mo (Nat.le_refl _) HA.out)
   ·have f30:((i:Int)==30)=false:=by simpa using (show ¬ ((i:Int)=30) by omega)
    have HA:=Lh (fillA_no (x:=nextA m i (atA m (begA n (absK c) (absK d)) i)) h30);clear h30;go_wp2_with fail
    exact hQ (HI.out.mo (by omega) HA.out.symm)
end Go.Proofs.YtemicfjmidohfaaGreatDoor
set_option maxRecDepth 100000
set_option maxHeartbeats 12800000
namespace Go.Proofs.YtemicfjmidohfaaGreatDoor
open Go Go.Proofs Go.RowKit
def D16 (w:World) (g:Nat) (c d:Cal) (b:Brd) (cs:List Value) (W:World):Prop:=K15 w g b cs W∧Blk W w.heap.size (calL c) 75∧Blk W (w.heap.size+1) (calL d) 75
theorem D16.next {w:World} {g:Nat} {c d:Cal} {b:Brd} {cs:List Value} (W W':World) (h:D16 w g c d b cs W) (hb:Below W.heap.size W W'):D16 w g c d b cs W':=⟨h.1.next hb,h.2.1.next hb,h.2.2.next hb⟩
theorem D16.put {w:World} {g gx:Nat} {c d:Cal} {b:Brd} {cs zs:List Value} {W:World} (h:D16 w g c d b cs W) (hB:Blk W gx zs WAY) (hg:w.heap.size≤gx) (us:List Value):D16 w g c d b cs (setN W gx 0 us):=
 ⟨⟨setN_below hg _ 0 h.1.bel,h.1.ge,h.1.bb.setN (fun e=>blk_nt h.1.bb (e▸hB) (by decide)) _ _,h.1.ib.setN hB way_not _⟩,h.2.1.setN (fun e=>blk_nt h.2.1 (e▸hB) (by decide)) _ _,h.2.2.setN (fun e=>blk_nt h.2.2 (e▸hB) (by decide)) _ _⟩
structure F16 (w:World) (g g1 g2 g3:Nat) (p:Brd×Wy) (y z:Wy) (cs:List Value) (W:World):Prop where
 k:K15 w g p.1 cs W
 e3:w.heap.size≤g3
 n1:g1≠g3
 n2:g2≠g3
 b1:Blk W g1 (wyL y) WAY
 b2:Blk W g2 (wyL z) WAY
 b3:Blk W g3 (wyL p.2) WAY
theorem F16.next {w:World} {g g1 g2 g3:Nat} {p:Brd×Wy} {y z:Wy} {cs:List Value} {W W':World} (h:F16 w g g1 g2 g3 p y z cs W) (hb:Below W.heap.size W W'):F16 w g g1 g2 g3 p y z cs W':=⟨h.k.next hb,h.e3,h.n1,h.n2,h.b1.next hb,h.b2.next hb,h.b3.next hb⟩
theorem F16.st {w:World} {g g1 g2 g3:Nat} {p q:Brd×Wy} {y z:Wy} {cs ds:List Value} {W w3 w4 w5:World} (h:F16 w g g1 g2 g3 p y z cs W) (hb:Below W.heap.size W w3) (hI:IsBd w3 (fun _=>False) q.1 ds) (e4:w4=setN w3 g 0 ds) (e5:w5=setN w4 g3 0 (wyL q.2)):F16 w g g1 g2 g3 q y z ds w5:=by
 have h1:=k_step h.k h.e3 h.b3 hb hI e4 e5;exact ⟨h1.1,h.e3,h.n1,h.n2,h1.2.2 _ _ _ (fun e=>blk_nt h.k.bb (e▸h.b1) (by decide)) h.n1 h.b1,h1.2.2 _ _ _ (fun e=>blk_nt h.k.bb (e▸h.b2) (by decide)) h.n2 h.b2,h1.2.1⟩
theorem F16.mid {w:World} {g g1 g2 g3:Nat} {p:Brd×Wy} {y z:Wy} {cs ds:List Value} {W w3 w4:World} (h:F16 w g g1 g2 g3 p y z cs W) (hb:Below W.heap.size W w3) (e4:w4=setN w3 g 0 ds):Blk w4 g3 (wyL p.2) WAY:=by
 rw [e4]; exact (h.b3.next hb).setN (fun e=>blk_nt h.k.bb (e▸h.b3) (by decide)) _ _
theorem clooks_main (H:BAll) (h16:Awake16Ok) (st bt:Int) (h0:0≤st) (_:st≤255) (m0:0≤bt) (_:bt≤255) (c d:Cal) (w:World) (hp:Pows w) (ht:Tabs w) (hq:Wq w):Calls Tryz.prog 5 #[.int .u8 st,.agg (calL c).toArray,.agg (calL d).toArray,.int .u8 bt] w (Rt (.bool true) w):=by
 have hO:∀ W,Old (fun _=>False) W:=fun _ _ h=>h.elim
 obtain ⟨n,hn,hn1,hn8⟩:∃ n:Nat,st.tmod 8+1=(n:Int)∧1≤n∧n≤8:=⟨(st.tmod 8+1).toNat,by rw [Int.tmod_eq_emod_of_nonneg h0]; omega,by rw [Int.tmod_eq_emod_of_nonneg h0]; omega,by rw [Int.tmod_eq_emod_of_nonneg h0]; omega⟩
 obtain ⟨m,hm,hm5⟩:∃ m:Nat,bt.tmod 5=(m:Int)∧m<5:=⟨(bt.tmod 5).toNat,by rw [Int.tmod_eq_emod_of_nonneg m0]; omega,by rw [Int.tmod_eq_emod_of_nonneg m0]; omega⟩
 have hE:newBE 1 n 2=0:=by
  unfold newBE
  rw [if_neg (by omega)]; rfl
 have HNEW:=Lh (fun W=>show Calls Tryz.prog 7 #[.int .i64 1,.int .i64 (n:Int),.int .i64 2] W (RB (newB 1 n 2) (fun _=>False) (fun v=>.tuple #[v,.int .i64 0]) W) from by
  have h:=H.new 1 n 2 _ W (by decide) (by decide) (by omega) (by omega) (by decide) (by decide) (hO W);rw [hE,show newBr 1 n 2=newB 1 n 2 from if_pos hE] at h;exact h)
 have HAW:=Lh (fun (W:World) (hb:Below w.heap.size w W)=>h16 W (hp.next hb) (ht.next hb) (hq.next hb));have HC:=Lh (show C16 w bt n m c d from {
  st:=fun y b k cs W hO' hk h hy hr hb=>step16 y b k _ cs W hO' hk h (hO W) hy ⟨0,by decide,by rw [hr]; exact newR_ok 1⟩ (hp.next hb) (ht.next hb)
  rd:=fun y b k cs W hO' hk h hy=>ready16 y b k _ cs W hO' hk h (hO W) hy
  ho:=fun b s h0 h1 k cs W hO' hk h=>H.hold b s h0 h1 k _ cs W hO' hk h
  fl:=fun b s h0 h1 k cs W hO' hk h=>H.fill b 5 s ⟨0,0,⟨#[]⟩⟩ h0 h1 k _ cs W hO' hk h (hO W) (by decide) (by decide)
  lv:=fun b k cs W hO' hk h=>H.leave b 5 k _ cs W hO' hk h (hO W) (by decide) (by decide)
  wr:=fun W=>rpl_ok.wr c.k W c.k0 c.k1
  hm:=hm
  n1:=hn1
  n8:=hn8
  m5:=hm5
  run:=run_at 60 0 (run_any (n:=n) (kc:=absK c) (kd:=absK d) (m:=m) ⟨hn1,hn8⟩ (absK_lt c) (absK_lt d) hm5) })
 have HBO:=Lh (BOk.new hE);have hw1:IntKind.i64.wrap (st.tmod 8)=st.tmod 8:=IntWalk.i64_in _ (by rw [Int.tmod_eq_emod_of_nonneg h0]; omega);have hw2:IntKind.i64.wrap (st.tmod 8+1)=(n:Int):=by rw [hn]; exact IntWalk.i64_in _ (by omega)
 have HBL:=Lh (bl2 w (calL c) (calL d) 75 75);have HBC:=Lh (show Blk ((w.alloc (.cells ⟨calL c⟩ 75)).alloc (.cells ⟨calL d⟩ 75)) w.heap.size (calL c) 75∧Blk ((w.alloc (.cells ⟨calL c⟩ 75)).alloc (.cells ⟨calL d⟩ 75)) (w.heap.size+1) (calL d) 75 from ⟨(Blk.start w _ _).alloc _,Blk.startAt (by simp)⟩);clear H h16 hp ht hq hO hE hn1 hn8 hm5 hm hn h0 m0
 go_enter Tryz.func5,Tryz.ntmps5
 go_upto_region 1 with fail
 generalize World.alloc (World.alloc w _) _=W2 at *
 go_upto_region 5 with (first | (refine kst (n:=nBd) (Blk.start w3 zBd _) rfl hI.len hI.one (fun w4 hw4=>?_)) | (go_at_call 7; refine (HNEW.out _).mono ?_; rintro e w3 ⟨hb,cs,rfl,hI⟩))
 have hB:Below w3.heap.size w3 w4:=by rw [hw4.out]; exact setN_below (Nat.le_refl _) _ 0 bA
 have HK:=Lh (show K15 w w3.heap.size (newB 1 n 2) cs w4 from K15.start (HBL.out.trans (hb.mono HBL.out.size)) hI hw4.out);have HC2:=Lh (And.intro ((HBC.out.1.next hb).next hB) ((HBC.out.2.next hb).next hB));clear hb hI hw4 hB HBC HBL HNEW;generalize w3.heap.size=g at *
 have hYZ:=Pv.new (c:=c) (d:=d) HC.out.n1 HC.out.n8;have HY:=Lh (fun W=>beg_any 0 1 c W);have HZ:=Lh (fun W=>beg_any 1 2 d W);have HPV:=Lh (And.intro hYZ HBO.out);clear hYZ HBO;generalize begW 0 1 c=y0 at *
 generalize begW 1 2 d=z0 at *
 generalize newB 1 n 2=b0 at *
 go_cut [12,13] from 12 to 33 (fun t12 t13 wx=>∃ g1 g2:Nat,t12=.pointer (some ⟨g1,0,none⟩)∧t13=.pointer (some ⟨g2,0,none⟩)∧Hid (L16 w g g1 g2 b0 y0 z0 cs wx∧Blk wx w.heap.size (calL c) 75))
 case first=>
  refine rgH (D16 w g c d b0 cs) ⟨HK.out.next bdq,HC2.out.1.next bdq,HC2.out.2.next bdq⟩ fun hH=>?_
  clear HK HC2;refine tzz 0 hH ?_ (hy:=fun W h=>kly (n:=11) h.2.1 rfl);refine tzz 2 hH ?_ (hy:=fun W h=>kly (n:=11) h.2.2 rfl)
  iterate 4 (all_goals ((first | (refine rB3 (i:=1) (j:=4) (m:=5) (by decide +kernel) (Br.call 1 HY.out hH D16.next fun _ hb hN=>?_) (Br.al 4 zWy hH D16.next fun g1 _ hq hb hA hN=>?_) (Br.al 5 zWy hH D16.next fun g2 _ hq hb hZ hN=>?_)) | (refine rB3 (i:=3) (j:=4) (m:=5) (by decide +kernel) (Br.call 3 HZ.out hH D16.next fun _ hb hN=>?_) (Br.al 4 zWy hH D16.next fun g1 _ hq hb hA hN=>?_) (Br.al 5 zWy hH D16.next fun g2 _ hq hb hZ hN=>?_)) | (refine rB2 (i:=1) (j:=5) (by decide +kernel) (Br.call 1 HY.out hH D16.next fun _ hb hN=>?_) (Br.al 5 zWy hH D16.next fun g2 _ hq hb hZ hN=>?_)) | (refine rB2 (i:=1) (j:=4) (by decide +kernel) (Br.call 1 HY.out hH D16.next fun _ hb hN=>?_) (Br.al 4 zWy hH D16.next fun g1 _ hq hb hA hN=>?_)) | (refine rB2 (i:=3) (j:=5) (by decide +kernel) (Br.call 3 HZ.out hH D16.next fun _ hb hN=>?_) (Br.al 5 zWy hH D16.next fun g2 _ hq hb hZ hN=>?_)) | (refine rB2 (i:=3) (j:=4) (by decide +kernel) (Br.call 3 HZ.out hH D16.next fun _ hb hN=>?_) (Br.al 4 zWy hH D16.next fun g1 _ hq hb hA hN=>?_)) | (refine rB2 (i:=4) (j:=5) (by decide +kernel) (Br.al 4 zWy hH D16.next fun g1 _ hq hb hA hN=>?_) (Br.al 5 zWy hH D16.next fun g2 _ hq hb hZ hN=>?_)) | (refine rB1 (i:=1) (by decide +kernel) (Br.call 1 HY.out hH D16.next fun _ hb hN=>?_)) | (refine rB1 (i:=3) (by decide +kernel) (Br.call 3 HZ.out hH D16.next fun _ hb hN=>?_)) | (refine rB1 (i:=4) (by decide +kernel) (Br.al 4 zWy hH D16.next fun g1 _ hq hb hA hN=>?_)) | (refine rB1 (i:=5) (by decide +kernel) (Br.al 5 zWy hH D16.next fun g2 _ hq hb hZ hN=>?_))) <;> ((try have e1:w.heap.size≤g1:=(by rw [hq.out]; exact hH.1.bel.size)); (try have e2:w.heap.size≤g2:=(by rw [hq.out]; exact hH.1.bel.size)); (try have hne:g1≠g2:=(by rw [hq.out]; exact Nat.ne_of_gt hZ.lt)); (try have hne:g1≠g2:=(by rw [hq.out]; exact Nat.ne_of_lt hA.lt)); (try replace hA:=hA.next hb); (try replace hZ:=hZ.next hb); replace hH:=hN; clear hN hb; (try clear hq))))
  all_goals
   refine kstN (n:=18) (us:=wyL y0) 6 hA rfl rfl (wy_one y0) (fun W e=>by rw [e.out]; exact hH.put hA e1 _) (fun W6 h6 hN=>?_);have hB:=setN_all (us:=wyL y0) hA rfl;have hZ2:=hZ.setN (Ne.symm hne) (wyL y0) 0;rw [←h6.out] at hB hZ2;refine kstN (n:=18) (us:=wyL z0) 7 hZ2 rfl rfl (wy_one z0) (fun W e=>by rw [e.out]; exact hN.put hZ2 e2 _) (fun W7 h7 hN2=>?_);refine dnH ?_;go_wp2_with fail
   go_meet
   exact ⟨g1,g2,rfl,rfl,Lh ⟨⟨hN2.1,e1,e2,hne,by rw [h7.out]; exact hB.setN hne _ _,by rw [h7.out]; exact setN_all hZ2 rfl⟩,hN2.2.1⟩⟩
 case rest=>
 obtain ⟨g1,g2,rfl,rfl,HL0⟩:=hcut;have HI0:=Lh (show I16 w g g1 g2 n c d w.heap.size (4 * 0) (atA m (begA n (absK c) (absK d)) 0) b0 y0 z0 cs wc from ⟨HL0.out.1,HL0.out.2,HPV.out.2,HPV.out.1.1,HPV.out.1.2⟩);clear HL0 HPV HY HZ HK HC2;go_wp2_with fail
 go_loopg [33] 60 (fun q t33 wr=>∃ (i:Nat) (b:Brd) (y z:Wy) (cs:List Value),i≤60∧q=60-i∧t33=.int .i64 (i:Int)∧Hid (I16 w g g1 g2 n c d w.heap.size (4 * i) (atA m (begA n (absK c) (absK d)) i) b y z cs wr))
 case atStart=>exact ⟨0,_,_,_,_,by decide,rfl,rfl,HI0⟩
 case round=>
  clear HI0;obtain ⟨i,b,y,z,cs',hi,rfl,rfl,HI⟩:=hrel;by_cases hlt:i<60
  ·have hin:IntKind.i64.wrap ((i:Int)+1)=(i:Int)+1:=IntWalk.i64_in _ (by omega)
   go_upto_block 1 with fail
   have hsw:bdc=bdc:=rfl
   conv at hsw=>lhs; whnf
   rw [hsw];clear hsw;refine bd16 w bt n m c d g g1 g2 w.heap.size i b y z cs' _ _ HC hlt HI (fun {_ _ _ _ _ _ _ _ _ _ _ _ _ _ _ _ _ _ _ _ _ _ _ _ _ _ _ _ _ _ _ _ _ _ _ _ _ _ _ _ _ _ _ _ _ _ _ _ _ _ _ _ _ _ _ _ _ _ _ _ _ _ _ _ _ _ _ _ _ _ _ _ _ _ _ _ _ _ _ _ _ _ _ _ _ _ _ _ _ _ w5 b5 y5 z5 cs5} h5=>?_);have HI5:=Lh h5;clear h5 HI;go_wp2_with fail
   go_roundg (60-(i+1))
   case measure=>omega
   case rel=>exact ⟨i+1,b5,y5,z5,cs5,by omega,rfl,by go_num,HI5⟩
  ·obtain rfl:60=i:=by omega
   clear hlt hi;have hq11:y.q=11:=by
    have h1:=HC.out.run.2;rw [Nat.zero_add,←HI.out.ab] at h1;have h2:=HI.out.pv.oy.q0;have h3:y.q.toNat=11:=h1;omega
   have hx:WyOk (begW 2 3 (cK 4)) b:=⟨by show (0:Int)≤2; decide,by show (2:Int)≤15; decide,by show (0:Int)≤3; decide,by show (3:Int)≤800; decide,Int.le_refl _,by show (0:Int)≤11; decide,Int.le_refl _,by show (0:Int)≤_; omega,fun e=>absurd (show (7:Int)≤0 from e) (by decide),HI.out.pv.oy.n⟩
   have hit:=it_ok (b,begW 2 3 (cK 4)) hx (fun _=>rfl) HI.out.ok;have HSX:=Lh (fun k (hk:k≤2) cs W (hb:Below w.heap.size w W) (h:IsBd W (fun _=>False) (itW k (b,begW 2 3 (cK 4))).1 cs)=>show Calls Tryz.prog 17 #[.agg (wyL (itW k (b,begW 2 3 (cK 4))).2).toArray,.agg cs.toArray] W (RWy (fun _=>False) (itW (k+1) (b,begW 2 3 (cK 4))) W) from
    HC.out.st _ _ (4 * 60+k) cs W (hit k).2.2.1 (by omega) h (hit k).1 ((hit k).2.2.2.trans HI.out.pv.rp) hb)
   have HB:=Lh (fun W=>show Calls Tryz.prog 14 #[.int .i64 2,.int .i64 3,.agg #[.int .i64 4,.int .i64 0,.int .i32 0,.int .i64 0,.int .i64 0,.int .i64 0,.int .i64 0,.int .i64 0,.int .i32 0,.int .i64 0,.int .i64 0]] W (fun e w'=>e=.returned (.agg (wyL (begW 2 3 (cK 4))).toArray)∧Below W.heap.size W w') from beg_any 2 3 (cK 4) W);have HXD:=Lh (show doneW (itW 2 (b,begW 2 3 (cK 4))).2=true from decide_eq_true (two_done (begW 2 3 (cK 4)) b (by show (2:Int)<4; decide) (by show (4:Int)<8; decide) rfl id));have HYD:=Lh (show doneW y=true from decide_eq_true hq11);have HL:=Lh HI.out.l;have HN2:=Lh (show b=(itW 0 (b,begW 2 3 (cK 4))).1∧begW 2 3 (cK 4)=(itW 0 (b,begW 2 3 (cK 4))).2 from ⟨rfl,rfl⟩);rw [HN2.out.1] at HL;clear HI HC hq11 hx hit;rw [HN2.out.2] at HB;clear HN2;generalize (b,begW 2 3 (cK 4))=p at *
   go_upto_region 27 with (first | (refine kst (n:=18) (Blk.start w3 zWy _) rfl rfl (wy_one _) (fun w4 hw4=>?_)) | (go_at_call 14; refine (HB.out _).mono ?_; rintro e w3 ⟨rfl,hb3⟩))
   have HF0:=Lh (show F16 w g g1 g2 w3.heap.size (itW 0 p) y z cs' w4 from by
    have h3:=HL.out.next hb3;have h4:Below w3.heap.size w3 w4:=by rw [hw4.out]; exact setN_below (Nat.le_refl _) _ 0 bA
    have h5:=h3.next h4;exact ⟨h5.k,h3.k.bel.size,Nat.ne_of_lt h3.b1.lt,Nat.ne_of_lt h3.b2.lt,h5.b1,h5.b2,by rw [hw4.out]; exact setN_all (Blk.start w3 zWy _) rfl⟩)
   clear HL hb3 hw4 HB;generalize w3.heap.size=g3 at *
   go_wp2_with fail
   go_loopg [123] 2 (fun q t wr=>∃ (j:Nat) (cs:List Value),j≤2∧q=2-j∧t=.int .i64 (j:Int)∧Hid (F16 w g g1 g2 g3 (itW j p) y z cs wr))
   case atStart=>exact ⟨0,cs',by decide,rfl,rfl,HF0⟩
   case round=>
    clear HF0;obtain ⟨j,cs9,hj,rfl,rfl,HF⟩:=hrel;by_cases hlt:j<2
    ·go_wp2_with (first | (refine kld (n:=nBd) HF.out.k.bb HF.out.k.ib.len ?_) | (refine kld (n:=18) HF.out.b3 rfl ?_) | (refine kst (n:=18) H6.out rfl rfl (wy_one (itW (j+1) p).2) (fun w5 hw5=>?_)) | (refine kst (n:=nBd) (HF.out.k.next hb5).bb HF.out.k.ib.len hI5.len hI5.one (fun w4 hw4=>?_); have H6:=Lh (HF.out.mid hb5 hw4.out)) | (go_at_call 17; refine (HSX.out j (Nat.le_of_lt hlt) _ _ HF.out.k.bel HF.out.k.ib).mono ?_; rintro e w3 ⟨hb5,ds,rfl,hI5⟩))
     have H7:=HF.out.st (q:=itW (j+1) p) hb5 hI5 hw4.out hw5.out
     go_roundg (2-(j+1))
     case measure=>omega
     case rel=>exact ⟨j+1,ds,by omega,rfl,by go_num,Lh H7⟩
    ·obtain rfl:2=j:=by omega
     clear hlt hj HSX;have HDx:=Lh (fun W=>done_any (itW 2 p).2 W);have HDy:=Lh (fun W=>done_any y W);have HDz:=Lh (fun W=>done_any z W);rw [HXD.out] at HDx;rw [HYD.out] at HDy;have T1:True:=trivial;have T2:True:=trivial;have T3:True:=trivial;have T4:True:=trivial;have T5:True:=trivial;obtain ⟨dz,hdz⟩:∃ dz,doneW z=dz:=⟨_,rfl⟩
     rw [hdz] at HDz;clear hdz
     cases dz
     ·go_wp2_with (first | (go_at_call 13; refine (HAW.out _ HF.out.k.bel).mono ?_; rintro e w9 ⟨rfl,hb9⟩; replace HF:=Lh (HF.out.next hb9); clear hb9) | (refine kld (n:=18) HF.out.b3 rfl ?_) | (refine kld (n:=18) HF.out.b1 rfl ?_) | (refine kld (n:=18) HF.out.b2 rfl ?_) | (have q1:=T1; go_at_call 26; refine (HDx.out _).mono ?_; rintro e w9 ⟨rfl,hb9⟩; replace HF:=Lh (HF.out.next hb9); clear hb9 T1 q1) | (have q1:=T2; go_at_call 26; refine (HDy.out _).mono ?_; rintro e w9 ⟨rfl,hb9⟩; replace HF:=Lh (HF.out.next hb9); clear hb9 T2 q1) | (have q1:=T3; go_at_call 26; refine (HDz.out _).mono ?_; rintro e w9 ⟨rfl,hb9⟩; replace HF:=Lh (HF.out.next hb9); clear hb9 T3 q1; refine Hid.out ?_))
      refine Lh ?_;go_wp2_with (first | (refine kld (n:=18) HF.out.b2 rfl ?_) | (refine kld (n:=18) HF.out.b1 rfl ?_) | (have q1:=T4; go_at_call 26; refine (HDz.out _).mono ?_; rintro e w9 ⟨rfl,hb9⟩; replace HF:=Lh (HF.out.next hb9); clear hb9 T4 q1) | (have q1:=T5; go_at_call 26; refine (HDy.out _).mono ?_; rintro e w9 ⟨rfl,hb9⟩; replace HF:=Lh (HF.out.next hb9); clear hb9 T5 q1; refine Hid.out ?_))
      refine Lh ?_;go_wp2_with fail
      go_ret
      exact ⟨rfl,HF.out.k.bel⟩
     ·go_wp2_with (first | (go_at_call 13; refine (HAW.out _ HF.out.k.bel).mono ?_; rintro e w9 ⟨rfl,hb9⟩; replace HF:=Lh (HF.out.next hb9); clear hb9) | (refine kld (n:=18) HF.out.b3 rfl ?_) | (refine kld (n:=18) HF.out.b1 rfl ?_) | (refine kld (n:=18) HF.out.b2 rfl ?_) | (have q1:=T1; go_at_call 26; refine (HDx.out _).mono ?_; rintro e w9 ⟨rfl,hb9⟩; replace HF:=Lh (HF.out.next hb9); clear hb9 T1 q1) | (have q1:=T2; go_at_call 26; refine (HDy.out _).mono ?_; rintro e w9 ⟨rfl,hb9⟩; replace HF:=Lh (HF.out.next hb9); clear hb9 T2 q1) | (have q1:=T3; go_at_call 26; refine (HDz.out _).mono ?_; rintro e w9 ⟨rfl,hb9⟩; replace HF:=Lh (HF.out.next hb9); clear hb9 T3 q1; refine Hid.out ?_))
      refine Lh ?_;go_wp2_with fail
      go_ret
      exact ⟨rfl,HF.out.k.bel⟩
end Go.Proofs.YtemicfjmidohfaaGreatDoor
