import Derived.Test.YtpbhaieclkoggaaGreatDoorDc
import Derived.Deep.CutRange
import Derived.Test.YtpbhaieclkoggaaGreatDoorDf
import Derived.Test.YtpbhaieclkoggaaGreatDoorDq
import Derived.Deep.CutBlock
namespace Go.Proofs.YtpbhaieclkoggaaGreatDoor
open Go Go.Proofs Go.RowKit
structure Q12 (w:World) (b:Nat) (r:Rpl) (cs:List Value) (vm vl:Value) (W:World):Prop where
 bel:Below w.heap.size w W
 lt:w.heap.size≤b
 br:Blk W b cs 41
 bm:Blk W (b+1) [r.s,vm,vl,.bool r.z] 49
 ir:IsRp W r cs
 io:IsO W vm r.m
 il:IsO W vl r.l
theorem Q12.next {w:World} {b:Nat} {r:Rpl} {cs:List Value} {vm vl:Value} {W W':World} (h:Q12 w b r cs vm vl W) (hb:Below W.heap.size W W'):Q12 w b r cs vm vl W':=⟨h.bel.trans (hb.mono h.bel.size),h.lt,h.br.next hb,h.bm.next hb,h.ir.next hb,h.io.next hb,h.il.next hb⟩
structure M12 (w:World) (b:Nat) (r:Rpl) (cs:List Value) (vm vl:Value) (c:Cal) (bC bN:Nat) (q:Rpl) (ds:List Value) (x:Ans) (lc:Value) (t:List Chg) (W:World):Prop where
 h:Q12 w b r cs vm vl W
 bc:Blk W bC [c.k,c.p,.int .i32 c.ch,c.o.k,c.o.c,c.o.s,c.o.a,c.o.n,.int .i32 c.o.ch,c.a,c.b] 57
 bn:Blk W bN ds 41
 bx:Blk W (bN+1) [x.e,x.n,.string x.t] 59
 iq:IsRp W q ds
 ic:IsVC W lc t
 ltn:b+1<bN
theorem M12.next {w:World} {b:Nat} {r:Rpl} {cs:List Value} {vm vl:Value} {c:Cal} {bC bN:Nat} {q:Rpl} {ds:List Value} {x:Ans} {lc:Value} {t:List Chg} {W W':World} (h:M12 w b r cs vm vl c bC bN q ds x lc t W) (hb:Below W.heap.size W W'):M12 w b r cs vm vl c bC bN q ds x lc t W':=⟨h.h.next hb,h.bc.next hb,h.bn.next hb,h.bx.next hb,h.iq.next hb,h.ic.next hb,h.ltn⟩
structure N15 (bA bB:Nat) (q:Rpl) (um ul vc:Value) (x:Ans) (t:List Chg) (W:World):Prop where
 ba:Blk W bA [q.s,um,ul,.bool q.z] 49
 bb:Blk W bB [x.e,x.n,.string x.t] 64
 io:IsO W um q.m
 il:IsO W ul q.l
 ic:IsC W vc t
theorem N15.next {bA bB:Nat} {q:Rpl} {um ul vc:Value} {x:Ans} {t:List Chg} {W W':World} (h:N15 bA bB q um ul vc x t W) (hb:Below W.heap.size W W'):N15 bA bB q um ul vc x t W':=⟨h.ba.next hb,h.bb.next hb,h.io.next hb,h.il.next hb,h.ic.next hb⟩
structure O16 (bO:Nat) (q:Rpl) (es:List Value) (x:Ans) (W:World):Prop where
 bo:Blk W bO es 41
 bz:Blk W (bO+1) [x.e,x.n,.string x.t] 59
 iq:IsRp W q es
theorem O16.next {bO:Nat} {q:Rpl} {es:List Value} {x:Ans} {W W':World} (h:O16 bO q es x W) (hb:Below W.heap.size W W'):O16 bO q es x W':=⟨h.bo.next hb,h.bz.next hb,h.iq.next hb⟩
theorem Q12.put {w:World} {b:Nat} {r q:Rpl} {c0 c1 c2 c3 c4 c5 c6 c7 c8 c9 d0 d1 d2 d3 d4 d5 d6 d7 d8 d9:Value} {vm vl um ul:Value} {W:World} (h:Q12 w b r [c0,c1,c2,c3,c4,c5,c6,c7,c8,c9] vm vl W) (hq:IsRp W q [d0,d1,d2,d3,d4,d5,d6,d7,d8,d9]) (ho:IsO W um q.m) (hl:IsO W ul q.l):
  Q12 w b q [d0,d1,d2,d3,d4,d5,d6,d7,d8,d9] um ul (setN (setN W b 0 [d0,d1,d2,d3,d4,d5,d6,d7,d8,d9]) (b+1) 0 [q.s,um,ul,.bool q.z]):=by
 have h1:=setN_blk [d0,d1,d2,d3,d4,d5,d6,d7,d8,d9] 0 h.br;have h2:=h.bm.setN (b:=b) (by omega) [d0,d1,d2,d3,d4,d5,d6,d7,d8,d9] 0;have k0:∀ t,41≠t→KT t W (setN W b 0 [d0,d1,d2,d3,d4,d5,d6,d7,d8,d9]):=fun t ht=>KT.setN ht _ 0 h.br
 have k1:∀ t,49≠t→KT t (setN W b 0 [d0,d1,d2,d3,d4,d5,d6,d7,d8,d9]) (setN (setN W b 0 [d0,d1,d2,d3,d4,d5,d6,d7,d8,d9]) (b+1) 0 [q.s,um,ul,.bool q.z]):=fun t ht=>KT.setN ht _ 0 h2
 have lt:=h.lt;refine ⟨setN_below (by omega) _ 0 (setN_below (by omega) _ 0 h.bel),h.lt,h1.setN (by omega) _ 0,setN_blk [q.s,um,ul,.bool q.z] 0 h2,(hq.setN h.br (by decide) (by decide) (by decide) _).setN h2 (by decide) (by decide) (by decide) _,Sl.kt (k1 _ (by decide)) (Sl.kt (k0 _ (by decide)) ho),Sl.kt (k1 _ (by decide)) (Sl.kt (k0 _ (by decide)) hl)⟩
end Go.Proofs.YtpbhaieclkoggaaGreatDoor
set_option maxRecDepth 100000
set_option maxHeartbeats 12800000
namespace Go.Proofs.YtpbhaieclkoggaaGreatDoor
open Go Go.Proofs Go.RowKit
theorem rplays_main (H:PAll) (HV:VAll) (hA:Awake12Ok) (site kk:Int) (hk0 : -9223372036854775808≤kk) (hk1:kk≤9223372036854775807) (ad:Option Addr) (cap:Nat) (ls:List Cal) (w:World) (hl:ls.length≤40) (hc1:ls.length≤cap) (hc2:cap≤9223372036854775807)
  (hL:ls≠[]→∃ b off,ad=some ⟨b,off,none⟩∧b<w.heap.size∧LiesC w b off ls) (hp:Pows w) (ht:Tabs w) (hw:Wd w):
  Calls Tryz.prog 3 #[site,.slice ad ls.length cap,kk] w fun e w'=>e=.returned (.bool true)∧Below w.heap.size w w':=by
 have HL:=Lh hL;have HPT:=Lh (And.intro hp ht);have HH:=Lh H;have HVV:=Lh HV;have HAW:=Lh hA;have hl':¬ (40:Int)<(ls.length:Int):=by omega
 have HSTR:=Lh (fun W (h:Below w.heap.size w W)=>H.str kk W hk0 hk1 (hw.next h));have HWRI:=Lh (fun W=>H.wr kk W hk0 hk1);clear hL hp ht hw H HV hA hk0 hk1
 go_enter Tryz.func3,Tryz.ntmps3
 go_wp2_with (go_at_call 6; refine (HH.out.new site _).mono ?_; rintro e w1 ⟨hb,d0,d1,d2,d3,d4,d5,d6,d7,d8,d9,rfl,hir⟩; refine Hid.out ?_)
 obtain ⟨sd0,sd1,sd2,sd3,sd4,sd5,sd6,sd7,sd8,sd9⟩:=st10 hir.one;have hA2:=bl2 w1 [d0,d1,d2,d3,d4,d5,d6,d7,d8,d9] [site,.slice none 0 0,.slice none 0 0,.bool false] 41 49;have HG:=Lh (show (Below w.heap.size w ((w1.alloc (.cells #[d0,d1,d2,d3,d4,d5,d6,d7,d8,d9] 41)).alloc (.cells #[site,.slice none 0 0,.slice none 0 0,.bool false] 49))∧w.heap.size≤w1.heap.size)∧Blk ((w1.alloc (.cells #[d0,d1,d2,d3,d4,d5,d6,d7,d8,d9] 41)).alloc (.cells #[site,.slice none 0 0,.slice none 0 0,.bool false] 49)) w1.heap.size [d0,d1,d2,d3,d4,d5,d6,d7,d8,d9] 41∧Blk ((w1.alloc (.cells #[d0,d1,d2,d3,d4,d5,d6,d7,d8,d9] 41)).alloc (.cells #[site,.slice none 0 0,.slice none 0 0,.bool false] 49)) (w1.heap.size+1) [site,.slice none 0 0,.slice none 0 0,.bool false] 49∧IsRp ((w1.alloc (.cells #[d0,d1,d2,d3,d4,d5,d6,d7,d8,d9] 41)).alloc (.cells #[site,.slice none 0 0,.slice none 0 0,.bool false] 49)) (newR site) [d0,d1,d2,d3,d4,d5,d6,d7,d8,d9] from ⟨⟨hb.trans (hA2.mono hb.size),hb.size⟩,(Blk.start w1 _ _).alloc _,Blk.startAt (by simp),hir.next hA2⟩);clear hb hir hA2;refine Lh ?_
 go_upto_region 5 with fail
 generalize (w1.alloc (.cells #[d0,d1,d2,d3,d4,d5,d6,d7,d8,d9] 41)).alloc (.cells #[site,.slice none 0 0,.slice none 0 0,.bool false] 49)=W1 at *
 generalize w1.heap.size=bR at *
 clear sd0 sd1 sd2 sd3 sd4 sd5 sd6 sd7 sd8 sd9;have HNE:=Lh (show newE site=if site<1∨1000<site then 2 else 0 from rfl);obtain ⟨bb,hbb⟩:∃ b,b=decide (site<1∨1000<site):=⟨_,rfl⟩
 have HBB:=Lh hbb;clear hbb
 go_cut [36] from 20 to 41 (fun v wx=>v=.bool bb∧wx=W1)
 case first=>
  by_cases h1:site<1
  ·go_wp2_with fail; go_meet; exact ⟨congrArg Value.bool (HBB.out.trans (decide_eq_true (.inl h1))).symm,rfl⟩
  ·by_cases h2:1000<site
   ·go_wp2_with fail; go_meet; exact ⟨congrArg Value.bool (HBB.out.trans (decide_eq_true (.inr h2))).symm,rfl⟩
   ·go_wp2_with fail; go_meet; exact ⟨congrArg Value.bool (HBB.out.trans (decide_eq_false (by omega))).symm,rfl⟩
 case rest=>
 obtain ⟨rfl,hw⟩:=hcut;subst hw;generalize wc=W1 at *
 go_upto_if 36 with fail
 go_cut [8] from 20 to 41 (fun _ wx=>Q12 w bR (newR site) [d0,d1,d2,d3,d4,d5,d6,d7,d8,d9] (.slice none 0 0) (.slice none 0 0) wx)
 case first=>
  by_cases hb:site<1∨1000<site
  ·have hbt:bb=true:=HBB.out.trans (decide_eq_true hb)
   rw [hbt];clear hbt;have HE:=Lh (HNE.out.trans (if_pos hb));rw [HE.out];have HQ:=Lh (show Q12 w bR (newR site) [d0,d1,d2,d3,d4,d5,d6,d7,d8,d9] (.slice none 0 0) (.slice none 0 0) (setN W1 (bR+1) 0 [.int .i64 0]) from by
    have e:newR site=⟨0,[],[],false⟩:=if_pos hb;have hi:=HG.out.2.2.2;have lt:=HG.out.1.2;rw [e] at hi ⊢;exact ⟨setN_below (by omega) _ 0 HG.out.1.1,HG.out.1.2,HG.out.2.1.setN (by omega) _ 0,setN_blk [.int .i64 0] 0 HG.out.2.2.1,hi.setN HG.out.2.2.1 (by decide) (by decide) (by decide) _,.inl ⟨rfl,rfl⟩,.inl ⟨rfl,rfl⟩⟩)
   have f0:=HG.out.2.2.1.free 0;have g0:=HG.out.2.2.1.cell 0 rfl;simp only [setN] at HQ
   clear HG HNE HE HL HBB hb;go_wp2_with fail
   go_meet
   exact HQ.out
  have hbt:bb=false:=HBB.out.trans (decide_eq_false hb);rw [hbt];clear hbt;have HE:=Lh (HNE.out.trans (if_neg hb));rw [HE.out];have HQ:=Lh (show Q12 w bR (newR site) [d0,d1,d2,d3,d4,d5,d6,d7,d8,d9] (.slice none 0 0) (.slice none 0 0) W1 from by
   have e:newR site=⟨site,[],[],false⟩:=if_neg hb;have hi:=HG.out.2.2.2;rw [e] at hi ⊢;exact ⟨HG.out.1.1,HG.out.1.2,HG.out.2.1,HG.out.2.2.1,hi,.inl ⟨rfl,rfl⟩,.inl ⟨rfl,rfl⟩⟩)
  clear HG HNE HE HL HBB hb;go_wp2_with fail
  go_meet
  exact HQ.out
 case rest=>
 have HQ0:=Lh hcut;clear hcut HG HNE HBB;generalize wc=W2 at *
 go_wp2_with fail
 go_loopg [44] ls.length (fun g ti wr=>∃ k:Nat,k≤ls.length∧g=ls.length-k∧ti=.int .i64 (k:Int)∧∃ c0 c1 c2 c3 c4 c5 c6 c7 c8 c9 vm vl:Value,Q12 w bR (runR (newR site) (ls.take k)) [c0,c1,c2,c3,c4,c5,c6,c7,c8,c9] vm vl wr)
 case atStart=>exact ⟨0,Nat.zero_le _,rfl,rfl,_,_,_,_,_,_,_,_,_,_,_,_,HQ0.out⟩
 case round=>
  obtain ⟨k,hk,rfl,rfl,c0,c1,c2,c3,c4,c5,c6,c7,c8,c9,vm,vl,hQ⟩:=hrel;clear HQ0;by_cases hlt:k<ls.length
  ·obtain ⟨bA,off,rfl,hbw,hLies⟩:=HL.out (fun e=>by rw [e] at hlt; cases hlt)
   have kf:∀ i,i<11→wr.cell? ⟨bA,off+k * 11+i,none⟩=(calL ls[k])[i]? := fun i hi=>(hQ.bel.cell (p:=⟨bA,off+k * 11+i,none⟩) hbw).trans (hLies k hlt i hi)
   have k0:=kf 0 (by omega);have k1:=kf 1 (by omega);have k2:=kf 2 (by omega);have k3:=kf 3 (by omega);have k4:=kf 4 (by omega);have k5:=kf 5 (by omega);have k6:=kf 6 (by omega);have k7:=kf 7 (by omega);have k8:=kf 8 (by omega);have k9:=kf 9 (by omega);have k10:=kf 10 (by omega);simp only [calL, List.getElem?_cons_zero, List.getElem?_cons_succ, Nat.add_zero] at k0 k1 k2 k3 k4 k5 k6 k7 k8 k9 k10
   have HT:=Lh (runR_take (r:=newR site) hlt);have HOK:=Lh (show RplOk (runR (newR site) (ls.take k)) 40 from (runR_ok (newR_ok site) (ls.take k)).more (by rw [List.length_take]; omega));clear hLies kf;generalize ls[k]=c at *
   generalize runR (newR site) (ls.take k)=r at *
   obtain ⟨am,pm,rfl,e1,e2⟩:=Sl.form hQ.io;obtain ⟨al,pl,rfl,e3,e4⟩:=Sl.form hQ.il;clear e1 e2 e3 e4;generalize Value.slice am r.m.length pm=vm at *
   generalize Value.slice al r.l.length pl=vl at *
   have HG1:=Lh (And.intro (hQ.next (bl1 wr [c.k,c.p,.int .i32 c.ch,c.o.k,c.o.c,c.o.s,c.o.a,c.o.n,.int .i32 c.o.ch,c.a,c.b] 57)) (Blk.start wr [c.k,c.p,.int .i32 c.ch,c.o.k,c.o.c,c.o.s,c.o.a,c.o.n,.int .i32 c.o.ch,c.a,c.b] 57));obtain ⟨q,hq⟩:∃ q,q=doR r c:=⟨_,rfl⟩
   have HOQ:=Lh (show RplOk q.1 41 from by rw [hq]; exact doR_ok HOK.out c);have HCH:=Lh (fun W (h:IsRp W r [c0,c1,c2,c3,c4,c5,c6,c7,c8,c9]) (hb:Below w.heap.size w W)=>HH.out.ch r 40 c c0 c1 c2 c3 c4 c5 c6 c7 c8 c9 W HOK.out (by omega) h (HPT.out.1.next hb) (HPT.out.2.next hb));have HDO:=Lh (fun W (h:IsRp W r [c0,c1,c2,c3,c4,c5,c6,c7,c8,c9]) (hb:Below w.heap.size w W)=>HH.out.do_ r 40 c c0 c1 c2 c3 c4 c5 c6 c7 c8 c9 W HOK.out (by omega) h (HPT.out.1.next hb) (HPT.out.2.next hb));have HLO:=Lh (fun W (h:IsRp W r [c0,c1,c2,c3,c4,c5,c6,c7,c8,c9]) (hb:Below w.heap.size w W)=>HH.out.look r 40 c c0 c1 c2 c3 c4 c5 c6 c7 c8 c9 W HOK.out (by omega) h (HPT.out.1.next hb) (HPT.out.2.next hb));have HRD:=Lh (fun W (h1:IsO W vm r.m) (h2:IsO W vl r.l) (hb:Below w.heap.size w W)=>refDo_any r 40 HOK.out (by omega) c vm vl W h1 h2 (HPT.out.2.next hb));have HVE:=Lh (fun s0 s1 s2 s3 s4 s5 s6 s7 s8 s9 W (h:IsRp W q.1 [s0,s1,s2,s3,s4,s5,s6,s7,s8,s9])=>HH.out.ver q.1 41 s0 s1 s2 s3 s4 s5 s6 s7 s8 s9 W HOQ.out (by omega) h);have HSH:=Lh (fun s0 s1 s2 s3 s4 s5 s6 s7 s8 s9 W (h:IsRp W q.1 [s0,s1,s2,s3,s4,s5,s6,s7,s8,s9])=>HH.out.shut q.1 41 s0 s1 s2 s3 s4 s5 s6 s7 s8 s9 W HOQ.out (by omega) h);have HIS:=Lh (fun u0 u1 u2 u3 u4 u5 u6 u7 um ul W (h:IsV W q.1.m q.1.l [u0,u1,u2,u3,u4,u5,u6,u7]) (h1:IsO W um q.1.m) (h2:IsO W ul q.1.l) (hb:Below w.heap.size w W)=>is8_any HVV.out.txt HVV.out.len HVV.out.seq HVV.out.wait HVV.out.tal q.1.m q.1.l 41 HOQ.out.v (by omega) u0 u1 u2 u3 u4 u5 u6 u7 um ul W h h1 h2 (HPT.out.1.next hb) (HPT.out.2.next hb));rw [←hq] at HCH HDO HLO HRD HT;obtain ⟨q,x,t⟩:=q
   dsimp only at HOQ HCH HDO HLO HRD HVE HSH HIS HT
   clear hQ HOK hq;have v0 := HG1.out.1.br.c10;go_wp2_with (go_at_call 7; refine (HCH.out _ HG1.out.1.ir HG1.out.1.bel).mono ?_; rintro e w1 ⟨hb,d0,d1,d2,d3,d4,d5,d6,d7,d8,d9,lc,rfl,hiq,hic⟩; refine Hid.out ?_)
   obtain ⟨sd0,sd1,sd2,sd3,sd4,sd5,sd6,sd7,sd8,sd9⟩:=st10 hiq.one;obtain ⟨ac,pc,rfl,e1,e2⟩:=hic.form
   change IsVC w1 (.slice ac t.length pc) t at hic
   clear e1 e2;generalize Value.slice ac t.length pc=lc at *
   have hA:=bl2 w1 [d0,d1,d2,d3,d4,d5,d6,d7,d8,d9] [x.e,x.n,.string x.t] 41 59;have HM:=Lh (show M12 w bR r [c0,c1,c2,c3,c4,c5,c6,c7,c8,c9] vm vl c wr.heap.size w1.heap.size q [d0,d1,d2,d3,d4,d5,d6,d7,d8,d9] x lc t ((w1.alloc (.cells #[d0,d1,d2,d3,d4,d5,d6,d7,d8,d9] 41)).alloc (.cells #[x.e,x.n,.string x.t] 59)) from ⟨(HG1.out.1.next hb).next hA,(HG1.out.2.next hb).next hA,(Blk.start w1 _ _).alloc _,Blk.startAt (by simp),hiq.next hA,hic.next hA,(HG1.out.1.next hb).bm.lt⟩);clear HG1 hb hA hiq hic HCH v0 k0 k1 k2 k3 k4 k5 k6 k7 k8 k9 k10;refine Lh ?_
   go_upto_region 15 with fail
   generalize (w1.alloc (.cells #[d0,d1,d2,d3,d4,d5,d6,d7,d8,d9] 41)).alloc (.cells #[x.e,x.n,.string x.t] 59)=W1 at *
   generalize w1.heap.size=bN at *
   generalize wr.heap.size=bC at *
   go_cut [15,16,17,44] from 44 to 119 (fun t15 t16 t17 tk wx=>tk=.int .i64 (k:Int)∧∃ (bA bB:Nat) (um ul:Value),t15=.pointer (some ⟨bA,0,none⟩)∧t16=.pointer (some ⟨bB,0,none⟩)∧M12 w bR r [c0,c1,c2,c3,c4,c5,c6,c7,c8,c9] vm vl c bC bN q [d0,d1,d2,d3,d4,d5,d6,d7,d8,d9] x lc t wx∧N15 bA bB q um ul t17 x t wx∧bR+1<bA)
   case first=>
    refine' (fun (M211:Hid (_:Prop))=>_) _
    rotate_left
    refine' (fun (M210:Hid (_:Prop))=>_) _
    rotate_left
    refine' (fun (M201:Hid (_:Prop))=>_) _
    rotate_left
    refine' (fun (M111:Hid (_:Prop))=>_) _
    rotate_left
    refine' (fun (M200:Hid (_:Prop))=>_) _
    rotate_left
    refine' (fun (M110:Hid (_:Prop))=>_) _
    rotate_left
    refine' (fun (M101:Hid (_:Prop))=>_) _
    rotate_left
    refine' (fun (M011:Hid (_:Prop))=>_) _
    rotate_left
    refine' (fun (M100:Hid (_:Prop))=>_) _
    rotate_left
    refine' (fun (M010:Hid (_:Prop))=>_) _
    rotate_left
    refine' (fun (M001:Hid (_:Prop))=>_) _
    rotate_left
    ·skip
     refine rgH (fun W=>Below W1.heap.size W1 W∧Cz4 W (bR+1) r.s (vm) (vl) (.bool r.z)∧Cz11 W bC c.k c.p (.int .i32 c.ch) c.o.k c.o.c c.o.s c.o.a c.o.n (.int .i32 c.o.ch) c.a c.b) (let g:=bdq; let h:=HM.out.next g; ⟨g,h.h.bm.c4,h.bc.c11⟩) fun hH=>?_
     generalize W1.drew=X at hH ⊢;refine tq 0 (.agg #[r.s,vm,vl,.bool r.z]) hH ?_;refine tq 1 (.agg #[c.k,c.p,.int .i32 c.ch,c.o.k,c.o.c,c.o.s,c.o.a,c.o.n,.int .i32 c.o.ch,c.a,c.b]) hH ?_;refine wpAnyH_ready (rs:=[2,8,9]) (by kernel_rfl) (by simp) ?_;refine cons1 rfl (fun K hK=>?_) (cons1 rfl (fun K hK=>?_) (cons1 rfl (fun K hK=>?_) AllReadyH.nil))
     ·go_simp
      refine (of12_any _ _).mono ?_
      rintro e u9 ⟨rfl,hb⟩
      go_wp2_with fail
      refine hK.out _ _ (let g:=hH.1.trans (hb.mono hH.1.size); let h:=HM.out.next g; ⟨g,h.h.bm.c4,h.bc.c11⟩) ?_;clear hK K hH;intro hH
      try simp only [LAY]
      clear hb;refine lsd #[true,true,true,false,false,false,false,false,false,false,false,false,false] (by kernel_rfl) ?_
      revert hH
      revert u9
      exact M100.out
     ·go_simp
      go_wp2_with fail
      have BA:=Lh (Blk.start X [.int .i64 0,.slice none 0 0,.slice none 0 0,.bool false] 49);have hbA:W1.heap.size≤X.heap.size:=hH.1.size;have hA:=bl1 X [.int .i64 0,.slice none 0 0,.slice none 0 0,.bool false] 49;refine hK.out _ _ (let g:=hH.1.trans (hA.mono hH.1.size); let h:=HM.out.next g; ⟨g,h.h.bm.c4,h.bc.c11⟩) ?_;clear hK K hH;intro hH
      try simp only [LAY]
      clear hA;generalize X.alloc (.cells #[.int .i64 0,.slice none 0 0,.slice none 0 0,.bool false] 49)=XA at hH BA hbA ⊢;generalize X.heap.size=bA at hH BA hbA ⊢;refine lsd #[true,true,false,false,false,false,false,false,true,false,false,false,false] (by kernel_rfl) ?_
      revert hH
      revert BA
      revert hbA
      revert XA
      revert bA
      exact M010.out
     ·go_simp
      go_wp2_with fail
      have BB:=Lh (Blk.start X [.int .i64 0,.int .i64 0,.string ⟨#[]⟩] 64);have hbB:W1.heap.size≤X.heap.size:=hH.1.size;have hA:=bl1 X [.int .i64 0,.int .i64 0,.string ⟨#[]⟩] 64;refine hK.out _ _ (let g:=hH.1.trans (hA.mono hH.1.size); let h:=HM.out.next g; ⟨g,h.h.bm.c4,h.bc.c11⟩) ?_;clear hK K hH;intro hH
      try simp only [LAY]
      clear hA;generalize X.alloc (.cells #[.int .i64 0,.int .i64 0,.string ⟨#[]⟩] 64)=XA at hH BB hbB ⊢;generalize X.heap.size=bB at hH BB hbB ⊢;refine lsd #[true,true,false,false,false,false,false,false,false,true,false,false,false] (by kernel_rfl) ?_
      revert hH
      revert BB
      revert hbB
      revert XA
      revert bB
      exact M001.out
    ·refine Lh ?_
     intro bB u hbB BB hH
     refine wpAnyH_ready (rs:=[2,8]) (by kernel_rfl) (by simp) ?_;refine cons1 rfl (fun K hK=>?_) (cons1 rfl (fun K hK=>?_) AllReadyH.nil)
     ·go_simp
      refine (of12_any _ _).mono ?_
      rintro e u9 ⟨rfl,hb⟩
      go_wp2_with fail
      refine hK.out _ _ (let g:=hH.1.trans (hb.mono hH.1.size); let h:=HM.out.next g; ⟨g,h.h.bm.c4,h.bc.c11⟩) ?_;clear hK K hH;intro hH
      try simp only [LAY]
      replace BB:=Lh (BB.out.next hb)
      clear hb;refine lsd #[true,true,true,false,false,false,false,false,false,true,false,false,false] (by kernel_rfl) ?_
      revert hH
      revert BB
      revert hbB
      revert u9
      revert bB
      exact M101.out
     ·go_simp
      go_wp2_with fail
      have BA:=Lh (Blk.start u [.int .i64 0,.slice none 0 0,.slice none 0 0,.bool false] 49);have hbA:W1.heap.size≤u.heap.size:=hH.1.size;have hA:=bl1 u [.int .i64 0,.slice none 0 0,.slice none 0 0,.bool false] 49;refine hK.out _ _ (let g:=hH.1.trans (hA.mono hH.1.size); let h:=HM.out.next g; ⟨g,h.h.bm.c4,h.bc.c11⟩) ?_;clear hK K hH;intro hH
      try simp only [LAY]
      replace BB:=Lh (BB.out.next hA)
      clear hA;generalize u.alloc (.cells #[.int .i64 0,.slice none 0 0,.slice none 0 0,.bool false] 49)=XA at hH BA hbA BB hbB ⊢;generalize u.heap.size=bA at hH BA hbA BB hbB ⊢;refine lsd #[true,true,false,false,false,false,false,false,true,true,false,false,false] (by kernel_rfl) ?_
      revert hH
      revert BB
      revert BA
      revert hbB
      revert hbA
      revert XA
      revert bB
      revert bA
      exact M011.out
    ·refine Lh ?_
     intro bA u hbA BA hH
     refine wpAnyH_ready (rs:=[2,9]) (by kernel_rfl) (by simp) ?_;refine cons1 rfl (fun K hK=>?_) (cons1 rfl (fun K hK=>?_) AllReadyH.nil)
     ·go_simp
      refine (of12_any _ _).mono ?_
      rintro e u9 ⟨rfl,hb⟩
      go_wp2_with fail
      refine hK.out _ _ (let g:=hH.1.trans (hb.mono hH.1.size); let h:=HM.out.next g; ⟨g,h.h.bm.c4,h.bc.c11⟩) ?_;clear hK K hH;intro hH
      try simp only [LAY]
      replace BA:=Lh (BA.out.next hb)
      clear hb;refine lsd #[true,true,true,false,false,false,false,false,true,false,false,false,false] (by kernel_rfl) ?_
      revert hH
      revert BA
      revert hbA
      revert u9
      revert bA
      exact M110.out
     ·go_simp
      go_wp2_with fail
      have BB:=Lh (Blk.start u [.int .i64 0,.int .i64 0,.string ⟨#[]⟩] 64);have hbB:W1.heap.size≤u.heap.size:=hH.1.size;have hA:=bl1 u [.int .i64 0,.int .i64 0,.string ⟨#[]⟩] 64;refine hK.out _ _ (let g:=hH.1.trans (hA.mono hH.1.size); let h:=HM.out.next g; ⟨g,h.h.bm.c4,h.bc.c11⟩) ?_;clear hK K hH;intro hH
      try simp only [LAY]
      replace BA:=Lh (BA.out.next hA)
      clear hA;generalize u.alloc (.cells #[.int .i64 0,.int .i64 0,.string ⟨#[]⟩] 64)=XA at hH BA hbA BB hbB ⊢;generalize u.heap.size=bB at hH BA hbA BB hbB ⊢;refine lsd #[true,true,false,false,false,false,false,false,true,true,false,false,false] (by kernel_rfl) ?_;exact M011.out bA bB XA hbA hbB BA BB hH
    ·refine Lh ?_
     intro u hH
     refine wpAnyH_ready (rs:=[3,8,9]) (by kernel_rfl) (by simp) ?_;refine cons1 rfl (fun K hK=>?_) (cons1 rfl (fun K hK=>?_) (cons1 rfl (fun K hK=>?_) AllReadyH.nil))
     ·go_simp
      refine (HRD.out _ (HM.out.next hH.1).h.io (HM.out.next hH.1).h.il (HM.out.next hH.1).h.bel).mono ?_
      rintro e u9 ⟨um,ul,vc,rfl,hio,hil,hicc,hb⟩
      obtain ⟨au,pu,rfl,-,-⟩:=Sl.form hio;obtain ⟨av,pv,rfl,-,-⟩:=Sl.form hil;obtain ⟨aw,pw,rfl,-,-⟩:=Sl.form hicc
      change IsO u9 (.slice au q.m.length pu) q.m at hio
      change IsO u9 (.slice av q.l.length pv) q.l at hil
      change IsC u9 (.slice aw t.length pw) t at hicc
      have su:=sg au q.m.length pu;have sv:=sg av q.l.length pv;generalize Value.slice au q.m.length pu=um at su hio ⊢;generalize Value.slice av q.l.length pv=ul at sv hil ⊢;generalize Value.slice aw t.length pw=vc at hicc ⊢;have HIO:=Lh (And.intro hio (And.intro hil hicc));clear hio hil hicc;go_wp2_with fail
      refine hK.out _ _ (let g:=hH.1.trans (hb.mono hH.1.size); let h:=HM.out.next g; ⟨g,h.h.bm.c4,h.bc.c11⟩) ?_;clear hK K hH;intro hH
      try simp only [LAY]
      clear hb;refine tq 4 (.tuple #[.agg #[q.s,um,ul,.bool q.z],.agg #[x.e,x.n,.string x.t],vc]) hH ?_;refine tq 5 (.agg #[q.s,um,ul,.bool q.z]) hH ?_;refine tq 6 (.agg #[x.e,x.n,.string x.t]) hH ?_;refine tq 7 (vc) hH ?_;refine lsd #[true,true,true,true,true,true,true,true,false,false,false,false,false] (by kernel_rfl) ?_
      revert hH
      revert sv
      revert su
      revert HIO
      revert u9
      revert vc
      revert ul
      revert um
      exact M200.out
     ·go_simp
      go_wp2_with fail
      have BA:=Lh (Blk.start u [.int .i64 0,.slice none 0 0,.slice none 0 0,.bool false] 49);have hbA:W1.heap.size≤u.heap.size:=hH.1.size;have hA:=bl1 u [.int .i64 0,.slice none 0 0,.slice none 0 0,.bool false] 49;refine hK.out _ _ (let g:=hH.1.trans (hA.mono hH.1.size); let h:=HM.out.next g; ⟨g,h.h.bm.c4,h.bc.c11⟩) ?_;clear hK K hH;intro hH
      try simp only [LAY]
      clear hA;generalize u.alloc (.cells #[.int .i64 0,.slice none 0 0,.slice none 0 0,.bool false] 49)=XA at hH BA hbA ⊢;generalize u.heap.size=bA at hH BA hbA ⊢;refine lsd #[true,true,true,false,false,false,false,false,true,false,false,false,false] (by kernel_rfl) ?_;exact M110.out bA XA hbA BA hH
     ·go_simp
      go_wp2_with fail
      have BB:=Lh (Blk.start u [.int .i64 0,.int .i64 0,.string ⟨#[]⟩] 64);have hbB:W1.heap.size≤u.heap.size:=hH.1.size;have hA:=bl1 u [.int .i64 0,.int .i64 0,.string ⟨#[]⟩] 64;refine hK.out _ _ (let g:=hH.1.trans (hA.mono hH.1.size); let h:=HM.out.next g; ⟨g,h.h.bm.c4,h.bc.c11⟩) ?_;clear hK K hH;intro hH
      try simp only [LAY]
      clear hA;generalize u.alloc (.cells #[.int .i64 0,.int .i64 0,.string ⟨#[]⟩] 64)=XA at hH BB hbB ⊢;generalize u.heap.size=bB at hH BB hbB ⊢;refine lsd #[true,true,true,false,false,false,false,false,false,true,false,false,false] (by kernel_rfl) ?_;exact M101.out bB XA hbB BB hH
    ·refine Lh ?_
     intro bA bB u hbA hbB BA BB hH
     refine rd1 2 (by kernel_rfl) rfl fun K hK=>?_
     go_simp
     refine (of12_any _ _).mono ?_
     rintro e u9 ⟨rfl,hb⟩
     go_wp2_with fail
     refine hK.out _ _ (let g:=hH.1.trans (hb.mono hH.1.size); let h:=HM.out.next g; ⟨g,h.h.bm.c4,h.bc.c11⟩) ?_;clear hK K hH;intro hH
     try simp only [LAY]
     replace BA:=Lh (BA.out.next hb)
     replace BB:=Lh (BB.out.next hb)
     clear hb;refine lsd #[true,true,true,false,false,false,false,false,true,true,false,false,false] (by kernel_rfl) ?_
     revert hH
     revert BB
     revert BA
     revert hbB
     revert hbA
     revert u9
     revert bB
     revert bA
     exact M111.out
    ·refine Lh ?_
     intro bB u hbB BB hH
     refine wpAnyH_ready (rs:=[3,8]) (by kernel_rfl) (by simp) ?_;refine cons1 rfl (fun K hK=>?_) (cons1 rfl (fun K hK=>?_) AllReadyH.nil)
     ·go_simp
      refine (HRD.out _ (HM.out.next hH.1).h.io (HM.out.next hH.1).h.il (HM.out.next hH.1).h.bel).mono ?_
      rintro e u9 ⟨um,ul,vc,rfl,hio,hil,hicc,hb⟩
      obtain ⟨au,pu,rfl,-,-⟩:=Sl.form hio;obtain ⟨av,pv,rfl,-,-⟩:=Sl.form hil;obtain ⟨aw,pw,rfl,-,-⟩:=Sl.form hicc
      change IsO u9 (.slice au q.m.length pu) q.m at hio
      change IsO u9 (.slice av q.l.length pv) q.l at hil
      change IsC u9 (.slice aw t.length pw) t at hicc
      have su:=sg au q.m.length pu;have sv:=sg av q.l.length pv;generalize Value.slice au q.m.length pu=um at su hio ⊢;generalize Value.slice av q.l.length pv=ul at sv hil ⊢;generalize Value.slice aw t.length pw=vc at hicc ⊢;have HIO:=Lh (And.intro hio (And.intro hil hicc));clear hio hil hicc;go_wp2_with fail
      refine hK.out _ _ (let g:=hH.1.trans (hb.mono hH.1.size); let h:=HM.out.next g; ⟨g,h.h.bm.c4,h.bc.c11⟩) ?_;clear hK K hH;intro hH
      try simp only [LAY]
      replace BB:=Lh (BB.out.next hb)
      clear hb;refine tq 4 (.tuple #[.agg #[q.s,um,ul,.bool q.z],.agg #[x.e,x.n,.string x.t],vc]) hH ?_;refine tq 5 (.agg #[q.s,um,ul,.bool q.z]) hH ?_;refine tq 6 (.agg #[x.e,x.n,.string x.t]) hH ?_;refine tq 7 (vc) hH ?_;refine lsd #[true,true,true,true,true,true,true,true,false,true,false,false,false] (by kernel_rfl) ?_
      revert hH
      revert sv
      revert su
      revert HIO
      revert BB
      revert hbB
      revert u9
      revert vc
      revert ul
      revert um
      revert bB
      exact M201.out
     ·go_simp
      go_wp2_with fail
      have BA:=Lh (Blk.start u [.int .i64 0,.slice none 0 0,.slice none 0 0,.bool false] 49);have hbA:W1.heap.size≤u.heap.size:=hH.1.size;have hA:=bl1 u [.int .i64 0,.slice none 0 0,.slice none 0 0,.bool false] 49;refine hK.out _ _ (let g:=hH.1.trans (hA.mono hH.1.size); let h:=HM.out.next g; ⟨g,h.h.bm.c4,h.bc.c11⟩) ?_;clear hK K hH;intro hH
      try simp only [LAY]
      replace BB:=Lh (BB.out.next hA)
      clear hA;generalize u.alloc (.cells #[.int .i64 0,.slice none 0 0,.slice none 0 0,.bool false] 49)=XA at hH BA hbA BB hbB ⊢;generalize u.heap.size=bA at hH BA hbA BB hbB ⊢;refine lsd #[true,true,true,false,false,false,false,false,true,true,false,false,false] (by kernel_rfl) ?_;exact M111.out bA bB XA hbA hbB BA BB hH
    ·refine Lh ?_
     intro bA u hbA BA hH
     refine wpAnyH_ready (rs:=[3,9]) (by kernel_rfl) (by simp) ?_;refine cons1 rfl (fun K hK=>?_) (cons1 rfl (fun K hK=>?_) AllReadyH.nil)
     ·go_simp
      refine (HRD.out _ (HM.out.next hH.1).h.io (HM.out.next hH.1).h.il (HM.out.next hH.1).h.bel).mono ?_
      rintro e u9 ⟨um,ul,vc,rfl,hio,hil,hicc,hb⟩
      obtain ⟨au,pu,rfl,-,-⟩:=Sl.form hio;obtain ⟨av,pv,rfl,-,-⟩:=Sl.form hil;obtain ⟨aw,pw,rfl,-,-⟩:=Sl.form hicc
      change IsO u9 (.slice au q.m.length pu) q.m at hio
      change IsO u9 (.slice av q.l.length pv) q.l at hil
      change IsC u9 (.slice aw t.length pw) t at hicc
      have su:=sg au q.m.length pu;have sv:=sg av q.l.length pv;generalize Value.slice au q.m.length pu=um at su hio ⊢;generalize Value.slice av q.l.length pv=ul at sv hil ⊢;generalize Value.slice aw t.length pw=vc at hicc ⊢;have HIO:=Lh (And.intro hio (And.intro hil hicc));clear hio hil hicc;go_wp2_with fail
      refine hK.out _ _ (let g:=hH.1.trans (hb.mono hH.1.size); let h:=HM.out.next g; ⟨g,h.h.bm.c4,h.bc.c11⟩) ?_;clear hK K hH;intro hH
      try simp only [LAY]
      replace BA:=Lh (BA.out.next hb)
      clear hb;refine tq 4 (.tuple #[.agg #[q.s,um,ul,.bool q.z],.agg #[x.e,x.n,.string x.t],vc]) hH ?_;refine tq 5 (.agg #[q.s,um,ul,.bool q.z]) hH ?_;refine tq 6 (.agg #[x.e,x.n,.string x.t]) hH ?_;refine tq 7 (vc) hH ?_;refine lsd #[true,true,true,true,true,true,true,true,true,false,false,false,false] (by kernel_rfl) ?_
      revert hH
      revert sv
      revert su
      revert HIO
      revert BA
      revert hbA
      revert u9
      revert vc
      revert ul
      revert um
      revert bA
      exact M210.out
     ·go_simp
      go_wp2_with fail
      have BB:=Lh (Blk.start u [.int .i64 0,.int .i64 0,.string ⟨#[]⟩] 64);have hbB:W1.heap.size≤u.heap.size:=hH.1.size;have hA:=bl1 u [.int .i64 0,.int .i64 0,.string ⟨#[]⟩] 64;refine hK.out _ _ (let g:=hH.1.trans (hA.mono hH.1.size); let h:=HM.out.next g; ⟨g,h.h.bm.c4,h.bc.c11⟩) ?_;clear hK K hH;intro hH
      try simp only [LAY]
      replace BA:=Lh (BA.out.next hA)
      clear hA;generalize u.alloc (.cells #[.int .i64 0,.int .i64 0,.string ⟨#[]⟩] 64)=XA at hH BA hbA BB hbB ⊢;generalize u.heap.size=bB at hH BA hbA BB hbB ⊢;refine lsd #[true,true,true,false,false,false,false,false,true,true,false,false,false] (by kernel_rfl) ?_;exact M111.out bA bB XA hbA hbB BA BB hH
    ·refine Lh ?_
     intro um ul vc u HIO su sv hH
     refine wpAnyH_ready (rs:=[8,9]) (by kernel_rfl) (by simp) ?_;refine cons1 rfl (fun K hK=>?_) (cons1 rfl (fun K hK=>?_) AllReadyH.nil)
     ·go_simp
      go_wp2_with fail
      have BA:=Lh (Blk.start u [.int .i64 0,.slice none 0 0,.slice none 0 0,.bool false] 49);have hbA:W1.heap.size≤u.heap.size:=hH.1.size;have hA:=bl1 u [.int .i64 0,.slice none 0 0,.slice none 0 0,.bool false] 49;refine hK.out _ _ (let g:=hH.1.trans (hA.mono hH.1.size); let h:=HM.out.next g; ⟨g,h.h.bm.c4,h.bc.c11⟩) ?_;clear hK K hH;intro hH
      try simp only [LAY]
      replace HIO:=Lh (And.intro (IsO.next HIO.out.1 hA) (And.intro (IsO.next HIO.out.2.1 hA) (IsC.next HIO.out.2.2 hA)))
      clear hA;generalize u.alloc (.cells #[.int .i64 0,.slice none 0 0,.slice none 0 0,.bool false] 49)=XA at hH BA hbA HIO ⊢;generalize u.heap.size=bA at hH BA hbA HIO ⊢;refine lsd #[true,true,true,true,true,true,true,true,true,false,false,false,false] (by kernel_rfl) ?_;exact M210.out bA um ul vc XA hbA BA HIO su sv hH
     ·go_simp
      go_wp2_with fail
      have BB:=Lh (Blk.start u [.int .i64 0,.int .i64 0,.string ⟨#[]⟩] 64);have hbB:W1.heap.size≤u.heap.size:=hH.1.size;have hA:=bl1 u [.int .i64 0,.int .i64 0,.string ⟨#[]⟩] 64;refine hK.out _ _ (let g:=hH.1.trans (hA.mono hH.1.size); let h:=HM.out.next g; ⟨g,h.h.bm.c4,h.bc.c11⟩) ?_;clear hK K hH;intro hH
      try simp only [LAY]
      replace HIO:=Lh (And.intro (IsO.next HIO.out.1 hA) (And.intro (IsO.next HIO.out.2.1 hA) (IsC.next HIO.out.2.2 hA)))
      clear hA;generalize u.alloc (.cells #[.int .i64 0,.int .i64 0,.string ⟨#[]⟩] 64)=XA at hH BB hbB HIO ⊢;generalize u.heap.size=bB at hH BB hbB HIO ⊢;refine lsd #[true,true,true,true,true,true,true,true,false,true,false,false,false] (by kernel_rfl) ?_;exact M201.out bB um ul vc XA hbB BB HIO su sv hH
    ·refine Lh ?_
     intro bA bB u hbA hbB BA BB hH
     refine rd1 3 (by kernel_rfl) rfl fun K hK=>?_
     go_simp
     refine (HRD.out _ (HM.out.next hH.1).h.io (HM.out.next hH.1).h.il (HM.out.next hH.1).h.bel).mono ?_
     rintro e u9 ⟨um,ul,vc,rfl,hio,hil,hicc,hb⟩
     obtain ⟨au,pu,rfl,-,-⟩:=Sl.form hio;obtain ⟨av,pv,rfl,-,-⟩:=Sl.form hil;obtain ⟨aw,pw,rfl,-,-⟩:=Sl.form hicc
     change IsO u9 (.slice au q.m.length pu) q.m at hio
     change IsO u9 (.slice av q.l.length pv) q.l at hil
     change IsC u9 (.slice aw t.length pw) t at hicc
     have su:=sg au q.m.length pu;have sv:=sg av q.l.length pv;generalize Value.slice au q.m.length pu=um at su hio ⊢;generalize Value.slice av q.l.length pv=ul at sv hil ⊢;generalize Value.slice aw t.length pw=vc at hicc ⊢;have HIO:=Lh (And.intro hio (And.intro hil hicc));clear hio hil hicc;go_wp2_with fail
     refine hK.out _ _ (let g:=hH.1.trans (hb.mono hH.1.size); let h:=HM.out.next g; ⟨g,h.h.bm.c4,h.bc.c11⟩) ?_;clear hK K hH;intro hH
     try simp only [LAY]
     replace BA:=Lh (BA.out.next hb)
     replace BB:=Lh (BB.out.next hb)
     clear hb;refine tq 4 (.tuple #[.agg #[q.s,um,ul,.bool q.z],.agg #[x.e,x.n,.string x.t],vc]) hH ?_;refine tq 5 (.agg #[q.s,um,ul,.bool q.z]) hH ?_;refine tq 6 (.agg #[x.e,x.n,.string x.t]) hH ?_;refine tq 7 (vc) hH ?_;refine lsd #[true,true,true,true,true,true,true,true,true,true,false,false,false] (by kernel_rfl) ?_
     revert hH
     revert sv
     revert su
     revert HIO
     revert BB
     revert BA
     revert hbB
     revert hbA
     revert u9
     revert vc
     revert ul
     revert um
     revert bB
     revert bA
     exact M211.out
    ·refine Lh ?_
     intro bB um ul vc u hbB BB HIO su sv hH
     refine rd1 8 (by kernel_rfl) rfl fun K hK=>?_
     go_simp
     go_wp2_with fail
     have BA:=Lh (Blk.start u [.int .i64 0,.slice none 0 0,.slice none 0 0,.bool false] 49);have hbA:W1.heap.size≤u.heap.size:=hH.1.size;have hA:=bl1 u [.int .i64 0,.slice none 0 0,.slice none 0 0,.bool false] 49;refine hK.out _ _ (let g:=hH.1.trans (hA.mono hH.1.size); let h:=HM.out.next g; ⟨g,h.h.bm.c4,h.bc.c11⟩) ?_;clear hK K hH;intro hH
     try simp only [LAY]
     replace BB:=Lh (BB.out.next hA)
     replace HIO:=Lh (And.intro (IsO.next HIO.out.1 hA) (And.intro (IsO.next HIO.out.2.1 hA) (IsC.next HIO.out.2.2 hA)))
     clear hA;generalize u.alloc (.cells #[.int .i64 0,.slice none 0 0,.slice none 0 0,.bool false] 49)=XA at hH BA hbA BB hbB HIO ⊢;generalize u.heap.size=bA at hH BA hbA BB hbB HIO ⊢;refine lsd #[true,true,true,true,true,true,true,true,true,true,false,false,false] (by kernel_rfl) ?_;exact M211.out bA bB um ul vc XA hbA hbB BA BB HIO su sv hH
    ·refine Lh ?_
     intro bA um ul vc u hbA BA HIO su sv hH
     refine rd1 9 (by kernel_rfl) rfl fun K hK=>?_
     go_simp
     go_wp2_with fail
     have BB:=Lh (Blk.start u [.int .i64 0,.int .i64 0,.string ⟨#[]⟩] 64);have hbB:W1.heap.size≤u.heap.size:=hH.1.size;have hA:=bl1 u [.int .i64 0,.int .i64 0,.string ⟨#[]⟩] 64;refine hK.out _ _ (let g:=hH.1.trans (hA.mono hH.1.size); let h:=HM.out.next g; ⟨g,h.h.bm.c4,h.bc.c11⟩) ?_;clear hK K hH;intro hH
     try simp only [LAY]
     replace BA:=Lh (BA.out.next hA)
     replace HIO:=Lh (And.intro (IsO.next HIO.out.1 hA) (And.intro (IsO.next HIO.out.2.1 hA) (IsC.next HIO.out.2.2 hA)))
     clear hA;generalize u.alloc (.cells #[.int .i64 0,.int .i64 0,.string ⟨#[]⟩] 64)=XA at hH BA hbA BB hbB HIO ⊢;generalize u.heap.size=bB at hH BA hbA BB hbB HIO ⊢;refine lsd #[true,true,true,true,true,true,true,true,true,true,false,false,false] (by kernel_rfl) ?_;exact M211.out bA bB um ul vc XA hbA hbB BA BB HIO su sv hH
    ·refine Lh ?_
     intro bA bB um ul vc u hbA hbB BA BB HIO su sv hH
     have hAB:=BA.out.ne BB.out (by decide);have n0 := BA.out.c4;have fn0 := BA.out.f4;have HN1:=Lh (And.intro (setN_blk [q.s,um,ul,.bool q.z] 0 BA.out) (And.intro (setN_below hbA [q.s,um,ul,.bool q.z] 0 hH.1) (And.intro (BB.out.setN (b:=bA) hAB.symm [q.s,um,ul,.bool q.z] 0) (And.intro (Sl.kt (KT.setN (by decide) [q.s,um,ul,.bool q.z] 0 BA.out) HIO.out.1:IsO (setN u bA 0 [q.s,um,ul,.bool q.z]) um q.m) (And.intro (Sl.kt (KT.setN (by decide) [q.s,um,ul,.bool q.z] 0 BA.out) HIO.out.2.1:IsO (setN u bA 0 [q.s,um,ul,.bool q.z]) ul q.l) (Sl.kt (KT.setN (by decide) [q.s,um,ul,.bool q.z] 0 BA.out) HIO.out.2.2:IsC (setN u bA 0 [q.s,um,ul,.bool q.z]) vc t))))));obtain ⟨wz,hwz⟩:∃ wz,wz=setN u bA 0 [q.s,um,ul,.bool q.z]:=⟨_,rfl⟩
     rw [←hwz] at HN1;simp only [setN, Nat.zero_add, Nat.reduceAdd] at hwz
     have HWZ:=Lh hwz;clear hwz;refine rd1 10 (by kernel_rfl) rfl fun K hK=>?_
     go_simp
     go_wp2_with fail
     rw [←HWZ.out];refine hK.out _ _ (let g:=HN1.out.2.1; let h:=HM.out.next g; ⟨g,h.h.bm.c4,h.bc.c11⟩) ?_;clear hK K hH;intro hH
     try simp only [LAY]
     clear HWZ BA BB HIO n0 fn0;have n0 := HN1.out.2.2.1.c3;have fn0 := HN1.out.2.2.1.f3;have HN2:=Lh (show Below W1.heap.size W1 (setN wz bB 0 [x.e,x.n,.string x.t])∧N15 bA bB q um ul vc x t (setN wz bB 0 [x.e,x.n,.string x.t]) from ⟨setN_below hbB _ 0 HN1.out.2.1,HN1.out.1.setN hAB _ 0,setN_blk [x.e,x.n,.string x.t] 0 HN1.out.2.2.1,Sl.kt (KT.setN (by decide) _ 0 HN1.out.2.2.1) HN1.out.2.2.2.1,Sl.kt (KT.setN (by decide) _ 0 HN1.out.2.2.1) HN1.out.2.2.2.2.1,Sl.kt (KT.setN (by decide) _ 0 HN1.out.2.2.1) HN1.out.2.2.2.2.2⟩);obtain ⟨wy,hwy⟩:∃ wy,wy=setN wz bB 0 [x.e,x.n,.string x.t]:=⟨_,rfl⟩
     rw [←hwy] at HN2;simp only [setN, Nat.zero_add, Nat.reduceAdd] at hwy
     have HWZ:=Lh hwy;clear hwy;refine rd1 11 (by kernel_rfl) rfl fun K hK=>?_
     go_simp
     go_wp2_with fail
     rw [←HWZ.out];refine hK.out _ _ (let g:=HN2.out.1; let h:=HM.out.next g; ⟨g,h.h.bm.c4,h.bc.c11⟩) ?_;clear hK K hH;intro hH
     try simp only [LAY]
     refine tq 12 (vc) hH ?_;refine dnH ?_;clear hH HWZ HN1 n0 fn0;go_wp2_with fail
     go_meet
     exact ⟨rfl,bA,bB,um,ul,rfl,rfl,HM.out.next HN2.out.1,HN2.out.2,Nat.lt_of_lt_of_le HM.out.h.bm.lt hbA⟩
   case rest=>
   obtain ⟨rfl,bA,bB,um,ul,rfl,rfl,hM,hN,hlA⟩:=hcut;generalize u17=vc at *
   have HN:=Lh (And.intro hM hN);clear HM hM hN HRD;generalize wc=W2 at *
   have v0 := HN.out.1.h.br.c10;have y0 := HN.out.1.bc.c11;go_wp2_with (go_at_call 10; refine (HDO.out _ HN.out.1.h.ir HN.out.1.h.bel).mono ?_; rintro e w2 ⟨hb,s0,s1,s2,s3,s4,s5,s6,s7,s8,s9,rfl,hiq⟩; refine Hid.out ?_)
   obtain ⟨ss0,ss1,ss2,ss3,ss4,ss5,ss6,ss7,ss8,ss9⟩:=st10 hiq.one;have hA:=bl2 w2 [s0,s1,s2,s3,s4,s5,s6,s7,s8,s9] [x.e,x.n,.string x.t] 41 59;have HO:=Lh (And.intro ((HN.out.1.next hb).next hA) (And.intro ((HN.out.2.next hb).next hA) (show O16 w2.heap.size q [s0,s1,s2,s3,s4,s5,s6,s7,s8,s9] x ((w2.alloc (.cells #[s0,s1,s2,s3,s4,s5,s6,s7,s8,s9] 41)).alloc (.cells #[x.e,x.n,.string x.t] 59)) from ⟨(Blk.start w2 _ _).alloc _,Blk.startAt (by simp),hiq.next hA⟩)));clear HN hb hA hiq HDO v0 y0;refine Lh ?_
   go_upto_region 17 with fail
   generalize (w2.alloc (.cells #[s0,s1,s2,s3,s4,s5,s6,s7,s8,s9] 41)).alloc (.cells #[x.e,x.n,.string x.t] 59)=W3 at *
   generalize w2.heap.size=bO at *
   clear ss0 ss1 ss2 ss3 ss4 ss5 ss6 ss7 ss8 ss9;refine rgH (fun W=>(M12 w bR r [c0,c1,c2,c3,c4,c5,c6,c7,c8,c9] vm vl c bC bN q [d0,d1,d2,d3,d4,d5,d6,d7,d8,d9] x lc t W∧N15 bA bB q um ul vc x t W∧O16 bO q [s0,s1,s2,s3,s4,s5,s6,s7,s8,s9] x W)∧Cz3 W (bN+1) x.e x.n (.string x.t)∧Cz3 W bB x.e x.n (.string x.t)∧Cz3 W (bO+1) x.e x.n (.string x.t)∧Cz10 W bR c0 c1 c2 c3 c4 c5 c6 c7 c8 c9∧Cz11 W bC c.k c.p (.int .i32 c.ch) c.o.k c.o.c c.o.s c.o.a c.o.n (.int .i32 c.o.ch) c.a c.b∧Cz10 W bO s0 s1 s2 s3 s4 s5 s6 s7 s8 s9∧Cz4 W bA q.s (um) (ul) (.bool q.z)) (let h:=(And.intro (HO.out.1.next bdq) (And.intro (HO.out.2.1.next bdq) (HO.out.2.2.next bdq))); ⟨h,h.1.bx.c3,h.2.1.bb.c3,h.2.2.bz.c3,h.1.h.br.c10,h.1.bc.c11,h.2.2.bo.c10,h.2.1.ba.c4⟩) fun hH=>?_
   clear HO;refine tq 0 (.agg #[x.e,x.n,.string x.t]) hH ?_;refine tq 2 (.agg #[x.e,x.n,.string x.t]) hH ?_;refine rd1 1 (by kernel_rfl) rfl fun K hK=>?_
   go_simp
   refine (said12_any x _).mono ?_
   rintro e u ⟨rfl,hb⟩
   go_wp2_with fail
   refine hK.out _ _ (let h:=(And.intro (hH.1.1.next hb) (And.intro (hH.1.2.1.next hb) (hH.1.2.2.next hb))); ⟨h,h.1.bx.c3,h.2.1.bb.c3,h.2.2.bz.c3,h.1.h.br.c10,h.1.bc.c11,h.2.2.bo.c10,h.2.1.ba.c4⟩) ?_;clear hK K hH;intro hH
   try simp only [LAY]
   refine tq 3 (.bool false) hH ?_;refine tq 4 (.bool false) hH ?_;refine tq 5 (.agg #[x.e,x.n,.string x.t]) hH ?_;refine tq 6 (.agg #[x.e,x.n,.string x.t]) hH ?_;refine tq 7 (.bool false) hH ?_;refine tq 8 (.bool false) hH ?_;refine tq 9 (.bool false) hH ?_;refine tq 10 (.agg #[c0,c1,c2,c3,c4,c5,c6,c7,c8,c9]) hH ?_;refine tq 11 (.agg #[c.k,c.p,.int .i32 c.ch,c.o.k,c.o.c,c.o.s,c.o.a,c.o.n,.int .i32 c.o.ch,c.a,c.b]) hH ?_;refine tq 13 (.agg #[x.e,x.n,.string x.t]) hH ?_;refine rd1 12 (by kernel_rfl) rfl fun K hK=>?_
   go_simp
   refine (HLO.out _ hH.1.1.h.ir hH.1.1.h.bel).mono ?_
   rintro e u ⟨rfl,hb2⟩
   go_wp2_with fail
   refine hK.out _ _ (let h:=(And.intro (hH.1.1.next hb2) (And.intro (hH.1.2.1.next hb2) (hH.1.2.2.next hb2))); ⟨h,h.1.bx.c3,h.2.1.bb.c3,h.2.2.bz.c3,h.1.h.br.c10,h.1.bc.c11,h.2.2.bo.c10,h.2.1.ba.c4⟩) ?_;clear hK K hH;intro hH
   try simp only [LAY]
   refine tq 14 (.bool false) hH ?_;refine tq 15 (.bool false) hH ?_;refine tq 16 (.bool false) hH ?_;refine tq 17 (lc) hH ?_;refine tq 18 (vc) hH ?_;refine rd1 19 (by kernel_rfl) rfl fun K hK=>?_
   go_simp
   refine (changes_any t lc vc _ hH.1.1.ic hH.1.2.1.ic).mono ?_
   rintro e u ⟨rfl,hb3⟩
   go_wp2_with fail
   refine hK.out _ _ (let h:=(And.intro (hH.1.1.next hb3) (And.intro (hH.1.2.1.next hb3) (hH.1.2.2.next hb3))); ⟨h,h.1.bx.c3,h.2.1.bb.c3,h.2.2.bz.c3,h.1.h.br.c10,h.1.bc.c11,h.2.2.bo.c10,h.2.1.ba.c4⟩) ?_;clear hK K hH;intro hH
   try simp only [LAY]
   refine tq 20 (.bool false) hH ?_;refine tq 21 (.bool false) hH ?_;refine tq 22 (.bool false) hH ?_;refine tq 23 (.agg #[s0,s1,s2,s3,s4,s5,s6,s7,s8,s9]) hH ?_;refine tq 25 (.pointer (some ⟨bA,1,none⟩)) hH ?_;refine tq 26 (.agg #[um,ul]) hH ?_;refine rd1 24 (by kernel_rfl) rfl fun K hK=>?_
   go_simp
   refine (HVE.out s0 s1 s2 s3 s4 s5 s6 s7 s8 s9 _ hH.1.2.2.iq).mono ?_
   rintro e u4 ⟨hb4,u0,u1,u2,u3,u4,u5,u6,u7,rfl,hiv⟩
   go_wp2_with fail
   have HIV:=Lh hiv;clear hiv;refine hK.out _ _ (let h:=(And.intro (hH.1.1.next hb4) (And.intro (hH.1.2.1.next hb4) (hH.1.2.2.next hb4))); ⟨h,h.1.bx.c3,h.2.1.bb.c3,h.2.2.bz.c3,h.1.h.br.c10,h.1.bc.c11,h.2.2.bo.c10,h.2.1.ba.c4⟩) ?_;clear hK K hH;intro hH
   try simp only [LAY]
   refine rd1 27 (by kernel_rfl) rfl fun K hK=>?_
   go_simp
   refine (HIS.out u0 u1 u2 u3 u4 u5 u6 u7 um ul _ HIV.out hH.1.2.1.io hH.1.2.1.il hH.1.1.h.bel).mono ?_
   rintro e u5 ⟨rfl,hb5⟩
   go_wp2_with fail
   clear HIV;refine hK.out _ _ (let h:=(And.intro (hH.1.1.next hb5) (And.intro (hH.1.2.1.next hb5) (hH.1.2.2.next hb5))); ⟨h,h.1.bx.c3,h.2.1.bb.c3,h.2.2.bz.c3,h.1.h.br.c10,h.1.bc.c11,h.2.2.bo.c10,h.2.1.ba.c4⟩) ?_;clear hK K hH;intro hH
   try simp only [LAY]
   refine tq 28 (.bool false) hH ?_;refine tq 29 (.bool false) hH ?_;refine dnH ?_;have HO:=Lh (hH.1);clear hH hb hb2 hb3 hb4 hb5;go_wp2_with fail
   obtain ⟨sd0,sd1,sd2,sd3,sd4,sd5,sd6,sd7,sd8,sd9⟩:=st10 HO.out.1.iq.one;obtain ⟨au,pu,hu,-,-⟩:=Sl.form HO.out.2.1.io;obtain ⟨av,pv,hv,-,-⟩:=Sl.form HO.out.2.1.il;have su:StG um:=by rw [hu]; exact sg _ _ _
   have sv:StG ul:=by rw [hv]; exact sg _ _ _
   clear hu hv
   skip
   have hlN:=HO.out.1.ltn;refine rgH (fun W=>(Blk W bN [d0,d1,d2,d3,d4,d5,d6,d7,d8,d9] 41∧Blk W bA [q.s,um,ul,.bool q.z] 49)∧Cz10 W bN d0 d1 d2 d3 d4 d5 d6 d7 d8 d9∧Cz4 W bA q.s (um) (ul) (.bool q.z)) (let h:=And.intro (HO.out.1.bn.next bdq) (HO.out.2.1.ba.next bdq); ⟨h,h.1.c10,h.2.c4⟩) fun hH=>?_
   have HOd:=Lh (And.intro (HO.out.1.next bdq) (And.intro (HO.out.2.1.next bdq) (HO.out.2.2.next bdq)));clear HO;have HO:=HOd;clear HOd;generalize hX:World.drew _=X at *
   clear hX;refine tq 0 (.agg #[d0,d1,d2,d3,d4,d5,d6,d7,d8,d9]) hH ?_;refine tq 1 (.agg #[q.s,um,ul,.bool q.z]) hH ?_;have n0 := HO.out.1.h.br.c10;have fn0 := HO.out.1.h.br.f10;have HB1:=Lh (And.intro (HO.out.1.bn.setN (b:=bR) (by omega) [d0,d1,d2,d3,d4,d5,d6,d7,d8,d9] 0) (And.intro (HO.out.2.1.ba.setN (b:=bR) (by omega) [d0,d1,d2,d3,d4,d5,d6,d7,d8,d9] 0) (HO.out.1.h.bm.setN (b:=bR) (by omega) [d0,d1,d2,d3,d4,d5,d6,d7,d8,d9] 0)));have HQ2:=Lh (HO.out.1.h.put HO.out.1.iq HO.out.2.1.io HO.out.2.1.il);obtain ⟨wz,hwz⟩:∃ wz,wz=setN X bR 0 [d0,d1,d2,d3,d4,d5,d6,d7,d8,d9]:=⟨_,rfl⟩
   rw [←hwz] at HB1 HQ2;simp only [setN, Nat.zero_add, Nat.reduceAdd] at hwz
   have HWZ:=Lh hwz;clear hwz;refine rd1 2 (by kernel_rfl) rfl fun K hK=>?_
   go_simp
   go_wp2_with fail
   rw [←HWZ.out];refine hK.out _ _ (let h:=And.intro HB1.out.1 HB1.out.2.1; ⟨h,h.1.c10,h.2.c4⟩) ?_;clear hK K hH;intro hH
   try simp only [LAY]
   clear HWZ n0 fn0;have n0 := HB1.out.2.2.c4;have fn0 := HB1.out.2.2.f4;have HB2:=Lh (And.intro (HB1.out.1.setN (b:=bR+1) (by omega) [q.s,um,ul,.bool q.z] 0) (HB1.out.2.1.setN (b:=bR+1) (by omega) [q.s,um,ul,.bool q.z] 0));obtain ⟨wy,hwy⟩:∃ wy,wy=setN wz (bR+1) 0 [q.s,um,ul,.bool q.z]:=⟨_,rfl⟩
   rw [←hwy] at HB2 HQ2;simp only [setN, Nat.zero_add, Nat.reduceAdd] at hwy
   have HWZ:=Lh hwy;clear hwy;refine rd1 3 (by kernel_rfl) rfl fun K hK=>?_
   go_simp
   go_wp2_with fail
   rw [←HWZ.out];refine hK.out _ _ (let h:=And.intro HB2.out.1 HB2.out.2; ⟨h,h.1.c10,h.2.c4⟩) ?_;clear hK K hH;intro hH
   try simp only [LAY]
   refine dnH ?_;clear hH HWZ HB1 HB2 HO n0 fn0 su sv sd0 sd1 sd2 sd3 sd4 sd5 sd6 sd7 sd8 sd9 hlN hlA;have HB4:=Lh HQ2.out.bm;rcases Bool.eq_false_or_eq_true q.z with hz | hz
   ·skip
    have hsb:shutB q=true:=by unfold shutB; rw [hz]; rfl
    rw [hsb] at HSH;rw [hz] at HB4;clear hsb hz;go_wp2_with fail
    refine rgH (fun W=>(Q12 w bR q [d0,d1,d2,d3,d4,d5,d6,d7,d8,d9] um ul W∧Blk W (bR+1) [q.s,um,ul,.bool true] 49)∧Cz10 W bR d0 d1 d2 d3 d4 d5 d6 d7 d8 d9∧Cz4 W (bR+1) q.s (um) (ul) (.bool true)) (let h:=(And.intro (HQ2.out.next bdq) (HB4.out.next bdq)); ⟨h,h.1.br.c10,h.2.c4⟩) fun hH=>?_
    clear HQ2 HB4;refine tq 0 (.agg #[d0,d1,d2,d3,d4,d5,d6,d7,d8,d9]) hH ?_;refine tq 2 (.pointer (some ⟨bR+1,1,none⟩)) hH ?_;refine tq 3 (.agg #[um,ul]) hH ?_;refine rd1 1 (by kernel_rfl) rfl fun K hK=>?_
    go_simp
    refine (HVE.out d0 d1 d2 d3 d4 d5 d6 d7 d8 d9 _ hH.1.1.ir).mono ?_
    rintro e u4 ⟨hb4,u0,u1,u2,u3,u4,u5,u6,u7,rfl,hiv⟩
    go_wp2_with fail
    have HIV:=Lh hiv;clear hiv;refine hK.out _ _ (let h:=(And.intro (hH.1.1.next hb4) (hH.1.2.next hb4)); ⟨h,h.1.br.c10,h.2.c4⟩) ?_;clear hK K hH;intro hH
    try simp only [LAY]
    refine rd1 4 (by kernel_rfl) rfl fun K hK=>?_
    go_simp
    refine (HIS.out u0 u1 u2 u3 u4 u5 u6 u7 um ul _ HIV.out hH.1.1.io hH.1.1.il hH.1.1.bel).mono ?_
    rintro e u5 ⟨rfl,hb5⟩
    go_wp2_with fail
    clear HIV;refine hK.out _ _ (let h:=(And.intro (hH.1.1.next hb5) (hH.1.2.next hb5)); ⟨h,h.1.br.c10,h.2.c4⟩) ?_;clear hK K hH;intro hH
    try simp only [LAY]
    refine tq 5 (.bool false) hH ?_;refine tq 6 (.bool false) hH ?_;refine tq 7 (.agg #[d0,d1,d2,d3,d4,d5,d6,d7,d8,d9]) hH ?_;refine tq 9 (.pointer (some ⟨bR+1,3,none⟩)) hH ?_;refine tq 10 (.bool true) hH ?_;refine rd1 8 (by kernel_rfl) rfl fun K hK=>?_
    go_simp
    refine (HSH.out d0 d1 d2 d3 d4 d5 d6 d7 d8 d9 _ hH.1.1.ir).mono ?_
    rintro e u6 ⟨rfl,hb6⟩
    go_wp2_with fail
    refine hK.out _ _ (let h:=(And.intro (hH.1.1.next hb6) (hH.1.2.next hb6)); ⟨h,h.1.br.c10,h.2.c4⟩) ?_;clear hK K hH;intro hH
    try simp only [LAY]
    refine tq 11 (.bool true) hH ?_;refine sk 12 hH ?_
    try simp only [LAY]
    refine sk 13 hH ?_
    try simp only [LAY]
    refine sk 14 hH ?_
    try simp only [LAY]
    refine tq 15 (.bool true) hH ?_;refine tq 16 (.bool false) hH ?_;refine tq 17 (.bool false) hH ?_;refine dnH ?_;have HF:=Lh (hH.1.1);clear hH hb4 hb5 hb6;go_wp2_with fail
    go_roundg (ls.length-(k+1))
    case measure=>omega
    case rel=>exact ⟨k+1,by omega,rfl,by go_num,_,_,_,_,_,_,_,_,_,_,_,_,by rw [HT.out]; exact HF.out⟩
   ·by_cases hs:q.s=0
    ·skip
     have hsb:shutB q=true:=by unfold shutB; rw [hz]; rw [hs]; rfl
     rw [hsb] at HSH;rw [hz] at HB4;rw [hs] at HB4;clear hsb hz hs;go_wp2_with fail
     refine rgH (fun W=>(Q12 w bR q [d0,d1,d2,d3,d4,d5,d6,d7,d8,d9] um ul W∧Blk W (bR+1) [.int .i64 0,um,ul,.bool false] 49)∧Cz10 W bR d0 d1 d2 d3 d4 d5 d6 d7 d8 d9∧Cz4 W (bR+1) (.int .i64 0) (um) (ul) (.bool false)) (let h:=(And.intro (HQ2.out.next bdq) (HB4.out.next bdq)); ⟨h,h.1.br.c10,h.2.c4⟩) fun hH=>?_
     clear HQ2 HB4;refine tq 0 (.agg #[d0,d1,d2,d3,d4,d5,d6,d7,d8,d9]) hH ?_;refine tq 2 (.pointer (some ⟨bR+1,1,none⟩)) hH ?_;refine tq 3 (.agg #[um,ul]) hH ?_;refine rd1 1 (by kernel_rfl) rfl fun K hK=>?_
     go_simp
     refine (HVE.out d0 d1 d2 d3 d4 d5 d6 d7 d8 d9 _ hH.1.1.ir).mono ?_
     rintro e u4 ⟨hb4,u0,u1,u2,u3,u4,u5,u6,u7,rfl,hiv⟩
     go_wp2_with fail
     have HIV:=Lh hiv;clear hiv;refine hK.out _ _ (let h:=(And.intro (hH.1.1.next hb4) (hH.1.2.next hb4)); ⟨h,h.1.br.c10,h.2.c4⟩) ?_;clear hK K hH;intro hH
     try simp only [LAY]
     refine rd1 4 (by kernel_rfl) rfl fun K hK=>?_
     go_simp
     refine (HIS.out u0 u1 u2 u3 u4 u5 u6 u7 um ul _ HIV.out hH.1.1.io hH.1.1.il hH.1.1.bel).mono ?_
     rintro e u5 ⟨rfl,hb5⟩
     go_wp2_with fail
     clear HIV;refine hK.out _ _ (let h:=(And.intro (hH.1.1.next hb5) (hH.1.2.next hb5)); ⟨h,h.1.br.c10,h.2.c4⟩) ?_;clear hK K hH;intro hH
     try simp only [LAY]
     refine tq 5 (.bool false) hH ?_;refine tq 6 (.bool false) hH ?_;refine tq 7 (.agg #[d0,d1,d2,d3,d4,d5,d6,d7,d8,d9]) hH ?_;refine tq 9 (.pointer (some ⟨bR+1,3,none⟩)) hH ?_;refine tq 10 (.bool false) hH ?_;refine rd1 8 (by kernel_rfl) rfl fun K hK=>?_
     go_simp
     refine (HSH.out d0 d1 d2 d3 d4 d5 d6 d7 d8 d9 _ hH.1.1.ir).mono ?_
     rintro e u6 ⟨rfl,hb6⟩
     go_wp2_with fail
     refine hK.out _ _ (let h:=(And.intro (hH.1.1.next hb6) (hH.1.2.next hb6)); ⟨h,h.1.br.c10,h.2.c4⟩) ?_;clear hK K hH;intro hH
     try simp only [LAY]
     refine tq 11 (.bool false) hH ?_;refine tq 12 (.pointer (some ⟨bR+1,0,none⟩)) hH ?_;refine tq 13 (.int .i64 0) hH ?_;refine tq 14 (.bool true) hH ?_;refine tq 15 (.bool true) hH ?_;refine tq 16 (.bool false) hH ?_;refine tq 17 (.bool false) hH ?_;refine dnH ?_;have HF:=Lh (hH.1.1);clear hH hb4 hb5 hb6;go_wp2_with fail
     go_roundg (ls.length-(k+1))
     case measure=>omega
     case rel=>exact ⟨k+1,by omega,rfl,by go_num,_,_,_,_,_,_,_,_,_,_,_,_,by rw [HT.out]; exact HF.out⟩
    ·skip
     have hsb:shutB q=false:=by unfold shutB; rw [hz]; simpa using hs
     rw [hsb] at HSH;rw [hz] at HB4;have hs':(q.s==0)=false:=by simpa using hs
     clear hs;clear hsb hz;go_wp2_with fail
     refine rgH (fun W=>(Q12 w bR q [d0,d1,d2,d3,d4,d5,d6,d7,d8,d9] um ul W∧Blk W (bR+1) [q.s,um,ul,.bool false] 49)∧Cz10 W bR d0 d1 d2 d3 d4 d5 d6 d7 d8 d9∧Cz4 W (bR+1) q.s (um) (ul) (.bool false)) (let h:=(And.intro (HQ2.out.next bdq) (HB4.out.next bdq)); ⟨h,h.1.br.c10,h.2.c4⟩) fun hH=>?_
     clear HQ2 HB4;refine tq 0 (.agg #[d0,d1,d2,d3,d4,d5,d6,d7,d8,d9]) hH ?_;refine tq 2 (.pointer (some ⟨bR+1,1,none⟩)) hH ?_;refine tq 3 (.agg #[um,ul]) hH ?_;refine rd1 1 (by kernel_rfl) rfl fun K hK=>?_
     go_simp
     refine (HVE.out d0 d1 d2 d3 d4 d5 d6 d7 d8 d9 _ hH.1.1.ir).mono ?_
     rintro e u4 ⟨hb4,u0,u1,u2,u3,u4,u5,u6,u7,rfl,hiv⟩
     go_wp2_with fail
     have HIV:=Lh hiv;clear hiv;refine hK.out _ _ (let h:=(And.intro (hH.1.1.next hb4) (hH.1.2.next hb4)); ⟨h,h.1.br.c10,h.2.c4⟩) ?_;clear hK K hH;intro hH
     try simp only [LAY]
     refine rd1 4 (by kernel_rfl) rfl fun K hK=>?_
     go_simp
     refine (HIS.out u0 u1 u2 u3 u4 u5 u6 u7 um ul _ HIV.out hH.1.1.io hH.1.1.il hH.1.1.bel).mono ?_
     rintro e u5 ⟨rfl,hb5⟩
     go_wp2_with fail
     clear HIV;refine hK.out _ _ (let h:=(And.intro (hH.1.1.next hb5) (hH.1.2.next hb5)); ⟨h,h.1.br.c10,h.2.c4⟩) ?_;clear hK K hH;intro hH
     try simp only [LAY]
     refine tq 5 (.bool false) hH ?_;refine tq 6 (.bool false) hH ?_;refine tq 7 (.agg #[d0,d1,d2,d3,d4,d5,d6,d7,d8,d9]) hH ?_;refine tq 9 (.pointer (some ⟨bR+1,3,none⟩)) hH ?_;refine tq 10 (.bool false) hH ?_;refine rd1 8 (by kernel_rfl) rfl fun K hK=>?_
     go_simp
     refine (HSH.out d0 d1 d2 d3 d4 d5 d6 d7 d8 d9 _ hH.1.1.ir).mono ?_
     rintro e u6 ⟨rfl,hb6⟩
     go_wp2_with fail
     refine hK.out _ _ (let h:=(And.intro (hH.1.1.next hb6) (hH.1.2.next hb6)); ⟨h,h.1.br.c10,h.2.c4⟩) ?_;clear hK K hH;intro hH
     try simp only [LAY]
     refine tq 11 (.bool false) hH ?_;refine tq 12 (.pointer (some ⟨bR+1,0,none⟩)) hH ?_;refine tq 13 q.s hH ?_;refine tq 14 (.bool false) hH ?_;refine tq 15 (.bool false) hH ?_;refine tq 16 (.bool false) hH ?_;refine tq 17 (.bool false) hH ?_;refine dnH ?_;have HF:=Lh (hH.1.1);clear hH hb4 hb5 hb6;go_wp2_with fail
     go_roundg (ls.length-(k+1))
     case measure=>omega
     case rel=>exact ⟨k+1,by omega,rfl,by go_num,_,_,_,_,_,_,_,_,_,_,_,_,by rw [HT.out]; exact HF.out⟩
  ·obtain rfl:k=ls.length:=by omega
   have HQ:=Lh hQ.bel;clear hQ HL;have HWO:=Lh (fun W=>refWord_any kk W);rcases (show kk<0∨(0≤kk∧kk≤2)∨2<kk by omega) with hm | hm | hm
   ·skip
    have hwb:writesB kk=false:=by unfold writesB; simp; omega
    rw [hwb] at HWRI;clear hwb;have d0:decide (0≤kk)=false:=by simp; omega
    have d2:decide (kk≤2)=true:=by simp; omega
    clear hm;go_wp2_with (go_at_call 5; refine (HAW.out _ (HPT.out.1.next HQ.out) (HPT.out.2.next HQ.out)).mono ?_; rintro e w1 ⟨rfl,hb1⟩; refine Hid.out ?_)
    have HQ1:=Lh (HQ.out.trans (hb1.mono HQ.out.size));clear HQ hb1 HAW;generalize wordA kk=tx at *
    refine Lh ?_;go_wp2_with (go_at_call 17; refine (HSTR.out _ HQ1.out).mono ?_; rintro e w2 ⟨rfl,hb1⟩; refine Hid.out ?_)
    have HQ2:=Lh (HQ1.out.trans (hb1.mono HQ1.out.size));clear HQ1 hb1 HSTR;refine Lh ?_;go_wp2_with (go_at_call 18; refine (HWO.out _).mono ?_; rintro e w3 ⟨rfl,hb1⟩; refine Hid.out ?_)
    have HQ3:=Lh (HQ2.out.trans (hb1.mono HQ2.out.size));clear HQ2 hb1 HWO;refine Lh ?_;go_wp2_with (go_at_call 19; refine (HWRI.out _).mono ?_; rintro e w4 ⟨rfl,hb1⟩; refine Hid.out ?_)
    have HQ4:=Lh (HQ3.out.trans (hb1.mono HQ3.out.size));clear HQ3 hb1 HWRI;refine Lh ?_;go_wp2_with fail
    go_ret
    exact ⟨rfl,HQ4.out⟩
   ·skip
    have hwb:writesB kk=true:=by unfold writesB; simp; omega
    rw [hwb] at HWRI;clear hwb;have d0:decide (0≤kk)=true:=by simp; omega
    have d2:decide (kk≤2)=true:=by simp; omega
    clear hm;go_wp2_with (go_at_call 5; refine (HAW.out _ (HPT.out.1.next HQ.out) (HPT.out.2.next HQ.out)).mono ?_; rintro e w1 ⟨rfl,hb1⟩; refine Hid.out ?_)
    have HQ1:=Lh (HQ.out.trans (hb1.mono HQ.out.size));clear HQ hb1 HAW;generalize wordA kk=tx at *
    refine Lh ?_;go_wp2_with (go_at_call 17; refine (HSTR.out _ HQ1.out).mono ?_; rintro e w2 ⟨rfl,hb1⟩; refine Hid.out ?_)
    have HQ2:=Lh (HQ1.out.trans (hb1.mono HQ1.out.size));clear HQ1 hb1 HSTR;refine Lh ?_;go_wp2_with (go_at_call 18; refine (HWO.out _).mono ?_; rintro e w3 ⟨rfl,hb1⟩; refine Hid.out ?_)
    have HQ3:=Lh (HQ2.out.trans (hb1.mono HQ2.out.size));clear HQ2 hb1 HWO;refine Lh ?_;go_wp2_with (go_at_call 19; refine (HWRI.out _).mono ?_; rintro e w4 ⟨rfl,hb1⟩; refine Hid.out ?_)
    have HQ4:=Lh (HQ3.out.trans (hb1.mono HQ3.out.size));clear HQ3 hb1 HWRI;refine Lh ?_;go_wp2_with fail
    go_ret
    exact ⟨rfl,HQ4.out⟩
   ·skip
    have hwb:writesB kk=false:=by unfold writesB; simp; omega
    rw [hwb] at HWRI;clear hwb;have d0:decide (0≤kk)=true:=by simp; omega
    have d2:decide (kk≤2)=false:=by simp; omega
    clear hm;go_wp2_with (go_at_call 5; refine (HAW.out _ (HPT.out.1.next HQ.out) (HPT.out.2.next HQ.out)).mono ?_; rintro e w1 ⟨rfl,hb1⟩; refine Hid.out ?_)
    have HQ1:=Lh (HQ.out.trans (hb1.mono HQ.out.size));clear HQ hb1 HAW;generalize wordA kk=tx at *
    refine Lh ?_;go_wp2_with (go_at_call 17; refine (HSTR.out _ HQ1.out).mono ?_; rintro e w2 ⟨rfl,hb1⟩; refine Hid.out ?_)
    have HQ2:=Lh (HQ1.out.trans (hb1.mono HQ1.out.size));clear HQ1 hb1 HSTR;refine Lh ?_;go_wp2_with (go_at_call 18; refine (HWO.out _).mono ?_; rintro e w3 ⟨rfl,hb1⟩; refine Hid.out ?_)
    have HQ3:=Lh (HQ2.out.trans (hb1.mono HQ2.out.size));clear HQ2 hb1 HWO;refine Lh ?_;go_wp2_with (go_at_call 19; refine (HWRI.out _).mono ?_; rintro e w4 ⟨rfl,hb1⟩; refine Hid.out ?_)
    have HQ4:=Lh (HQ3.out.trans (hb1.mono HQ3.out.size));clear HQ3 hb1 HWRI;refine Lh ?_;go_wp2_with fail
    go_ret
    exact ⟨rfl,HQ4.out⟩
end Go.Proofs.YtpbhaieclkoggaaGreatDoor
set_option maxRecDepth 100000
set_option maxHeartbeats 12800000
namespace Go.Proofs.YtpbhaieclkoggaaGreatDoor
open Go Go.Proofs Go.RowKit
theorem rplays_long (hAw:Awake12Ok) (s k:Int) (ad:Option Addr) (n cap:Nat) (w:World) (h:40<n) (hp:Pows w) (ht:Tabs w):
  Calls Tryz.prog 3 #[s,.slice ad n cap,k] w fun e w'=>e=.returned (.bool true)∧Below w.heap.size w w':=by
 have HB:=Lh (And.intro hp ht);have HAW:=Lh hAw;have h':(40:Int)<(n:Int):=by omega
 clear hAw hp ht
 go_enter Tryz.func3,Tryz.ntmps3
 go_wp2_with (go_at_call 5; refine (HAW.out _ HB.out.1 HB.out.2).mono ?_; rintro e w1 ⟨rfl,hb⟩)
 go_ret
 exact ⟨rfl,hb⟩
theorem rplays_any (H:PAll) (HV:VAll) (h11:Awake11Ok) (s k:Int) (hk0 : -9223372036854775808≤k) (hk1:k≤9223372036854775807) (v:Value) (l:List Cal) (w:World) (hl:IsCals w v l) (hp:Pows w) (ht:Tabs w) (hw:Wd w):
  Calls Tryz.prog 3 #[s,v,k] w fun e w'=>e=.returned (.bool true)∧Below w.heap.size w w':=by
 obtain ⟨ad,cap,rfl,e1,e2,e3⟩:=hl;by_cases h:l.length≤40
 ·exact rplays_main H HV (awake12_any H h11) s k hk0 hk1 ad cap l w h e1 e2 e3 hp ht hw
 ·exact rplays_long (awake12_any H h11) s k ad l.length cap w (by omega) hp ht
end Go.Proofs.YtpbhaieclkoggaaGreatDoor
