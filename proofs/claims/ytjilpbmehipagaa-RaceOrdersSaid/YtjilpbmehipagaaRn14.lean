import Derived.Test.YtjilpbmehipagaaRm14
set_option maxRecDepth 100000
set_option maxHeartbeats 12800000
namespace Go.Proofs.Ytjilpbmehipagaa
open Go Go.Proofs Go.RowKit
theorem learn_any (L:List Ac) (k u:Nat) (kk l:Int) (hx:acA L k=⟨u,kk,l⟩) (hu:u<16) (hk:k<L.length) (hl:L.length≤1000) (h0 : -9223372036854775808≤l) (h1:l≤9223372036854775807) (B b g:Nat) (V:List Value) (w:World) (h:KnO L k B b g V w):
  Calls Try.prog 17 #[.pointer (some ⟨b,0,none⟩),.agg #[.int .i64 (u:Int),.int .i64 kk,.int .i64 l]] w fun e w'=>∃ v V',e=.returned v∧Clk B w' v (vecP L (Know L k))∧KnO L (k+1) B b g V' w'∧Bu b g w w':=by
 have HX:=Lh (Blk.start w [.int .i64 (u:Int),.int .i64 kk,.int .i64 l] 31);have H1:=Lh (h.next (bA (o:=.cells #[.int .i64 (u:Int),.int .i64 kk,.int .i64 l] 31)));have HS:=Lh (And.intro h.sz (Bu.of (b:=b) (g:=g) (bA (w:=w) (o:=.cells #[.int .i64 (u:Int),.int .i64 kk,.int .i64 l] 31))));have HL:=Lh (And.intro hk hl);have HA:=Lh hx;have HR:=Lh (And.intro h0 h1);have HI:Hid (IntKind.i64.wrap (u:Int)=u):=Lh (IntWalk.i64_in _ (by omega));clear hk hl hx h h0 h1
 go_enter Try.func17,Try.ntmps17
 go_upto_region 1 with fail
 generalize w.alloc (.cells #[.int .i64 (u:Int),.int .i64 kk,.int .i64 l] 31)=w1 at *
 obtain ⟨c0,c16,-⟩:=H1.out.cells hu;obtain ⟨x0,x1,x2⟩:=blk3 HX.out;obtain ⟨T0,hT0,hM0,hP0⟩:=(H1.out.vo u hu).ex HL.out.2;have HT:=Lh (fun W (hb:Below w1.heap.size w1 W)=>vtick_ok T0 (V.getD u undef) (u:Int) W (by omega) (by omega) hM0 (hT0.next hb));rw [hP0] at HT;have HK:=Lh (fun (W:World) (hb:Below w1.heap.size w1 W)=>show KnO L k B b g V W∧Blk W w.heap.size (acL (acA L k)) 31∧Bu b g w W from ⟨H1.out.next hb,by rw [HA.out]; exact HX.out.next hb,HS.out.2.next hb⟩);clear hT0 hM0 hP0 H1 HX;obtain ⟨vu,hvu⟩:∃ x,x=V.getD u undef:=⟨_,rfl⟩
 rw [←hvu] at c0 HT;have HVU:=Lh hvu;clear hvu;refine rgH (fun W=>Ce W w.heap.size 0 (.int .i64 (u:Int))∧W.cell? ⟨b,u,none⟩=some vu) ⟨x0,c0⟩ fun hH=>?_
 refine tq 0 (.pointer (some ⟨b,0,none⟩)) hH ?_;refine tq 1 (.pointer (some ⟨w.heap.size,0,none⟩)) hH ?_;refine tq 2 (.int .i64 (u:Int)) hH ?_;refine tq 3 (.pointer (some ⟨b,0,none⟩)) hH ?_;refine tq 4 (.pointer (some ⟨b,0,none⟩)) hH ?_;refine tq 5 (.pointer (some ⟨b,u,none⟩)) hH ?_ (hy:=by intro w hSw; go_simp; intro hh; omega);refine tq 6 (vu) hH ?_;refine tq 7 (.pointer (some ⟨w.heap.size,0,none⟩)) hH ?_;refine tq 8 (.int .i64 (u:Int)) hH ?_;refine rd1 9 (by kernel_rfl) rfl fun K hK=>?_
 go_simp
 refine (HT.out _ bdq).mono ?_
 rintro e w2 ⟨v,T,rfl,hT,hp,ho,hb⟩
 obtain ⟨a5,n5,q5,rfl⟩:=ho.form;go_wp2_with fail
 have hb2:Below w1.heap.size w1 w2:=bdq.trans hb;obtain ⟨hk2,hx2,hu2⟩:=HK.out w2 hb2;have HP:Hid (Pre L k B b g V w (.slice a5 n5 q5) (vecP L fun i=>Kn L k (acA L k).t i∨i=k) w2):=Lh ⟨hk2,hx2,hu2,⟨T,ho.mono (Nat.le_trans HS.out.1 HS.out.2.size),hT,by
  have e:(acA L k).t=(u:Int):=by rw [HA.out]
  rw [hp,e,←vec_tick HL.out.1 (P:=Kn L k (u:Int)) kn_not (by rw [e]; omega) (by rw [e]; omega),e]⟩,HS.out.1⟩
 obtain ⟨d0,d16,-⟩:=hk2.cells hu;obtain ⟨e0,e1,e2⟩:=blk3 (HA.out▸hx2:Blk w2 w.heap.size (acL ⟨u,kk,l⟩) 31);refine hK.out _ _ ⟨e0,by rw [HVU.out]; exact d0⟩ (fun hH2=>?_);clear hK K hH HK HT hb hb2 hT hp ho hk2 hx2 hu2 c0 c16 x0 x1 x2 d0;have hH:=hH2;clear hH2
 try simp only [LAY]
 refine tq 10 (.slice a5 n5 q5) hH ?_;refine dnH ?_;generalize w1.drew.heap.size=zz at *
 clear hH HS;have HNE:Hid (w.heap.size≠b):=Lh (by have:=HP.out.kn.lb; have:=HP.out.sz; omega);obtain ⟨n0,F,MK,hn0,hm,hF⟩:=HP.out.kn.sg;have HLK:=Lh (fun (W:World) (h:MapI Try.prog 3 g n0 zCk F MK W)=>SgO.look h HR.out.1 HR.out.2);obtain ⟨TB,iB,mB,pB⟩:=(hF l).ex HL.out.2;obtain ⟨TA,iA,mA,pA⟩:=HP.out.ck.ex HL.out.2;clear hF;by_cases k2:kk=2
 ·have HJ:=Lh (vjoin_ok TA TB _ _ w2.drew mA mB (iA.next bdq) (iB.next bdq))
  clear iA iB mA mB;subst k2
  go_upto_region 4 with fail
  generalize F l=fl at *
  refine rgH (fun W=>Ce W b 16 (.map (some g))∧Ce W w.heap.size 2 (.int .i64 l)∧MapI Try.prog 3 g n0 zCk F MK W) ⟨d16,e2,hm⟩ fun hH=>?_
  refine tq 0 (.slice a5 n5 q5) hH ?_;refine tq 1 (.pointer (some ⟨b,0,none⟩)) hH ?_;refine tq 2 (.pointer (some ⟨b,0,none⟩)) hH ?_;refine tq 3 (.pointer (some ⟨b,16,none⟩)) hH ?_;refine tq 4 (.map (some g)) hH ?_;refine tq 5 (.pointer (some ⟨w.heap.size,2,none⟩)) hH ?_;refine tq 6 (.int .i64 l) hH ?_;refine tq 7 (fl) hH ?_ (hy:=fun W h=>by have hq:=HLK.out W h.2.2; go_simp);refine rd1 8 (by kernel_rfl) rfl fun K hK=>?_
  go_simp
  refine HJ.out.mono ?_
  rintro e w3 ⟨v3,T3,rfl,h3,p3,o3,hb3⟩
  obtain ⟨a6,n6,q6,rfl⟩:=o3.form;go_wp2_with fail
  have HM:Hid (Mid L k B b g V w (.slice a6 n6 q6) w3):=Lh (Pre.mid (M:=vecP L (Know L k)) ⟨(HP.out.next (bdq.trans hb3)).kn,(HP.out.next (bdq.trans hb3)).bx,(HP.out.next (bdq.trans hb3)).bu,⟨T3,o3.mono HP.out.kn.sz,h3,by
   rw [p3,pA,pB,←know_join HL.out.1 (by rw [HA.out]),HA.out]⟩,HP.out.sz⟩ rfl (by rw [HA.out]; show (2:Int)≠3; decide))
  obtain ⟨g0,g1,g2⟩:=blk3 (HA.out▸HM.out.bx:Blk _ w.heap.size (acL ⟨u,2,l⟩) 31);refine hK.out _ _ ⟨(World.cell?_of_block (hb3.block b (by have:=HP.out.kn.lb; have:=HP.out.kn.sz; show b<w2.heap.size; omega))).trans d16,g2,(hm.next bdq).next hb3⟩ (fun hH2=>?_);clear hK K hH HP HLK HJ hm h3 p3 o3 hb3 pA pB d16 e0 e1 e2 g0 g1 g2;have hH:=hH2;clear hH2
  try simp only [LAY]
  refine tq 9 (.slice a6 n6 q6) hH ?_;refine dnH ?_;clear hH;obtain ⟨f0,ff⟩:=HM.out.cells hu;obtain ⟨y0,y1,y2⟩:=blk3 (HA.out▸HM.out.bx:Blk _ w.heap.size (acL ⟨u,2,l⟩) 31)
  go_upto_region 7 with fail
  refine rgH (fun W=>Ce W w.heap.size 0 (.int .i64 (u:Int))) y0 fun hH=>?_
  have HF:=Lh ((HM.out.next bdq).fin HL.out.1 hu (by rw [HA.out]));clear HM;refine tq 0 (.pointer (some ⟨b,0,none⟩)) hH ?_;refine tq 1 (.pointer (some ⟨w.heap.size,0,none⟩)) hH ?_;refine tq 2 (.int .i64 (u:Int)) hH ?_;refine tq 3 (.slice a6 n6 q6) hH ?_;refine tq 4 (.pointer (some ⟨b,0,none⟩)) hH ?_;refine tq 5 (.pointer (some ⟨b,0,none⟩)) hH ?_;refine tq 6 (.pointer (some ⟨b,u,none⟩)) hH ?_ (hy:=by intro w hSw; go_simp; intro hh; omega);refine rd1 7 (by kernel_rfl) rfl fun K hK=>?_
  go_simp
  go_wp2_with fail
  refine hK.out _ _ ?_ (fun hH=>?_)
  ·exact (World.cell?_of_block (Below.heap_setCell _ _ _ _ HNE.out)).trans y0
  clear hK K
  try simp only [LAY]
  refine dnH ?_;go_wp2_with fail
  go_ret
  exact ⟨_,_,rfl,HF.out.1,HF.out.2.1,HF.out.2.2⟩
 have k2b:(kk==2)=false:=by simpa using k2
 by_cases k3:kk=3
 ·have HJ:=Lh (vjoin_ok TB TA _ _ w2.drew mB mA (iB.next bdq) (iA.next bdq))
  clear iA iB mA mB;subst k3
  go_upto_region 6 with fail
  generalize hfl:F l=fl at *
  refine rgH (fun W=>Ce W b 16 (.map (some g))∧Ce W w.heap.size 2 (.int .i64 l)) ⟨d16,e2⟩ fun hH=>?_
  refine tq 0 (.pointer (some ⟨b,0,none⟩)) hH ?_;refine tq 1 (.pointer (some ⟨b,0,none⟩)) hH ?_;refine tq 2 (.pointer (some ⟨b,16,none⟩)) hH ?_;refine tq 3 (.map (some g)) hH ?_;refine tq 4 (.pointer (some ⟨w.heap.size,2,none⟩)) hH ?_;refine tq 5 (.int .i64 l) hH ?_;refine tq 6 (.pointer (some ⟨b,0,none⟩)) hH ?_;refine tq 7 (.pointer (some ⟨b,0,none⟩)) hH ?_;refine tq 8 (.pointer (some ⟨b,16,none⟩)) hH ?_;refine tq 9 (.map (some g)) hH ?_;refine tq 10 (.pointer (some ⟨w.heap.size,2,none⟩)) hH ?_;refine tq 11 (.int .i64 l) hH ?_;refine tq 13 (.slice a5 n5 q5) hH ?_;have hq:=HLK.out w2.drew hm;refine rd1 12 (by kernel_rfl) rfl fun K hK=>?_
  go_simp
  refine hK.out _ _ ⟨d16,e2⟩ (fun hH2=>?_);clear hK K hH hq;have hH:=hH2;clear hH2
  try simp only [LAY]
  refine rd1 14 (by kernel_rfl) rfl fun K hK=>?_
  go_simp
  refine HJ.out.mono ?_
  rintro e w3 ⟨v3,T3,rfl,h3,p3,o3,hb3⟩
  obtain ⟨a6,n6,q6,rfl⟩:=o3.form;go_wp2_with fail
  have HP3:=Lh (HP.out.next (bdq.trans hb3));obtain ⟨w5,hr,hs,hbu⟩:=SgO.put (W:=w3) (by have:=HL.out; omega) HP3.out.kn.sg (by rw [HA.out]; exact HR.out.1) (by rw [HA.out]; exact HR.out.2) HP3.out.kn.lg (v:=.slice a6 n6 q6) ⟨T3,o3.mono HP.out.kn.sz,h3,by
   rw [p3,pA,pB,←sg_join HL.out.1 (by rw [HA.out]),HA.out,←know_vec HL.out.1 (by rw [HA.out]; show (3:Int)≠2; decide),HA.out]⟩
  have HM:=Lh (HP3.out.mid3 (know_vec HL.out.1 (by rw [HA.out]; show (3:Int)≠2; decide)) hs hbu);rw [HA.out] at hr;clear hs hbu;obtain ⟨g0,g1,g2⟩:=blk3 (HA.out▸HP3.out.bx:Blk _ w.heap.size (acL ⟨u,3,l⟩) 31);refine hK.out _ _ ⟨(World.cell?_of_block (hb3.block b (by have:=HP.out.kn.lb; have:=HP.out.kn.sz; show b<w2.heap.size; omega))).trans d16,g2⟩ (fun hH2=>?_);clear hK K hH HP HP3 HLK HJ hm h3 p3 o3 hb3 pA pB d16 e0 e1 e2 g0 g1 g2;have hH:=hH2;clear hH2
  try simp only [LAY]
  refine rd1 15 (by kernel_rfl) rfl fun K hK=>?_
  go_simp
  go_wp2_with fail
  refine hK.out _ _ ⟨HM.out.bb.cell 16 (by rw [List.getElem?_append_right (by rw [HM.out.vl]; exact Nat.le_refl _),HM.out.vl]; rfl),(blk3 (HA.out▸HM.out.bx:Blk _ w.heap.size (acL ⟨u,3,l⟩) 31)).2.2⟩ (fun hH2=>?_);clear hK K hH hH2 hr
  try simp only [LAY]
  refine dnH ?_;obtain ⟨f0,ff⟩:=HM.out.cells hu;obtain ⟨y0,y1,y2⟩:=blk3 (HA.out▸HM.out.bx:Blk _ w.heap.size (acL ⟨u,3,l⟩) 31)
  go_upto_region 7 with fail
  refine rgH (fun W=>Ce W w.heap.size 0 (.int .i64 (u:Int))) y0 fun hH=>?_
  have HF:=Lh ((HM.out.next bdq).fin HL.out.1 hu (by rw [HA.out]));clear HM;refine tq 0 (.pointer (some ⟨b,0,none⟩)) hH ?_;refine tq 1 (.pointer (some ⟨w.heap.size,0,none⟩)) hH ?_;refine tq 2 (.int .i64 (u:Int)) hH ?_;refine tq 3 (.slice a5 n5 q5) hH ?_;refine tq 4 (.pointer (some ⟨b,0,none⟩)) hH ?_;refine tq 5 (.pointer (some ⟨b,0,none⟩)) hH ?_;refine tq 6 (.pointer (some ⟨b,u,none⟩)) hH ?_ (hy:=by intro w hSw; go_simp; intro hh; omega);refine rd1 7 (by kernel_rfl) rfl fun K hK=>?_
  go_simp
  go_wp2_with fail
  refine hK.out _ _ ?_ (fun hH=>?_)
  ·exact (World.cell?_of_block (Below.heap_setCell _ _ _ _ HNE.out)).trans y0
  clear hK K
  try simp only [LAY]
  refine dnH ?_;go_wp2_with fail
  go_ret
  exact ⟨_,_,rfl,HF.out.1,HF.out.2.1,HF.out.2.2⟩
 have k3b:(kk==3)=false:=by simpa using k3
 have HM:=Lh (HP.out.mid (know_vec HL.out.1 (by rw [HA.out]; exact k2)) (by rw [HA.out]; exact k3));clear HP d16 e0 HLK hm iA iB mA mB pA pB;obtain ⟨f0,ff⟩:=HM.out.cells hu;obtain ⟨y0,y1,y2⟩:=blk3 (HA.out▸HM.out.bx:Blk _ w.heap.size (acL ⟨u,kk,l⟩) 31)
 go_upto_region 7 with fail
 refine rgH (fun W=>Ce W w.heap.size 0 (.int .i64 (u:Int))) y0 fun hH=>?_
 have HF:=Lh ((HM.out.next bdq).fin HL.out.1 hu (by rw [HA.out]));clear HM;refine tq 0 (.pointer (some ⟨b,0,none⟩)) hH ?_;refine tq 1 (.pointer (some ⟨w.heap.size,0,none⟩)) hH ?_;refine tq 2 (.int .i64 (u:Int)) hH ?_;refine tq 3 (.slice a5 n5 q5) hH ?_;refine tq 4 (.pointer (some ⟨b,0,none⟩)) hH ?_;refine tq 5 (.pointer (some ⟨b,0,none⟩)) hH ?_;refine tq 6 (.pointer (some ⟨b,u,none⟩)) hH ?_ (hy:=by intro w hSw; go_simp; intro hh; omega);refine rd1 7 (by kernel_rfl) rfl fun K hK=>?_
 go_simp
 go_wp2_with fail
 refine hK.out _ _ ?_ (fun hH=>?_)
 ·exact (World.cell?_of_block (Below.heap_setCell _ _ _ _ HNE.out)).trans y0
 clear hK K
 try simp only [LAY]
 refine dnH ?_;go_wp2_with fail
 go_ret
 exact ⟨_,_,rfl,HF.out.1,HF.out.2.1,HF.out.2.2⟩
 end Go.Proofs.Ytjilpbmehipagaa
