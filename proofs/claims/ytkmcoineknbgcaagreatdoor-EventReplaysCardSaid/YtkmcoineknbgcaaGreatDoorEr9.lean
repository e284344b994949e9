import Derived.Test.YtkmcoineknbgcaaGreatDoorAw8
import Derived.Test.YtkmcoineknbgcaaGreatDoorEv9
import Derived.Test.YtkmcoineknbgcaaGreatDoorVerA
import Derived.Deep.CutBlock
set_option maxRecDepth 100000
set_option maxHeartbeats 12800000
namespace Go.Proofs.YtkmcoineknbgcaaGreatDoor
open Go Go.Proofs Go.RowKit
structure E9 (w:World) (cs:List Value) (m l:List Oq) (tv:Value) (L:List Chg) (W:World):Prop where
 a:A8 w w.heap.size cs m l W
 own:W.ownsRow (w.heap.size+1) 20 1 tv (L.map Th.chg).length ((L.map Th.chg).flatMap thL)
theorem E9.next {w:World} {cs:List Value} {m l:List Oq} {tv:Value} {L:List Chg} {W W':World} (h:E9 w cs m l tv L W) (hb:Below W.heap.size W W'):E9 w cs m l tv L W':=⟨h.a.next hb,ownsRow_next h.own hb⟩
theorem E9.put {w:World} {c0 c1 c2 c3 c4 c5 c6 c7 d0 d1 d2 d3 d4 d5 d6 d7:Value} {m l m2 l2:List Oq} {tv:Value} {L C:List Chg} {lc:Value} {W:World} (h:E9 w [c0,c1,c2,c3,c4,c5,c6,c7] m l tv L W) (h1:IsV W m2 l2 [d0,d1,d2,d3,d4,d5,d6,d7]) (h2:IsVC W lc C):
  E9 w [d0,d1,d2,d3,d4,d5,d6,d7] m2 l2 tv L (setN W w.heap.size 0 [d0,d1,d2,d3,d4,d5,d6,d7])∧IsVC (setN W w.heap.size 0 [d0,d1,d2,d3,d4,d5,d6,d7]) lc C:=
 ⟨⟨h.a.put h1,own_kt h.own (h.a.ktV _ (by decide))⟩,Sl.kt (h.a.ktV _ (by decide)) h2⟩
theorem E9.appended {w:World} {cs:List Value} {m l:List Oq} {tv tv':Value} {L:List Chg} {W W':World} (h:E9 w cs m l tv L W) (c:Chg) (ho:W'.ownsRow (w.heap.size+1) 20 1 tv' ((L.map Th.chg).length+1) ((L.map Th.chg).flatMap thL++thL (.chg c))) (hg:W.grownBy W' tv.ownBlock):
  E9 w cs m l tv' (L++[c]) W':=by
 have k:∀ t,t≠20→KT t W W':=fun t ht=>KT.apart h.own ht hg
 have hlt:=h.a.bv.lt;have hs:=hg.size;refine ⟨⟨h.a.bel.trans (Below.of_grown hg (by omega) (fun r hr=>by have:=own_ge h.own r hr; omega)),h.a.ge,?_,h.a.iv.kt (k _ (by decide)) (k _ (by decide)) (k _ (by decide)) hs⟩,?_⟩
 ·exact k _ (by decide) _ _ h.a.bv
 ·rw [List.map_append,List.flatMap_append,List.length_append]; simpa using ho
theorem E9.fresh {w:World} {cs:List Value} {m l:List Oq} {tv:Value} {L:List Chg} {W:World} (h:E9 w cs m l tv L W):E9 w cs m l (.slice none 0 0) [] W:=⟨h.a,rfl,.inl ⟨rfl,rfl⟩⟩
theorem E9.isT {w:World} {cs:List Value} {m l:List Oq} {tv:Value} {L:List Chg} {W:World} (h:E9 w cs m l tv L W):IsT9 W tv (L.map .chg):=Sl.of h.own
theorem ereplays_main (H:VAll) (HE:EAll) (hAw:Awake9Ok) (ad:Option Addr) (cap:Nat) (acts:List Act8) (fr:Int) (hf0:0≤fr) (hf1:fr≤255) (w:World) (hl:acts.length≤40) (_:acts.length≤cap) (_:cap≤9223372036854775807)
  (hL:acts≠[]→∃ b off,ad=some ⟨b,off,none⟩∧b<w.heap.size∧LiesA w b off acts) (hp:Pows w) (ht:Tabs w):
  Calls Tryz.prog 3 #[.slice ad acts.length cap,.int .u8 fr] w fun e w'=>e=.returned (.bool true)∧Below w.heap.size w w':=by
 have HL:=Lh hL;have HPT:=Lh (And.intro hp ht);have HH:=Lh (And.intro H (And.intro HE hAw));have hl':¬ (40:Int)<(acts.length:Int):=by omega
 have H0:=Lh (show E9 w [.pointer none,.pointer none,.int .i64 0,.slice none 0 0,.int .i64 0,.int .i64 0,.complex .f64 0 0,.complex .f64 0 0] [] [] (.slice none 0 0) [] (w.alloc (.cells #[.pointer none,.pointer none,.int .i64 0,.slice none 0 0,.int .i64 0,.int .i64 0,.complex .f64 0 0,.complex .f64 0 0] 39)) from ⟨⟨(Below.refl _ _).alloc (Nat.le_refl _) _,Nat.le_refl _,Blk.startAt rfl,isv_nil _⟩,rfl,.inl ⟨rfl,rfl⟩⟩);have hv0:Ev9 [] 0 [] []:=by
  have h:alv (docR [])=[]:=by rw [ex8_d0]; rfl
  exact ⟨by rw [h]; rfl,trivial,rfl,fun x hx=>by cases hx⟩
 have HV0:=Lh hv0;have hwf:IntKind.i64.wrap fr=fr:=IntWalk.i64_in (by omega) (by omega);clear hL hp ht H HE hAw hv0
 go_enter Tryz.func3,Tryz.ntmps3
 go_wp2_with fail
 go_loopg [6,7,8,24] acts.length (fun g tv xv qv ti wr=>∃ k:Nat,k≤acts.length∧g=acts.length-k∧ti=.int .i64 (k:Int)∧∃ (c0 c1 c2 c3 c4 c5 c6 c7:Value) (m l:List Oq) (r:List Int) (q:Nat) (L:List Chg),xv=.string (Bw9 r)∧qv=.int .i64 (q:Int)∧Hid (VOk m l k∧ChO m∧Ev9 r q m L)∧Hid (r.length≤1000)∧E9 w [c0,c1,c2,c3,c4,c5,c6,c7] m l tv L wr)
 case atStart=>exact ⟨0,Nat.zero_le _,rfl,rfl,_,_,_,_,_,_,_,_,[],[],[],0,[],rfl,rfl,Lh ⟨VOk.nil,(fun x hx=>by cases hx),HV0.out⟩,Lh (by simp),H0.out⟩
 case round=>
  obtain ⟨k,hk,rfl,rfl,c0,c1,c2,c3,c4,c5,c6,c7,m,l,r,q,L,rfl,rfl,HV,HRL,hP⟩:=hrel;clear H0 HV0;by_cases hlt:k<acts.length
  ·obtain ⟨bA,off,rfl,hbw,hLies⟩:=HL.out (fun e=>by rw [e] at hlt; cases hlt)
   have k0:=(hP.a.bel.cell (p:=⟨bA,off+k * 10,none⟩) hbw).trans (hLies k hlt 0 (by omega));have k1:=(hP.a.bel.cell (p:=⟨bA,off+k * 10+1,none⟩) hbw).trans (hLies k hlt 1 (by omega));have k2:=(hP.a.bel.cell (p:=⟨bA,off+k * 10+2,none⟩) hbw).trans (hLies k hlt 2 (by omega));have k3:=(hP.a.bel.cell (p:=⟨bA,off+k * 10+3,none⟩) hbw).trans (hLies k hlt 3 (by omega));have k4:=(hP.a.bel.cell (p:=⟨bA,off+k * 10+4,none⟩) hbw).trans (hLies k hlt 4 (by omega));have k5:=(hP.a.bel.cell (p:=⟨bA,off+k * 10+5,none⟩) hbw).trans (hLies k hlt 5 (by omega));have k6:=(hP.a.bel.cell (p:=⟨bA,off+k * 10+6,none⟩) hbw).trans (hLies k hlt 6 (by omega));have k7:=(hP.a.bel.cell (p:=⟨bA,off+k * 10+7,none⟩) hbw).trans (hLies k hlt 7 (by omega));have k8:=(hP.a.bel.cell (p:=⟨bA,off+k * 10+8,none⟩) hbw).trans (hLies k hlt 8 (by omega));have k9:=(hP.a.bel.cell (p:=⟨bA,off+k * 10+9,none⟩) hbw).trans (hLies k hlt 9 (by omega))
   change _=some (Value.int .u8 acts[k].kd) at k0
   change _=some (Value.int .i64 acts[k].o.k) at k1
   change _=some (Value.int .i64 acts[k].o.c) at k2
   change _=some (Value.int .i64 acts[k].o.s) at k3
   change _=some (Value.int .i64 acts[k].o.a) at k4
   change _=some (Value.int .i64 acts[k].o.n) at k5
   change _=some (Value.int .i32 acts[k].o.ch) at k6
   change _=some (Value.int .i64 acts[k].st) at k7
   change _=some (Value.int .i64 acts[k].at_) at k8
   change _=some (Value.int .i32 acts[k].ch) at k9
   clear hLies;generalize acts[k]=x at *
   have hba:Below wr.heap.size wr (wr.alloc (.cells #[.int .u8 x.kd,.int .i64 x.o.k,.int .i64 x.o.c,.int .i64 x.o.s,.int .i64 x.o.a,.int .i64 x.o.n,.int .i32 x.o.ch,.int .i64 x.st,.int .i64 x.at_,.int .i32 x.ch] 47)):=(Below.refl _ _).alloc (Nat.le_refl _) _;have HA1:=Lh (And.intro (hP.next hba) (show Blk (wr.alloc (.cells #[.int .u8 x.kd,.int .i64 x.o.k,.int .i64 x.o.c,.int .i64 x.o.s,.int .i64 x.o.a,.int .i64 x.o.n,.int .i32 x.o.ch,.int .i64 x.st,.int .i64 x.at_,.int .i32 x.ch] 47)) wr.heap.size [.int .u8 x.kd,.int .i64 x.o.k,.int .i64 x.o.c,.int .i64 x.o.s,.int .i64 x.o.a,.int .i64 x.o.n,.int .i32 x.o.ch,.int .i64 x.st,.int .i64 x.at_,.int .i32 x.ch] 47 from Blk.start wr _ _));clear hP
   go_upto_region 9 with fail
   obtain ⟨Bo,hBo⟩:∃ Bo,Bo=wr.heap.size:=⟨_,rfl⟩
   generalize wr.alloc (.cells #[.int .u8 x.kd,.int .i64 x.o.k,.int .i64 x.o.c,.int .i64 x.o.s,.int .i64 x.o.a,.int .i64 x.o.n,.int .i32 x.o.ch,.int .i64 x.st,.int .i64 x.at_,.int .i32 x.ch] 47)=W1 at *
   rw [←hBo] at HA1 ⊢;clear hBo hba k0 k1 k2 k3 k4 k5 k6 k7 k8 k9
   go_upto_if 32 with fail
   go_cut [6,7,8,24] from 24 to 87 (fun tv xv qv tk wx=>tk=.int .i64 (k:Int)∧∃ (r:List Int) (q:Nat) (L:List Chg),xv=.string (Bw9 r)∧qv=.int .i64 (q:Int)∧Hid (VOk m l k∧ChO m∧Ev9 r q m L)∧Hid (r.length≤1000)∧E9 w [c0,c1,c2,c3,c4,c5,c6,c7] m l tv L wx∧Blk wx Bo [.int .u8 x.kd,.int .i64 x.o.k,.int .i64 x.o.c,.int .i64 x.o.s,.int .i64 x.o.a,.int .i64 x.o.n,.int .i32 x.o.ch,.int .i64 x.st,.int .i64 x.at_,.int .i32 x.ch] 47)
   case first=>
    by_cases hkf:(k:Int)=fr
    ·have hkf':((k:Int)==fr)=true:=by simpa using hkf
     have HTX:=Lh (fun (c0 c1 c2 c3 c4 c5 c6 c7:Value) W (h:IsV W m l [c0,c1,c2,c3,c4,c5,c6,c7]) (h2:Tabs W)=>HH.out.1.txt m l k c0 c1 c2 c3 c4 c5 c6 c7 W HV.out.1 (by omega) h h2);rw [txS9] at HTX;have HSQ:=Lh (fun (c0 c1 c2 c3 c4 c5 c6 c7:Value) W (h:IsV W m l [c0,c1,c2,c3,c4,c5,c6,c7])=>HH.out.1.seq m l k c0 c1 c2 c3 c4 c5 c6 c7 W HV.out.1 (by omega) h);clear hkf;go_wp2_with fail
     have hdum:=trivial;refine rgH (fun W=>Cc8 W w.heap.size c0 c1 c2 c3 c4 c5 c6 c7 ((E9 w [c0,c1,c2,c3,c4,c5,c6,c7] m l u6 L W∧Blk W Bo [.int .u8 x.kd,.int .i64 x.o.k,.int .i64 x.o.c,.int .i64 x.o.s,.int .i64 x.o.a,.int .i64 x.o.n,.int .i32 x.o.ch,.int .i64 x.st,.int .i64 x.at_,.int .i32 x.ch] 47))) (let h:=(And.intro (HA1.out.1.next bD) (HA1.out.2.next bD)); (h.1.a.bv.d8 h)) fun hH=>?_
     clear hdum HA1;refine tq 0 (.agg #[c0,c1,c2,c3,c4,c5,c6,c7]) hH ?_;refine tq 2 (.agg #[c0,c1,c2,c3,c4,c5,c6,c7]) hH ?_;refine rd1 1 (by kernel_rfl) rfl fun KK hK=>?_
     go_simp
     refine (HTX.out c0 c1 c2 c3 c4 c5 c6 c7 _ hH.2.2.2.2.2.2.2.2.1.a.iv (HPT.out.2.next hH.2.2.2.2.2.2.2.2.1.a.bel)).mono ?_
     rintro e' u1 ⟨rfl,hb⟩
     go_wp2_with fail
     refine hK.out _ _ ((let h:=(And.intro (hH.2.2.2.2.2.2.2.2.1.next hb) (hH.2.2.2.2.2.2.2.2.2.next hb)); (h.1.a.bv.d8 h))) (fun hH2=>?_);clear hK KK hH hb;have hH:=hH2;clear hH2
     try simp only [LAY]
     refine rd1 3 (by kernel_rfl) rfl fun KK hK=>?_
     go_simp
     refine (HSQ.out c0 c1 c2 c3 c4 c5 c6 c7 _ hH.2.2.2.2.2.2.2.2.1.a.iv).mono ?_
     rintro e' u1 ⟨rfl,hb⟩
     go_wp2_with fail
     refine hK.out _ _ ((let h:=(And.intro (hH.2.2.2.2.2.2.2.2.1.next hb) (hH.2.2.2.2.2.2.2.2.2.next hb)); (h.1.a.bv.d8 h))) (fun hH2=>?_);clear hK KK hH hb;have hH:=hH2;clear hH2
     try simp only [LAY]
     refine tq 4 (.slice none 0 0) hH ?_;refine tq 5 (.string (Bw9 (alv (docR m)))) hH ?_;refine tq 6 (.int .i64 ((m.length:Int))) hH ?_;refine dnH ?_;have HB:=Lh hH.2.2.2.2.2.2.2.2;clear hH;go_wp2_with fail
     go_meet
     exact ⟨rfl,_,_,[],rfl,rfl,Lh ⟨HV.out.1,HV.out.2.1,Ev9.start HV.out.1.ok.gd HV.out.2.1⟩,Lh (by rw [alv_len]; have h1:=alive_le (docR m); have h2:=docR_len m; have h3:=row_len HV.out.1.ok.gd; have h4:=HV.out.1.len; omega),HB.out.1.fresh,HB.out.2⟩
    ·have hkf':((k:Int)==fr)=false:=by simpa using hkf
     clear hkf;go_wp2_with fail
     go_meet
     exact ⟨rfl,r,q,L,rfl,rfl,HV,HRL,HA1.out.1,HA1.out.2⟩
   case rest=>
   clear HA1 HV HRL;obtain ⟨rfl,r,q,L,rfl,rfl,HV,HRL,hP,hX⟩:=hcut;have HA1:=Lh hP;have HXB:=Lh hX;obtain ⟨z0,z1,z2,z3,z4,z5,z6,z7,z8,z9⟩:=HXB.out.c10;clear hP hX;generalize wc=wr at *
   go_upto_block 2 with fail
   go_cut [11,24] from 24 to 87 (fun cv tk wx=>tk=.int .i64 (k:Int)∧∃ (d0 d1 d2 d3 d4 d5 d6 d7:Value) (m2 l2:List Oq) (C:List Chg) (ac:Option Addr) (cc:Nat),cv=.slice ac C.length cc∧Hid (VOk m2 l2 (k+1)∧ChO m2∧Ev9 r q m2 (L++C))∧E9 w [d0,d1,d2,d3,d4,d5,d6,d7] m2 l2 u6 L wx∧IsVC wx cv C)
   case first=>
    have HRM:=Lh (fun W (h:IsV W m l [c0,c1,c2,c3,c4,c5,c6,c7])=>HH.out.1.rm m l k x.o c0 c1 c2 c3 c4 c5 c6 c7 W HV.out.1 (by omega) h);have HIN:=Lh (fun W (h:IsV W m l [c0,c1,c2,c3,c4,c5,c6,c7])=>HH.out.1.ins m l k x.st x.at_ x.ch x.lo x.hi c0 c1 c2 c3 c4 c5 c6 c7 W HV.out.1 (by omega) x.a0 x.a1 h);have HDE:=Lh (fun W (h:IsV W m l [c0,c1,c2,c3,c4,c5,c6,c7])=>HH.out.1.del m l k x.at_ c0 c1 c2 c3 c4 c5 c6 c7 W HV.out.1 (by omega) x.a0 x.a1 h);by_cases h0:x.kd=0
    ·have e0:(x.kd==0)=true:=by simpa using h0
     clear h0;obtain ⟨v0,v1,v2,v3,v4,v5,v6,v7⟩:=HA1.out.a.bv.c8;go_wp2_with (go_at_call 7; refine (HRM.out _ HA1.out.a.iv).mono ?_; rintro e w1 ⟨hb,d0,d1,d2,d3,d4,d5,d6,d7,lc,rfl,hiv,hic⟩; obtain ⟨al,pl,rfl,hd1,hd2⟩:=hic.form; refine Hid.out ?_)
     have hon:=hiv.one;have sd0:=fun (W:World) (a:Addr) (md:Mode)=>run_store Tryz.prog W a d0 md (hon d0 (by simp))
     have sd1:=fun (W:World) (a:Addr) (md:Mode)=>run_store Tryz.prog W a d1 md (hon d1 (by simp))
     have sd2:=fun (W:World) (a:Addr) (md:Mode)=>run_store Tryz.prog W a d2 md (hon d2 (by simp))
     have sd3:=fun (W:World) (a:Addr) (md:Mode)=>run_store Tryz.prog W a d3 md (hon d3 (by simp))
     have sd4:=fun (W:World) (a:Addr) (md:Mode)=>run_store Tryz.prog W a d4 md (hon d4 (by simp))
     have sd5:=fun (W:World) (a:Addr) (md:Mode)=>run_store Tryz.prog W a d5 md (hon d5 (by simp))
     have sd6:=fun (W:World) (a:Addr) (md:Mode)=>run_store Tryz.prog W a d6 md (hon d6 (by simp))
     have sd7:=fun (W:World) (a:Addr) (md:Mode)=>run_store Tryz.prog W a d7 md (hon d7 (by simp))
     have HA2:=Lh (HA1.out.next hb);have HIV:=Lh (And.intro hiv hic);clear HA1 hb hiv hic hon hd1 hd2 v0 v1 v2 v3 v4 v5 v6 v7;obtain ⟨n0,n1,n2,n3,n4,n5,n6,n7⟩:=HA2.out.a.bv.c8;obtain ⟨fn0,fn1,fn2,fn3,fn4,fn5,fn6,fn7⟩:=HA2.out.a.bv.f8;have HA3:=Lh (HA2.out.put HIV.out.1 HIV.out.2)
     change Hid (E9 _ _ _ _ _ _ ((((((((w1.setCell ⟨w.heap.size,0,none⟩ (d0)).setCell ⟨w.heap.size,1,none⟩ (d1)).setCell ⟨w.heap.size,2,none⟩ (d2)).setCell ⟨w.heap.size,3,none⟩ (d3)).setCell ⟨w.heap.size,4,none⟩ (d4)).setCell ⟨w.heap.size,5,none⟩ (d5)).setCell ⟨w.heap.size,6,none⟩ (d6)).setCell ⟨w.heap.size,7,none⟩ (d7))∧IsVC ((((((((w1.setCell ⟨w.heap.size,0,none⟩ (d0)).setCell ⟨w.heap.size,1,none⟩ (d1)).setCell ⟨w.heap.size,2,none⟩ (d2)).setCell ⟨w.heap.size,3,none⟩ (d3)).setCell ⟨w.heap.size,4,none⟩ (d4)).setCell ⟨w.heap.size,5,none⟩ (d5)).setCell ⟨w.heap.size,6,none⟩ (d6)).setCell ⟨w.heap.size,7,none⟩ (d7)) _ _) at HA3
     generalize hWC:(((((((w1.setCell ⟨w.heap.size,0,none⟩ (d0)).setCell ⟨w.heap.size,1,none⟩ (d1)).setCell ⟨w.heap.size,2,none⟩ (d2)).setCell ⟨w.heap.size,3,none⟩ (d3)).setCell ⟨w.heap.size,4,none⟩ (d4)).setCell ⟨w.heap.size,5,none⟩ (d5)).setCell ⟨w.heap.size,6,none⟩ (d6)).setCell ⟨w.heap.size,7,none⟩ (d7)=w2 at *
     refine Lh ?_;go_wp2_with fail
     go_meet
     exact ⟨rfl,_,_,_,_,_,_,_,_,(remT m l x.o).1,(remT m l x.o).2.1,(remT m l x.o).2.2,al,pl,rfl,Lh ⟨HV.out.1.rem x.o,ch_rem HV.out.2.1 x.o,HV.out.2.2.step (rem_do HV.out.1.ok x.o)⟩,HA3.out.1,HA3.out.2⟩
    by_cases h1:x.kd=1
    ·have e0:(x.kd==0)=false:=by simpa using h0
     have e1:(x.kd==1)=true:=by simpa using h1
     clear h0 h1;obtain ⟨v0,v1,v2,v3,v4,v5,v6,v7⟩:=HA1.out.a.bv.c8;go_wp2_with (go_at_call 8; refine (HIN.out _ HA1.out.a.iv).mono ?_; rintro e w1 ⟨hb,d0,d1,d2,d3,d4,d5,d6,d7,lc,x9,-,rfl,hiv,hic⟩; obtain ⟨al,pl,rfl,hd1,hd2⟩:=hic.form; refine Hid.out ?_)
     have hon:=hiv.one;have sd0:=fun (W:World) (a:Addr) (md:Mode)=>run_store Tryz.prog W a d0 md (hon d0 (by simp))
     have sd1:=fun (W:World) (a:Addr) (md:Mode)=>run_store Tryz.prog W a d1 md (hon d1 (by simp))
     have sd2:=fun (W:World) (a:Addr) (md:Mode)=>run_store Tryz.prog W a d2 md (hon d2 (by simp))
     have sd3:=fun (W:World) (a:Addr) (md:Mode)=>run_store Tryz.prog W a d3 md (hon d3 (by simp))
     have sd4:=fun (W:World) (a:Addr) (md:Mode)=>run_store Tryz.prog W a d4 md (hon d4 (by simp))
     have sd5:=fun (W:World) (a:Addr) (md:Mode)=>run_store Tryz.prog W a d5 md (hon d5 (by simp))
     have sd6:=fun (W:World) (a:Addr) (md:Mode)=>run_store Tryz.prog W a d6 md (hon d6 (by simp))
     have sd7:=fun (W:World) (a:Addr) (md:Mode)=>run_store Tryz.prog W a d7 md (hon d7 (by simp))
     have HA2:=Lh (HA1.out.next hb);have HIV:=Lh (And.intro hiv hic);clear HA1 hb hiv hic hon hd1 hd2 v0 v1 v2 v3 v4 v5 v6 v7;obtain ⟨n0,n1,n2,n3,n4,n5,n6,n7⟩:=HA2.out.a.bv.c8;obtain ⟨fn0,fn1,fn2,fn3,fn4,fn5,fn6,fn7⟩:=HA2.out.a.bv.f8;have HA3:=Lh (HA2.out.put HIV.out.1 HIV.out.2)
     change Hid (E9 _ _ _ _ _ _ ((((((((w1.setCell ⟨w.heap.size,0,none⟩ (d0)).setCell ⟨w.heap.size,1,none⟩ (d1)).setCell ⟨w.heap.size,2,none⟩ (d2)).setCell ⟨w.heap.size,3,none⟩ (d3)).setCell ⟨w.heap.size,4,none⟩ (d4)).setCell ⟨w.heap.size,5,none⟩ (d5)).setCell ⟨w.heap.size,6,none⟩ (d6)).setCell ⟨w.heap.size,7,none⟩ (d7))∧IsVC ((((((((w1.setCell ⟨w.heap.size,0,none⟩ (d0)).setCell ⟨w.heap.size,1,none⟩ (d1)).setCell ⟨w.heap.size,2,none⟩ (d2)).setCell ⟨w.heap.size,3,none⟩ (d3)).setCell ⟨w.heap.size,4,none⟩ (d4)).setCell ⟨w.heap.size,5,none⟩ (d5)).setCell ⟨w.heap.size,6,none⟩ (d6)).setCell ⟨w.heap.size,7,none⟩ (d7)) _ _) at HA3
     generalize hWC:(((((((w1.setCell ⟨w.heap.size,0,none⟩ (d0)).setCell ⟨w.heap.size,1,none⟩ (d1)).setCell ⟨w.heap.size,2,none⟩ (d2)).setCell ⟨w.heap.size,3,none⟩ (d3)).setCell ⟨w.heap.size,4,none⟩ (d4)).setCell ⟨w.heap.size,5,none⟩ (d5)).setCell ⟨w.heap.size,6,none⟩ (d6)).setCell ⟨w.heap.size,7,none⟩ (d7)=w2 at *
     refine Lh ?_;go_wp2_with fail
     go_meet
     exact ⟨rfl,_,_,_,_,_,_,_,_,(inT8 m l x.st x.at_ x.ch x.lo x.hi).1,(inT8 m l x.st x.at_ x.ch x.lo x.hi).2.1,(inT8 m l x.st x.at_ x.ch x.lo x.hi).2.2,al,pl,rfl,Lh ⟨HV.out.1.ins x.st x.at_ x.ch x.lo x.hi,ch_ins9 HV.out.2.1 x.st x.at_ x.ch x.lo x.hi,HV.out.2.2.step (ins_do HV.out.1.ok x.st x.at_ x.ch x.lo x.hi)⟩,HA3.out.1,HA3.out.2⟩
    by_cases h2:x.kd=2
    ·have e0:(x.kd==0)=false:=by simpa using h0
     have e1:(x.kd==1)=false:=by simpa using h1
     have e2:(x.kd==2)=true:=by simpa using h2
     clear h0 h1 h2;obtain ⟨v0,v1,v2,v3,v4,v5,v6,v7⟩:=HA1.out.a.bv.c8;go_wp2_with (go_at_call 9; refine (HDE.out _ HA1.out.a.iv).mono ?_; rintro e w1 ⟨hb,d0,d1,d2,d3,d4,d5,d6,d7,lc,x9,-,rfl,hiv,hic⟩; obtain ⟨al,pl,rfl,hd1,hd2⟩:=hic.form; refine Hid.out ?_)
     have hon:=hiv.one;have sd0:=fun (W:World) (a:Addr) (md:Mode)=>run_store Tryz.prog W a d0 md (hon d0 (by simp))
     have sd1:=fun (W:World) (a:Addr) (md:Mode)=>run_store Tryz.prog W a d1 md (hon d1 (by simp))
     have sd2:=fun (W:World) (a:Addr) (md:Mode)=>run_store Tryz.prog W a d2 md (hon d2 (by simp))
     have sd3:=fun (W:World) (a:Addr) (md:Mode)=>run_store Tryz.prog W a d3 md (hon d3 (by simp))
     have sd4:=fun (W:World) (a:Addr) (md:Mode)=>run_store Tryz.prog W a d4 md (hon d4 (by simp))
     have sd5:=fun (W:World) (a:Addr) (md:Mode)=>run_store Tryz.prog W a d5 md (hon d5 (by simp))
     have sd6:=fun (W:World) (a:Addr) (md:Mode)=>run_store Tryz.prog W a d6 md (hon d6 (by simp))
     have sd7:=fun (W:World) (a:Addr) (md:Mode)=>run_store Tryz.prog W a d7 md (hon d7 (by simp))
     have HA2:=Lh (HA1.out.next hb);have HIV:=Lh (And.intro hiv hic);clear HA1 hb hiv hic hon hd1 hd2 v0 v1 v2 v3 v4 v5 v6 v7;obtain ⟨n0,n1,n2,n3,n4,n5,n6,n7⟩:=HA2.out.a.bv.c8;obtain ⟨fn0,fn1,fn2,fn3,fn4,fn5,fn6,fn7⟩:=HA2.out.a.bv.f8;have HA3:=Lh (HA2.out.put HIV.out.1 HIV.out.2)
     change Hid (E9 _ _ _ _ _ _ ((((((((w1.setCell ⟨w.heap.size,0,none⟩ (d0)).setCell ⟨w.heap.size,1,none⟩ (d1)).setCell ⟨w.heap.size,2,none⟩ (d2)).setCell ⟨w.heap.size,3,none⟩ (d3)).setCell ⟨w.heap.size,4,none⟩ (d4)).setCell ⟨w.heap.size,5,none⟩ (d5)).setCell ⟨w.heap.size,6,none⟩ (d6)).setCell ⟨w.heap.size,7,none⟩ (d7))∧IsVC ((((((((w1.setCell ⟨w.heap.size,0,none⟩ (d0)).setCell ⟨w.heap.size,1,none⟩ (d1)).setCell ⟨w.heap.size,2,none⟩ (d2)).setCell ⟨w.heap.size,3,none⟩ (d3)).setCell ⟨w.heap.size,4,none⟩ (d4)).setCell ⟨w.heap.size,5,none⟩ (d5)).setCell ⟨w.heap.size,6,none⟩ (d6)).setCell ⟨w.heap.size,7,none⟩ (d7)) _ _) at HA3
     generalize hWC:(((((((w1.setCell ⟨w.heap.size,0,none⟩ (d0)).setCell ⟨w.heap.size,1,none⟩ (d1)).setCell ⟨w.heap.size,2,none⟩ (d2)).setCell ⟨w.heap.size,3,none⟩ (d3)).setCell ⟨w.heap.size,4,none⟩ (d4)).setCell ⟨w.heap.size,5,none⟩ (d5)).setCell ⟨w.heap.size,6,none⟩ (d6)).setCell ⟨w.heap.size,7,none⟩ (d7)=w2 at *
     refine Lh ?_;go_wp2_with fail
     go_meet
     exact ⟨rfl,_,_,_,_,_,_,_,_,(deT8 m l x.at_).1,(deT8 m l x.at_).2.1,(deT8 m l x.at_).2.2,al,pl,rfl,Lh ⟨HV.out.1.del x.at_,ch_dl9 HV.out.2.1 x.at_,HV.out.2.2.step (del_do HV.out.1.ok x.at_)⟩,HA3.out.1,HA3.out.2⟩
    have e0:(x.kd==0)=false:=by simpa using h0
    have e1:(x.kd==1)=false:=by simpa using h1
    have e2:(x.kd==2)=false:=by simpa using h2
    clear h0 h1 h2;go_wp2_with fail
    go_meet
    exact ⟨rfl,_,_,_,_,_,_,_,_,m,l,[],none,0,rfl,Lh ⟨HV.out.1.more (by omega),HV.out.2.1,by rw [List.append_nil]; exact HV.out.2.2⟩,HA1.out,.inl ⟨rfl,rfl⟩⟩
   case rest=>
   obtain ⟨rfl,d0,d1,d2,d3,d4,d5,d6,d7,m2,l2,C,ac,cc,rfl,HV2,hP,hC⟩:=hcut;have HP:=Lh (And.intro hP hC);obtain ⟨_,_,he9,hc1,hc2⟩:=hC.form
   cases he9
   have hsz:L.length+C.length≤1000:=by have h1:=HV2.out.2.2.n; have h2:=HV2.out.1.len; rw [List.length_append] at h1; omega
   clear HA1 HXB HV hP hC z0 z1 z2 z3 z4 z5 z6 z7 z8 z9;generalize wc=wr at *
   go_wp2_with fail
   go_loopg [6,77] C.length (fun g tv ti wr=>∃ j:Nat,j≤C.length∧g=C.length-j∧ti=.int .i64 (j:Int)∧E9 w [d0,d1,d2,d3,d4,d5,d6,d7] m2 l2 tv (L++C.take j) wr∧IsVC wr (.slice ac C.length cc) C)
   case atStart=>exact ⟨0,Nat.zero_le _,rfl,rfl,by simpa using HP.out.1,HP.out.2⟩
   case round=>
    obtain ⟨j,hj,rfl,rfl,hE,hI⟩:=hrel;clear HP;by_cases hlj:j<C.length
    ·obtain ⟨g1,rfl,hg1,hC1⟩:=chg_cell hI j hlj
     obtain ⟨x0,x1,x2,x3,x4,x5⟩:=hC1 wr (Below.refl _ _);have htk:L++C.take (j+1)=(L++C.take j)++[C[j]]:=by rw [List.take_succ_eq_append_getElem hlj,List.append_assoc]
     have hTK:=Lh htk;generalize C[j]=y at *
     have hln:(L++C.take j).length≤1000:=by rw [List.length_append,List.length_take]; omega
     generalize L++C.take j=M at *
     obtain ⟨i0,hi0,hz0,hz1,hz2⟩:=info_parts infoE;have hb1:Below wr.heap.size wr (wr.alloc (.cells #[.int .i64 y.q,.int .i64 y.a,.int .i64 y.c,.int .i64 y.s,.int .i32 y.ch,.bool y.d] 58)):=(Below.refl _ _).alloc (Nat.le_refl _) _;have hb2:Below wr.heap.size wr ((wr.alloc (.cells #[.int .i64 y.q,.int .i64 y.a,.int .i64 y.c,.int .i64 y.s,.int .i32 y.ch,.bool y.d] 58)).alloc (.cells #[.iface 58 (.agg #[.int .i64 y.q,.int .i64 y.a,.int .i64 y.c,.int .i64 y.s,.int .i32 y.ch,.bool y.d])] 20)):=hb1.alloc (by simp) _;have HE2:=Lh (And.intro (hE.next hb2) (hI.next hb2));have hnw:∀ j u,(thL (.chg y))[j]? = some u→((wr.alloc (.cells #[.int .i64 y.q,.int .i64 y.a,.int .i64 y.c,.int .i64 y.s,.int .i32 y.ch,.bool y.d] 58)).alloc (.cells #[.iface 58 (.agg #[.int .i64 y.q,.int .i64 y.a,.int .i64 y.c,.int .i64 y.s,.int .i32 y.ch,.bool y.d])] 20)).cell? ((⟨wr.heap.size+1,0,none⟩:Addr).add j)=some u:=by
      have h:=cells_new (wr.alloc (.cells #[.int .i64 y.q,.int .i64 y.a,.int .i64 y.c,.int .i64 y.s,.int .i32 y.ch,.bool y.d] 58)) (thL (.chg y)) 20
      rwa [show (wr.alloc (.cells #[.int .i64 y.q,.int .i64 y.a,.int .i64 y.c,.int .i64 y.s,.int .i32 y.ch,.bool y.d] 58)).heap.size=wr.heap.size+1 from by simp] at h
     have hsw:w.heap.size+1≤((wr.alloc (.cells #[.int .i64 y.q,.int .i64 y.a,.int .i64 y.c,.int .i64 y.s,.int .i32 y.ch,.bool y.d] 58)).alloc (.cells #[.iface 58 (.agg #[.int .i64 y.q,.int .i64 y.a,.int .i64 y.c,.int .i64 y.s,.int .i32 y.ch,.bool y.d])] 20)).heap.size:=by have:=hE.a.bv.lt; simp; omega
     clear hb1 hb2 hE hI hC1 htk;go_wp2_with (at_builtin; refine wpList_append_own _ rfl _ _ 40 rfl (w.heap.size+1) 20 i0 .nilIface 1 16 Tryz.underlying40 hi0 hz0 hz1 hz2 rfl (by decide) _ (M.map Th.chg).length ((M.map Th.chg).flatMap thL) rfl HE2.out.1.own ⟨wr.heap.size+1,0,none⟩ 1 1 (thL (.chg y)) rfl rfl hnw (th_one _) (by unfold maxLen; rw [List.length_map]; omega) (by rw [List.length_map]; omega) hsw ?_; intro v' w3 hown3 hgrow hnil; refine Hid.out ?_)
     have HE3:=Lh (And.intro (HE2.out.1.appended y hown3 hgrow) (Sl.kt (KT.apart HE2.out.1.own (by decide) hgrow) HE2.out.2));clear HE2 hown3 hgrow hnil hnw hsw x0 x1 x2 x3 x4 x5;refine Lh ?_;go_wp2_with fail
     go_roundg (C.length-(j+1))
     case measure=>omega
     case rel=>exact ⟨j+1,by omega,rfl,by go_num,by rw [hTK.out]; exact HE3.out.1,HE3.out.2⟩
    ·obtain rfl:j=C.length:=by omega
     have hE':E9 w [d0,d1,d2,d3,d4,d5,d6,d7] m2 l2 u6 (L++C) wr:=by rw [List.take_length] at hE; exact hE
     have HE:=Lh hE';clear hE hI hE';go_wp2_with fail
     go_roundg (acts.length-(k+1))
     case measure=>omega
     case rel=>exact ⟨k+1,by omega,rfl,by go_num,_,_,_,_,_,_,_,_,m2,l2,r,q,L++C,rfl,rfl,HV2,HRL,HE.out⟩
  ·obtain rfl:k=acts.length:=by omega
   have HP:=Lh hP;have hlen:=HV.out.1.len;have hev:=HV.out.2.2;have hTc:∀ r∈alv (docR m),ChrB r:=ch_row HV.out.1.ok.gd HV.out.2.1;have hq:=hev.n;have hfo:Fo9 (q:Int) (L.map .chg) (m.length:Int):=by
    have h:=fo_sq L (q:Int) hev.s
    rwa [show (q:Int)+(L.length:Int)=(m.length:Int) by omega] at h
   have hrl:r.length≤1000:=HRL.out;have HFO:=Lh (fun W (h:IsT9 W u6 (L.map .chg))=>HH.out.2.1.fo (L.map .chg) (q:Int) (m.length:Int) u6 W hfo (by omega) (by omega) (by rw [List.length_map]; omega) h);have HRE:=Lh (fun W (h:IsT9 W u6 (L.map .chg))=>HH.out.2.1.re r (alv (docR m)) L u6 W hev.d hev.c hTc hrl (by omega) h);have HTX:=Lh (fun (c0 c1 c2 c3 c4 c5 c6 c7:Value) W (h:IsV W m l [c0,c1,c2,c3,c4,c5,c6,c7]) (h2:Tabs W)=>HH.out.1.txt m l acts.length c0 c1 c2 c3 c4 c5 c6 c7 W HV.out.1 (by omega) h h2);rw [txS9] at HTX;have HSQ:=Lh (fun (c0 c1 c2 c3 c4 c5 c6 c7:Value) W (h:IsV W m l [c0,c1,c2,c3,c4,c5,c6,c7])=>HH.out.1.seq m l acts.length c0 c1 c2 c3 c4 c5 c6 c7 W HV.out.1 (by omega) h);generalize alv (docR m)=T at *
   clear hP hTc hev hq hfo hrl HV;go_wp2_with (go_at_call 10; refine (HFO.out _ HP.out.isT).mono ?_; rintro e w1 ⟨rfl,hb⟩; refine Hid.out ?_)
   have HP1:=Lh (HP.out.next hb);clear HP hb HFO;refine Lh ?_;go_wp2_with (go_at_call 11; refine (HRE.out _ HP1.out.isT).mono ?_; rintro e w2 ⟨rfl,hb⟩; refine Hid.out ?_)
   have HP2:=Lh (HP1.out.next hb);clear HP1 hb HRE;refine Lh ?_;go_wp2_with (go_at_call 4; refine (HH.out.2.2 _ (HPT.out.1.next HP2.out.a.bel) (HPT.out.2.next HP2.out.a.bel)).mono ?_; rintro e w3 ⟨rfl,hb⟩; refine Hid.out ?_)
   have HP3:=Lh (HP2.out.next hb);clear HP2 hb;obtain ⟨v0,v1,v2,v3,v4,v5,v6,v7⟩:=HP3.out.a.bv.c8;refine Lh ?_;go_wp2_with (go_at_call 6; refine (HSQ.out c0 c1 c2 c3 c4 c5 c6 c7 _ HP3.out.a.iv).mono ?_; rintro e w4 ⟨rfl,hb⟩; refine Hid.out ?_)
   have HP4:=Lh (HP3.out.next hb);clear HP3 hb v0 v1 v2 v3 v4 v5 v6 v7;obtain ⟨v0,v1,v2,v3,v4,v5,v6,v7⟩:=HP4.out.a.bv.c8;refine Lh ?_;go_wp2_with (go_at_call 5; refine (HTX.out c0 c1 c2 c3 c4 c5 c6 c7 _ HP4.out.a.iv (HPT.out.2.next HP4.out.a.bel)).mono ?_; rintro e w5 ⟨rfl,hb⟩)
   go_ret
   exact ⟨rfl,HP4.out.a.bel.trans (hb.mono HP4.out.a.bel.size)⟩
theorem awake9_any (HE:EAll) (hAw:Awake8Ok):Awake9Ok:=by
 intro w hp ht
 have HPT:=Lh (And.intro hp ht);have HK:=Lh (And.intro HE.ki hAw);have hB:Below w.heap.size w (w.alloc (.cells #[(Th.chg ⟨1,0,0,0,97,false⟩).val,(Th.lag 2 4).val] 20)):=(Below.refl _ _).alloc (Nat.le_refl _) _;have HF:=Lh (And.intro hB (HE.fo [.chg ⟨1,0,0,0,97,false⟩,.lag 2 4] 0 4 (.slice (some ⟨w.heap.size,0,none⟩) 2 2) (w.alloc (.cells #[(Th.chg ⟨1,0,0,0,97,false⟩).val,(Th.lag 2 4).val] 20)) ⟨rfl,rfl,by decide,by decide,rfl⟩ (by decide) (by decide) (by decide)
  (.inr ⟨w.heap.size,2,#[(Th.chg ⟨1,0,0,0,97,false⟩).val,(Th.lag 2 4).val],rfl,Blk.start w [(Th.chg ⟨1,0,0,0,97,false⟩).val,(Th.lag 2 4).val] _,by decide,by decide,rfl⟩)))
 clear HE hAw hp ht hB
 go_enter Tryz.func4,Tryz.ntmps4
 go_wp2_with (go_at_call 10; refine HF.out.2.mono ?_; rintro e w1 ⟨rfl,hb⟩; refine Hid.out ?_)
 have HB:=Lh (HF.out.1.trans (hb.mono HF.out.1.size));clear HF hb;refine Lh ?_;go_wp2_with (go_at_call 12; refine (HK.out.2 _ (HPT.out.1.next HB.out) (HPT.out.2.next HB.out)).mono ?_; rintro e w2 ⟨rfl,hb⟩; refine Hid.out ?_)
 have HB2:=Lh (HB.out.trans (hb.mono HB.out.size));clear HB hb;refine Lh ?_;go_wp2_with (go_at_call 13; refine (HK.out.1 _).mono ?_; rintro e w3 ⟨rfl,hb⟩)
 go_ret
 exact ⟨rfl,HB2.out.trans (hb.mono HB2.out.size)⟩
end Go.Proofs.YtkmcoineknbgcaaGreatDoor
