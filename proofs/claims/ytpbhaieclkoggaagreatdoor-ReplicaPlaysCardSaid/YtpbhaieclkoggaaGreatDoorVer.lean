import Derived.Test.YtpbhaieclkoggaaGreatDoorVq
import Derived.Test.YtpbhaieclkoggaaGreatDoorAb
set_option maxRecDepth 100000
set_option maxHeartbeats 12800000
namespace Go.Proofs.YtpbhaieclkoggaaGreatDoor
open Go Go.Proofs Go.RowKit
theorem In8.putD {w:World} {vc rc xc:List Value} {d:Nat} {W:World} (h:In8 w vc rc xc W) (hd:w.heap.size+1+1<d) (xs:List Value):In8 w vc rc xc (setN W d 0 xs):=⟨setN_below (by omega) xs 0 h.bel,h.bv.setN (by omega) xs 0,h.br.setN (by omega) xs 0,h.bx.setN (by omega) xs 0⟩
theorem inC8_at {m l:List Oq} {site at_ ch:Int} (h:inC8 m l site at_ ch=0):0≤at_:=by
 unfold inC8 at h
 split at h
 ·omega
 ·omega
theorem vinsert_ok:VInsertOk:=by
 intro m l n site at_ ch lo hi c0 c1 c2 c3 c4 c5 c6 c7 w hV hn hk0 hk1 hS
 have H0:=Lh (In8.start w [c0,c1,c2,c3,c4,c5,c6,c7] [.pointer none,.pointer none,.int .i64 0,.slice none 0 0,.int .i64 0,.int .i64 0,.complex .f64 0 0,.complex .f64 0 0] [.int .i64 0,.int .i64 0,.int .i64 0,.int .i64 0,.int .i64 0,.int .i32 0]);have HCI:=Lh (fun W h=>checkIns8_any m l n site at_ ch c0 c1 c2 c3 c4 c5 c6 c7 W hV hn (hS.next h));by_cases hc:inC8 m l site at_ ch=0
 rotate_left
 ·have hE1:inE8 m l site at_ ch lo hi=inC8 m l site at_ ch:=by unfold inE8; rw [if_pos hc]
  have hE2:inT8 m l site at_ ch lo hi=(m,l,[]):=by unfold inT8; rw [if_pos hc]
  have hE3:opP (inC8 m l site at_ ch) (inV8 m l site at_ ch lo hi)=zeroO:=by unfold opP; rw [if_neg hc]
  have hz:(inC8 m l site at_ ch==0)=false:=by simpa using hc
  rw [hE1];have HE:=Lh (And.intro hE3 hE2);have HRL:=Lh hV.rl;have HVS:=Lh hS;generalize inC8 m l site at_ ch=z at *
  generalize inV8 m l site at_ ch lo hi=dv at *
  generalize inT8 m l site at_ ch lo hi=RT at *
  clear hV hn hk0 hk1 hc hE1 hE2 hE3;have hon:=hS.one;have sdc0:=fun (W:World) (a:Addr) (md:Mode)=>run_store Tryz.prog W a c0 md (hon c0 (by simp))
  have sdc1:=fun (W:World) (a:Addr) (md:Mode)=>run_store Tryz.prog W a c1 md (hon c1 (by simp))
  have sdc2:=fun (W:World) (a:Addr) (md:Mode)=>run_store Tryz.prog W a c2 md (hon c2 (by simp))
  have sdc3:=fun (W:World) (a:Addr) (md:Mode)=>run_store Tryz.prog W a c3 md (hon c3 (by simp))
  have sdc4:=fun (W:World) (a:Addr) (md:Mode)=>run_store Tryz.prog W a c4 md (hon c4 (by simp))
  have sdc5:=fun (W:World) (a:Addr) (md:Mode)=>run_store Tryz.prog W a c5 md (hon c5 (by simp))
  have sdc6:=fun (W:World) (a:Addr) (md:Mode)=>run_store Tryz.prog W a c6 md (hon c6 (by simp))
  have sdc7:=fun (W:World) (a:Addr) (md:Mode)=>run_store Tryz.prog W a c7 md (hon c7 (by simp))
  clear hon;clear hS;have v0 := H0.out.bv.c8
  go_enter Tryz.func43,Tryz.ntmps43
  go_wp2_with (go_at_call 85; refine (HCI.out _ H0.out.bel).mono ?_; rintro e w1 ⟨rfl,hb⟩; refine Hid.out ?_)
  have H1:=Lh (H0.out.next hb);have HV1:=Lh ((HVS.out.next H0.out.bel).next hb);clear H0 HCI hb HVS v0;have HA7:=Lh (show In8 w [c0,c1,c2,c3,c4,c5,c6,c7] [c0,c1,c2,c3,c4,c5,c6,c7] [.int .i64 0,.int .i64 0,.int .i64 0,.int .i64 0,.int .i64 0,.int .i32 0] (setN (setN w1 (w.heap.size+1) 0 [c0,c1,c2,c3,c4,c5,c6,c7]) (w.heap.size+1+1) 0 [.int .i64 0,.int .i64 0,.int .i64 0,.int .i64 0,.int .i64 0,.int .i32 0])∧IsV (setN (setN w1 (w.heap.size+1) 0 [c0,c1,c2,c3,c4,c5,c6,c7]) (w.heap.size+1+1) 0 [.int .i64 0,.int .i64 0,.int .i64 0,.int .i64 0,.int .i64 0,.int .i32 0]) m l [c0,c1,c2,c3,c4,c5,c6,c7] from And.intro ((H1.out.putR [c0,c1,c2,c3,c4,c5,c6,c7]).putX [.int .i64 0,.int .i64 0,.int .i64 0,.int .i64 0,.int .i64 0,.int .i32 0]) (IsV.setO (x:=zeroO) (H1.out.putR [c0,c1,c2,c3,c4,c5,c6,c7]).bx (isv_set HV1.out H1.out.br (by decide) (by decide) (by decide) 0 _) HRL.out));simp only [setN] at HA7
  have v0 := H1.out.bv.c8;have zz0 := H1.out.br.c8;have fz0 := H1.out.br.f8;have xx0 := H1.out.bx.c6;have fx0 := H1.out.bx.f6;refine Lh ?_;go_wp2_with fail
  have y0 := HA7.out.1.br.c8;have u0 := HA7.out.1.bx.c6;exact bodyPost_ret (v:=.tuple #[.agg #[c0,c1,c2,c3,c4,c5,c6,c7],.agg #[.int .i64 0,.int .i64 0,.int .i64 0,.int .i64 0,.int .i64 0,.int .i32 0],.slice none 0 0,z]) (by simp [results, Tryz.results43, go_sem, y0, u0]) rfl ⟨HA7.out.1.bel,c0,c1,c2,c3,c4,c5,c6,c7,_,zeroO,by rw [HE.out.1],rfl,by rw [HE.out.2]; exact HA7.out.2,by rw [HE.out.2]; exact .inl ⟨rfl,rfl⟩⟩
 ·have hE1:inE8 m l site at_ ch lo hi=0:=by unfold inE8; rw [if_neg (by simp [hc]),ins_w hV.ok hV.rl lo hi hc]
  have hE2:inT8 m l site at_ ch lo hi=remT m l (inV8 m l site at_ ch lo hi):=by unfold inT8; rw [if_neg (by simp [hc])]
  have hat:=inC8_at hc;rw [hE1];have HE:=Lh (show opP 0 (inV8 m l site at_ ch lo hi)=inV8 m l site at_ ch lo hi from rfl);have HRL:=Lh (hV.rem (inV8 m l site at_ ch lo hi)).rl;have HO:=Lh (fun W (h:Below w.heap.size w W)=>own_any m l n (inV8 m l site at_ ch lo hi) c0 c1 c2 c3 c4 c5 c6 c7 W hV hn (hS.next h));rw [ins_w hV.ok hV.rl lo hi hc] at HO;have HNC:=Lh (fun W (h:Below w.heap.size w W)=>nextCtr_any m l n c0 c1 c2 c3 c4 c5 c6 c7 W hV hn (hS.next h));have HAN:=Lh (fun W (h:Below w.heap.size w W)=>vanchor_any m l n at_ c0 c1 c2 c3 c4 c5 c6 c7 W hV hn hat hk1 (hS.next h));rw [hc] at HCI;rw [←hE2] at HO HRL;have hdk:(inV8 m l site at_ ch lo hi).k=0:=rfl;have hdc:(inV8 m l site at_ ch lo hi).c=ctrI m l:=rfl;have hds:(inV8 m l site at_ ch lo hi).s=site:=rfl;have hda:(inV8 m l site at_ ch lo hi).a=(namC (docR m) (at_ - 1)).1:=by
   show (if 0<at_ then (namC (docR m) (at_ - 1)).1 else 0)=_
   by_cases h:0<at_
   ·rw [if_pos h]
   ·rw [if_neg h,nam_none (by omega)]
  have hdn:(inV8 m l site at_ ch lo hi).n=(namC (docR m) (at_ - 1)).2:=by
   show (if 0<at_ then (namC (docR m) (at_ - 1)).2 else 0)=_
   by_cases h:0<at_
   ·rw [if_pos h]
   ·rw [if_neg h,nam_none (by omega)]
  have hdh:(inV8 m l site at_ ch lo hi).ch=ch:=rfl;rw [hdk,hdc,hds,hda,hdn,hdh] at HO;have HQ:=Lh (And.intro hdk (And.intro hdc (And.intro hds (And.intro hda (And.intro hdn hdh)))));generalize inT8 m l site at_ ch lo hi=RT at *
  generalize inV8 m l site at_ ch lo hi=dv at *
  generalize (namC (docR m) (at_ - 1)).1=g1 at *
  generalize (namC (docR m) (at_ - 1)).2=g2 at *
  generalize ctrI m l=ct at *
  clear hV hn hk0 hk1 hS hdk hdc hds hda hdn hdh hE1 hE2 hat hc;have v0 := H0.out.bv.c8
  go_enter Tryz.func43,Tryz.ntmps43
  go_wp2_with (go_at_call 85; refine (HCI.out _ H0.out.bel).mono ?_; rintro e w1 ⟨rfl,hb⟩; refine Hid.out ?_)
  have H1:=Lh (H0.out.next hb);have hdum:=trivial;clear H0 HCI hb v0;refine Lh ?_;go_wp2_with fail
  refine rgH (fun W=>Cz8 W w.heap.size c0 c1 c2 c3 c4 c5 c6 c7) (let h:=H1.out; h.bv.c8) fun hH=>?_
  clear hdum;have H2:=Lh (H1.out.next bdq);clear H1;generalize w1.drew=X0 at *
  refine tq 0 (.agg #[c0,c1,c2,c3,c4,c5,c6,c7]) hH ?_;refine tq 2 site hH ?_;refine tq 4 (.agg #[c0,c1,c2,c3,c4,c5,c6,c7]) hH ?_;refine tq 5 at_ hH ?_;refine tq 7 (.int .i32 ch) hH ?_;refine wpAnyH_ready (rs:=[1,9]) (by kernel_rfl) (by simp) ?_;refine cons1 rfl (fun KK hK=>?_) (cons1 rfl (fun KK hK=>?_) AllReadyH.nil)
  ·go_simp
   refine (HNC.out _ H2.out.bel).mono ?_
   rintro e' X1 ⟨rfl,hb⟩
   go_wp2_with fail
   refine hK.out _ _ ((let h:=(H2.out.next hb); h.bv.c8)) ?_;clear hK KK hH;intro hH
   try simp only [LAY]
   have HT2:=Lh (H2.out.next hb);clear hb H2;have H2:=HT2;clear HT2;refine tq 3 (.agg #[ct,site]) hH ?_;refine wpAnyH_ready (rs:=[6,9]) (by kernel_rfl) (by simp) ?_;refine cons1 rfl (fun KK hK=>?_) (cons1 rfl (fun KK hK=>?_) AllReadyH.nil)
   ·go_simp
    refine (HAN.out _ H2.out.bel).mono ?_
    rintro e' X2 ⟨rfl,hb⟩
    go_wp2_with fail
    refine hK.out _ _ ((let h:=(H2.out.next hb); h.bv.c8)) ?_;clear hK KK hH;intro hH
    try simp only [LAY]
    have HT2:=Lh (H2.out.next hb);clear hb H2;have H2:=HT2;clear HT2;refine tq 8 (.agg #[.int .i64 0,ct,site,g1,g2,.int .i32 ch]) hH ?_;refine rd1 9 (by kernel_rfl) rfl fun KK hK=>?_
    go_simp
    go_wp2_with fail
    refine hK.out _ _ ((let h:=(H2.out.next (bA)); h.bv.c8)) ?_;clear hK KK hH;intro hH
    try simp only [LAY]
    have HT2:=Lh (show In8 w [c0,c1,c2,c3,c4,c5,c6,c7] [.pointer none,.pointer none,.int .i64 0,.slice none 0 0,.int .i64 0,.int .i64 0,.complex .f64 0 0,.complex .f64 0 0] [.int .i64 0,.int .i64 0,.int .i64 0,.int .i64 0,.int .i64 0,.int .i32 0] (X2.alloc (.cells #[.int .i64 0,.int .i64 0,.int .i64 0,.int .i64 0,.int .i64 0,.int .i32 0] 55)) from H2.out.next (bA));have HD6:=Lh (Blk.start X2 [.int .i64 0,.int .i64 0,.int .i64 0,.int .i64 0,.int .i64 0,.int .i32 0] 55);have hDlt:w.heap.size+1+1<X2.heap.size:=H2.out.bx.lt;clear H2;have H2:=HT2;clear HT2;generalize (X2.alloc (.cells #[.int .i64 0,.int .i64 0,.int .i64 0,.int .i64 0,.int .i64 0,.int .i32 0] 55))=X3 at *
    generalize X2.heap.size=D at *
    generalize X3=W8 at *
    have dz0 := HD6.out.c6;have df0 := HD6.out.f6;have HX7:=Lh (show In8 w [c0,c1,c2,c3,c4,c5,c6,c7] [.pointer none,.pointer none,.int .i64 0,.slice none 0 0,.int .i64 0,.int .i64 0,.complex .f64 0 0,.complex .f64 0 0] [.int .i64 0,.int .i64 0,.int .i64 0,.int .i64 0,.int .i64 0,.int .i32 0] (setN W8 D 0 [.int .i64 0,ct,site,g1,g2,.int .i32 ch])∧Blk (setN W8 D 0 [.int .i64 0,ct,site,g1,g2,.int .i32 ch]) D [.int .i64 0,ct,site,g1,g2,.int .i32 ch] 55 from And.intro (H2.out.putD hDlt _) (setN_blk [.int .i64 0,ct,site,g1,g2,.int .i32 ch] 0 HD6.out));simp only [setN] at HX7
    clear H2 HD6;refine rd1 10 (by kernel_rfl) rfl fun KK hK=>?_
    go_simp
    go_wp2_with fail
    refine hK.out _ _ ((let h:=HX7.out.1; h.bv.c8)) ?_;clear hK KK hH;intro hH
    try simp only [LAY]
    clear dz0 df0;generalize ((((((W8.setCell ⟨D,0,none⟩ (.int .i64 0)).setCell ⟨D,1,none⟩ ct).setCell ⟨D,2,none⟩ site).setCell ⟨D,3,none⟩ g1).setCell ⟨D,4,none⟩ g2).setCell ⟨D,5,none⟩ (.int .i32 ch))=W9 at *
    refine dnH ?_;clear hH;have v0 := HX7.out.1.bv.c8;have o0 := HX7.out.2.c6;go_wp2_with (go_at_call 88; refine (HO.out _ HX7.out.1.bel).mono ?_; rintro e w4 ⟨hb,d0,d1,d2,d3,d4,d5,d6,d7,lc,rfl,hiv,hic⟩; refine Hid.out ?_)
    obtain ⟨al,pl,rfl,hd1,hd2⟩:=hic.form;generalize RT.2.2.length=n3 at *
    have H4:=Lh (HX7.out.1.next hb);have HV4:=Lh (And.intro hiv hic);have hon:=hiv.one;have sdd0:=fun (W:World) (a:Addr) (md:Mode)=>run_store Tryz.prog W a d0 md (hon d0 (by simp))
    have sdd1:=fun (W:World) (a:Addr) (md:Mode)=>run_store Tryz.prog W a d1 md (hon d1 (by simp))
    have sdd2:=fun (W:World) (a:Addr) (md:Mode)=>run_store Tryz.prog W a d2 md (hon d2 (by simp))
    have sdd3:=fun (W:World) (a:Addr) (md:Mode)=>run_store Tryz.prog W a d3 md (hon d3 (by simp))
    have sdd4:=fun (W:World) (a:Addr) (md:Mode)=>run_store Tryz.prog W a d4 md (hon d4 (by simp))
    have sdd5:=fun (W:World) (a:Addr) (md:Mode)=>run_store Tryz.prog W a d5 md (hon d5 (by simp))
    have sdd6:=fun (W:World) (a:Addr) (md:Mode)=>run_store Tryz.prog W a d6 md (hon d6 (by simp))
    have sdd7:=fun (W:World) (a:Addr) (md:Mode)=>run_store Tryz.prog W a d7 md (hon d7 (by simp))
    clear hon;clear HX7 HO HNC HAN hb hiv hic hd1 hd2 v0 o0;have HA7:=Lh (show In8 w [c0,c1,c2,c3,c4,c5,c6,c7] [d0,d1,d2,d3,d4,d5,d6,d7] (oqL ⟨0,ct,site,g1,g2,ch,lo,hi⟩) (setN (setN w4 (w.heap.size+1) 0 [d0,d1,d2,d3,d4,d5,d6,d7]) (w.heap.size+1+1) 0 (oqL ⟨0,ct,site,g1,g2,ch,lo,hi⟩))∧IsV (setN (setN w4 (w.heap.size+1) 0 [d0,d1,d2,d3,d4,d5,d6,d7]) (w.heap.size+1+1) 0 (oqL ⟨0,ct,site,g1,g2,ch,lo,hi⟩)) RT.1 RT.2.1 [d0,d1,d2,d3,d4,d5,d6,d7]∧IsVC (setN (setN w4 (w.heap.size+1) 0 [d0,d1,d2,d3,d4,d5,d6,d7]) (w.heap.size+1+1) 0 (oqL ⟨0,ct,site,g1,g2,ch,lo,hi⟩)) (.slice al n3 pl) RT.2.2 from And.intro ((H4.out.putR [d0,d1,d2,d3,d4,d5,d6,d7]).putX (oqL ⟨0,ct,site,g1,g2,ch,lo,hi⟩)) (And.intro (IsV.setO (H4.out.putR [d0,d1,d2,d3,d4,d5,d6,d7]).bx (isv_set HV4.out.1 H4.out.br (by decide) (by decide) (by decide) 0 _) HRL.out ⟨0,ct,site,g1,g2,ch,lo,hi⟩) (isvc_set (isvc_set HV4.out.2 H4.out.br (by decide) 0 _) (H4.out.putR [d0,d1,d2,d3,d4,d5,d6,d7]).bx (by decide) 0 _)));simp only [setN, oqL] at HA7
    have zz0 := H4.out.br.c8;have fz0 := H4.out.br.f8;have xx0 := H4.out.bx.c6;have fx0 := H4.out.bx.f6;refine Lh ?_;go_wp2_with fail
    have y0 := HA7.out.1.br.c8;have u0 := HA7.out.1.bx.c6;exact bodyPost_ret (v:=.tuple #[.agg #[d0,d1,d2,d3,d4,d5,d6,d7],.agg #[.int .i64 0,ct,site,g1,g2,.int .i32 ch],.slice al n3 pl,.int .i64 0]) (by simp [results, Tryz.results43, go_sem, y0, u0]) rfl ⟨HA7.out.1.bel,d0,d1,d2,d3,d4,d5,d6,d7,_,dv,by rw [HE.out],by rw [HQ.out.1,HQ.out.2.1,HQ.out.2.2.1,HQ.out.2.2.2.1,HQ.out.2.2.2.2.1,HQ.out.2.2.2.2.2],HA7.out.2.1,HA7.out.2.2⟩
   ·go_simp
    go_wp2_with fail
    refine hK.out _ _ ((let h:=(H2.out.next (bA)); h.bv.c8)) ?_;clear hK KK hH;intro hH
    try simp only [LAY]
    have HT2:=Lh (show In8 w [c0,c1,c2,c3,c4,c5,c6,c7] [.pointer none,.pointer none,.int .i64 0,.slice none 0 0,.int .i64 0,.int .i64 0,.complex .f64 0 0,.complex .f64 0 0] [.int .i64 0,.int .i64 0,.int .i64 0,.int .i64 0,.int .i64 0,.int .i32 0] (X1.alloc (.cells #[.int .i64 0,.int .i64 0,.int .i64 0,.int .i64 0,.int .i64 0,.int .i32 0] 55)) from H2.out.next (bA));have HD6:=Lh (Blk.start X1 [.int .i64 0,.int .i64 0,.int .i64 0,.int .i64 0,.int .i64 0,.int .i32 0] 55);have hDlt:w.heap.size+1+1<X1.heap.size:=H2.out.bx.lt;clear H2;have H2:=HT2;clear HT2;generalize (X1.alloc (.cells #[.int .i64 0,.int .i64 0,.int .i64 0,.int .i64 0,.int .i64 0,.int .i32 0] 55))=X2 at *
    generalize X1.heap.size=D at *
    refine rd1 6 (by kernel_rfl) rfl fun KK hK=>?_
    go_simp
    refine (HAN.out _ H2.out.bel).mono ?_
    rintro e' X3 ⟨rfl,hb⟩
    go_wp2_with fail
    refine hK.out _ _ ((let h:=(H2.out.next hb); h.bv.c8)) ?_;clear hK KK hH;intro hH
    try simp only [LAY]
    have HT2:=Lh (H2.out.next hb);have HDT:=Lh (HD6.out.next hb);clear hb H2 HD6;have H2:=HT2;clear HT2;have HD6:=HDT;clear HDT;refine tq 8 (.agg #[.int .i64 0,ct,site,g1,g2,.int .i32 ch]) hH ?_;generalize X3=W8 at *
    have dz0 := HD6.out.c6;have df0 := HD6.out.f6;have HX7:=Lh (show In8 w [c0,c1,c2,c3,c4,c5,c6,c7] [.pointer none,.pointer none,.int .i64 0,.slice none 0 0,.int .i64 0,.int .i64 0,.complex .f64 0 0,.complex .f64 0 0] [.int .i64 0,.int .i64 0,.int .i64 0,.int .i64 0,.int .i64 0,.int .i32 0] (setN W8 D 0 [.int .i64 0,ct,site,g1,g2,.int .i32 ch])∧Blk (setN W8 D 0 [.int .i64 0,ct,site,g1,g2,.int .i32 ch]) D [.int .i64 0,ct,site,g1,g2,.int .i32 ch] 55 from And.intro (H2.out.putD hDlt _) (setN_blk [.int .i64 0,ct,site,g1,g2,.int .i32 ch] 0 HD6.out));simp only [setN] at HX7
    clear H2 HD6;refine rd1 10 (by kernel_rfl) rfl fun KK hK=>?_
    go_simp
    go_wp2_with fail
    refine hK.out _ _ ((let h:=HX7.out.1; h.bv.c8)) ?_;clear hK KK hH;intro hH
    try simp only [LAY]
    clear dz0 df0;generalize ((((((W8.setCell ⟨D,0,none⟩ (.int .i64 0)).setCell ⟨D,1,none⟩ ct).setCell ⟨D,2,none⟩ site).setCell ⟨D,3,none⟩ g1).setCell ⟨D,4,none⟩ g2).setCell ⟨D,5,none⟩ (.int .i32 ch))=W9 at *
    refine dnH ?_;clear hH;have v0 := HX7.out.1.bv.c8;have o0 := HX7.out.2.c6;go_wp2_with (go_at_call 88; refine (HO.out _ HX7.out.1.bel).mono ?_; rintro e w4 ⟨hb,d0,d1,d2,d3,d4,d5,d6,d7,lc,rfl,hiv,hic⟩; refine Hid.out ?_)
    obtain ⟨al,pl,rfl,hd1,hd2⟩:=hic.form;generalize RT.2.2.length=n3 at *
    have H4:=Lh (HX7.out.1.next hb);have HV4:=Lh (And.intro hiv hic);have hon:=hiv.one;have sdd0:=fun (W:World) (a:Addr) (md:Mode)=>run_store Tryz.prog W a d0 md (hon d0 (by simp))
    have sdd1:=fun (W:World) (a:Addr) (md:Mode)=>run_store Tryz.prog W a d1 md (hon d1 (by simp))
    have sdd2:=fun (W:World) (a:Addr) (md:Mode)=>run_store Tryz.prog W a d2 md (hon d2 (by simp))
    have sdd3:=fun (W:World) (a:Addr) (md:Mode)=>run_store Tryz.prog W a d3 md (hon d3 (by simp))
    have sdd4:=fun (W:World) (a:Addr) (md:Mode)=>run_store Tryz.prog W a d4 md (hon d4 (by simp))
    have sdd5:=fun (W:World) (a:Addr) (md:Mode)=>run_store Tryz.prog W a d5 md (hon d5 (by simp))
    have sdd6:=fun (W:World) (a:Addr) (md:Mode)=>run_store Tryz.prog W a d6 md (hon d6 (by simp))
    have sdd7:=fun (W:World) (a:Addr) (md:Mode)=>run_store Tryz.prog W a d7 md (hon d7 (by simp))
    clear hon;clear HX7 HO HNC HAN hb hiv hic hd1 hd2 v0 o0;have HA7:=Lh (show In8 w [c0,c1,c2,c3,c4,c5,c6,c7] [d0,d1,d2,d3,d4,d5,d6,d7] (oqL ⟨0,ct,site,g1,g2,ch,lo,hi⟩) (setN (setN w4 (w.heap.size+1) 0 [d0,d1,d2,d3,d4,d5,d6,d7]) (w.heap.size+1+1) 0 (oqL ⟨0,ct,site,g1,g2,ch,lo,hi⟩))∧IsV (setN (setN w4 (w.heap.size+1) 0 [d0,d1,d2,d3,d4,d5,d6,d7]) (w.heap.size+1+1) 0 (oqL ⟨0,ct,site,g1,g2,ch,lo,hi⟩)) RT.1 RT.2.1 [d0,d1,d2,d3,d4,d5,d6,d7]∧IsVC (setN (setN w4 (w.heap.size+1) 0 [d0,d1,d2,d3,d4,d5,d6,d7]) (w.heap.size+1+1) 0 (oqL ⟨0,ct,site,g1,g2,ch,lo,hi⟩)) (.slice al n3 pl) RT.2.2 from And.intro ((H4.out.putR [d0,d1,d2,d3,d4,d5,d6,d7]).putX (oqL ⟨0,ct,site,g1,g2,ch,lo,hi⟩)) (And.intro (IsV.setO (H4.out.putR [d0,d1,d2,d3,d4,d5,d6,d7]).bx (isv_set HV4.out.1 H4.out.br (by decide) (by decide) (by decide) 0 _) HRL.out ⟨0,ct,site,g1,g2,ch,lo,hi⟩) (isvc_set (isvc_set HV4.out.2 H4.out.br (by decide) 0 _) (H4.out.putR [d0,d1,d2,d3,d4,d5,d6,d7]).bx (by decide) 0 _)));simp only [setN, oqL] at HA7
    have zz0 := H4.out.br.c8;have fz0 := H4.out.br.f8;have xx0 := H4.out.bx.c6;have fx0 := H4.out.bx.f6;refine Lh ?_;go_wp2_with fail
    have y0 := HA7.out.1.br.c8;have u0 := HA7.out.1.bx.c6;exact bodyPost_ret (v:=.tuple #[.agg #[d0,d1,d2,d3,d4,d5,d6,d7],.agg #[.int .i64 0,ct,site,g1,g2,.int .i32 ch],.slice al n3 pl,.int .i64 0]) (by simp [results, Tryz.results43, go_sem, y0, u0]) rfl ⟨HA7.out.1.bel,d0,d1,d2,d3,d4,d5,d6,d7,_,dv,by rw [HE.out],by rw [HQ.out.1,HQ.out.2.1,HQ.out.2.2.1,HQ.out.2.2.2.1,HQ.out.2.2.2.2.1,HQ.out.2.2.2.2.2],HA7.out.2.1,HA7.out.2.2⟩
  ·go_simp
   go_wp2_with fail
   refine hK.out _ _ ((let h:=(H2.out.next (bA)); h.bv.c8)) ?_;clear hK KK hH;intro hH
   try simp only [LAY]
   have HT2:=Lh (show In8 w [c0,c1,c2,c3,c4,c5,c6,c7] [.pointer none,.pointer none,.int .i64 0,.slice none 0 0,.int .i64 0,.int .i64 0,.complex .f64 0 0,.complex .f64 0 0] [.int .i64 0,.int .i64 0,.int .i64 0,.int .i64 0,.int .i64 0,.int .i32 0] (X0.alloc (.cells #[.int .i64 0,.int .i64 0,.int .i64 0,.int .i64 0,.int .i64 0,.int .i32 0] 55)) from H2.out.next (bA));have HD6:=Lh (Blk.start X0 [.int .i64 0,.int .i64 0,.int .i64 0,.int .i64 0,.int .i64 0,.int .i32 0] 55);have hDlt:w.heap.size+1+1<X0.heap.size:=H2.out.bx.lt;clear H2;have H2:=HT2;clear HT2;generalize (X0.alloc (.cells #[.int .i64 0,.int .i64 0,.int .i64 0,.int .i64 0,.int .i64 0,.int .i32 0] 55))=X1 at *
   generalize X0.heap.size=D at *
   refine rd1 1 (by kernel_rfl) rfl fun KK hK=>?_
   go_simp
   refine (HNC.out _ H2.out.bel).mono ?_
   rintro e' X2 ⟨rfl,hb⟩
   go_wp2_with fail
   refine hK.out _ _ ((let h:=(H2.out.next hb); h.bv.c8)) ?_;clear hK KK hH;intro hH
   try simp only [LAY]
   have HT2:=Lh (H2.out.next hb);have HDT:=Lh (HD6.out.next hb);clear hb H2 HD6;have H2:=HT2;clear HT2;have HD6:=HDT;clear HDT;refine tq 3 (.agg #[ct,site]) hH ?_;refine rd1 6 (by kernel_rfl) rfl fun KK hK=>?_
   go_simp
   refine (HAN.out _ H2.out.bel).mono ?_
   rintro e' X3 ⟨rfl,hb⟩
   go_wp2_with fail
   refine hK.out _ _ ((let h:=(H2.out.next hb); h.bv.c8)) ?_;clear hK KK hH;intro hH
   try simp only [LAY]
   have HT2:=Lh (H2.out.next hb);have HDT:=Lh (HD6.out.next hb);clear hb H2 HD6;have H2:=HT2;clear HT2;have HD6:=HDT;clear HDT;refine tq 8 (.agg #[.int .i64 0,ct,site,g1,g2,.int .i32 ch]) hH ?_;generalize X3=W8 at *
   have dz0 := HD6.out.c6;have df0 := HD6.out.f6;have HX7:=Lh (show In8 w [c0,c1,c2,c3,c4,c5,c6,c7] [.pointer none,.pointer none,.int .i64 0,.slice none 0 0,.int .i64 0,.int .i64 0,.complex .f64 0 0,.complex .f64 0 0] [.int .i64 0,.int .i64 0,.int .i64 0,.int .i64 0,.int .i64 0,.int .i32 0] (setN W8 D 0 [.int .i64 0,ct,site,g1,g2,.int .i32 ch])∧Blk (setN W8 D 0 [.int .i64 0,ct,site,g1,g2,.int .i32 ch]) D [.int .i64 0,ct,site,g1,g2,.int .i32 ch] 55 from And.intro (H2.out.putD hDlt _) (setN_blk [.int .i64 0,ct,site,g1,g2,.int .i32 ch] 0 HD6.out));simp only [setN] at HX7
   clear H2 HD6;refine rd1 10 (by kernel_rfl) rfl fun KK hK=>?_
   go_simp
   go_wp2_with fail
   refine hK.out _ _ ((let h:=HX7.out.1; h.bv.c8)) ?_;clear hK KK hH;intro hH
   try simp only [LAY]
   clear dz0 df0;generalize ((((((W8.setCell ⟨D,0,none⟩ (.int .i64 0)).setCell ⟨D,1,none⟩ ct).setCell ⟨D,2,none⟩ site).setCell ⟨D,3,none⟩ g1).setCell ⟨D,4,none⟩ g2).setCell ⟨D,5,none⟩ (.int .i32 ch))=W9 at *
   refine dnH ?_;clear hH;have v0 := HX7.out.1.bv.c8;have o0 := HX7.out.2.c6;go_wp2_with (go_at_call 88; refine (HO.out _ HX7.out.1.bel).mono ?_; rintro e w4 ⟨hb,d0,d1,d2,d3,d4,d5,d6,d7,lc,rfl,hiv,hic⟩; refine Hid.out ?_)
   obtain ⟨al,pl,rfl,hd1,hd2⟩:=hic.form;generalize RT.2.2.length=n3 at *
   have H4:=Lh (HX7.out.1.next hb);have HV4:=Lh (And.intro hiv hic);have hon:=hiv.one;have sdd0:=fun (W:World) (a:Addr) (md:Mode)=>run_store Tryz.prog W a d0 md (hon d0 (by simp))
   have sdd1:=fun (W:World) (a:Addr) (md:Mode)=>run_store Tryz.prog W a d1 md (hon d1 (by simp))
   have sdd2:=fun (W:World) (a:Addr) (md:Mode)=>run_store Tryz.prog W a d2 md (hon d2 (by simp))
   have sdd3:=fun (W:World) (a:Addr) (md:Mode)=>run_store Tryz.prog W a d3 md (hon d3 (by simp))
   have sdd4:=fun (W:World) (a:Addr) (md:Mode)=>run_store Tryz.prog W a d4 md (hon d4 (by simp))
   have sdd5:=fun (W:World) (a:Addr) (md:Mode)=>run_store Tryz.prog W a d5 md (hon d5 (by simp))
   have sdd6:=fun (W:World) (a:Addr) (md:Mode)=>run_store Tryz.prog W a d6 md (hon d6 (by simp))
   have sdd7:=fun (W:World) (a:Addr) (md:Mode)=>run_store Tryz.prog W a d7 md (hon d7 (by simp))
   clear hon;clear HX7 HO HNC HAN hb hiv hic hd1 hd2 v0 o0;have HA7:=Lh (show In8 w [c0,c1,c2,c3,c4,c5,c6,c7] [d0,d1,d2,d3,d4,d5,d6,d7] (oqL ⟨0,ct,site,g1,g2,ch,lo,hi⟩) (setN (setN w4 (w.heap.size+1) 0 [d0,d1,d2,d3,d4,d5,d6,d7]) (w.heap.size+1+1) 0 (oqL ⟨0,ct,site,g1,g2,ch,lo,hi⟩))∧IsV (setN (setN w4 (w.heap.size+1) 0 [d0,d1,d2,d3,d4,d5,d6,d7]) (w.heap.size+1+1) 0 (oqL ⟨0,ct,site,g1,g2,ch,lo,hi⟩)) RT.1 RT.2.1 [d0,d1,d2,d3,d4,d5,d6,d7]∧IsVC (setN (setN w4 (w.heap.size+1) 0 [d0,d1,d2,d3,d4,d5,d6,d7]) (w.heap.size+1+1) 0 (oqL ⟨0,ct,site,g1,g2,ch,lo,hi⟩)) (.slice al n3 pl) RT.2.2 from And.intro ((H4.out.putR [d0,d1,d2,d3,d4,d5,d6,d7]).putX (oqL ⟨0,ct,site,g1,g2,ch,lo,hi⟩)) (And.intro (IsV.setO (H4.out.putR [d0,d1,d2,d3,d4,d5,d6,d7]).bx (isv_set HV4.out.1 H4.out.br (by decide) (by decide) (by decide) 0 _) HRL.out ⟨0,ct,site,g1,g2,ch,lo,hi⟩) (isvc_set (isvc_set HV4.out.2 H4.out.br (by decide) 0 _) (H4.out.putR [d0,d1,d2,d3,d4,d5,d6,d7]).bx (by decide) 0 _)));simp only [setN, oqL] at HA7
   have zz0 := H4.out.br.c8;have fz0 := H4.out.br.f8;have xx0 := H4.out.bx.c6;have fx0 := H4.out.bx.f6;refine Lh ?_;go_wp2_with fail
   have y0 := HA7.out.1.br.c8;have u0 := HA7.out.1.bx.c6;exact bodyPost_ret (v:=.tuple #[.agg #[d0,d1,d2,d3,d4,d5,d6,d7],.agg #[.int .i64 0,ct,site,g1,g2,.int .i32 ch],.slice al n3 pl,.int .i64 0]) (by simp [results, Tryz.results43, go_sem, y0, u0]) rfl ⟨HA7.out.1.bel,d0,d1,d2,d3,d4,d5,d6,d7,_,dv,by rw [HE.out],by rw [HQ.out.1,HQ.out.2.1,HQ.out.2.2.1,HQ.out.2.2.2.1,HQ.out.2.2.2.2.1,HQ.out.2.2.2.2.2],HA7.out.2.1,HA7.out.2.2⟩
theorem vall_ok:VAll where
 rm:=vremote_ok
 ins:=vinsert_ok
 del:=vdelete_ok
 txt:=vtext_ok
 len:=vlen_ok
 seq:=vseq_ok
 wait:=vwait_ok
 tal:=vtally_ok
 bef:=vbefore_ok
 nam:=vnamed_ok
theorem awake7_ok:Awake7Ok:=awake7_any (awake6_any (NN:=50) (by omega) apply_ok) padd_ok (fun m l s p q T P w hm=>pnext_ok m l s p q T P w (by omega)) plen_ok ptop_ok
end Go.Proofs.YtpbhaieclkoggaaGreatDoor
