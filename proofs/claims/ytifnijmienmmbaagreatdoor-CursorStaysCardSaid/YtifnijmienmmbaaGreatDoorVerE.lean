import Derived.Test.YtifnijmienmmbaaGreatDoorVerD
import Derived.Test.YtifnijmienmmbaaGreatDoorDo8
set_option maxRecDepth 100000
set_option maxHeartbeats 12800000
namespace Go.Proofs.YtifnijmienmmbaaGreatDoor
open Go Go.Proofs Go.RowKit
theorem nextCtr_any (m l:List Oq) (n':Nat) (c0 c1 c2 c3 c4 c5 c6 c7:Value) (w:World) (hV:VOk m l n') (_:n'≤50) (hS:IsV w m l [c0,c1,c2,c3,c4,c5,c6,c7]):
  Calls Tryz.prog 30 #[.agg #[c0,c1,c2,c3,c4,c5,c6,c7]] w fun e w'=>e=.returned (.int .i64 (ctrI m l))∧Below w.heap.size w w':=by
 obtain ⟨p,q,T,P,a,cap,hst,h7,e⟩:=hS.opened;have hctr:=ctr_in hV.ok hV.rl;have hcm:=ctr_max (l:=l) hV.ok hst.mels hst.full;simp only [vcL, List.cons.injEq, and_true] at e
 obtain ⟨rfl,rfl,rfl,rfl,rfl,rfl,rfl,rfl⟩:=e;have HLA:=Lh (fun W h=>Last_any (p:=q) (T:=P) (cnt P) W (hst.ma.next h) hst.full);have HTO:=Lh (fun W h=>ptop_ok l (.slice a l.length cap) W hV.l16 (Sl.next h7 h));have H0:=Lh (Vb8.start w [.pointer p,.pointer q,.int .i64 (cnt P),.slice a l.length cap,.int .i64 (m.length:Int),.int .i64 (nL (idsO m)),.complex .f64 (fl (cL (idsO m))) (fl (sL (idsO m))),.complex .f64 (fl (rL (idsO m))) (fl (iL (idsO m)))]);have fI:∀ (W:World) (c s:Int),(Instr.field 24 (.agg #[c,s]) 0).run Tryz.prog W=.ok c W:=fun _ _ _=>rfl
 have hdum:=trivial;generalize cnt P=N at *
 generalize lastC P=lc at *
 generalize lastS P=ls at *
 generalize topI l=tp at *
 generalize l.length=n at *
 generalize ctrI m l=X at *
 have HX:=Lh hcm;clear hV hst h7 hS;by_cases hlt:lc<tp
 ·rw [if_pos hlt] at hcm
  have s0:IntKind.i64.wrap (1+tp)=1+tp:=IntWalk.i64_in _ (by omega);have HE:=Lh (show X=1+tp by omega);clear hcm HX hctr;have v0 := H0.out.bv.c8
  go_enter Tryz.func30,Tryz.ntmps30
  go_wp2_with fail
  clear v0;generalize w.alloc _=W0 at *
  refine rgH (fun W=>Ce W w.heap.size 1 (.pointer q)∧Ce W w.heap.size 2 N∧Ce W w.heap.size 3 (.slice a n cap)) (let h:=H0.out; ⟨h.bv.cell 1 rfl,h.bv.cell 2 rfl,h.bv.cell 3 rfl⟩) fun hH=>?_
  clear hdum;have H1:=Lh (H0.out.next bdq);clear H0;generalize W0.drew=W00 at *
  refine tq 0 (.pointer (some ⟨w.heap.size,0,none⟩)) hH ?_;refine tq 1 (.pointer (some ⟨w.heap.size,1,none⟩)) hH ?_;refine tq 2 (.agg #[.pointer q,N]) hH ?_;refine tq 5 (.pointer (some ⟨w.heap.size,3,none⟩)) hH ?_;refine tq 6 (.agg #[.slice a n cap]) hH ?_;refine rd1 3 (by kernel_rfl) rfl fun KK hK=>?_
  go_simp
  refine (HLA.out _ H1.out.bel).mono ?_
  rintro e' W1 ⟨rfl,hb⟩
  go_wp2_with fail
  refine hK.out _ _ ((let h:=(H1.out.next hb); ⟨h.bv.cell 1 rfl,h.bv.cell 2 rfl,h.bv.cell 3 rfl⟩)) ?_;clear hK KK hH;intro hH
  try simp only [LAY]
  have H2:=Lh (H1.out.next hb);clear hb H1;refine tq 4 lc hH ?_;refine rd1 7 (by kernel_rfl) rfl fun KK hK=>?_
  go_simp
  refine (HTO.out _ H2.out.bel).mono ?_
  rintro e' W2 ⟨rfl,hb⟩
  go_wp2_with fail
  refine hK.out _ _ ((let h:=(H2.out.next hb); ⟨h.bv.cell 1 rfl,h.bv.cell 2 rfl,h.bv.cell 3 rfl⟩)) ?_;clear hK KK hH;intro hH
  try simp only [LAY]
  have H3:=Lh (H2.out.next hb);clear hb H2;refine tk 8 tp hH (fun w hSw=>?_) ?_
  ·(go_simp; first | omega | (rw [Int.max_def]; split <;> omega))
  try simp only [LAY]
  refine tq 9 (.int .i64 (1+tp)) hH ?_;refine tq 10 (.int .i64 (1+tp)) hH ?_;refine dnH ?_;clear hH;go_wp2_with fail
  go_ret
  exact ⟨by rw [HE.out]; rfl,H3.out.bel⟩
 ·rw [if_neg hlt] at hcm
  have s0:IntKind.i64.wrap (1+lc)=1+lc:=IntWalk.i64_in _ (by omega);have HE:=Lh (show X=1+lc by omega);clear hcm HX hctr;have v0 := H0.out.bv.c8
  go_enter Tryz.func30,Tryz.ntmps30
  go_wp2_with fail
  clear v0;generalize w.alloc _=W0 at *
  refine rgH (fun W=>Ce W w.heap.size 1 (.pointer q)∧Ce W w.heap.size 2 N∧Ce W w.heap.size 3 (.slice a n cap)) (let h:=H0.out; ⟨h.bv.cell 1 rfl,h.bv.cell 2 rfl,h.bv.cell 3 rfl⟩) fun hH=>?_
  clear hdum;have H1:=Lh (H0.out.next bdq);clear H0;generalize W0.drew=W00 at *
  refine tq 0 (.pointer (some ⟨w.heap.size,0,none⟩)) hH ?_;refine tq 1 (.pointer (some ⟨w.heap.size,1,none⟩)) hH ?_;refine tq 2 (.agg #[.pointer q,N]) hH ?_;refine tq 5 (.pointer (some ⟨w.heap.size,3,none⟩)) hH ?_;refine tq 6 (.agg #[.slice a n cap]) hH ?_;refine rd1 3 (by kernel_rfl) rfl fun KK hK=>?_
  go_simp
  refine (HLA.out _ H1.out.bel).mono ?_
  rintro e' W1 ⟨rfl,hb⟩
  go_wp2_with fail
  refine hK.out _ _ ((let h:=(H1.out.next hb); ⟨h.bv.cell 1 rfl,h.bv.cell 2 rfl,h.bv.cell 3 rfl⟩)) ?_;clear hK KK hH;intro hH
  try simp only [LAY]
  have H2:=Lh (H1.out.next hb);clear hb H1;refine tq 4 lc hH ?_;refine rd1 7 (by kernel_rfl) rfl fun KK hK=>?_
  go_simp
  refine (HTO.out _ H2.out.bel).mono ?_
  rintro e' W2 ⟨rfl,hb⟩
  go_wp2_with fail
  refine hK.out _ _ ((let h:=(H2.out.next hb); ⟨h.bv.cell 1 rfl,h.bv.cell 2 rfl,h.bv.cell 3 rfl⟩)) ?_;clear hK KK hH;intro hH
  try simp only [LAY]
  have H3:=Lh (H2.out.next hb);clear hb H2;refine tk 8 lc hH (fun w hSw=>?_) ?_
  ·(go_simp; first | omega | (rw [Int.max_def]; split <;> omega))
  try simp only [LAY]
  refine tq 9 (.int .i64 (1+lc)) hH ?_;refine tq 10 (.int .i64 (1+lc)) hH ?_;refine dnH ?_;clear hH;go_wp2_with fail
  go_ret
  exact ⟨by rw [HE.out]; rfl,H3.out.bel⟩
theorem vanchor_any (m l:List Oq) (n:Nat) (k:Int) (c0 c1 c2 c3 c4 c5 c6 c7:Value) (w:World) (hV:VOk m l n) (hn:n≤50) (hk0:0≤k) (hk1:k≤9223372036854775807) (hS:IsV w m l [c0,c1,c2,c3,c4,c5,c6,c7]):
  Calls Tryz.prog 31 #[.agg #[c0,c1,c2,c3,c4,c5,c6,c7],k] w fun e w'=>e=.returned (.agg #[.int .i64 (namC (docR m) (k - 1)).1,.int .i64 (namC (docR m) (k - 1)).2])∧Below w.heap.size w w':=by
 have H0:=Lh (Vc8.start w [c0,c1,c2,c3,c4,c5,c6,c7] [.int .i64 0,.int .i64 0] 24);have HN:=Lh (fun W h=>vnamed_ok m l n (k - 1) c0 c1 c2 c3 c4 c5 c6 c7 W hV hn (by omega) (by omega) (hS.next h));have s0:IntKind.i64.wrap (k - 1)=k - 1:=IntWalk.i64_in _ (by omega);generalize namC (docR m) (k - 1)=g at *
 obtain ⟨g1,g2⟩:=g
 dsimp only at HN ⊢
 generalize (!noneB g1 g2)=fl at *
 clear hV hn hk0 hk1 hS;have v0 := H0.out.bv.c8
 go_enter Tryz.func31,Tryz.ntmps31
 go_wp2_with (go_at_call 21; refine (HN.out _ H0.out.bel).mono ?_; rintro e w1 ⟨rfl,hb⟩; refine Hid.out ?_)
 have hbA:Below w1.heap.size w1 (w1.alloc (.cells #[g1,g2] 24)):=bA;have H2:=Lh ((H0.out.next hb).next hbA);have e0 := (Blk.start w1 [g1,g2] 24).c2;clear H0 hb HN hbA v0;generalize hWA:w1.alloc (.cells #[g1,g2] 24)=W2 at *
 have H3:=Lh (show Vc8 w _ [g1,g2] 24 (setN W2 (w.heap.size+1) 0 [g1,g2]) from H2.out.putX [g1,g2]);have z0 := H2.out.bx.c2;have fz0 := H2.out.bx.f2;refine Lh ?_;go_wp2_with fail
 obtain ⟨y0,y1⟩:=H3.out.bx.c2;exact bodyPost_ret (v:=.agg #[g1,g2]) (by simp only [setN] at y0 y1; simp [results, Tryz.results31, go_sem, y0, y1]) rfl ⟨rfl,H3.out.bel⟩
theorem least_chk (site ch:Int):chkE 0 1 site 0 0 ch=if site<1∨1000<site then 2 else if charB ch=true then 1 else 0:=by
 have e1:idE 1 site=if site<1∨1000<site then 2 else 0:=by
  unfold idE
  by_cases h:site<1∨1000<site
  ·rw [if_pos h,if_neg]; simp only [mayB,decide_eq_true_eq]; omega
  ·rw [if_neg h,if_pos]; simp only [mayB,decide_eq_true_eq]; omega
 have e5:chrE 0 ch=if charB ch=true then 1 else 0:=by
  unfold chrE
  by_cases h:charB ch=true
  ·have h':=h
   simp only [charB,decide_eq_true_eq] at h'
   rw [if_pos h,if_pos (⟨rfl,by simp only [runeB,decide_eq_false_iff_not]; omega⟩)]
  ·have h':=h
   simp only [charB,decide_eq_true_eq] at h'
   rw [if_neg h,if_neg (fun e=>by have e2:=e.2; simp only [runeB,decide_eq_false_iff_not] at e2; omega)]
 unfold chkE kindE ancE ordE
 rw [e1,e5];by_cases h:site<1∨1000<site
 ·rw [if_pos h,if_pos h]; rfl
 ·rw [if_neg h,if_neg h]
  by_cases h2:charB ch=true
  ·rw [if_pos h2]; rfl
  ·rw [if_neg h2]; rfl
theorem checkIns8_any (m l:List Oq) (n:Nat) (site at_ ch:Int) (c0 c1 c2 c3 c4 c5 c6 c7:Value) (w:World) (hV:VOk m l n) (hn:n≤50) (hS:IsV w m l [c0,c1,c2,c3,c4,c5,c6,c7]):
  Calls Tryz.prog 29 #[.agg #[c0,c1,c2,c3,c4,c5,c6,c7],site,at_,.int .i32 ch] w fun e w'=>e=.returned (.int .i64 (inC8 m l site at_ ch))∧Below w.heap.size w w':=by
 have H0:=Lh (Vb8.start w [c0,c1,c2,c3,c4,c5,c6,c7]);have HL:=Lh (fun W h=>vlen_ok m l n c0 c1 c2 c3 c4 c5 c6 c7 W hV hn (hS.next h));have HC:=Lh (fun W=>opcheck_any 0 1 site 0 0 ch W);rw [least_chk] at HC;have HK:=Lh (fun W h=>nextCtr_any m l n c0 c1 c2 c3 c4 c5 c6 c7 W hV hn (hS.next h));have HI:=Lh (show inC8 m l site at_ ch=if site<1∨1000<site∨at_<0∨(rkL (docR m) ((docR m).length:Int):Int)<at_ then 2 else if charB ch=true then 1 else if 1048576<ctrI m l then 7 else 0 from rfl);generalize inC8 m l site at_ ch=X at *
 generalize ctrI m l=ct at *
 by_cases h0:at_<0
 ·have HX:=Lh (show X=2 by rw [HI.out,if_pos (.inr (.inr (.inl h0)))])
  clear HI HC HK HL hV hn hS;have v0 := H0.out.bv.c8
  go_enter Tryz.func29,Tryz.ntmps29
  go_wp2_with fail
  go_ret
  exact ⟨by rw [HX.out]; rfl,H0.out.bel⟩
 by_cases h1:(rkL (docR m) ((docR m).length:Int):Int)<at_
 ·have HX:=Lh (show X=2 by rw [HI.out,if_pos (.inr (.inr (.inr h1)))])
  clear HI HC HK hV hn hS;generalize (rkL (docR m) ((docR m).length:Int):Int)=al at *
  have v0 := H0.out.bv.c8
  go_enter Tryz.func29,Tryz.ntmps29
  go_wp2_with (go_at_call 16; refine (HL.out _ H0.out.bel).mono ?_; rintro e w1 ⟨rfl,hb⟩; refine Hid.out ?_)
  have H1:=Lh (H0.out.next hb);clear H0 hb HL v0;refine Lh ?_;go_wp2_with fail
  go_ret
  exact ⟨by rw [HX.out]; rfl,H1.out.bel⟩
 have HX:=Lh (show X=(if (if site<1∨1000<site then 2 else if charB ch=true then 1 else 0:Int)=0 then (if 1048576<ct then 7 else 0) else (if site<1∨1000<site then 2 else if charB ch=true then 1 else 0)) from by
  rw [HI.out];by_cases g:site<1∨1000<site
  ·rw [if_pos (by omega),if_pos g]; rfl
  ·rw [if_neg (by omega),if_neg g]
   by_cases g2:charB ch=true
   ·rw [if_pos g2,if_pos g2]; rfl
   ·rw [if_neg g2,if_neg g2,if_pos rfl])
 generalize (if site<1∨1000<site then 2 else if charB ch=true then 1 else 0:Int)=E at *
 obtain ⟨p,q,T,P,a,cap,hst,h7,e⟩:=hS.opened;obtain ⟨hm50,-,hr50⟩:=hV.small hn;have hsz:=hst.size;simp only [vcL, List.cons.injEq, and_true] at e
 obtain ⟨rfl,rfl,rfl,rfl,rfl,rfl,rfl,rfl⟩:=e;have HT:=Lh (fun W h=>len_any (p:=p) (T:=T) W (hst.tr.next h));have hT50:(T.size:Int)≤50:=by omega
 generalize (T.size:Int)=ts at *
 generalize (rkL (docR m) ((docR m).length:Int):Int)=al at *
 generalize cnt P=N at *
 generalize (m.length:Int)=M at *
 generalize nL (idsO m)=t0 at *
 generalize fl (cL (idsO m))=x1 at *
 generalize fl (sL (idsO m))=x2 at *
 generalize fl (rL (idsO m))=x3 at *
 generalize fl (iL (idsO m))=x4 at *
 generalize l.length=ll at *
 clear HI hV hn hS hst h7 hsz hm50 hr50;have hbA:∀ w1:World,Below w1.heap.size w1 (w1.alloc (.cells #[.int .i64 0,.int .i64 1,site,.int .i64 0,.int .i64 0,.int .i32 ch] 68)):=fun w1=>bA
 by_cases hE:E=0
 rotate_left
 ·have hz:(E==0)=false:=by simpa using hE
  rw [if_neg hE] at HX;clear hE HK HT;have v0 := H0.out.bv.c8
  go_enter Tryz.func29,Tryz.ntmps29
  go_wp2_with (go_at_call 16; refine (HL.out _ H0.out.bel).mono ?_; rintro e w1 ⟨rfl,hb⟩; refine Hid.out ?_)
  have H1:=Lh ((H0.out.next hb).next (hbA w1));have HO1:=Lh (Blk.start w1 [.int .i64 0,.int .i64 1,site,.int .i64 0,.int .i64 0,.int .i32 ch] 68);clear H0 hb HL v0;generalize hWA:w1.alloc (.cells #[.int .i64 0,.int .i64 1,site,.int .i64 0,.int .i64 0,.int .i32 ch] 68)=W1 at *
  have o0 := HO1.out.c6;refine Lh ?_;go_wp2_with (go_at_call 50; refine (HC.out _).mono ?_; rintro e w2 ⟨rfl,hb⟩; refine Hid.out ?_)
  have H2:=Lh (H1.out.next hb);clear H1 HO1 hb HC hWA o0;refine Lh ?_;go_wp2_with fail
  go_ret
  exact ⟨by rw [HX.out]; rfl,H2.out.bel⟩
 ·subst hE
  rw [if_pos rfl] at HX;have v0 := H0.out.bv.c8
  go_enter Tryz.func29,Tryz.ntmps29
  go_wp2_with (go_at_call 16; refine (HL.out _ H0.out.bel).mono ?_; rintro e w1 ⟨rfl,hb⟩; refine Hid.out ?_)
  have H1:=Lh ((H0.out.next hb).next (hbA w1));have HO1:=Lh (Blk.start w1 [.int .i64 0,.int .i64 1,site,.int .i64 0,.int .i64 0,.int .i32 ch] 68);clear H0 hb HL v0;generalize hWA:w1.alloc (.cells #[.int .i64 0,.int .i64 1,site,.int .i64 0,.int .i64 0,.int .i32 ch] 68)=W1 at *
  have o0 := HO1.out.c6;refine Lh ?_;go_wp2_with (go_at_call 50; refine (HC.out _).mono ?_; rintro e w2 ⟨rfl,hb⟩; refine Hid.out ?_)
  have H2:=Lh (H1.out.next hb);clear H1 HO1 hb HC hWA o0;have v0 := H2.out.bv.c8;have hlt:¬ (4096:Int)≤ts:=by omega
  refine Lh ?_;go_wp2_with (go_at_call 51; refine (HT.out _ H2.out.bel).mono ?_; rintro e w3 ⟨rfl,hb⟩; refine Hid.out ?_)
  have H3:=Lh (H2.out.next hb);clear H2 hb HT v0;have v0 := H3.out.bv.c8;refine Lh ?_;go_wp2_with (go_at_call 30; refine (HK.out _ H3.out.bel).mono ?_; rintro e w4 ⟨rfl,hb⟩; refine Hid.out ?_)
  have H4:=Lh (H3.out.next hb);clear H3 hb HK v0;by_cases hc:1048576<ct
  ·rw [if_pos hc] at HX
   refine Lh ?_;go_wp2_with fail
   go_ret
   exact ⟨by rw [HX.out]; rfl,H4.out.bel⟩
  ·rw [if_neg hc] at HX
   refine Lh ?_;go_wp2_with fail
   go_ret
   exact ⟨by rw [HX.out]; rfl,H4.out.bel⟩
end Go.Proofs.YtifnijmienmmbaaGreatDoor
