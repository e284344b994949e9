import Derived.Test.YtjilpbmehipagaaRu14
set_option maxRecDepth 100000
set_option maxHeartbeats 12800000
namespace Go.Proofs.Ytjilpbmehipagaa
open Go Go.Proofs Go.RowKit
theorem acA_drop {L:List Ac} {i j:Nat}:acA (L.drop i) j=acA L (i+j):=by
 unfold acA; rw [List.getD_eq_getElem?_getD,List.getD_eq_getElem?_getD,List.getElem?_drop]
theorem ord_drop {L:List Ac} {i a b:Nat}:Ord (L.drop i) a b↔Ord L (i+a) (i+b):=by
 constructor
 ·intro h
  induction h with
  | one h1 h2 h3=>exact .one (by omega) (by rw [List.length_drop] at h2; omega) (by unfold dirP at h3 ⊢; rwa [acA_drop,acA_drop] at h3)
  | step _ h1 h2 h3 ih=>exact .step ih (by omega) (by rw [List.length_drop] at h2; omega) (by unfold dirP at h3 ⊢; rwa [acA_drop,acA_drop] at h3)
 ·intro h
  generalize hx:i+b=y at h
  induction h generalizing b with
  | one h1 h2 h3=>subst hx; exact .one (by omega) (by rw [List.length_drop]; omega) (by unfold dirP at h3 ⊢; rwa [acA_drop,acA_drop])
  | @step j y h0 h1 h2 h3 ih=>
   subst hx;have hj:=h0.lt;obtain ⟨c,rfl⟩:∃ c,j=i+c:=⟨j-i,by omega⟩
   exact .step (ih rfl) (by omega) (by rw [List.length_drop]; omega) (by unfold dirP at h3 ⊢; rwa [acA_drop,acA_drop])
theorem may_drop {L:List Ac} {i:Nat} (h:mayAc L=true):mayAc (L.drop i)=true:=by
 rw [mayAc,List.all_eq_true] at h ⊢; exact fun x hx=>h x (List.mem_of_mem_drop hx)
theorem rahead_ok:RAheadOk:=by
 intro L v i k w hl hLO hi0 hi1 hk0 hk1 h
 have hAc:=h;obtain ⟨ad,cap,rfl,h1,h2,-⟩:=h;have HTR:=Lh (istrace_any L _ w hAc);have HAc:=Lh (fun W (hb:Below w.heap.size w W)=>hAc.next hb);obtain ⟨n,hn⟩:∃ n,n=L.length:=⟨_,rfl⟩
 have HN:=Lh (And.intro hn.symm (And.intro hl hLO));have HNO:=Lh (fun (h:¬ (mayAc L=true∧0≤i∧i<k∧k<(n:Int)))=>show cb (aheadP L i k)=false from cb_neg fun ⟨a,b,c,d,e⟩=>h ⟨a,b,by have:=e.lt; omega,by omega⟩);rw [←hn] at HAc HTR h1 ⊢;have hn3:n≤300:=by omega
 clear hn hAc hl hLO
 go_enter Try.func11,Try.ntmps11
 by_cases c1:i<0
 ·have HE:=Lh (HNO.out fun h=>by omega)
  go_wp2_with fail
  go_ret
  exact ⟨by rw [HE.out]; rfl,Below.refl _ _⟩
 by_cases c2:k≤i
 ·have HE:=Lh (HNO.out fun h=>by omega)
  go_wp2_with fail
  go_ret
  exact ⟨by rw [HE.out]; rfl,Below.refl _ _⟩
 by_cases c3:(n:Int)≤k
 ·have HE:=Lh (HNO.out fun h=>by omega)
  go_wp2_with fail
  go_ret
  exact ⟨by rw [HE.out]; rfl,Below.refl _ _⟩
 cases em:mayAc L
 ·rw [em] at HTR
  have HE:=Lh (HNO.out fun h=>by rw [em] at h; cases h.1);go_wp2_with (go_at_call 15; refine HTR.out.mono ?_; rintro e w1 ⟨rfl,hb⟩)
  go_ret
  exact ⟨by rw [HE.out]; rfl,hb⟩
 rw [em] at HTR;clear HNO;obtain ⟨i,rfl⟩:∃ j:Nat,i=(j:Int):=⟨i.toNat,by omega⟩
 obtain ⟨k,rfl⟩:∃ j:Nat,k=(j:Int):=⟨k.toNat,by omega⟩
 have hik:i<k:=by omega
 have hkn:k<n:=by omega
 obtain ⟨m,rfl⟩:∃ m,k=i+m:=⟨k-i,by omega⟩
 have HD:=Lh (show 0<m∧m<(L.drop i).length∧(L.drop i).length≤1000∧i+m<n from ⟨by omega,by rw [List.length_drop]; have:=HN.out.1; omega,by rw [List.length_drop]; have:=HN.out; omega,hkn⟩);have HM:=Lh (may_drop (i:=i) em);have HRES:=Lh (show cb (aheadP L (i:Int) ((i+m:Nat):Int))=leqL (vecP (L.drop i) (Know (L.drop i) 0)) (vecP (L.drop i) (Know (L.drop i) m)) from by
  rw [Bool.eq_iff_iff,cb_iff,vec_leq HM.out (know_dc (by have:=HD.out; omega)) (know_dc HD.out.2.1),know_sub HD.out.1 HD.out.2.1,ord_drop];unfold aheadP
  rw [Int.toNat_natCast,Int.toNat_natCast];exact ⟨fun h=>h.2.2.2.2,fun h=>⟨em,by omega,by omega,by have:=HN.out.1; omega,h⟩⟩)
 obtain ⟨bb,off,had,hbw,hc⟩:=(HAc.out w (Below.refl _ _)).at HN.out.1 (by omega);subst had;have HC:=Lh (fun j (hj:i+j<n) W (hb:Below w.heap.size w W)=>show W.cell? ⟨bb,off+(i+j) * 3,none⟩=some (.int .i64 (acA (L.drop i) j).t)∧W.cell? ⟨bb,off+(i+j) * 3+1,none⟩=some (.int .i64 (acA (L.drop i) j).k)∧W.cell? ⟨bb,off+(i+j) * 3+2,none⟩=some (.int .i64 (acA (L.drop i) j).l) from by
  rw [acA_drop];exact ⟨(hb.cell (p:=⟨bb,off+(i+j) * 3,none⟩) hbw).trans (hc _ hj).1,(hb.cell (p:=⟨bb,off+(i+j) * 3+1,none⟩) hbw).trans (hc _ hj).2.1,(hb.cell (p:=⟨bb,off+(i+j) * 3+2,none⟩) hbw).trans (hc _ hj).2.2⟩)
 have HR:=Lh (fun j (hj:i+j<n)=>show 0≤(acA (L.drop i) j).t∧(acA (L.drop i) j).t≤15 ∧ -9223372036854775808≤(acA (L.drop i) j).l∧(acA (L.drop i) j).l≤9223372036854775807 from by
  rw [acA_drop];have h3:=may_at em (show i+j<L.length by have:=HN.out.1; omega);have h4:=HN.out.2.2 _ (List.getElem_mem (show i+j<L.length by have:=HN.out.1; omega));rw [acA_eq] at h4;exact ⟨h3.1,h3.2.1,h4⟩)
 clear hc em HAc;generalize hL:L.drop i=M at *
 clear hL;have h00:=HC.out 0 (by have:=HD.out; omega);have r00:=HR.out 0 (by have:=HD.out; omega);simp only [Nat.add_zero] at h00
 obtain ⟨u0,hu0⟩:∃ u:Nat,(acA M 0).t=(u:Int):=⟨(acA M 0).t.toNat,by omega⟩
 have HX0:=Lh (show acA M 0=⟨u0,(acA M 0).k,(acA M 0).l⟩ from by rw [←hu0]);have hu16:u0<16:=by omega
 rw [hu0] at h00;have HLN:=Lh (fun B b g V W (hk:KnO M 0 B b g V W)=>learn_any M 0 u0 _ _ HX0.out hu16 (by have:=HD.out; omega) HD.out.2.2.1 r00.2.2.1 r00.2.2.2 B b g V W hk);have H00:=Lh h00;clear h00 r00 HX0 hu0;generalize (acA M 0).k=k0 at *
 generalize (acA M 0).l=l0 at *
 go_upto_region 4 with (first | (go_at_call 15; refine HTR.out.mono ?_; clear HTR; rintro e w1 ⟨rfl,hb1⟩) | (go_at_call 16; refine (unknowing_any _).mono ?_; rintro e w2 ⟨b,g,K0,rfl,ub,ug,une,ulb,ulg,uB,uM,hb2⟩))
 have H2:=Lh (And.intro (kno_of (L:=M) ulb ulg une (Nat.le_refl _) uB uM) (And.intro (hb1.trans (hb2.mono hb1.size)) (And.intro (Nat.le_trans hb1.size ub) (Nat.le_trans hb1.size ug))));clear ub ug une ulb ulg uB uM hb1 hb2;obtain ⟨x0,x1,x2⟩:=H00.out _ H2.out.2.1;have hi4:IntKind.i64.wrap ((i:Int)+1)=(i:Int)+1:=IntWalk.i64_in _ (by omega);have hi5:IntKind.i64.wrap ((i:Int)+(m:Int)+1)=(i:Int)+(m:Int)+1:=IntWalk.i64_in _ (by omega)
 go_upto_region 5 with (go_at_call 17; refine (HLN.out _ _ _ _ _ H2.out.1).mono ?_; clear HLN; rintro e w3 ⟨v,V',rfl,hck,hkn,hbu⟩; obtain ⟨va,vn,vc,rfl⟩:=hck.form)
 have H3:Hid ((∃ V,KnO M 1 w2.heap.size b g V w3)∧Clk w2.heap.size w3 (.slice va vn vc) (vecP M (Know M 0))∧Below w.heap.size w w3):=Lh ⟨⟨V',hkn⟩,hck,H2.out.2.1.trans (hbu.below H2.out.2.2.1 H2.out.2.2.2 H2.out.2.1.size)⟩;have HG:=Lh H2.out.2.2;clear hck hkn hbu H2 x0 x1 x2 H00;generalize w2.heap.size=B at *
 go_wp2_with fail
 have HV:Hid (∃ va2 vn2 vc2,Value.slice va vn vc=.slice va2 vn2 vc2):=Lh ⟨_,_,_,rfl⟩;rw [show i+m+1-(i+1)=m by omega]
 go_loopg [9,45] m (fun g_ t9 t45 wr=>∃ j:Nat,j≤m∧g_=m-j∧t45=.int .i64 (j:Int)∧(∃ a l c,t9=.slice a l c)∧Clk B wr t9 (vecP M (Know M j))∧(∃ V,KnO M (j+1) B b g V wr)∧Clk B wr (.slice va vn vc) (vecP M (Know M 0))∧Below w.heap.size w wr)
 case atStart=>exact ⟨0,Nat.zero_le _,rfl,rfl,HV.out,H3.out.2.1,H3.out.1,H3.out.2.1,H3.out.2.2⟩
 case round=>
  obtain ⟨j,hj,rfl,rfl,⟨la,ln,lc,rfl⟩,hlast,⟨V,hk⟩,hfirst,hbe⟩:=hrel;clear H3 HV;by_cases hlt:j<m
  ·obtain ⟨x0,x1,x2⟩:=HC.out (j+1) (by have:=HD.out; omega) wr hbe
   obtain ⟨r0,r1,r2,r3⟩:=HR.out (j+1) (by have:=HD.out; omega);rw [show off+(i+(j+1)) * 3=off+(i+1) * 3+j * 3 by omega] at x0 x1 x2;obtain ⟨u,hu⟩:∃ u:Nat,(acA M (j+1)).t=(u:Int):=⟨(acA M (j+1)).t.toNat,by omega⟩
   have HX:=Lh (show acA M (j+1)=⟨u,(acA M (j+1)).k,(acA M (j+1)).l⟩ from by rw [←hu]);have hu16:u<16:=by omega
   rw [hu] at x0;have HA:=Lh (fun (o:Obj)=>And.intro (hk.next (bA (o:=o))) (And.intro (hfirst.next (bA (o:=o))) (hbe.trans ((bA (w:=wr) (o:=o)).mono hbe.size))));have HLN:=Lh (fun W (hk:KnO M (j+1) B b g V W)=>learn_any M (j+1) u _ _ HX.out hu16 (by have:=HD.out; omega) HD.out.2.2.1 r2 r3 B b g V W hk);clear hk hfirst hbe hlast r0 r1 r2 r3 HX hu;generalize (acA M (j+1)).k=xk at *
   generalize (acA M (j+1)).l=xl at *
   have HB4:=Lh (Blk.start wr [.int .i64 (u:Int),.int .i64 xk,.int .i64 xl] 31);have HA2:=Lh (HA.out (.cells #[.int .i64 (u:Int),.int .i64 xk,.int .i64 xl] 31));clear HA
   go_upto_region 9 with fail
   generalize wr.alloc (.cells #[.int .i64 (u:Int),.int .i64 xk,.int .i64 xl] 31)=w4 at *
   clear x0 x1 x2;have hwj:IntKind.i64.wrap ((j:Int)+1)=(j:Int)+1:=IntWalk.i64_in _ (by omega);obtain ⟨x0,x1,x2⟩:=blk3 HB4.out;go_wp2_with (go_at_call 17; refine (HLN.out _ HA2.out.1).mono ?_; rintro e w5 ⟨v5,V5,rfl,hck,hkn,hbu⟩; obtain ⟨ya,yn,yc,rfl⟩:=hck.form)
   go_roundg (m-(j+1))
   case measure=>omega
   case rel=>exact ⟨j+1,by omega,rfl,by have:=HD.out; go_num,⟨_,_,_,rfl⟩,hck,⟨V5,hkn⟩,HA2.out.2.1.bu hbu HA2.out.1.lb HA2.out.1.lg,HA2.out.2.2.trans (hbu.below HG.out.1 HG.out.2 HA2.out.2.2.size)⟩
  ·obtain rfl:j=m:=by omega
   obtain ⟨TF,iF,mF,pF⟩:=hfirst.ex HD.out.2.2.1;obtain ⟨TL,iL,mL,pL⟩:=hlast.ex HD.out.2.2.1;have HQ:=Lh (vleq_ok TF TL _ _ wr mF mL iF iL);rw [pF,pL,←HRES.out] at HQ;have HB:=Lh hbe;clear hlast hk hfirst hbe iF mF pF iL mL pL;go_wp2_with (go_at_call 18; refine HQ.out.mono ?_; rintro e w5 ⟨rfl,hb5⟩)
   go_ret
   exact ⟨rfl,HB.out.trans (hb5.mono HB.out.size)⟩
theorem rseen_ok:RSeenOk:=by
 intro L v k w hl hLO hk0 hk1 h
 have hAc:=h;obtain ⟨ad,cap,rfl,h1,h2,-⟩:=h;have HF:=Lh (rfirst_ok L _ w hl hLO hAc);have HAc:=Lh (fun W (hb:Below w.heap.size w W)=>hAc.next hb);obtain ⟨n,hn⟩:∃ n,n=L.length:=⟨_,rfl⟩
 have HN:=Lh (And.intro hn.symm hl);have HNO:=Lh (fun (h:¬ goodK L k)=>show seenP L k (-1) from ⟨fun _=>rfl,fun g=>absurd g h⟩);rw [←hn] at HAc HF h1 ⊢;have hn3:n≤300:=by omega
 clear hn hAc hl hLO
 go_enter Try.func7,Try.ntmps7
 by_cases c1:k<0
 ·have HE:=Lh (HNO.out fun h=>by have:=h.2.1; omega)
  go_wp2_with fail
  go_ret
  exact ⟨_,rfl,HE.out,Below.refl _ _⟩
 by_cases c2:(n:Int)≤k
 ·have HE:=Lh (HNO.out fun h=>by have:=h.2.2.1; have:=HN.out.1; omega)
  go_wp2_with fail
  go_ret
  exact ⟨_,rfl,HE.out,Below.refl _ _⟩
 obtain ⟨k,rfl⟩:∃ j:Nat,k=(j:Int):=⟨k.toNat,by omega⟩
 have hkn:k<n:=by omega
 obtain ⟨bb,off,had,hbw,hc⟩:=(HAc.out w (Below.refl _ _)).at HN.out.1 (by omega);subst had;have HC:=Lh (fun j (hj:j<n) W (hb:Below w.heap.size w W)=>show W.cell? ⟨bb,off+j * 3+1,none⟩=some (.int .i64 (acA L j).k)∧W.cell? ⟨bb,off+j * 3+2,none⟩=some (.int .i64 (acA L j).l) from ⟨(hb.cell (p:=⟨bb,off+j * 3+1,none⟩) hbw).trans (hc _ hj).2.1,(hb.cell (p:=⟨bb,off+j * 3+2,none⟩) hbw).trans (hc _ hj).2.2⟩);obtain ⟨x1,x2⟩:=HC.out k hkn w (Below.refl _ _);clear hc HAc;by_cases c3:(acA L k).k=0
 rotate_left
 ·have c3':((acA L k).k != 0)=true:=by simpa using c3
  have HE:=Lh (HNO.out fun h=>by have:=h.2.2.2; rw [Int.toNat_natCast] at this; exact c3 this);generalize (acA L k).k=xk at *
  clear c3 HF;go_wp2_with fail
  go_ret
  exact ⟨_,rfl,HE.out,Below.refl _ _⟩
 rw [c3] at x1;by_cases c4:codeL L=0
 rotate_left
 ·have HE:=Lh (HNO.out fun h=>c4 h.1)
  have c4':(codeL L != 0)=true:=by simpa using c4
  generalize codeL L=z at *
  clear c4;go_wp2_with (go_at_call 12; refine HF.out.mono ?_; rintro e w1 ⟨fa,fb,rfl,hb⟩)
  go_ret
  exact ⟨_,rfl,HE.out,hb⟩
 rw [c4] at HF;have HG:=Lh (show goodK L (k:Int)∧(acA L k).k=0∧codeL L=0∧k<L.length from ⟨⟨c4,by omega,by have:=HN.out.1; omega,by rw [Int.toNat_natCast]; exact c3⟩,c3,c4,by have:=HN.out.1; omega⟩);clear c3 c4 HNO;have HS:=Lh (fun (i:Int) (h:(i = -1∧∀ j,wrK L k j→¬ Ord L j k)∨∃ j:Nat,i=j∧wrK L k j∧Ord L j k∧∀ x,wrK L k x→Ord L x k→x≤j)=>show seenP L (k:Int) i from ⟨fun hn=>absurd HG.out.1 hn,fun _=>by rw [Int.toNat_natCast]; exact h⟩)
 go_upto_region 6 with (go_at_call 12; refine HF.out.mono ?_; rintro e w1 ⟨fa,fb,rfl,hb⟩)
 have HB:=Lh hb;clear hb HF x1 x2;have hwk:IntKind.i64.wrap ((k:Int) - 1)=(k:Int) - 1:=IntWalk.i64_in _ (by omega);go_wp2_with fail
 go_loopg [8] k (fun g_ t8 wr=>∃ j:Nat,j≤k∧j=g_∧t8=.int .i64 ((j:Int) - 1)∧Hid (∀ x,j≤x→x<k→¬ wrK L k x)∧Below w.heap.size w wr)
 case atStart=>exact ⟨k,Nat.le_refl _,rfl,rfl,Lh (fun x h1 h2=>by omega),HB.out⟩
 case round=>
  obtain ⟨j,hj,rfl,rfl,HT,hb⟩:=hrel;clear HB;rcases Nat.eq_zero_or_pos j with h0 | h0
  ·subst h0
   have HE:=Lh (HS.out (-1) (.inl ⟨rfl,fun x hx ho=>HT.out x (Nat.zero_le _) ho.lt hx⟩));go_wp2_with fail
   go_ret
   exact ⟨_,rfl,HE.out,hb⟩
  ·obtain ⟨q,rfl⟩:∃ q,j=q+1:=⟨j - 1,by omega⟩
   have e1:((q+1:Nat):Int) - 1=(q:Int):=by omega
   rw [e1];have hqk:q<k:=by omega
   obtain ⟨x1,x2⟩:=HC.out q (by omega) wr hb;obtain ⟨y1,y2⟩:=HC.out k hkn wr hb;have hw1:IntKind.i64.wrap ((q:Int) - 1)=(q:Int) - 1:=IntWalk.i64_in _ (by omega);have HB:=Lh hb;have HQ:=Lh (show wrK L k q↔(acA L q).k=1∧(acA L q).l=(acA L k).l from ⟨fun h=>h.2,fun h=>⟨by have:=HN.out.1; omega,h⟩⟩);have HY:=Lh (fun (h:wrK L k q)=>HS.out (q:Int) (.inr ⟨q,rfl,h,by
    rcases no_race HG.out.2.2.1 h.1 HG.out.2.2.2 (by omega) (by rw [h.2.1]; decide) (by rw [HG.out.2.1]; decide) h.2.2 (.inl h.2.1) with o | o
    ·exact o
    ·have:=o.lt; omega,fun x hx ho=>Classical.byContradiction fun hn=>HT.out x (by omega) ho.lt hx⟩))
   have HX:=Lh (fun (h:¬ wrK L k q)=>show ∀ x,q≤x→x<k→¬ wrK L k x from fun x h1 h2=>by
    by_cases e:x=q
    ·subst e; exact h
    ·exact HT.out x (by omega) h2)
   clear hb HT e1;generalize (acA L q).k=qk at *
   generalize (acA L q).l=ql at *
   generalize (acA L k).l=kl at *
   by_cases d1:qk=1
   ·subst d1
    by_cases d2:ql=kl
    ·subst d2
     have HE:=Lh (HY.out (HQ.out.2 ⟨rfl,rfl⟩));clear HX HY HQ
     go_upto_region 9 with fail
     go_quiet (fail)
     go_wp2_with fail
     go_ret
     exact ⟨_,rfl,HE.out,bDN HB.out⟩
    ·have d2':(ql==kl)=false:=by simpa using d2
     have HE:=Lh (HX.out (fun h=>d2 (HQ.out.1 h).2));clear HX HY HQ d2
     go_upto_region 9 with fail
     go_quiet (fail)
     go_wp2_with fail
     go_roundg q
     case measure=>omega
     case rel=>exact ⟨q,by omega,rfl,by go_num,HE,bDN HB.out⟩
   ·have d1':(qk==1)=false:=by simpa using d1
    have HE:=Lh (HX.out (fun h=>d1 (HQ.out.1 h).1));clear HX HY HQ d1
    go_upto_region 9 with fail
    go_quiet (fail)
    go_wp2_with fail
    go_roundg q
    case measure=>omega
    case rel=>exact ⟨q,by omega,rfl,by go_num,HE,bDN HB.out⟩
end Go.Proofs.Ytjilpbmehipagaa
