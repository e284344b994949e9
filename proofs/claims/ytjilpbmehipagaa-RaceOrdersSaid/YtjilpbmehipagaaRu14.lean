import Derived.Test.YtjilpbmehipagaaRq14
import Derived.Test.YtjilpbmehipagaaRs14
set_option maxRecDepth 100000
set_option maxHeartbeats 12800000
namespace Go.Proofs.Ytjilpbmehipagaa
open Go Go.Proofs Go.RowKit
def DpO (L:List Ac) (k B g:Nat) (W:World):Prop:=g<B∧∃ n F K,n≤k∧MapI Try.prog 3 g n (.agg #[zCk,zCk]) F K W∧∀ l,∃ r v,F l=.agg #[r,v]∧Clk B W r (vecP L (Dd 0 L k l))∧Clk B W v (vecP L (Dd 1 L k l))
theorem DpO.bu {L:List Ac} {k B g b h:Nat} {W W':World} (hd:DpO L k B g W) (hb:Bu b h W W') (n1:g≠b) (n2:g≠h) (lb:b<B) (lh:h<B):DpO L k B g W':=by
 obtain ⟨h0,n,F,K,h1,h2,h3⟩:=hd;refine ⟨h0,n,F,K,h1,h2.stay (hb.block g h2.lt n1 n2),fun l=>?_⟩;obtain ⟨r,v,e,h4,h5⟩:=h3 l;exact ⟨r,v,e,h4.bu hb lb lh,h5.bu hb lb lh⟩
theorem DpO.next {L:List Ac} {k B g:Nat} {W W':World} (hd:DpO L k B g W) (hb:Below W.heap.size W W'):DpO L k B g W':=by
 obtain ⟨h0,n,F,K,h1,h2,h3⟩:=hd;refine ⟨h0,n,F,K,h1,h2.next hb,fun l=>?_⟩;obtain ⟨r,v,e,h4,h5⟩:=h3 l;exact ⟨r,v,e,h4.next hb,h5.next hb⟩
theorem DpO.stay {L:List Ac} {k B g:Nat} {W:World} (hd:DpO L k B g W) (h0:(acA L k).k≠0) (h1:(acA L k).k≠1):DpO L (k+1) B g W:=by
 obtain ⟨hg,n,F,K,h2,h3,h4⟩:=hd;refine ⟨hg,n,F,K,by omega,h3,fun l=>?_⟩;rw [dd_same fun a=>h0 a.1,dd_same fun a=>h1 a.1]; exact h4 l
theorem DpO.look {L:List Ac} {k B g:Nat} {W:World} (hd:DpO L k B g W) {l:Int} (h0 : -9223372036854775808≤l) (h1:l≤9223372036854775807):
  ∃ r v,(Instr.lookup 52 (.map (some g)) (.int .i64 l) false).run Try.prog W=.ok (.agg #[r,v]) W∧Clk B W r (vecP L (Dd 0 L k l))∧Clk B W v (vecP L (Dd 1 L k l)):=by
 obtain ⟨_,n,F,K,h2,h3,h4⟩:=hd;obtain ⟨r,v,e,h5,h6⟩:=h4 l;refine ⟨r,v,?_,h5,h6⟩;rw [←e];exact (h3.look (t:=52) (e:=54) Try.underlying3 (by kernel_rfl) (show (zeroValue 54).run Try.prog W=.ok (.agg #[zCk,zCk]) W from by kernel_rfl) (i:=l) (by simp [Lit.wf]; exact ⟨h0,h1⟩)).1
theorem DpO.put {L:List Ac} {k B g:Nat} {W:World} (hk:k<L.length) (hk2:k≤1000) (hd:DpO L k B g W) (h0 : -9223372036854775808≤(acA L k).l) (h1:(acA L k).l≤9223372036854775807) (ht:(acA L k).k=0∨(acA L k).k=1) {r v:Value}
  (hr:Clk B W r (if (acA L k).k=0 then joinL (vecP L (Dd 0 L k (acA L k).l)) (vecP L (Know L k)) else vecP L (Dd 0 L k (acA L k).l))) (hv:Clk B W v (if (acA L k).k=0 then vecP L (Dd 1 L k (acA L k).l) else joinL (vecP L (Dd 1 L k (acA L k).l)) (vecP L (Know L k)))):
  ∃ W',(Instr.mapUpdate 52 (.map (some g)) (.int .i64 (acA L k).l) (.agg #[r,v])).run Try.prog W=.ok () W'∧DpO L (k+1) B g W'∧Bu g g W W':=by
 obtain ⟨hg,n,F,K,h2,h3,h4⟩:=hd;obtain ⟨W',hu,hm,hg2⟩:=h3.put (t:=52) (e:=54) Try.underlying3 (by kernel_rfl) (by omega) (i:=(acA L k).l) (by simp [Lit.wf]; exact ⟨h0,h1⟩) (.agg #[r,v]);have hB:=Bu.put g hg2;have hr2:Clk B W r (vecP L (Dd 0 L (k+1) (acA L k).l)):=by
  by_cases e:(acA L k).k=0
  ·rw [if_pos e,dd_join hk e] at hr; exact hr
  ·rw [if_neg e] at hr; rw [dd_same fun a=>e a.1]; exact hr
 have hv2:Clk B W v (vecP L (Dd 1 L (k+1) (acA L k).l)):=by
  by_cases e:(acA L k).k=0
  ·rw [if_pos e] at hv; rw [dd_same fun a=>by have:=a.1; omega]; exact hv
  ·rw [if_neg e,dd_join hk (by omega)] at hv; exact hv
 refine ⟨W',hu,⟨hg,n+1,_,_,by omega,hm,fun l=>?_⟩,hB⟩;by_cases e:l=(acA L k).l
 ·subst e; rw [if_pos rfl]; exact ⟨r,v,rfl,hr2.bu hB hg hg,hv2.bu hB hg hg⟩
 ·obtain ⟨r',v',e',h5,h6⟩:=h4 l
  rw [if_neg e,dd_same fun a=>e a.2.symm,dd_same fun a=>e a.2.symm]; exact ⟨r',v',e',h5.bu hB hg hg,h6.bu hB hg hg⟩
theorem KnO.bu {L:List Ac} {k B b g h:Nat} {V:List Value} {W W':World} (hk:KnO L k B b g V W) (hb:Bu h h W W') (n1:b≠h) (n2:g≠h) (lh:h<B):KnO L k B b g V W':=by
 refine ⟨hk.lb,hk.lg,hk.ne,Nat.le_trans hk.sz hb.size,hk.vl,hb.blk hk.bb n1 n1,fun u hu=>(hk.vo u hu).bu hb lh lh,?_⟩;obtain ⟨n,F,K,h1,h2,h3⟩:=hk.sg;exact ⟨n,F,K,h1,h2.stay (hb.block g h2.lt n2 n2),fun l=>(h3 l).bu hb lh lh⟩
theorem dpo_zero {L:List Ac} {B g:Nat} {W:World} (hg:g<B) {K:Int→Bool} (hm:MapI Try.prog 3 g 0 (.agg #[zCk,zCk]) (fun _=>.agg #[zCk,zCk]) K W):DpO L 0 B g W:=by
 refine ⟨hg,0,_,_,Nat.le_refl _,hm,fun l=>⟨_,_,rfl,?_,?_⟩⟩
 ·rw [vec_none fun i ⟨j,hj,_⟩=>absurd hj (Nat.not_lt_zero _)]; exact Clk.nil
 ·rw [vec_none fun i ⟨j,hj,_⟩=>absurd hj (Nat.not_lt_zero _)]; exact Clk.nil
theorem isac_take {W:World} {ad:Option Addr} {n cap k:Nat} {L:List Ac} (h:IsAc W (.slice ad n cap) L) (hk:k≤L.length):IsAc W (.slice ad k cap) (L.take k):=by
 obtain ⟨ad',cap',e,h1,h2,h3⟩:=h
 cases e
 refine ⟨ad,cap,by rw [List.length_take,Nat.min_eq_left hk],by rw [List.length_take]; omega,h2,fun hne=>?_⟩;obtain ⟨b,off,e,h4,h5⟩:=h3 (fun e=>hne (by rw [e]; simp));exact ⟨b,off,e,h4,fun j hj=>by rw [List.getElem_take]; exact h5 j (by rw [List.length_take] at hj; omega)⟩
structure FsO (L:List Ac) (k B b g p:Nat) (w W:World):Prop where
 kn:∃ V,KnO L k B b g V W
 dp:DpO L k B p W
 be:Below w.heap.size w W
 nr:∀ i j,i<j→j<k→¬ raceP L i j
theorem FsO.next {L:List Ac} {k B b g p:Nat} {w W W':World} (h:FsO L k B b g p w W) (hb:Below W.heap.size W W'):FsO L k B b g p w W':=by
 obtain ⟨V,h1⟩:=h.kn;exact ⟨⟨V,h1.next hb⟩,h.dp.next hb,h.be.trans (hb.mono h.be.size),h.nr⟩
theorem rfirst_ok:RFirstOk:=by
 intro L v w hl hLO h
 have hAc:=h;obtain ⟨ad,cap,rfl,h1,h2,-⟩:=h;have HTR:=Lh (istrace_any L _ w hAc);have HAc:=Lh (fun W (hb:Below w.heap.size w W)=>hAc.next hb);obtain ⟨n,hn⟩:∃ n,n=L.length:=⟨_,rfl⟩
 have HN:=Lh (And.intro hn.symm (And.intro hl hLO));rw [←hn] at HAc HTR h1 ⊢;clear hn hAc hl hLO
 go_enter Try.func12,Try.ntmps12
 cases em:mayAc L
 ·rw [em] at HTR
  have HC:=Lh (code_form em);go_wp2_with (go_at_call 15; refine HTR.out.mono ?_; rintro e w1 ⟨rfl,hb⟩)
  refine bodyPost_ret (v:=.tuple #[.int .i64 (-1),.int .i64 (-1),.int .i64 1]) (by simp [results,Try.results12,go_sem]) rfl ⟨_,_,by rw [HC.out],hb⟩
 rw [em] at HTR;have HM:=Lh em;have hmm := @run_makeMap Try.prog;clear em
 go_upto_region 4 with (first | (go_at_call 15; refine HTR.out.mono ?_; clear HTR; rintro e w1 ⟨rfl,hb1⟩) | (go_at_call 16; refine (unknowing_any _).mono ?_; rintro e w2 ⟨b,g,K0,rfl,ub,ug,une,ulb,ulg,uB,uM,hb2⟩))
 have HG:=Lh (And.intro (Nat.le_trans hb1.size ub) (And.intro (Nat.le_trans hb1.size ug) (And.intro (Nat.le_trans hb1.size hb2.size) (And.intro ulb ulg))));have H0:Hid (FsO L 0 (w2.heap.size+1) b g w2.heap.size w (w2.alloc (.map #[] 0))):=Lh ⟨⟨_,kno_of (K:=K0) (by omega) (by omega) une (by simp) (uB.next bA) (uM.next bA)⟩,dpo_zero (by omega) (MapI.start w2),(hb1.trans (hb2.mono hb1.size)).trans (bA.mono (Nat.le_trans hb1.size hb2.size)),fun i j _ h=>absurd h (Nat.not_lt_zero _)⟩;have HNE:=Lh une;clear ub ug une ulb ulg uB uM hb1 hb2 hmm;generalize hp:w2.heap.size=p at *
 generalize w2.alloc (.map #[] 0)=W0 at *
 clear hp;go_wp2_with fail
 go_loopg [18] n (fun g_ t18 wr=>∃ k:Nat,k≤n∧g_=n-k∧t18=.int .i64 (k:Int)∧FsO L k (p+1) b g p w wr)
 case atStart=>exact ⟨0,Nat.zero_le _,rfl,rfl,H0.out⟩
 case round=>
  obtain ⟨k,hk,rfl,rfl,hr⟩:=hrel;clear H0;by_cases hlt:k<n
  ·have hlt2:k<L.length:=by have:=HN.out.1; omega
   obtain ⟨bb,off,had,hbw,hc⟩:=(HAc.out w (Below.refl _ _)).at HN.out.1 (by omega);subst had;have c0:=(hr.be.cell (p:=⟨bb,off+k * 3,none⟩) hbw).trans (hc k hlt).1;have c1:=(hr.be.cell (p:=⟨bb,off+k * 3+1,none⟩) hbw).trans (hc k hlt).2.1;have c2:=(hr.be.cell (p:=⟨bb,off+k * 3+2,none⟩) hbw).trans (hc k hlt).2.2;have hmk:=may_at HM.out hlt2;have hlo : -9223372036854775808≤(acA L k).l∧(acA L k).l≤9223372036854775807:=by rw [←acA_eq hlt2]; exact HN.out.2.2 _ (List.getElem_mem hlt2)
   have HX:=Lh (show acA L k=⟨(acA L k).t,(acA L k).k,(acA L k).l⟩ from rfl);generalize (acA L k).t=xt at *
   generalize (acA L k).k=xk at *
   generalize (acA L k).l=xl at *
   obtain ⟨u,rfl⟩:∃ u:Nat,xt=(u:Int):=⟨xt.toNat,by omega⟩
   have hu:u<16:=by omega
   have HR:=Lh (hr.next (bA (o:=.cells #[.int .i64 (u:Int),.int .i64 xk,.int .i64 xl] 31)));have HB:=Lh (Blk.start wr [.int .i64 (u:Int),.int .i64 xk,.int .i64 xl] 31);have HSZ:=Lh (show p+1≤wr.heap.size from by obtain ⟨V,h⟩:=hr.kn; exact h.sz);have HMK:=Lh (And.intro hmk hlo);have HLT:=Lh (And.intro hlt hlt2);have hwk:IntKind.i64.wrap ((k:Int)+1)=(k:Int)+1:=IntWalk.i64_in _ (by have:=HN.out.1; have:=HN.out.2.1; omega);clear hr hc hmk hlo hlt2
   go_upto_region 7 with fail
   generalize wr.alloc (.cells #[.int .i64 (u:Int),.int .i64 xk,.int .i64 xl] 31)=w3 at *
   generalize hbx:wr.heap.size=bx at *
   clear hbx c0 c1 c2 hlt;obtain ⟨V,hkn⟩:=HR.out.kn;have HLN:=Lh (learn_any L k u xk xl HX.out hu HLT.out.2 (by have:=HN.out; omega) HMK.out.2.1 HMK.out.2.2 (p+1) b g V w3 hkn);clear hkn;obtain ⟨x0,x1,x2⟩:=blk3 HB.out
   go_upto_region 8 with (go_at_call 17; refine HLN.out.mono ?_; clear HLN; rintro e w4 ⟨v,V',rfl,hck,hkn,hbu⟩)
   have H4:Hid (Below w.heap.size w w4∧DpO L k (p+1) p w4∧(∃ V,KnO L (k+1) (p+1) b g V w4)∧Clk (p+1) w4 v (vecP L (Know L k))∧Blk w4 bx [.int .i64 (u:Int),.int .i64 xk,.int .i64 xl] 31∧∀ i j,i<j→j<k→¬ raceP L i j):=Lh
    ⟨HR.out.be.trans (hbu.below HG.out.1 HG.out.2.1 HR.out.be.size),HR.out.dp.bu hbu (by have:=HG.out; omega) (by have:=HG.out; omega) (by have:=HG.out; omega) (by have:=HG.out; omega),⟨V',hkn⟩,hck,hbu.blk HB.out (by have:=HG.out; have:=HSZ.out; omega) (by have:=HG.out; have:=HSZ.out; omega),HR.out.nr⟩
   have H5:=Lh (fun W (hb:Below w4.heap.size w4 W)=>show Below w.heap.size w W∧DpO L k (p+1) p W∧(∃ V,KnO L (k+1) (p+1) b g V W)∧Clk (p+1) W v (vecP L (Know L k))∧Blk W bx [.int .i64 (u:Int),.int .i64 xk,.int .i64 xl] 31 from
    ⟨H4.out.1.trans (hb.mono H4.out.1.size),H4.out.2.1.next hb,by obtain ⟨V,h⟩:=H4.out.2.2.1; exact ⟨V,h.next hb⟩,H4.out.2.2.2.1.next hb,H4.out.2.2.2.2.1.next hb⟩)
   obtain ⟨va,vn,vc,rfl⟩:=hck.form;clear hck hkn hbu HR HB x0 x1 x2;obtain ⟨y0,y1,y2⟩:=blk3 H4.out.2.2.2.2.1;have HTO:=Lh (show Calls Try.prog 19 #[.agg #[.int .i64 (u:Int),.int .i64 xk,.int .i64 xl]] w4 fun e w'=>e=.returned (.bool (touB ⟨u,xk,xl⟩))∧Below w4.heap.size w4 w' from touches_any ⟨u,xk,xl⟩ w4);by_cases ht:xk=0∨xk=1
   rotate_left
   ·rw [show touB ⟨u,xk,xl⟩=false from decide_eq_false ht] at HTO
    have HNX:=Lh ht;clear ht;go_wp2_with (go_at_call 19; refine HTO.out.mono ?_; rintro e w5 ⟨rfl,hb5⟩)
    go_roundg (n-(k+1))
    case measure=>have:=HLT.out; omega
    case rel=>
     obtain ⟨g1,g2,g3,-,-⟩:=H5.out _ hb5;refine ⟨k+1,by have:=HLT.out; omega,rfl,by go_num,g3,g2.stay (by rw [HX.out]; exact fun e=>HNX.out (.inl e)) (by rw [HX.out]; exact fun e=>HNX.out (.inr e)),g1,fun i j h1 h2 hrr=>?_⟩;by_cases e:j=k
     ·subst e
      have h3:=hrr.1.2.1;rw [HX.out] at h3;have:=HMK.out.1.2.2;exact HNX.out (show xk=0∨xk=1 by have h4:xk<2:=h3; omega)
     ·exact H4.out.2.2.2.2.2 i j h1 (by omega) hrr
   rw [show touB ⟨u,xk,xl⟩=true from decide_eq_true ht] at HTO;have HTT:=Lh ht;clear ht
   go_upto_region 9 with (go_at_call 19; refine HTO.out.mono ?_; rintro e w5 ⟨rfl,hb5⟩; have H6:=Lh (H5.out _ hb5); clear hb5)
   clear y0 y1 y2 HTO;obtain ⟨y0,y1,y2⟩:=blk3 H6.out.2.2.2.2;obtain ⟨rv,wv,hlk,hrd,hwd⟩:=H6.out.2.1.look (l:=xl) HMK.out.2.1 HMK.out.2.2;obtain ⟨ra,rn,rc,rfl⟩:=hrd.form;obtain ⟨wa,wn,wc,rfl⟩:=hwd.form;have H7:=Lh (And.intro (hrd.next (bA (o:=.cells #[.slice ra rn rc,.slice wa wn wc] 54))) (And.intro (hwd.next (bA (o:=.cells #[.slice ra rn rc,.slice wa wn wc] 54))) (And.intro (Blk.start w5 [.slice ra rn rc,.slice wa wn wc] 54) (bA (w:=w5) (o:=.cells #[.slice ra rn rc,.slice wa wn wc] 54)))));clear hrd hwd
   go_upto_region 10 with fail
   generalize w5.alloc (.cells #[.slice ra rn rc,.slice wa wn wc] 54)=w6 at *
   have HKN:=Lh (show Calls Try.prog 20 #[.agg #[.slice ra rn rc,.slice wa wn wc],.agg #[.int .i64 (u:Int),.int .i64 xk,.int .i64 xl],.slice va vn vc] w6 fun e w'=>e=.returned (.bool (knwB L k))∧Below w6.heap.size w6 w' from by
    have h:=known_any (L:=L) (by have:=HN.out; omega) (u:Int) xk xl w6 H7.out.1 H7.out.2.1 (H6.out.2.2.2.1.next H7.out.2.2.2);have e:knwB L k=(leqL (vecP L (Dd 1 L k xl)) (vecP L (Know L k))&&((xk==0)||leqL (vecP L (Dd 0 L k xl)) (vecP L (Know L k)))):=by unfold knwB; rw [HX.out]
    rw [e]; exact h)
   have HKW:=Lh (knw_iff HM.out HLT.out.2 (by rw [HX.out]; exact HTT.out));have H8:=Lh (fun W (hb:Below w6.heap.size w6 W)=>And.intro (H7.out.1.next hb) (And.intro (H7.out.2.1.next hb) (And.intro (H7.out.2.2.1.next hb) (And.intro (H6.out.2.2.2.2.next (H7.out.2.2.2.trans (hb.mono H7.out.2.2.2.size))) (And.intro (H6.out.2.2.2.1.next (H7.out.2.2.2.trans (hb.mono H7.out.2.2.2.size))) (And.intro (H6.out.2.1.next (H7.out.2.2.2.trans (hb.mono H7.out.2.2.2.size))) (And.intro (H6.out.2.2.1.imp fun V h=>h.next (H7.out.2.2.2.trans (hb.mono H7.out.2.2.2.size))) (H6.out.1.trans ((H7.out.2.2.2.trans (hb.mono H7.out.2.2.2.size)).mono H6.out.1.size)))))))));obtain ⟨d0,d1⟩:=H7.out.2.2.1.c2;clear y0 y1 y2 hlk;obtain ⟨y0,y1,y2⟩:=blk3 (H8.out _ (Below.refl _ _)).2.2.2.1;have HNR:=Lh H4.out.2.2.2.2.2;have HS5:=Lh (show p+1≤w5.heap.size from by obtain ⟨V,h⟩:=H6.out.2.2.1; exact h.sz);clear H4 H5 H6 H7;generalize w5.heap.size=bd at *
   generalize hz:knwB L k=z at *
   cases z with
   | false=>
    go_upto_region 11 with (go_at_call 20; refine HKN.out.mono ?_; clear HKN; rintro e w7 ⟨rfl,hb7⟩; have H9:=Lh (H8.out _ hb7); clear hb7)
    have HFU:=Lh (fun W (hb:Below w7.heap.size w7 W)=>show Calls Try.prog 21 #[.slice (some ⟨bb,off,none⟩) k cap,.agg #[.int .i64 (u:Int),.int .i64 xk,.int .i64 xl],.slice va vn vc] W fun e w'=>∃ a,e=.returned (.int .i64 a)∧Below W.heap.size W w' from by
     obtain ⟨TC,iC,mC,-⟩:=(H9.out.2.2.2.2.1.next hb).ex (by have:=HN.out; omega);exact firstunknown_any (L.take k) _ ⟨u,xk,xl⟩ TC _ W (by have h:=HM.out; rw [mayAc,List.all_eq_true] at h ⊢; exact fun x hx=>h x (List.mem_of_mem_take hx)) (isac_take (HAc.out W (H9.out.2.2.2.2.2.2.2.trans (hb.mono H9.out.2.2.2.2.2.2.2.size))) (k:=k) (by have:=HLT.out; omega)) iC mC)
    obtain ⟨e0,e1,e2⟩:=blk3 H9.out.2.2.2.1;have HCR:=Lh (show codeL L=13 from by
     obtain ⟨j,hj,hrr⟩:∃ j,j<k∧raceP L j k:=Classical.byContradiction fun hn=>by
      have h:=HKW.out.2 fun j hj hrr=>hn ⟨j,hj,hrr⟩
      cases h
     exact code_race HM.out ⟨j,k,hj,HLT.out.2,hrr⟩)
    have HBE:=Lh H9.out.2.2.2.2.2.2.2;have hq1:(k:Int)≤(cap:Int):=by have:=HLT.out.1; omega
    refine rgH (fun W=>Cz3 W bx (.int .i64 (u:Int)) (.int .i64 xk) (.int .i64 xl)) ⟨e0,e1,e2⟩ fun hH=>?_
    refine tq 0 (.slice (some ⟨bb,off,none⟩) n cap) hH ?_;refine tq 1 (.int .i64 (k:Int)) hH ?_;refine tq 2 (.slice (some ⟨bb,off,none⟩) k cap) hH ?_;refine tq 3 (.agg #[.int .i64 (u:Int),.int .i64 xk,.int .i64 xl]) hH ?_;refine tq 4 (.slice va vn vc) hH ?_;refine tq 6 (.int .i64 (k:Int)) hH ?_;refine rd1 5 (by kernel_rfl) rfl fun K hK=>?_
    go_simp
    refine (HFU.out _ bdq).mono ?_
    rintro e w8 ⟨fa,rfl,hb8⟩
    go_wp2_with fail
    have HE:=Lh (HBE.out.trans ((bdq.trans hb8).mono HBE.out.size));refine hK.out _ _ (by have h:=H9.out.2.2.2.1.next (bdq.trans hb8); exact blk3 h) (fun hH2=>?_);clear hK K hH hb8;have hH:=hH2;clear hH2
    try simp only [LAY]
    refine tq 7 (.int .i64 fa) hH ?_;refine tq 8 (.int .i64 (k:Int)) hH ?_;refine tq 9 (.int .i64 13) hH ?_;refine dnH ?_;go_wp2_with fail
    refine bodyPost_ret (v:=.tuple #[.int .i64 fa,.int .i64 (k:Int),.int .i64 13]) (by simp [results,Try.results12,go_sem]) rfl ⟨_,_,by rw [HCR.out],HE.out⟩
   | true=>
    go_upto_region 12 with (go_at_call 20; refine HKN.out.mono ?_; clear HKN; rintro e w7 ⟨rfl,hb7⟩; have H9:=Lh (H8.out _ hb7); clear hb7)
    have HWT:=Lh (fun W (hb:Below w7.heap.size w7 W)=>with_any (L:=L) (by have:=HN.out; omega) (u:Int) xk xl W (Nat.le_trans (by have:=HS5.out; have h2:=H9.out.2.2.1.lt; omega) hb.size) (H9.out.1.next hb) (H9.out.2.1.next hb) (H9.out.2.2.2.2.1.next hb));have HSV:=Lh (fun W (hb:Below w7.heap.size w7 W)=>show (W.cell? ⟨bx,0,none⟩=some (.int .i64 (u:Int))∧W.cell? ⟨bx,1,none⟩=some (.int .i64 xk)∧W.cell? ⟨bx,2,none⟩=some (.int .i64 xl))∧W.cell? ⟨bd,0,none⟩=some (.slice ra rn rc)∧W.cell? ⟨bd,1,none⟩=some (.slice wa wn wc) from ⟨blk3 (H9.out.2.2.2.1.next hb),(H9.out.2.2.1.next hb).c2⟩);have hnr:∀ i j,i<j→j<k+1→¬ raceP L i j:=fun i j h1 h2=>by
     by_cases e:j=k
     ·subst e; exact HKW.out.1 trivial i h1
     ·exact HNR.out i j h1 (by omega)
    have HNR2:=Lh hnr;clear hnr HKW HNR;refine rgH (fun W=>(W.cell? ⟨bx,0,none⟩=some (.int .i64 (u:Int))∧W.cell? ⟨bx,1,none⟩=some (.int .i64 xk)∧W.cell? ⟨bx,2,none⟩=some (.int .i64 xl))∧W.cell? ⟨bd,0,none⟩=some (.slice ra rn rc)∧W.cell? ⟨bd,1,none⟩=some (.slice wa wn wc)) (HSV.out _ bdq) fun hH=>?_
    refine tq 0 (.map (some p)) hH ?_;refine tq 1 (.pointer (some ⟨bx,2,none⟩)) hH ?_;refine tq 2 (.int .i64 xl) hH ?_;refine tq 3 (.agg #[.slice ra rn rc,.slice wa wn wc]) hH ?_;refine tq 4 (.agg #[.int .i64 (u:Int),.int .i64 xk,.int .i64 xl]) hH ?_;refine tq 5 (.slice va vn vc) hH ?_;refine rd1 6 (by kernel_rfl) rfl fun K hK=>?_
    go_simp
    refine (HWT.out _ bdq).mono ?_
    rintro e w8 ⟨r2,v2,rfl,hr2,hv2,hb8⟩
    go_wp2_with fail
    refine hK.out _ _ (HSV.out _ (bdq.trans hb8)) (fun hH2=>?_);clear hK K hH;have hH:=hH2;clear hH2
    try simp only [LAY]
    have hb9:Below w7.heap.size w7 w8:=bdq.trans hb8;obtain ⟨w9,hmu,hdp,hbu⟩:=(H9.out.2.2.2.2.2.1.next hb9).put HLT.out.2 (by have:=HN.out; have:=HLT.out; omega) (by rw [HX.out]; exact HMK.out.2.1) (by rw [HX.out]; exact HMK.out.2.2) (by rw [HX.out]; exact HTT.out) (r:=r2) (v:=v2) (by rw [HX.out]; exact hr2) (by rw [HX.out]; exact hv2);rw [HX.out] at hmu;obtain ⟨V2,hV2⟩:=H9.out.2.2.2.2.2.2.1;have HE:Hid (FsO L (k+1) (p+1) b g p w w9):=Lh ⟨⟨V2,(hV2.next hb9).bu hbu (by have:=HG.out; omega) (by have:=HG.out; omega) (by omega)⟩,hdp,(H9.out.2.2.2.2.2.2.2.trans (hb9.mono H9.out.2.2.2.2.2.2.2.size)).trans (hbu.below HG.out.2.2.1 HG.out.2.2.1 (Nat.le_trans H9.out.2.2.2.2.2.2.2.size hb9.size)),HNR2.out⟩;have hS9:(w9.cell? ⟨bx,0,none⟩=some (.int .i64 (u:Int))∧w9.cell? ⟨bx,1,none⟩=some (.int .i64 xk)∧w9.cell? ⟨bx,2,none⟩=some (.int .i64 xl))∧w9.cell? ⟨bd,0,none⟩=some (.slice ra rn rc)∧w9.cell? ⟨bd,1,none⟩=some (.slice wa wn wc):=by
     have g1:=hbu.blk (H9.out.2.2.2.1.next hb9) (by have:=HSZ.out; omega) (by have:=HSZ.out; omega);have g2:=hbu.blk (H9.out.2.2.1.next hb9) (by have:=HS5.out; omega) (by have:=HS5.out; omega);exact ⟨blk3 g1,g2.c2⟩
    have HS9:=Lh hS9;clear hS9 hdp hbu hV2 hr2 hv2 hb8 hb9;refine rd1 7 (by kernel_rfl) rfl fun K hK=>?_
    go_simp
    go_wp2_with fail
    refine hK.out _ _ HS9.out (fun hH2=>?_);clear hK K hH hH2 hmu
    try simp only [LAY]
    refine dnH ?_;go_wp2_with fail
    go_roundg (n-(k+1))
    case measure=>have:=HLT.out; omega
    case rel=>exact ⟨k+1,by have:=HLT.out; omega,rfl,by go_num,HE.out⟩
  ·obtain rfl:n=k:=by omega
   have HC:=Lh (code_ok HM.out (fun ⟨i,j,h1,h2,h3⟩=>hr.nr i j h1 (by have:=HN.out.1; omega) h3));have HB:=Lh hr.be;clear hr;go_wp2_with fail
   refine bodyPost_ret (v:=.tuple #[.int .i64 (-1),.int .i64 (-1),.int .i64 0]) (by simp [results,Try.results12,go_sem]) rfl ⟨_,_,by rw [HC.out],HB.out⟩
end Go.Proofs.Ytjilpbmehipagaa
