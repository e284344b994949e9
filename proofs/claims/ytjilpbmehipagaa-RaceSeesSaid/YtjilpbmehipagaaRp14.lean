import Derived.Test.YtjilpbmehipagaaRn14
set_option maxRecDepth 100000
set_option maxHeartbeats 12800000
namespace Go.Proofs.Ytjilpbmehipagaa
open Go Go.Proofs Go.RowKit
def Dd (c:Int) (L:List Ac) (k:Nat) (l:Int) (i:Nat):Prop:=∃ j,j<k∧(acA L j).k=c∧(acA L j).l=l∧Know L j i
theorem dd_next {c:Int} {L:List Ac} {k i:Nat} {l:Int}:Dd c L (k+1) l i↔Dd c L k l i∨((acA L k).k=c∧(acA L k).l=l)∧Know L k i:=by
 constructor
 ·rintro ⟨j,a,b,b2,d⟩
  by_cases e:j=k
  ·subst e; exact .inr ⟨⟨b,b2⟩,d⟩
  ·exact .inl ⟨j,by omega,b,b2,d⟩
 ·rintro (⟨j,a,b,b2,d⟩ | ⟨⟨b,b2⟩,d⟩)
  ·exact ⟨j,by omega,b,b2,d⟩
  ·exact ⟨k,by omega,b,b2,d⟩
theorem dd_dc {c:Int} {L:List Ac} {k:Nat} {l:Int} (hk:k≤L.length):Dc L (Dd c L k l):=fun i j ⟨x,a,b,b2,d⟩ hij ht=>⟨x,a,b,b2,know_dc (by omega) i j d hij ht⟩
theorem dd_same {c:Int} {L:List Ac} {k:Nat} {l:Int} (hn:¬ ((acA L k).k=c∧(acA L k).l=l)):vecP L (Dd c L (k+1) l)=vecP L (Dd c L k l):=vec_congr fun i=>by rw [dd_next]; exact ⟨fun h=>h.elim id fun a=>absurd a.1 hn,.inl⟩
theorem dd_join {c:Int} {L:List Ac} {k:Nat} (hk:k<L.length) (hn:(acA L k).k=c):joinL (vecP L (Dd c L k (acA L k).l)) (vecP L (Know L k))=vecP L (Dd c L (k+1) (acA L k).l):=by
 rw [vec_join (dd_dc (Nat.le_of_lt hk)) (know_dc hk)];exact vec_congr fun i=>by rw [dd_next]; exact ⟨fun h=>h.elim .inl fun a=>.inr ⟨⟨hn,rfl⟩,a⟩,fun h=>h.elim .inl fun a=>.inr a.2⟩
theorem vec_leq {L:List Ac} {P Q:Nat→Prop} (hm:mayAc L=true) (hP:Dc L P) (hQ:Dc L Q):leqL (vecP L P) (vecP L Q)=true↔∀ i,i<L.length→P i→Q i:=by
 rw [leq_iff]
 constructor
 ·intro h i hi hp
  refine Classical.byContradiction fun hq=>?_
  have hmi:mayA1 (acA L i)=true:=by rw [←acA_eq hi]; exact List.all_eq_true.1 hm _ (List.getElem_mem hi)
  obtain ⟨x1,x2,-⟩:0≤(acA L i).t∧(acA L i).t≤15∧0≤(acA L i).k∧(acA L i).k≤3:=by simpa [mayA1] using hmi
  have h2:=h (acA L i).t.toNat (by omega);rw [vec_at (by omega),vec_at (by omega),show (((acA L i).t.toNat:Nat):Int)=(acA L i).t by omega] at h2;have h3:=cnt_lt (L:=L) (P:=Q) (Q:=P) (u:=(acA L i).t) (fun j hj ht hqj=>by
   rcases Nat.lt_trichotomy j i with e | e | e
   ·exact hP j i hp e ht
   ·subst e; exact hp
   ·exact absurd (hQ i j hqj e ht.symm) hq) hi rfl hp hq
  omega
 ·intro h j hj
  rw [vec_at hj,vec_at hj];have:=cnt_mono (L:=L) (u:=(j:Int)) fun i hi _ hp=>h i hi hp
  omega
theorem know_sub {L:List Ac} {j k:Nat} (hjk:j<k) (hk:k<L.length):(∀ i,i<L.length→Know L j i→Know L k i)↔Ord L j k:=
 ⟨fun h=>(h j (by omega) (.inl rfl)).elim (by omega) id,fun h i _ hi=>hi.elim (fun e=>e▸.inr h) fun o=>.inr (o.trans h)⟩
theorem dd_leq {c:Int} {L:List Ac} {k:Nat} {l:Int} (hm:mayAc L=true) (hk:k<L.length):leqL (vecP L (Dd c L k l)) (vecP L (Know L k))=true↔∀ j,j<k→(acA L j).k=c→(acA L j).l=l→Ord L j k:=by
 rw [vec_leq hm (dd_dc (Nat.le_of_lt hk)) (know_dc hk)]
 constructor
 ·intro h j hj a b
  exact (know_sub hj hk).1 fun i hi hji=>h i hi ⟨j,hj,a,b,hji⟩
 ·rintro h i hi ⟨j,hj,a,b,d⟩
  exact (know_sub hj hk).2 (h j hj a b) i hi d
noncomputable def knwB (L:List Ac) (k:Nat):Bool:=leqL (vecP L (Dd 1 L k (acA L k).l)) (vecP L (Know L k))&&(((acA L k).k==0)||leqL (vecP L (Dd 0 L k (acA L k).l)) (vecP L (Know L k)))
theorem may_at {L:List Ac} (hm:mayAc L=true) {i:Nat} (hi:i<L.length):0≤(acA L i).t∧(acA L i).t≤15∧0≤(acA L i).k∧(acA L i).k≤3:=by
 have hmi:mayA1 (acA L i)=true:=by rw [←acA_eq hi]; exact List.all_eq_true.1 hm _ (List.getElem_mem hi)
 simpa [mayA1] using hmi
theorem knw_iff {L:List Ac} {k:Nat} (hm:mayAc L=true) (hk:k<L.length) (ht:(acA L k).k=0∨(acA L k).k=1):knwB L k=true↔∀ j,j<k→¬ raceP L j k:=by
 unfold knwB
 rw [Bool.and_eq_true,Bool.or_eq_true,dd_leq hm hk,dd_leq hm hk,beq_iff_eq]
 constructor
 ·rintro ⟨h1,h2⟩ j hj ⟨⟨a,b,c,d⟩,e,_⟩
  have hm1:=may_at hm (show j<L.length by omega);by_cases e1:(acA L j).k=1
  ·exact e (h1 j hj e1 c)
  ·have e0:(acA L j).k=0:=by omega
   have e2:(acA L k).k=1:=by omega
   rcases h2 with h2 | h2
   ·omega
   ·exact e (h2 j hj e0 c)
 ·intro h
  have no:∀ j,j<k→((acA L j).k<2∧(acA L k).k<2∧(acA L j).l=(acA L k).l∧((acA L j).k=1∨(acA L k).k=1))→Ord L j k:=fun j hj a=>
   Classical.byContradiction fun hn=>h j hj ⟨a,hn,fun o=>by have:=o.lt; omega⟩
  refine ⟨fun j hj a b=>no j hj ⟨by omega,by omega,b,.inl a⟩,?_⟩;by_cases e:(acA L k).k=0
  ·exact .inl e
  ·exact .inr fun j hj a b=>no j hj ⟨by omega,by omega,b,.inr (by omega)⟩
theorem Clk.form {B:Nat} {W:World} {v:Value} {M:List Int} (h:Clk B W v M):∃ a n c,v=.slice a n c:=by
 obtain ⟨A,h,_⟩:=h; exact h.form
theorem known_any {L:List Ac} {P R Q:Nat→Prop} (hl:L.length≤1000) (t kk l:Int) {B:Nat} {r v c:Value} (w:World) (hr:Clk B w r (vecP L R)) (hv:Clk B w v (vecP L P)) (hc:Clk B w c (vecP L Q)):
  Calls Try.prog 20 #[.agg #[r,v],.agg #[.int .i64 t,.int .i64 kk,.int .i64 l],c] w fun e w'=>e=.returned (.bool (leqL (vecP L P) (vecP L Q)&&((kk==0)||leqL (vecP L R) (vecP L Q))))∧Below w.heap.size w w':=by
 obtain ⟨TR,iR,mR,pR⟩:=hr.ex hl;obtain ⟨TV,iV,mV,pV⟩:=hv.ex hl;obtain ⟨TC,iC,mC,pC⟩:=hc.ex hl;obtain ⟨ra,rn,rc,rfl⟩:=hr.form;obtain ⟨va,vn,vc,rfl⟩:=hv.form;obtain ⟨ca,cn,cc,rfl⟩:=hc.form;clear hr hv hc;have hb:=Lh (show Below w.heap.size w ((w.alloc (.cells #[.slice ra rn rc,.slice va vn vc] 54)).alloc (.cells #[.int .i64 t,.int .i64 kk,.int .i64 l] 31)) from bA.trans (bA.mono (by simp)));have hX:=Lh (Blk.alloc (Blk.start w [.slice ra rn rc,.slice va vn vc] 54) (.cells #[.int .i64 t,.int .i64 kk,.int .i64 l] 31));have hY:=Lh (Blk.startAt (W:=w.alloc (.cells #[.slice ra rn rc,.slice va vn vc] 54)) (vs:=[.int .i64 t,.int .i64 kk,.int .i64 l]) (t:=31) (b:=w.heap.size+1) (by simp))
 go_enter Try.func20,Try.ntmps20
 go_upto_region 1 with fail
 generalize (w.alloc (.cells #[.slice ra rn rc,.slice va vn vc] 54)).alloc (.cells #[.int .i64 t,.int .i64 kk,.int .i64 l] 31)=W0 at *
 have HQ1:=Lh (vleq_ok TV TC _ _ W0 mV mC (iV.next hb.out) (iC.next hb.out));have HQ2:=Lh (fun W (h:Below W0.heap.size W0 W)=>vleq_ok TR TC _ _ W mR mC (iR.next (hb.out.trans (h.mono hb.out.size))) (iC.next (hb.out.trans (h.mono hb.out.size))));rw [pV,pC] at HQ1;rw [pR,pC] at HQ2;have HK:=Lh (fun W (h:Below W0.heap.size W0 W)=>And.intro (hb.out.trans (h.mono hb.out.size)) (And.intro (hX.out.next h) (hY.out.next h)));have q0:=hX.out.cell 1 rfl;clear hX hY iR mR pR iV mV pV iC mC pC;obtain ⟨z1,hz1⟩:∃ z,leqL (vecP L P) (vecP L Q)=z:=⟨_,rfl⟩
 obtain ⟨z2,hz2⟩:∃ z,leqL (vecP L R) (vecP L Q)=z:=⟨_,rfl⟩
 rw [hz1] at HQ1;rw [hz2] at HQ2;have HZ:=Lh (And.intro hz1 hz2);clear hz1 hz2
 cases z1 with
 | false=>
  clear HQ2;go_wp2_with (go_at_call 18; refine HQ1.out.mono ?_; rintro e w1 ⟨rfl,hb1⟩; have H1:=Lh (HK.out w1 hb1))
  go_ret
  exact ⟨by rw [HZ.out.1]; rfl,H1.out.1⟩
 | true=>
  by_cases c1:kk=0
  ·subst c1
   clear HQ2;go_wp2_with (go_at_call 18; refine HQ1.out.mono ?_; rintro e w1 ⟨rfl,hb1⟩; have H1:=Lh (HK.out w1 hb1); obtain ⟨y0,y1,y2⟩:=blk3 H1.out.2.2)
   go_ret
   exact ⟨by rw [HZ.out.1]; rfl,H1.out.1⟩
  ·have c1':(kk==0)=false:=by simpa using c1
   clear c1;go_wp2_with (first | (go_at_call 18; refine HQ1.out.mono ?_; clear HQ1; rintro e w1 ⟨rfl,hb1⟩; have H1:=Lh (HK.out w1 hb1); obtain ⟨y0,y1,y2⟩:=blk3 H1.out.2.2; have x0:=H1.out.2.1.cell 0 rfl; have HQ3:=Lh (HQ2.out w1 hb1)) | (go_at_call 18; refine HQ3.out.mono ?_; rintro e w2 ⟨rfl,hb2⟩))
   go_ret
   exact ⟨by rw [HZ.out.1,HZ.out.2,c1']; rfl,H1.out.1.trans (hb2.mono H1.out.1.size)⟩
theorem info_de:(Try.prog.info? 54).map (·.size)=some 2:=by kernel_rfl
theorem with_any {L:List Ac} {P R Q:Nat→Prop} (hl:L.length≤1000) (t kk l:Int) {B:Nat} {r v c:Value} (w:World) (hB:B≤w.heap.size) (hr:Clk B w r (vecP L R)) (hv:Clk B w v (vecP L P)) (hc:Clk B w c (vecP L Q)):
  Calls Try.prog 22 #[.agg #[r,v],.agg #[.int .i64 t,.int .i64 kk,.int .i64 l],c] w fun e w'=>∃ r' v',e=.returned (.agg #[r',v'])∧Clk B w' r' (if kk=0 then joinL (vecP L R) (vecP L Q) else vecP L R)∧Clk B w' v' (if kk=0 then vecP L P else joinL (vecP L P) (vecP L Q))∧Below w.heap.size w w':=by
 obtain ⟨TR,iR,mR,pR⟩:=hr.ex hl;obtain ⟨TV,iV,mV,pV⟩:=hv.ex hl;obtain ⟨TC,iC,mC,pC⟩:=hc.ex hl;obtain ⟨ra,rn,rc,rfl⟩:=hr.form;obtain ⟨va,vn,vc,rfl⟩:=hv.form;obtain ⟨ca,cn,cc,rfl⟩:=hc.form;have HC:=Lh (fun W (h:Below w.heap.size w W)=>And.intro (hr.next h) (hv.next h));clear hr hv hc;have hb:=Lh (show Below w.heap.size w (((w.alloc (.cells #[.slice ra rn rc,.slice va vn vc] 54)).alloc (.cells #[.int .i64 t,.int .i64 kk,.int .i64 l] 31)).alloc (.cells #[.slice none 0 0,.slice none 0 0] 54)) from (bA.trans (bA.mono (by simp))).trans (bA.mono (by simp; omega)));have hX:=Lh (Blk.alloc (Blk.alloc (Blk.start w [.slice ra rn rc,.slice va vn vc] 54) (.cells #[.int .i64 t,.int .i64 kk,.int .i64 l] 31)) (.cells #[.slice none 0 0,.slice none 0 0] 54));have hY:=Lh (Blk.alloc (Blk.startAt (W:=w.alloc (.cells #[.slice ra rn rc,.slice va vn vc] 54)) (vs:=[.int .i64 t,.int .i64 kk,.int .i64 l]) (t:=31) (b:=w.heap.size+1) (by simp)) (.cells #[.slice none 0 0,.slice none 0 0] 54));have hZ:=Lh (Blk.startAt (W:=(w.alloc (.cells #[.slice ra rn rc,.slice va vn vc] 54)).alloc (.cells #[.int .i64 t,.int .i64 kk,.int .i64 l] 31)) (vs:=[.slice none 0 0,.slice none 0 0]) (t:=54) (b:=w.heap.size+1+1) (by simp));have HBB:=Lh hB;clear hB
 go_enter Try.func22,Try.ntmps22
 go_upto_region 1 with fail
 generalize ((w.alloc (.cells #[.slice ra rn rc,.slice va vn vc] 54)).alloc (.cells #[.int .i64 t,.int .i64 kk,.int .i64 l] 31)).alloc (.cells #[.slice none 0 0,.slice none 0 0] 54)=W0 at *
 have HJ1:=Lh (vjoin_ok TR TC _ _ W0 mR mC (iR.next hb.out) (iC.next hb.out));have HJ2:=Lh (vjoin_ok TV TC _ _ W0 mV mC (iV.next hb.out) (iC.next hb.out));rw [pR,pC] at HJ1;rw [pV,pC] at HJ2;have HK:=Lh (fun W (h:Below W0.heap.size W0 W)=>And.intro (hb.out.trans (h.mono hb.out.size)) (And.intro (hX.out.next h) (hZ.out.next h)));obtain ⟨y0,y1,y2⟩:=blk3 hY.out;obtain ⟨x0,x1⟩:=hX.out.c2;have HSZ:=Lh (Nat.le_trans HBB.out hb.out.size);have HSX:Hid (w.heap.size+1+1<W0.heap.size):=Lh hZ.out.lt;clear hX hY hZ hb iR mR pR iV mV pV iC mC pC;by_cases c1:kk=0
 ·subst c1
  clear HJ2
  go_upto_region 4 with (go_at_call 23; refine HJ1.out.mono ?_; rintro e w1 ⟨x,T,rfl,hT,hp,ho,hb1⟩; obtain ⟨xa,xn,xc,rfl⟩:=ho.form; have H1:=Lh (HK.out w1 hb1); have HO:=Lh (show Clk W0.heap.size w1 (.slice xa xn xc) _ from ⟨T,ho,hT,hp⟩); clear ho hT hp hb1; have z0:=H1.out.2.1.cell 0 rfl; have z1:=H1.out.2.1.free 0)
  have H2:=Lh (And.intro (H1.out.2.1.set 0 (.slice xa xn xc)) (And.intro (H1.out.2.2.other ⟨w.heap.size,0,none⟩ (by show w.heap.size+1+1≠w.heap.size; omega) (.slice xa xn xc)) (And.intro (H1.out.1.setCell (p:=⟨w.heap.size,0,none⟩) (Nat.le_refl _) (.slice xa xn xc)) (HO.out.bu (Bu.set w.heap.size w.heap.size w1 0 (.slice xa xn xc)) (by have:=HSX.out; omega) (by have:=HSX.out; omega)))));clear z0 z1 H1 HO HK HJ1;generalize w1.setCell ⟨w.heap.size,0,none⟩ (.slice xa xn xc)=w2 at *
  obtain ⟨a0,a1⟩:=H2.out.1.c2;have f0:=H2.out.2.1.cell 0 rfl;have f1:=H2.out.2.1.free 0;have f2:=H2.out.2.1.cell 1 rfl;have f3:=H2.out.2.1.free 1;have H3:=Lh (And.intro ((H2.out.2.1.set 0 (.slice xa xn xc)).set 1 (.slice va vn vc)) (And.intro ((H2.out.2.2.1.setCell (p:=⟨w.heap.size+1+1,0,none⟩) (by show w.heap.size≤w.heap.size+1+1; omega) (.slice xa xn xc)).setCell (p:=⟨w.heap.size+1+1,1,none⟩) (by show w.heap.size≤w.heap.size+1+1; omega) (.slice va vn vc)) ((H2.out.2.2.2.bu (Bu.set (w.heap.size+1+1) (w.heap.size+1+1) w2 0 (.slice xa xn xc)) HSX.out HSX.out).bu (Bu.set (w.heap.size+1+1) (w.heap.size+1+1) _ 1 (.slice va vn vc)) HSX.out HSX.out)));go_wp2_with fail
  obtain ⟨b0,b1⟩:=H3.out.1.c2;exact bodyPost_ret (v:=.agg #[.slice xa xn xc,.slice va vn vc]) (by simp [results,Try.results22,go_sem,b0,b1]) rfl ⟨_,_,rfl,H3.out.2.2.mono HSZ.out,(HC.out _ H3.out.2.1).2,H3.out.2.1⟩
 ·have c1':(kk==0)=false:=by simpa using c1
  have HC1:=Lh c1;clear HJ1 c1
  go_upto_region 4 with (go_at_call 23; refine HJ2.out.mono ?_; rintro e w1 ⟨x,T,rfl,hT,hp,ho,hb1⟩; obtain ⟨xa,xn,xc,rfl⟩:=ho.form; have H1:=Lh (HK.out w1 hb1); have HO:=Lh (show Clk W0.heap.size w1 (.slice xa xn xc) _ from ⟨T,ho,hT,hp⟩); clear ho hT hp hb1; have z0:=H1.out.2.1.cell 1 rfl; have z1:=H1.out.2.1.free 1)
  have H2:=Lh (And.intro (H1.out.2.1.set 1 (.slice xa xn xc)) (And.intro (H1.out.2.2.other ⟨w.heap.size,1,none⟩ (by show w.heap.size+1+1≠w.heap.size; omega) (.slice xa xn xc)) (And.intro (H1.out.1.setCell (p:=⟨w.heap.size,1,none⟩) (Nat.le_refl _) (.slice xa xn xc)) (HO.out.bu (Bu.set w.heap.size w.heap.size w1 1 (.slice xa xn xc)) (by have:=HSX.out; omega) (by have:=HSX.out; omega)))));clear z0 z1 H1 HO HK HJ2;generalize w1.setCell ⟨w.heap.size,1,none⟩ (.slice xa xn xc)=w2 at *
  obtain ⟨a0,a1⟩:=H2.out.1.c2;have f0:=H2.out.2.1.cell 0 rfl;have f1:=H2.out.2.1.free 0;have f2:=H2.out.2.1.cell 1 rfl;have f3:=H2.out.2.1.free 1;have H3:=Lh (And.intro ((H2.out.2.1.set 0 (.slice ra rn rc)).set 1 (.slice xa xn xc)) (And.intro ((H2.out.2.2.1.setCell (p:=⟨w.heap.size+1+1,0,none⟩) (by show w.heap.size≤w.heap.size+1+1; omega) (.slice ra rn rc)).setCell (p:=⟨w.heap.size+1+1,1,none⟩) (by show w.heap.size≤w.heap.size+1+1; omega) (.slice xa xn xc)) ((H2.out.2.2.2.bu (Bu.set (w.heap.size+1+1) (w.heap.size+1+1) w2 0 (.slice ra rn rc)) HSX.out HSX.out).bu (Bu.set (w.heap.size+1+1) (w.heap.size+1+1) _ 1 (.slice xa xn xc)) HSX.out HSX.out)));go_wp2_with fail
  obtain ⟨b0,b1⟩:=H3.out.1.c2;exact bodyPost_ret (v:=.agg #[.slice ra rn rc,.slice xa xn xc]) (by simp [results,Try.results22,go_sem,b0,b1]) rfl ⟨_,_,rfl,(HC.out _ H3.out.2.1).1,H3.out.2.2.mono HSZ.out,H3.out.2.1⟩
end Go.Proofs.Ytjilpbmehipagaa
