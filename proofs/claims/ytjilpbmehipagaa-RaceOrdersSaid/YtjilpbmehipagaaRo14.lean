import Derived.Test.YtjilpbmehipagaaRs14
set_option maxRecDepth 100000
set_option maxHeartbeats 12800000
namespace Go.Proofs.Ytjilpbmehipagaa
open Go Go.Proofs Go.RowKit
theorem ahead_iff {L:List Ac} (hm:mayAc L=true) {i k:Nat} (hk:k<L.length):cb (aheadP L (i:Int) (k:Int))=cb (Ord L i k):=cb_congr ⟨fun h=>by have:=h.2.2.2.2; rwa [Int.toNat_natCast,Int.toNat_natCast] at this,fun h=>⟨hm,by omega,by omega,by omega,by rwa [Int.toNat_natCast,Int.toNat_natCast]⟩⟩
def oneT (L:List Ac):List Ac:=L.map fun x=>⟨3,x.k,x.l⟩
theorem oneT_at {L:List Ac} {i:Nat} (h:i<L.length):acA (oneT L) i=⟨3,(acA L i).k,(acA L i).l⟩:=by
 unfold acA oneT
 rw [List.getD_eq_getElem?_getD,List.getElem?_map,List.getElem?_eq_getElem h,List.getD_eq_getElem?_getD,List.getElem?_eq_getElem h]; rfl
theorem oneT_code {L:List Ac} (h:mayAc L=true):codeL (oneT L)=0:=by
 refine code_ok ?_ ?_
 ·unfold mayAc at h ⊢
  rw [List.all_eq_true] at h ⊢;intro x hx
  obtain ⟨y,hy,rfl⟩:=List.mem_map.1 hx;have:=h y hy;simp [mayA1] at this ⊢
  omega
 ·rintro ⟨i,k,hik,hk,_,hn,_⟩
  have hk2:k<L.length:=by simpa [oneT] using hk
  exact hn (.one hik hk (.inl (by rw [oneT_at (by omega),oneT_at hk2])))
theorem ac_flat {L:List Ac} {i:Nat} (hi:i<L.length) (j:Nat) (hj:j<3):(L.flatMap acL)[i * 3+j]? = (acL (acA L i))[j]? := by
 rw [flat_at acL_len L i j hi hj,acA_eq hi]
theorem ac_news {W:World} {b off n cap:Nat} {L:List Ac} (hn:L.length=n) (h:IsAc W (.slice (some ⟨b,off,none⟩) n cap) L):∀ (j:Nat) (u:Value),(L.flatMap acL)[j]? = some u→W.cell? ((⟨b,off,none⟩:Addr).add j)=some u:=by
 intro j u hu
 rw [Addr.add_mid];have hj:j<n * 3:=by
  have:=(List.getElem?_eq_some_iff.1 hu).1
  rwa [flat_len acL_len,hn] at this
 have hpos:0<n:=by omega
 obtain ⟨b',off',e,_,hc⟩:=h.at hn hpos;simp only [Option.some.injEq,Addr.mk.injEq] at e
 obtain ⟨rfl,rfl,-⟩:=e;have hi:j / 3<n:=by omega
 obtain ⟨c0,c1,c2⟩:=hc (j / 3) hi;have he:j=j / 3 * 3+j % 3:=by omega
 rw [he,ac_flat (by omega) _ (Nat.mod_lt _ (by decide))] at hu;have hr:j % 3=0∨j % 3=1∨j % 3=2:=by omega
 rcases hr with hr | hr | hr
 ·rw [hr] at hu; rw [show off+j=off+j / 3 * 3 by omega,c0]; exact hu
 ·rw [hr] at hu; rw [show off+j=off+j / 3 * 3+1 by omega,c1]; exact hu
 ·rw [hr] at hu; rw [show off+j=off+j / 3 * 3+2 by omega,c2]; exact hu
def Rt (L:List Ac) (n g k:Nat) (t:TypeId) (W:World):Prop:=∃ cells,Blk W g cells t∧∀ j,j<n→cells[j * 3]? = some (.int .i64 (if j<k then 3 else (acA L j).t))∧cells[j * 3+1]? = some (.int .i64 (acA L j).k)∧cells[j * 3+2]? = some (.int .i64 (acA L j).l)
theorem Rt.set {L:List Ac} {n g k:Nat} {t:TypeId} {W:World} (h:Rt L n g k t W):Rt L n g (k+1) t (W.setCell ⟨g,k * 3,none⟩ (.int .i64 3)):=by
 obtain ⟨cells,hB,hc⟩:=h;refine ⟨_,hB.set (k * 3) (.int .i64 3),fun j hj=>?_⟩;obtain ⟨c0,c1,c2⟩:=hc j hj;refine ⟨?_,?_,?_⟩
 ·by_cases e:k=j
  ·subst e
   rw [List.getElem?_set_self (List.getElem?_eq_some_iff.1 c0).1,if_pos (by omega)]
  ·rw [List.getElem?_set_ne (by omega),c0]
   by_cases e2:j<k
   ·rw [if_pos e2,if_pos (by omega)]
   ·rw [if_neg e2,if_neg (by omega)]
 ·rw [List.getElem?_set_ne (by omega),c1]
 ·rw [List.getElem?_set_ne (by omega),c2]
theorem Rt.isAc {L:List Ac} {n g cap:Nat} {t:TypeId} {W:World} (hn:L.length=n) (h:Rt L n g n t W) (h1:n≤cap) (h2:cap≤9223372036854775807):IsAc W (.slice (some ⟨g,0,none⟩) n cap) (oneT L):=by
 have hl:(oneT L).length=n:=by simp [oneT,hn]
 obtain ⟨cells,hB,hc⟩:=h;refine ⟨some ⟨g,0,none⟩,cap,by rw [hl],by rw [hl]; exact h1,h2,fun _=>⟨g,0,rfl,hB.lt,fun j hj=>?_⟩⟩;obtain ⟨c0,c1,c2⟩:=hc j (by omega);rw [if_pos (by omega)] at c0;rw [acA_eq hj,oneT_at (by omega)];simp only [Nat.zero_add]
 exact ⟨hB.cell _ c0,hB.cell _ c1,hB.cell _ c2⟩
theorem infoRa:(Try.prog.info? 31).map (fun i=>(i.zero,i.size,i.bytes))=some (some zAc,3,24):=by kernel_rfl
theorem rorders_main (HR:RAll) (hAw:Awake14Ok) (L:List Ac) (hLO:LocOk L) (v:Value) (i j k:Int) (hi0:0≤i) (hi1:i≤255) (hj0:0≤j) (hj1:j≤255) (hk0:0≤k) (hk1:k≤255) (w:World) (h:IsAc w v L):
  Calls Try.prog 4 #[v,.int .u8 i,.int .u8 j,.int .u8 k] w fun e w'=>e=.returned (.bool true)∧Below w.heap.size w w':=by
 have hAc:=h;obtain ⟨ad,cap,rfl,h1,h2,-⟩:=h;have HAW:=Lh (fun W (hb:Below w.heap.size w W)=>onto hb (hAw W));obtain ⟨n,hn⟩:∃ n,n=L.length:=⟨_,rfl⟩
 have HN:=Lh hn.symm;have HOF:=Lh (fun hl=>of14_any L _ w hAc hl);rw [←hn] at hAc h1 HOF ⊢;clear hn
 go_enter Try.func4,Try.ntmps4
 by_cases c1:n=0
 ·have c1':((n:Int)==0)=true:=by simp [c1]
  go_wp2_with (go_at_call 5; refine (HAW.out _ (Below.refl _ _)).mono ?_; rintro e w1 ⟨rfl,hb⟩)
  go_ret
  exact ⟨rfl,hb⟩
 have c1':((n:Int)==0)=false:=by simp; omega
 by_cases c2:(40:Int)<(n:Int)
 ·go_wp2_with (go_at_call 5; refine (HAW.out _ (Below.refl _ _)).mono ?_; rintro e w1 ⟨rfl,hb⟩)
  go_ret
  exact ⟨rfl,hb⟩
 have hpos:0<n:=by omega
 have HOF:=Lh (HOF.out (by omega));have HMY:=Lh (fun u W (h:IsAc W u L)=>may14_any L u W h);have HAc:=Lh (fun W (hb:Below w.heap.size w W)=>hAc.next hb);obtain ⟨b,off,had,hbw,hc⟩:=hAc.at HN.out hpos;subst had;have HC:=Lh (fun j hj W (hb:Below w.heap.size w W)=>show W.cell? ⟨b,off+j * 3,none⟩=some (.int .i64 (acA L j).t) from (hb.cell (p:=⟨b,off+j * 3,none⟩) hbw).trans (hc j hj).1);clear hAc hc;have HX:=Lh (show ∀ (e:Ending) (W':World),(∃ u,e=.returned u∧Sl 43 3 acL W' u L∧Below w.heap.size w W')→∃ u,e=.returned u∧IsAc W' u L∧Below w.heap.size w W' from fun e W' ⟨u,a,b,c⟩=>⟨u,a,IsAc.of_sl b,c⟩)
 cases em:mayAc L
 ·rw [em] at HMY
  go_wp2_with (first | (go_at_call 6; refine (HOF.out.mono HX.out).mono ?_; rintro e w1 ⟨u,rfl,hu,hb⟩) | (go_at_call 10; refine (HMY.out _ _ hu).mono ?_; rintro e w2 ⟨rfl,hb2⟩; have HB2:=Lh (hb.trans (hb2.mono hb.size)); clear hb hb2) | (go_at_call 5; refine (HAW.out _ HB2.out).mono ?_; rintro e w1 ⟨rfl,hb⟩))
  go_ret
  exact ⟨rfl,hb⟩
 rw [em] at HMY;have HEM:=Lh em;clear em
 go_upto_region 3 with (first | (go_at_call 6; refine (HOF.out.mono HX.out).mono ?_; rintro e w1 ⟨u,rfl,hu,hb⟩) | (go_at_call 10; refine (HMY.out _ _ hu).mono ?_; rintro e w2 ⟨rfl,hb2⟩; have HB2:=Lh (hb.trans (hb2.mono hb.size)); clear hb hb2))
 clear HOF HMY HX
 go_quiet (fail)
 have HB3:=Lh (bDN (n:=nq) HB2.out);clear HB2 hu;generalize w2.drewN nq=w3 at *
 have hm:∀ z:Int,0≤z→∃ y:Nat,z % (n:Int)=(y:Int)∧y<n:=fun z hz=>⟨(z % (n:Int)).toNat,by have:=Int.emod_nonneg z (b:=(n:Int)) (by omega); omega,by have:=Int.emod_nonneg z (b:=(n:Int)) (by omega); have:=Int.emod_lt_of_pos z (b:=(n:Int)) (by omega); omega⟩
 obtain ⟨ia,ha,hla⟩:=hm i hi0;obtain ⟨ib,hb,hlb⟩:=hm j hj0;obtain ⟨ic,hc,hlc⟩:=hm k hk0;rw [ha,hb,hc];clear ha hb hc hm;have HL3:Hid (L.length≤300):=Lh (by have:=HN.out; omega);have hq:∀ x y:Nat,x<n→y<n→Cq w3 11 #[.slice (some ⟨b,off,none⟩) n cap,.int .i64 (x:Int),.int .i64 (y:Int)] (.bool (cb (Ord L x y))):=fun x y hx hy=>Cq.mk (fun W h=>onto h (by
  have h2:=HR.ahead L (.slice (some ⟨b,off,none⟩) n cap) (x:Int) (y:Int) W HL3.out hLO (by omega) (by omega) (by omega) (by omega) (HAc.out _ (HB3.out.trans (h.mono HB3.out.size)))
  rwa [ahead_iff HEM.out (by have:=HN.out; omega)] at h2))
 have q1:=Lh (hq ia ib hla hlb);have q2:=Lh (hq ib ia hlb hla);have q3:=Lh (hq ib ic hlb hlc);have q4:=Lh (hq ia ic hla hlc);clear hq;have HK:=Lh (fun W (hb:Below w3.heap.size w3 W)=>show Ce W b (off+ia * 3) (.int .i64 (acA L ia).t)∧Ce W b (off+ib * 3) (.int .i64 (acA L ib).t)∧Below w3.heap.size w3 W from ⟨HC.out ia hla W (HB3.out.trans (hb.mono HB3.out.size)),HC.out ib hlb W (HB3.out.trans (hb.mono HB3.out.size)),hb⟩);have HLT:=Lh (show Ord L ia ib→ia<ib from fun h=>h.lt);have HON:=Lh (show ia<ib→(acA L ia).t=(acA L ib).t→Ord L ia ib from fun h1 h2=>.one h1 (by have:=HN.out; omega) (.inl h2));have HAS:=Lh (show Ord L ia ib→¬ Ord L ib ia from fun h h2=>by have:=h.lt; have:=h2.lt; omega);have HTR:=Lh (show Ord L ia ib→Ord L ib ic→Ord L ia ic from fun h h2=>h.trans h2);generalize (acA L ia).t=ta at *
 generalize (acA L ib).t=tb at *
 clear HC
 go_upto_region 4 with fail
 go_cut [94] from 47 to 94 (fun t94 wx=>t94=.bool false∧Below w3.heap.size w3 wx)
 case first=>
  by_cases o1:Ord L ia ib
  ·rw [cb_pos o1] at q1
   rw [cb_neg (HAS.out o1)] at q2;have hlt:=HLT.out o1;by_cases o3:Ord L ib ic
   ·rw [cb_pos o3] at q3
    rw [cb_pos (HTR.out o1 o3)] at q4;clear o1 o3 HLT HON HAS HTR;by_cases d:ta=tb
    ·subst d
     refine rgH (fun W=>Ce W b (off+ia * 3) (.int .i64 ta)∧Ce W b (off+ib * 3) (.int .i64 ta)∧Below w3.heap.size w3 W) (HK.out _ (bDN (n:=1) (Below.refl _ _))) fun hH=>?_
     refine tq 0 (.slice (some ⟨b,off,none⟩) n cap) hH ?_;refine tq 1 (.int .i64 (ia:Int)) hH ?_;refine tq 2 (.int .i64 (ib:Int)) hH ?_;refine rd1 3 (by kernel_rfl) rfl fun K hK=>?_
     go_simp
     refine (q1.out.go _ hH.2.2).mono ?_
     rintro e W2 ⟨rfl,hb⟩
     go_wp2_with fail
     refine hK.out _ _ (HK.out _ hb) (fun hH2=>?_);clear hK K hH hb;have hH:=hH2;clear hH2
     try simp only [LAY]
     refine tq 4 (.bool true) hH ?_;refine tq 5 (.slice (some ⟨b,off,none⟩) n cap) hH ?_;refine tq 6 (.int .i64 (ib:Int)) hH ?_;refine tq 7 (.int .i64 (ia:Int)) hH ?_;refine rd1 8 (by kernel_rfl) rfl fun K hK=>?_
     go_simp
     refine (q2.out.go _ hH.2.2).mono ?_
     rintro e W2 ⟨rfl,hb⟩
     go_wp2_with fail
     refine hK.out _ _ (HK.out _ hb) (fun hH2=>?_);clear hK K hH hb;have hH:=hH2;clear hH2
     try simp only [LAY]
     refine tq 9 (.bool false) hH ?_;refine tq 10 (.slice (some ⟨b,off,none⟩) n cap) hH ?_;refine tq 11 (.int .i64 (ib:Int)) hH ?_;refine tq 12 (.int .i64 (ic:Int)) hH ?_;refine rd1 13 (by kernel_rfl) rfl fun K hK=>?_
     go_simp
     refine (q3.out.go _ hH.2.2).mono ?_
     rintro e W2 ⟨rfl,hb⟩
     go_wp2_with fail
     refine hK.out _ _ (HK.out _ hb) (fun hH2=>?_);clear hK K hH hb;have hH:=hH2;clear hH2
     try simp only [LAY]
     refine tq 14 (.bool true) hH ?_;refine tq 15 (.slice (some ⟨b,off,none⟩) n cap) hH ?_;refine tq 16 (.int .i64 (ia:Int)) hH ?_;refine tq 17 (.int .i64 (ic:Int)) hH ?_;refine rd1 18 (by kernel_rfl) rfl fun K hK=>?_
     go_simp
     refine (q4.out.go _ hH.2.2).mono ?_
     rintro e W2 ⟨rfl,hb⟩
     go_wp2_with fail
     refine hK.out _ _ (HK.out _ hb) (fun hH2=>?_);clear hK K hH hb;have hH:=hH2;clear hH2
     try simp only [LAY]
     refine tq 19 (.bool false) hH ?_;refine tq 20 (.bool false) hH ?_;refine tq 21 (.bool false) hH ?_;refine tq 22 (.bool false) hH ?_;refine tq 23 (.bool false) hH ?_;refine tq 24 (.int .i64 (ia:Int)) hH ?_;refine tq 25 (.int .i64 (ib:Int)) hH ?_;refine tq 26 (.bool true) hH ?_;refine tq 27 (.bool true) hH ?_;refine tq 28 (.slice (some ⟨b,off,none⟩) n cap) hH ?_;refine tq 29 (.int .i64 (ia:Int)) hH ?_;refine tq 30 (.pointer (some ⟨b,off+ia * 3,none⟩)) hH ?_;refine tq 31 (.pointer (some ⟨b,off+ia * 3,none⟩)) hH ?_;refine tq 32 (.int .i64 ta) hH ?_;refine tq 33 (.slice (some ⟨b,off,none⟩) n cap) hH ?_;refine tq 34 (.int .i64 (ib:Int)) hH ?_;refine tq 35 (.pointer (some ⟨b,off+ib * 3,none⟩)) hH ?_;refine tq 36 (.pointer (some ⟨b,off+ib * 3,none⟩)) hH ?_;refine tq 37 (.int .i64 ta) hH ?_;refine tq 38 (.bool true) hH ?_;refine tq 39 (.bool true) hH ?_;refine tq 40 (.bool true) hH ?_;refine tq 41 (.slice (some ⟨b,off,none⟩) n cap) hH ?_;refine tq 42 (.int .i64 (ia:Int)) hH ?_;refine tq 43 (.int .i64 (ib:Int)) hH ?_;refine rd1 44 (by kernel_rfl) rfl fun K hK=>?_
     go_simp
     refine (q1.out.go _ hH.2.2).mono ?_
     rintro e W2 ⟨rfl,hb⟩
     go_wp2_with fail
     refine hK.out _ _ (HK.out _ hb) (fun hH2=>?_);clear hK K hH hb;have hH:=hH2;clear hH2
     try simp only [LAY]
     refine tq 45 (.bool false) hH ?_;refine tq 46 (.bool false) hH ?_;refine tq 47 (.bool false) hH ?_;refine dnH ?_;go_wp2_with fail
     go_meet
     exact ⟨rfl,hH.2.2⟩
    ·have d':(ta==tb)=false:=by simpa using d
     refine rgH (fun W=>Ce W b (off+ia * 3) (.int .i64 ta)∧Ce W b (off+ib * 3) (.int .i64 tb)∧Below w3.heap.size w3 W) (HK.out _ (bDN (n:=1) (Below.refl _ _))) fun hH=>?_
     refine tq 0 (.slice (some ⟨b,off,none⟩) n cap) hH ?_;refine tq 1 (.int .i64 (ia:Int)) hH ?_;refine tq 2 (.int .i64 (ib:Int)) hH ?_;refine rd1 3 (by kernel_rfl) rfl fun K hK=>?_
     go_simp
     refine (q1.out.go _ hH.2.2).mono ?_
     rintro e W2 ⟨rfl,hb⟩
     go_wp2_with fail
     refine hK.out _ _ (HK.out _ hb) (fun hH2=>?_);clear hK K hH hb;have hH:=hH2;clear hH2
     try simp only [LAY]
     refine tq 4 (.bool true) hH ?_;refine tq 5 (.slice (some ⟨b,off,none⟩) n cap) hH ?_;refine tq 6 (.int .i64 (ib:Int)) hH ?_;refine tq 7 (.int .i64 (ia:Int)) hH ?_;refine rd1 8 (by kernel_rfl) rfl fun K hK=>?_
     go_simp
     refine (q2.out.go _ hH.2.2).mono ?_
     rintro e W2 ⟨rfl,hb⟩
     go_wp2_with fail
     refine hK.out _ _ (HK.out _ hb) (fun hH2=>?_);clear hK K hH hb;have hH:=hH2;clear hH2
     try simp only [LAY]
     refine tq 9 (.bool false) hH ?_;refine tq 10 (.slice (some ⟨b,off,none⟩) n cap) hH ?_;refine tq 11 (.int .i64 (ib:Int)) hH ?_;refine tq 12 (.int .i64 (ic:Int)) hH ?_;refine rd1 13 (by kernel_rfl) rfl fun K hK=>?_
     go_simp
     refine (q3.out.go _ hH.2.2).mono ?_
     rintro e W2 ⟨rfl,hb⟩
     go_wp2_with fail
     refine hK.out _ _ (HK.out _ hb) (fun hH2=>?_);clear hK K hH hb;have hH:=hH2;clear hH2
     try simp only [LAY]
     refine tq 14 (.bool true) hH ?_;refine tq 15 (.slice (some ⟨b,off,none⟩) n cap) hH ?_;refine tq 16 (.int .i64 (ia:Int)) hH ?_;refine tq 17 (.int .i64 (ic:Int)) hH ?_;refine rd1 18 (by kernel_rfl) rfl fun K hK=>?_
     go_simp
     refine (q4.out.go _ hH.2.2).mono ?_
     rintro e W2 ⟨rfl,hb⟩
     go_wp2_with fail
     refine hK.out _ _ (HK.out _ hb) (fun hH2=>?_);clear hK K hH hb;have hH:=hH2;clear hH2
     try simp only [LAY]
     refine tq 19 (.bool false) hH ?_;refine tq 20 (.bool false) hH ?_;refine tq 21 (.bool false) hH ?_;refine tq 22 (.bool false) hH ?_;refine tq 23 (.bool false) hH ?_;refine tq 24 (.int .i64 (ia:Int)) hH ?_;refine tq 25 (.int .i64 (ib:Int)) hH ?_;refine tq 26 (.bool true) hH ?_;refine tq 27 (.bool true) hH ?_;refine tq 28 (.slice (some ⟨b,off,none⟩) n cap) hH ?_;refine tq 29 (.int .i64 (ia:Int)) hH ?_;refine tq 30 (.pointer (some ⟨b,off+ia * 3,none⟩)) hH ?_;refine tq 31 (.pointer (some ⟨b,off+ia * 3,none⟩)) hH ?_;refine tq 32 (.int .i64 ta) hH ?_;refine tq 33 (.slice (some ⟨b,off,none⟩) n cap) hH ?_;refine tq 34 (.int .i64 (ib:Int)) hH ?_;refine tq 35 (.pointer (some ⟨b,off+ib * 3,none⟩)) hH ?_;refine tq 36 (.pointer (some ⟨b,off+ib * 3,none⟩)) hH ?_;refine tq 37 (.int .i64 tb) hH ?_;refine tq 38 (.bool false) hH ?_;refine tq 39 (.bool false) hH ?_;refine tq 40 (.bool false) hH ?_;refine sk 41 hH ?_
     try simp only [LAY]
     refine sk 42 hH ?_
     try simp only [LAY]
     refine sk 43 hH ?_
     try simp only [LAY]
     refine sk 44 hH ?_
     try simp only [LAY]
     refine sk 45 hH ?_
     try simp only [LAY]
     refine tq 46 (.bool false) hH ?_;refine tq 47 (.bool false) hH ?_;refine dnH ?_;go_wp2_with fail
     go_meet
     exact ⟨rfl,hH.2.2⟩
   ·rw [cb_neg o3] at q3
    clear o1 o3 HLT HON HAS HTR;by_cases d:ta=tb
    ·subst d
     refine rgH (fun W=>Ce W b (off+ia * 3) (.int .i64 ta)∧Ce W b (off+ib * 3) (.int .i64 ta)∧Below w3.heap.size w3 W) (HK.out _ (bDN (n:=1) (Below.refl _ _))) fun hH=>?_
     refine tq 0 (.slice (some ⟨b,off,none⟩) n cap) hH ?_;refine tq 1 (.int .i64 (ia:Int)) hH ?_;refine tq 2 (.int .i64 (ib:Int)) hH ?_;refine rd1 3 (by kernel_rfl) rfl fun K hK=>?_
     go_simp
     refine (q1.out.go _ hH.2.2).mono ?_
     rintro e W2 ⟨rfl,hb⟩
     go_wp2_with fail
     refine hK.out _ _ (HK.out _ hb) (fun hH2=>?_);clear hK K hH hb;have hH:=hH2;clear hH2
     try simp only [LAY]
     refine tq 4 (.bool true) hH ?_;refine tq 5 (.slice (some ⟨b,off,none⟩) n cap) hH ?_;refine tq 6 (.int .i64 (ib:Int)) hH ?_;refine tq 7 (.int .i64 (ia:Int)) hH ?_;refine rd1 8 (by kernel_rfl) rfl fun K hK=>?_
     go_simp
     refine (q2.out.go _ hH.2.2).mono ?_
     rintro e W2 ⟨rfl,hb⟩
     go_wp2_with fail
     refine hK.out _ _ (HK.out _ hb) (fun hH2=>?_);clear hK K hH hb;have hH:=hH2;clear hH2
     try simp only [LAY]
     refine tq 9 (.bool false) hH ?_;refine tq 10 (.slice (some ⟨b,off,none⟩) n cap) hH ?_;refine tq 11 (.int .i64 (ib:Int)) hH ?_;refine tq 12 (.int .i64 (ic:Int)) hH ?_;refine rd1 13 (by kernel_rfl) rfl fun K hK=>?_
     go_simp
     refine (q3.out.go _ hH.2.2).mono ?_
     rintro e W2 ⟨rfl,hb⟩
     go_wp2_with fail
     refine hK.out _ _ (HK.out _ hb) (fun hH2=>?_);clear hK K hH hb;have hH:=hH2;clear hH2
     try simp only [LAY]
     refine tq 14 (.bool false) hH ?_;refine sk 15 hH ?_
     try simp only [LAY]
     refine sk 16 hH ?_
     try simp only [LAY]
     refine sk 17 hH ?_
     try simp only [LAY]
     refine sk 18 hH ?_
     try simp only [LAY]
     refine sk 19 hH ?_
     try simp only [LAY]
     refine tq 20 (.bool false) hH ?_;refine tq 21 (.bool false) hH ?_;refine tq 22 (.bool false) hH ?_;refine tq 23 (.bool false) hH ?_;refine tq 24 (.int .i64 (ia:Int)) hH ?_;refine tq 25 (.int .i64 (ib:Int)) hH ?_;refine tq 26 (.bool true) hH ?_;refine tq 27 (.bool true) hH ?_;refine tq 28 (.slice (some ⟨b,off,none⟩) n cap) hH ?_;refine tq 29 (.int .i64 (ia:Int)) hH ?_;refine tq 30 (.pointer (some ⟨b,off+ia * 3,none⟩)) hH ?_;refine tq 31 (.pointer (some ⟨b,off+ia * 3,none⟩)) hH ?_;refine tq 32 (.int .i64 ta) hH ?_;refine tq 33 (.slice (some ⟨b,off,none⟩) n cap) hH ?_;refine tq 34 (.int .i64 (ib:Int)) hH ?_;refine tq 35 (.pointer (some ⟨b,off+ib * 3,none⟩)) hH ?_;refine tq 36 (.pointer (some ⟨b,off+ib * 3,none⟩)) hH ?_;refine tq 37 (.int .i64 ta) hH ?_;refine tq 38 (.bool true) hH ?_;refine tq 39 (.bool true) hH ?_;refine tq 40 (.bool true) hH ?_;refine tq 41 (.slice (some ⟨b,off,none⟩) n cap) hH ?_;refine tq 42 (.int .i64 (ia:Int)) hH ?_;refine tq 43 (.int .i64 (ib:Int)) hH ?_;refine rd1 44 (by kernel_rfl) rfl fun K hK=>?_
     go_simp
     refine (q1.out.go _ hH.2.2).mono ?_
     rintro e W2 ⟨rfl,hb⟩
     go_wp2_with fail
     refine hK.out _ _ (HK.out _ hb) (fun hH2=>?_);clear hK K hH hb;have hH:=hH2;clear hH2
     try simp only [LAY]
     refine tq 45 (.bool false) hH ?_;refine tq 46 (.bool false) hH ?_;refine tq 47 (.bool false) hH ?_;refine dnH ?_;go_wp2_with fail
     go_meet
     exact ⟨rfl,hH.2.2⟩
    ·have d':(ta==tb)=false:=by simpa using d
     refine rgH (fun W=>Ce W b (off+ia * 3) (.int .i64 ta)∧Ce W b (off+ib * 3) (.int .i64 tb)∧Below w3.heap.size w3 W) (HK.out _ (bDN (n:=1) (Below.refl _ _))) fun hH=>?_
     refine tq 0 (.slice (some ⟨b,off,none⟩) n cap) hH ?_;refine tq 1 (.int .i64 (ia:Int)) hH ?_;refine tq 2 (.int .i64 (ib:Int)) hH ?_;refine rd1 3 (by kernel_rfl) rfl fun K hK=>?_
     go_simp
     refine (q1.out.go _ hH.2.2).mono ?_
     rintro e W2 ⟨rfl,hb⟩
     go_wp2_with fail
     refine hK.out _ _ (HK.out _ hb) (fun hH2=>?_);clear hK K hH hb;have hH:=hH2;clear hH2
     try simp only [LAY]
     refine tq 4 (.bool true) hH ?_;refine tq 5 (.slice (some ⟨b,off,none⟩) n cap) hH ?_;refine tq 6 (.int .i64 (ib:Int)) hH ?_;refine tq 7 (.int .i64 (ia:Int)) hH ?_;refine rd1 8 (by kernel_rfl) rfl fun K hK=>?_
     go_simp
     refine (q2.out.go _ hH.2.2).mono ?_
     rintro e W2 ⟨rfl,hb⟩
     go_wp2_with fail
     refine hK.out _ _ (HK.out _ hb) (fun hH2=>?_);clear hK K hH hb;have hH:=hH2;clear hH2
     try simp only [LAY]
     refine tq 9 (.bool false) hH ?_;refine tq 10 (.slice (some ⟨b,off,none⟩) n cap) hH ?_;refine tq 11 (.int .i64 (ib:Int)) hH ?_;refine tq 12 (.int .i64 (ic:Int)) hH ?_;refine rd1 13 (by kernel_rfl) rfl fun K hK=>?_
     go_simp
     refine (q3.out.go _ hH.2.2).mono ?_
     rintro e W2 ⟨rfl,hb⟩
     go_wp2_with fail
     refine hK.out _ _ (HK.out _ hb) (fun hH2=>?_);clear hK K hH hb;have hH:=hH2;clear hH2
     try simp only [LAY]
     refine tq 14 (.bool false) hH ?_;refine sk 15 hH ?_
     try simp only [LAY]
     refine sk 16 hH ?_
     try simp only [LAY]
     refine sk 17 hH ?_
     try simp only [LAY]
     refine sk 18 hH ?_
     try simp only [LAY]
     refine sk 19 hH ?_
     try simp only [LAY]
     refine tq 20 (.bool false) hH ?_;refine tq 21 (.bool false) hH ?_;refine tq 22 (.bool false) hH ?_;refine tq 23 (.bool false) hH ?_;refine tq 24 (.int .i64 (ia:Int)) hH ?_;refine tq 25 (.int .i64 (ib:Int)) hH ?_;refine tq 26 (.bool true) hH ?_;refine tq 27 (.bool true) hH ?_;refine tq 28 (.slice (some ⟨b,off,none⟩) n cap) hH ?_;refine tq 29 (.int .i64 (ia:Int)) hH ?_;refine tq 30 (.pointer (some ⟨b,off+ia * 3,none⟩)) hH ?_;refine tq 31 (.pointer (some ⟨b,off+ia * 3,none⟩)) hH ?_;refine tq 32 (.int .i64 ta) hH ?_;refine tq 33 (.slice (some ⟨b,off,none⟩) n cap) hH ?_;refine tq 34 (.int .i64 (ib:Int)) hH ?_;refine tq 35 (.pointer (some ⟨b,off+ib * 3,none⟩)) hH ?_;refine tq 36 (.pointer (some ⟨b,off+ib * 3,none⟩)) hH ?_;refine tq 37 (.int .i64 tb) hH ?_;refine tq 38 (.bool false) hH ?_;refine tq 39 (.bool false) hH ?_;refine tq 40 (.bool false) hH ?_;refine sk 41 hH ?_
     try simp only [LAY]
     refine sk 42 hH ?_
     try simp only [LAY]
     refine sk 43 hH ?_
     try simp only [LAY]
     refine sk 44 hH ?_
     try simp only [LAY]
     refine sk 45 hH ?_
     try simp only [LAY]
     refine tq 46 (.bool false) hH ?_;refine tq 47 (.bool false) hH ?_;refine dnH ?_;go_wp2_with fail
     go_meet
     exact ⟨rfl,hH.2.2⟩
  ·rw [cb_neg o1] at q1
   by_cases hlt:ia<ib
   ·have d':(ta==tb)=false:=by have h:=fun e=>o1 (HON.out hlt e); simpa using h
    clear o1 HLT HON HAS HTR;refine rgH (fun W=>Ce W b (off+ia * 3) (.int .i64 ta)∧Ce W b (off+ib * 3) (.int .i64 tb)∧Below w3.heap.size w3 W) (HK.out _ (bDN (n:=1) (Below.refl _ _))) fun hH=>?_
    refine tq 0 (.slice (some ⟨b,off,none⟩) n cap) hH ?_;refine tq 1 (.int .i64 (ia:Int)) hH ?_;refine tq 2 (.int .i64 (ib:Int)) hH ?_;refine rd1 3 (by kernel_rfl) rfl fun K hK=>?_
    go_simp
    refine (q1.out.go _ hH.2.2).mono ?_
    rintro e W2 ⟨rfl,hb⟩
    go_wp2_with fail
    refine hK.out _ _ (HK.out _ hb) (fun hH2=>?_);clear hK K hH hb;have hH:=hH2;clear hH2
    try simp only [LAY]
    refine tq 4 (.bool false) hH ?_;refine sk 5 hH ?_
    try simp only [LAY]
    refine sk 6 hH ?_
    try simp only [LAY]
    refine sk 7 hH ?_
    try simp only [LAY]
    refine sk 8 hH ?_
    try simp only [LAY]
    refine sk 9 hH ?_
    try simp only [LAY]
    refine sk 10 hH ?_
    try simp only [LAY]
    refine sk 11 hH ?_
    try simp only [LAY]
    refine sk 12 hH ?_
    try simp only [LAY]
    refine sk 13 hH ?_
    try simp only [LAY]
    refine sk 14 hH ?_
    try simp only [LAY]
    refine sk 15 hH ?_
    try simp only [LAY]
    refine sk 16 hH ?_
    try simp only [LAY]
    refine sk 17 hH ?_
    try simp only [LAY]
    refine sk 18 hH ?_
    try simp only [LAY]
    refine sk 19 hH ?_
    try simp only [LAY]
    refine sk 20 hH ?_
    try simp only [LAY]
    refine sk 21 hH ?_
    try simp only [LAY]
    refine tq 22 (.bool false) hH ?_;refine tq 23 (.bool false) hH ?_;refine tq 24 (.int .i64 (ia:Int)) hH ?_;refine tq 25 (.int .i64 (ib:Int)) hH ?_;refine tq 26 (.bool true) hH ?_;refine tq 27 (.bool true) hH ?_;refine tq 28 (.slice (some ⟨b,off,none⟩) n cap) hH ?_;refine tq 29 (.int .i64 (ia:Int)) hH ?_;refine tq 30 (.pointer (some ⟨b,off+ia * 3,none⟩)) hH ?_;refine tq 31 (.pointer (some ⟨b,off+ia * 3,none⟩)) hH ?_;refine tq 32 (.int .i64 ta) hH ?_;refine tq 33 (.slice (some ⟨b,off,none⟩) n cap) hH ?_;refine tq 34 (.int .i64 (ib:Int)) hH ?_;refine tq 35 (.pointer (some ⟨b,off+ib * 3,none⟩)) hH ?_;refine tq 36 (.pointer (some ⟨b,off+ib * 3,none⟩)) hH ?_;refine tq 37 (.int .i64 tb) hH ?_;refine tq 38 (.bool false) hH ?_;refine tq 39 (.bool false) hH ?_;refine tq 40 (.bool false) hH ?_;refine sk 41 hH ?_
    try simp only [LAY]
    refine sk 42 hH ?_
    try simp only [LAY]
    refine sk 43 hH ?_
    try simp only [LAY]
    refine sk 44 hH ?_
    try simp only [LAY]
    refine sk 45 hH ?_
    try simp only [LAY]
    refine tq 46 (.bool false) hH ?_;refine tq 47 (.bool false) hH ?_;refine dnH ?_;go_wp2_with fail
    go_meet
    exact ⟨rfl,hH.2.2⟩
   ·clear o1 HLT HON HAS HTR
    refine rgH (fun W=>Ce W b (off+ia * 3) (.int .i64 ta)∧Ce W b (off+ib * 3) (.int .i64 tb)∧Below w3.heap.size w3 W) (HK.out _ (bDN (n:=1) (Below.refl _ _))) fun hH=>?_
    refine tq 0 (.slice (some ⟨b,off,none⟩) n cap) hH ?_;refine tq 1 (.int .i64 (ia:Int)) hH ?_;refine tq 2 (.int .i64 (ib:Int)) hH ?_;refine rd1 3 (by kernel_rfl) rfl fun K hK=>?_
    go_simp
    refine (q1.out.go _ hH.2.2).mono ?_
    rintro e W2 ⟨rfl,hb⟩
    go_wp2_with fail
    refine hK.out _ _ (HK.out _ hb) (fun hH2=>?_);clear hK K hH hb;have hH:=hH2;clear hH2
    try simp only [LAY]
    refine tq 4 (.bool false) hH ?_;refine sk 5 hH ?_
    try simp only [LAY]
    refine sk 6 hH ?_
    try simp only [LAY]
    refine sk 7 hH ?_
    try simp only [LAY]
    refine sk 8 hH ?_
    try simp only [LAY]
    refine sk 9 hH ?_
    try simp only [LAY]
    refine sk 10 hH ?_
    try simp only [LAY]
    refine sk 11 hH ?_
    try simp only [LAY]
    refine sk 12 hH ?_
    try simp only [LAY]
    refine sk 13 hH ?_
    try simp only [LAY]
    refine sk 14 hH ?_
    try simp only [LAY]
    refine sk 15 hH ?_
    try simp only [LAY]
    refine sk 16 hH ?_
    try simp only [LAY]
    refine sk 17 hH ?_
    try simp only [LAY]
    refine sk 18 hH ?_
    try simp only [LAY]
    refine sk 19 hH ?_
    try simp only [LAY]
    refine sk 20 hH ?_
    try simp only [LAY]
    refine sk 21 hH ?_
    try simp only [LAY]
    refine tq 22 (.bool false) hH ?_;refine tq 23 (.bool false) hH ?_;refine tq 24 (.int .i64 (ia:Int)) hH ?_;refine tq 25 (.int .i64 (ib:Int)) hH ?_;refine tq 26 (.bool false) hH ?_;refine tq 27 (.bool false) hH ?_;refine sk 28 hH ?_
    try simp only [LAY]
    refine sk 29 hH ?_
    try simp only [LAY]
    refine sk 30 hH ?_
    try simp only [LAY]
    refine sk 31 hH ?_
    try simp only [LAY]
    refine sk 32 hH ?_
    try simp only [LAY]
    refine sk 33 hH ?_
    try simp only [LAY]
    refine sk 34 hH ?_
    try simp only [LAY]
    refine sk 35 hH ?_
    try simp only [LAY]
    refine sk 36 hH ?_
    try simp only [LAY]
    refine sk 37 hH ?_
    try simp only [LAY]
    refine sk 38 hH ?_
    try simp only [LAY]
    refine tq 39 (.bool false) hH ?_;refine tq 40 (.bool false) hH ?_;refine sk 41 hH ?_
    try simp only [LAY]
    refine sk 42 hH ?_
    try simp only [LAY]
    refine sk 43 hH ?_
    try simp only [LAY]
    refine sk 44 hH ?_
    try simp only [LAY]
    refine sk 45 hH ?_
    try simp only [LAY]
    refine tq 46 (.bool false) hH ?_;refine tq 47 (.bool false) hH ?_;refine dnH ?_;go_wp2_with fail
    go_meet
    exact ⟨rfl,hH.2.2⟩
 case rest=>
  obtain ⟨rfl,hb⟩:=hcut;have HB4:=Lh (HB3.out.trans (hb.mono HB3.out.size));clear q1 q2 q3 q4 HLT HAS HTR HON HK hb HB3;obtain ⟨i0,hi0',hz0,hz1,hz2⟩:=info_parts14 infoRa;have hE:Below wc.heap.size wc (wc.alloc (.cells #[] 31)):=bA;have HE:=Lh hE;have hO:(wc.alloc (.cells #[] 31)).ownsRow wc.heap.size 31 3 (.slice (some ⟨wc.heap.size,0,none⟩) 0 0) 0 []:=⟨rfl,.inr ⟨_,0,#[],rfl,Nat.le_refl _,Blk.start wc [] 31,Nat.le_refl _,Nat.zero_le _,rfl,rfl⟩⟩
  have HO:=Lh hO;have HNW:=Lh (ac_news HN.out (HAc.out _ (HB4.out.trans (hE.mono HB4.out.size))));have HBE:=Lh (HB4.out.trans (hE.mono HB4.out.size));have hsz:wc.heap.size≤(wc.alloc (.cells #[] 31)).heap.size:=hE.size;have hlen:(L.flatMap acL).length=n * 3:=by rw [flat_len acL_len,HN.out]
  have hone:∀ u∈L.flatMap acL,u.oneCell'=true:=fun u hu=>by obtain ⟨x,_,hx⟩:=List.mem_flatMap.1 hu; exact ac_one x u hx
  have HLO:=Lh (And.intro hlen hone);clear hE hO hlen hone;generalize hWE:wc.alloc (.cells #[] 31)=WE at *
  go_wp2_with (at_builtin; refine wpList_append_own _ rfl _ _ 22 rfl wc.heap.size 31 i0 zAc 3 24 Try.underlying22 hi0' hz0 hz1 hz2 rfl (by decide) _ 0 [] rfl HO.out ⟨b,off,none⟩ n cap (L.flatMap acL) rfl HLO.out.1 HNW.out HLO.out.2 (by unfold maxLen; omega) (by omega) hsz ?_; intro v4 W4 ho4 hg4 _; refine Hid.out ?_)
  have HB5:=Lh (HBE.out.trans (Below.of_grown hg4 HBE.out.size (fun r hr=>Nat.le_trans HB4.out.size (own_ge HO.out r hr))));rw [Nat.zero_add,List.nil_append] at ho4;obtain ⟨g,cap4,rfl,hgw,hRt,hn4,hc4⟩:∃ g cap4,v4=.slice (some ⟨g,0,none⟩) n cap4∧w.heap.size≤g∧Rt L n g 0 31 W4∧n≤cap4∧cap4≤9223372036854775807:=by
   rcases ho4.2 with ⟨_,h0⟩ | ⟨g,cap4,cur,e,hg,hh,h1,h2,_,h4⟩
   ·omega
   ·refine ⟨g,cap4,e,Nat.le_trans HB4.out.size hg,⟨cur.toList,hh,fun j hj=>?_⟩,h1,by unfold maxLen at h2; omega⟩
    have hat:∀ r,r<3→cur.toList[j * 3+r]? = (acL (acA L j))[r]? := fun r hr=>by
     rw [←ac_flat (by have:=HN.out; omega) r hr,←h4,List.getElem?_take_of_lt (by omega)]
    rw [if_neg (Nat.not_lt_zero _)];exact ⟨hat 0 (by omega),hat 1 (by omega),hat 2 (by omega)⟩
  have HR0:=Lh hRt;clear ho4 hg4 HO HE HNW HBE hsz HLO hWE hRt HB4 hi0' hz0 hz1 hz2;refine Lh ?_;go_wp2_with fail
  go_loopg [100] n (fun gg t100 wr=>∃ x:Nat,x≤n∧gg=n-x∧t100=.int .i64 (x:Int)∧Below w.heap.size w wr∧Rt L n g x 31 wr)
  case atStart=>exact ⟨0,Nat.zero_le _,rfl,rfl,HB5.out,HR0.out⟩
  case round=>
   obtain ⟨x,hx,rfl,rfl,hb,hr⟩:=hrel;clear HB5 HR0;by_cases hlt:x<n
   ·have hcell:∃ z,wr.cell? ⟨g,x * 3,none⟩=some z∧wr.frozen? ⟨g,x * 3,none⟩=false:=by
     obtain ⟨cells,hB,hc⟩:=hr;exact ⟨_,hB.cell _ (hc x hlt).1,hB.free _⟩
    obtain ⟨z,hz,hf⟩:=hcell;have HX:=Lh (And.intro (hb.setCell (p:=⟨g,x * 3,none⟩) hgw (.int .i64 3)) hr.set);clear hb hr;go_wp2_with fail
    go_roundg (n-(x+1))
    case measure=>omega
    case rel=>exact ⟨x+1,by omega,rfl,by go_num,HX.out⟩
   ·obtain rfl:n=x:=by omega
    have HF:=Lh (HR.first (oneT L) _ wr (by simp [oneT]; exact HL3.out) (fun y hy=>by obtain ⟨z,hz,rfl⟩:=List.mem_map.1 hy; exact hLO z hz) (hr.isAc HN.out hn4 hc4));rw [oneT_code HEM.out] at HF;have HB6:=Lh hb;clear hb hr
    go_upto_region 13 with (go_at_call 12; refine HF.out.mono ?_; rintro e w7 ⟨fa,fb,rfl,hb⟩)
    have HB7:=Lh (HB6.out.trans (hb.mono HB6.out.size));clear hb HB6 HF;go_wp2_with (go_at_call 5; refine (HAW.out _ HB7.out).mono ?_; rintro e w8 ⟨rfl,hb⟩)
    go_ret
    exact ⟨rfl,hb⟩
end Go.Proofs.Ytjilpbmehipagaa
