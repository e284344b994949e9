import Derived.Test.YtgpfbgmdahmpkaaVc13
set_option maxRecDepth 100000
set_option maxHeartbeats 12800000
namespace Go.Proofs.Ytgpfbgmdahmpkaa
open Go Go.Proofs Go.RowKit
theorem med_pad {T:List Int} (h:T.length≤16) (hp:∀ x∈pad T,0≤x∧x≤2199023255552):MedA T:=⟨h,fun x hx=>hp x (List.mem_append_left _ hx)⟩
theorem pad_in {A:List Int} (h:MayA A):∀ x∈pad A,0≤x∧x≤1099511627776:=by
 intro x hx
 unfold pad at hx
 rcases List.mem_append.1 hx with hx | hx
 ·exact h.2 x hx
 ·rw [(List.mem_replicate.1 hx).2]; omega
theorem getD_mem {L:List Int} {k:Nat} (h:k<L.length):L.getD k 0∈L:=by
 rw [List.getD_eq_getElem?_getD,List.getElem?_eq_getElem h]; exact List.getElem_mem h
theorem tick_in {L:List Int} (hL:L.length=16) (h:∀ x∈L,0≤x∧x≤1099511627776) (i:Int):∀ x∈tickL L i,0≤x∧x≤2199023255552:=by
 intro x hx
 unfold tickL at hx
 split at hx
 ·rename_i hi
  rcases List.mem_or_eq_of_mem_set hx with hx | hx
  ·have:=h x hx; omega
  ·have:=h _ (getD_mem (L:=L) (k:=i.toNat) (by omega)); omega
 ·have:=h x hx; omega
theorem join_in {L M:List Int} {c:Int} (h:∀ x∈L,0≤x∧x≤c) (h2:∀ x∈M,0≤x∧x≤c):∀ x∈joinL L M,0≤x∧x≤c:=by
 intro x hx
 unfold joinL at hx
 rw [List.mem_iff_getElem] at hx;obtain ⟨j,hj,rfl⟩:=hx;rw [List.getElem_zipWith];have a:=h _ (List.getElem_mem (show j<L.length by simp at hj; omega));have b:=h2 _ (List.getElem_mem (show j<M.length by simp at hj; omega));split <;> omega
theorem leq_of {M N:List Int} (h:∀ j,j<16→M.getD j 0≤N.getD j 0):leqL M N=true:=leq_iff.2 h
theorem leq_join1 {M N:List Int} (h:M.length=16) (h2:N.length=16):leqL M (joinL M N)=true:=leq_of fun j hj=>by rw [join_at h h2 hj]; split <;> omega
theorem leq_join2 {M N:List Int} (h:M.length=16) (h2:N.length=16):leqL N (joinL M N)=true:=leq_of fun j hj=>by rw [join_at h h2 hj]; split <;> omega
theorem join_least {M N F:List Int} (h:M.length=16) (h2:N.length=16) (a:leqL M F=true) (b:leqL N F=true):leqL (joinL M N) F=true:=leq_of fun j hj=>by
 have a:=leq_iff.1 a j hj;have b:=leq_iff.1 b j hj;rw [join_at h h2 hj]; split <;> omega
theorem join_comm {M N:List Int} (h:M.length=16) (h2:N.length=16):joinL M N=joinL N M:=ext16 (join_len h h2) (join_len h2 h) fun j hj=>by
 rw [join_at h h2 hj,join_at h2 h hj]; split <;> split <;> omega
theorem tick_at {M:List Int} (h:M.length=16) {i:Int} (h0:0≤i) (h1:i<16) (j:Nat) (hj:j<16):(tickL M i).getD j 0=if j=i.toNat then M.getD j 0+1 else M.getD j 0:=by
 unfold tickL
 rw [if_pos ⟨h0,h1⟩,List.getD_eq_getElem?_getD,List.getElem?_set];by_cases e:i.toNat=j
 ·subst e; rw [if_pos rfl,if_pos (by omega),if_pos rfl]; rfl
 ·rw [if_neg e,if_neg (fun h=>e h.symm),List.getD_eq_getElem?_getD]
theorem leq_tick {M:List Int} (h:M.length=16) {i:Int} (h0:0≤i) (h1:i<16):leqL M (tickL M i)=true:=leq_of fun j hj=>by rw [tick_at h h0 h1 j hj]; split <;> omega
theorem tick_nle {M:List Int} (h:M.length=16) {i:Int} (h0:0≤i) (h1:i<16):leqL (tickL M i) M=false:=by
 rw [←Bool.not_eq_true,leq_iff];intro hh
 have:=hh i.toNat (by omega);rw [tick_at h h0 h1 _ (by omega),if_pos rfl] at this;omega
def Awake13Ok:Prop:=∀ w:World,Calls Try.prog 6 #[] w fun e w'=>e=.returned (.bool true)∧Below w.heap.size w w'
theorem onto {f:FuncId} {args:Array Value} {v:Value} {w W:World} (hb:Below w.heap.size w W) (h:Calls Try.prog f args W fun e W'=>e=.returned v∧Below W.heap.size W W'):Calls Try.prog f args W fun e W'=>e=.returned v∧Below w.heap.size w W':=
 h.mono fun _ _ ⟨e,k⟩=>⟨e,hb.trans (k.mono hb.size)⟩
structure Lq (B:World) (v u:Value) (r:Bool):Prop where
 go:∀ W,Below B.heap.size B W→Calls Try.prog 13 #[v,u] W fun e W'=>e=.returned (.bool r)∧Below B.heap.size B W'
theorem vleast_main (HC:VCAll) (hAw:Awake13Ok) (A B E:List Int) (v u x:Value) (i:Int) (hi0:0≤i) (hi1:i≤255) (w:World) (hA:IsL w v A) (hB:IsL w u B) (hE:IsL w x E):
  Calls Try.prog 4 #[v,u,x,.int .u8 i] w fun e w'=>e=.returned (.bool true)∧Below w.heap.size w w':=by
 have HA:=Lh (fun W (hb:Below w.heap.size w W)=>hA.next hb);have HB:=Lh (fun W (hb:Below w.heap.size w W)=>hB.next hb);have HE:=Lh (fun W (hb:Below w.heap.size w W)=>hE.next hb);have HMA:=Lh (fun W (hb:Below w.heap.size w W)=>onto hb (may13_any A v W (hA.next hb)));have HMB:=Lh (fun W (hb:Below w.heap.size w W)=>onto hb (may13_any B u W (hB.next hb)));have HME:=Lh (fun W (hb:Below w.heap.size w W)=>onto hb (may13_any E x W (hE.next hb)));have HAW:=Lh (fun W (hb:Below w.heap.size w W)=>onto hb (hAw W));have hb:=Below.refl w.heap.size w;have HC0:=Lh hAw;clear hA hB hE hAw
 go_enter Try.func4,Try.ntmps4
 cases ea:mayL A
 ·rw [ea] at HMA
  go_wp2_with (first | (go_at_call 5; refine (HMA.out _ hb).mono ?_; rintro e w1 ⟨rfl,hb⟩) | (go_at_call 6; refine (HAW.out _ hb).mono ?_; rintro e w1 ⟨rfl,hb⟩))
  go_ret
  exact ⟨rfl,hb⟩
 rw [ea] at HMA
 cases eb:mayL B
 ·rw [eb] at HMB
  go_wp2_with (first | (go_at_call 5; (first | (refine (HMA.out _ hb).mono ?_; clear HMA) | (refine (HMB.out _ hb).mono ?_; clear HMB)); rintro e w1 ⟨rfl,hb⟩) | (go_at_call 6; refine (HAW.out _ hb).mono ?_; rintro e w1 ⟨rfl,hb⟩))
  go_ret
  exact ⟨rfl,hb⟩
 rw [eb] at HMB
 cases ee:mayL E
 ·rw [ee] at HME
  go_wp2_with (first | (go_at_call 5; (first | (refine (HMA.out _ hb).mono ?_; clear HMA) | (refine (HMB.out _ hb).mono ?_; clear HMB) | (refine (HME.out _ hb).mono ?_; clear HME)); rintro e w1 ⟨rfl,hb⟩) | (go_at_call 6; refine (HAW.out _ hb).mono ?_; rintro e w1 ⟨rfl,hb⟩))
  go_ret
  exact ⟨rfl,hb⟩
 rw [ee] at HME;have ma:=may_iff.1 ea;have mb:=may_iff.1 eb;have me:=may_iff.1 ee;clear ea eb ee
 go_upto_region 4 with (go_at_call 5; (first | (refine (HMA.out _ hb).mono ?_; clear HMA) | (refine (HMB.out _ hb).mono ?_; clear HMB) | (refine (HME.out _ hb).mono ?_; clear HME)); rintro e w1 ⟨rfl,hb⟩)
 have HJ:=Lh (HC.join A B v u w1 ma.med mb.med (HA.out _ hb) (HB.out _ hb));have HAJ:=Lh (HA.out _ hb);have HBJ:=Lh (HB.out _ hb);have HEJ:=Lh (HE.out _ hb);have HB0:=Lh hb;clear HA HB HE hb
 go_upto_region 5 with (go_at_call 9; refine HJ.out.mono ?_; rintro e w2 ⟨y,T,rfl,t1,t2,t3,hb⟩)
 have ht:=HC.tick A v (i % 16) w2 (by omega) (by omega) ma.med (HAJ.out.next hb);have HT:=Lh ht;have HY:=Lh t3.isL;have HAT:=Lh (HAJ.out.next hb);have HBT:=Lh (HBJ.out.next hb);have HET:=Lh (HEJ.out.next hb);have HB1:=Lh (HB0.out.trans (hb.mono HB0.out.size));have HPY:=Lh (And.intro t1 t2);have hi2:0≤i % 16:=by omega
 have hi3:i % 16<16:=by omega
 clear ht t1 t2 t3 HJ HAJ HBJ HEJ HB0 hb
 go_upto_region 6 with (go_at_call 8; refine HT.out.mono ?_; rintro e w3 ⟨t,S,rfl,t1,t2,t3,hb⟩)
 have pa:=pad_len ma.1;have pb:=pad_len mb.1;have pe:=pad_len me.1;have HS:=Lh t3.isL;have hy:=HY.out.next hb;have ha:=HAT.out.next hb;have hB:=HBT.out.next hb;have he:=HET.out.next hb;have mT:MedA T:=med_pad HPY.out.1 (by rw [HPY.out.2]; exact join_in (fun q h=>by have:=pad_in ma q h; omega) (fun q h=>by have:=pad_in mb q h; omega));have mS:MedA S:=med_pad t1 (by rw [t2]; exact tick_in pa (pad_in ma) _);have HB2:=Lh (HB1.out.trans (hb.mono HB1.out.size));have HAW3:=Lh (fun W (h:Below w3.heap.size w3 W)=>onto h (HC0.out W));have q1:=Lq.mk (B:=w3) (fun W (h:Below w3.heap.size w3 W)=>onto h (HC.leq A T v y W ma.med mT (ha.next h) (hy.next h)));rw [HPY.out.2,leq_join1 pa pb] at q1;have q2:=Lq.mk (B:=w3) (fun W (h:Below w3.heap.size w3 W)=>onto h (HC.leq B T u y W mb.med mT (hB.next h) (hy.next h)));rw [HPY.out.2,leq_join2 pa pb] at q2;have HJ2:=Lh (fun W (h:Below w3.heap.size w3 W)=>(HC.join B A u v W mb.med ma.med (hB.next h) (ha.next h)).mono (fun e W' (k:∃ x T,e=.returned x∧T.length≤16∧pad T=joinL (pad B) (pad A)∧OwnL W.heap.size W' x T∧Below W.heap.size W W')=>show ∃ z,e=.returned z∧(∀ X,Below W'.heap.size W' X→Calls Try.prog 15 #[y,z] X fun e X'=>e=.returned (.bool true)∧Below w3.heap.size w3 X')∧Below w3.heap.size w3 W' from by
  obtain ⟨z,Z,rfl,k1,k2,k3,k4⟩:=k;have h2:=h.trans (k4.mono h.size);have mZ:MedA Z:=med_pad k1 (by rw [k2]; exact join_in (fun q h=>by have:=pad_in mb q h; omega) (fun q h=>by have:=pad_in ma q h; omega));refine ⟨z,rfl,fun X hX=>?_,h2⟩;have h3:=h2.trans (hX.mono h2.size);have h4:=onto h3 (HC.same T Z y z X mT mZ (hy.next h3) (k3.isL.next hX))
  rwa [HPY.out.2,k2,join_comm pb pa,decide_eq_true rfl] at h4))
 have q3:=Lq.mk (B:=w3) (fun W (h:Below w3.heap.size w3 W)=>onto h (HC.leq A E v x W ma.med me.med (ha.next h) (he.next h)));have q4:=Lq.mk (B:=w3) (fun W (h:Below w3.heap.size w3 W)=>onto h (HC.leq B E u x W mb.med me.med (hB.next h) (he.next h)));have q5:=Lq.mk (B:=w3) (fun W (h:Below w3.heap.size w3 W)=>onto h (HC.leq T E y x W mT me.med (hy.next h) (he.next h)));rw [HPY.out.2] at q5;have q6:=Lq.mk (B:=w3) (fun W (h:Below w3.heap.size w3 W)=>onto h (HC.leq A S v t W ma.med mS (ha.next h) (HS.out.next h)));rw [t2,leq_tick pa hi2 hi3] at q6;have q7:=Lq.mk (B:=w3) (fun W (h:Below w3.heap.size w3 W)=>onto h (HC.leq S A t v W mS ma.med (HS.out.next h) (ha.next h)));rw [t2,tick_nle pa hi2 hi3] at q7;have HLE:=Lh (fun h1 h2=>join_least pa pb (F:=pad E) h1 h2);clear hb;have hb:=Below.refl w3.heap.size w3;clear t1 t2 t3 HS hy ha hB he mT mS HPY HY HAT HBT HET HB1 HT HC ma mb me pa pb pe;generalize leqL (pad A) (pad E)=p1 at *
 generalize leqL (pad B) (pad E)=p2 at *
 generalize leqL (joinL (pad A) (pad B)) (pad E)=p3 at *
 have hp3:p1=true→p2=true→p3=true:=HLE.out;clear HLE
 cases p1 <;> cases p2 <;> (try (obtain rfl:=hp3 rfl rfl)) <;> clear hp3
 all_goals
  go_wp2_with (first | (go_at_call 6; refine (HAW3.out _ hb).mono ?_; rintro e w4 ⟨rfl,hb⟩) | (go_at_call 13; refine (Lq.go (B:=w3) (by assumption) _ hb).mono ?_; rintro e w4 ⟨rfl,hb⟩) | (go_at_call 9; refine (HJ2.out _ hb).mono ?_; rintro e w4 ⟨z,rfl,hz,hb⟩; have HZ:=Lh hz; clear hz) | (go_at_call 15; refine (HZ.out _ (Below.refl _ _)).mono ?_; rintro e w4 ⟨rfl,hb⟩))
  go_ret
  exact ⟨rfl,HB2.out.trans (hb.mono HB2.out.size)⟩
def OwnU (B C:Nat) (W:World) (v:Value) (A:List Int):Prop:=∃ ad cap,v=.slice ad A.length cap∧A.length≤cap∧cap≤9223372036854775807 ∧
 (A≠[]→∃ b off cells t,ad=some ⟨b,off,none⟩∧(B≤b∧b<C)∧Blk W b cells t∧∀ j (hj:j<A.length),cells[off+j]? = some (.int .i64 A[j]))
theorem OwnL.upto {B:Nat} {W:World} {v:Value} {A:List Int} (h:OwnL B W v A):OwnU B W.heap.size W v A:=by
 obtain ⟨ad,cap,e,h1,h2,h3⟩:=h;refine ⟨ad,cap,e,h1,h2,fun hA=>?_⟩;obtain ⟨b,off,cells,t,e2,h4,hB,hc⟩:=h3 hA;exact ⟨b,off,cells,t,e2,⟨h4,hB.lt⟩,hB,hc⟩
theorem OwnU.next {B C:Nat} {W W':World} {v:Value} {A:List Int} (h:OwnU B C W v A) (hb:Below W.heap.size W W'):OwnU B C W' v A:=by
 obtain ⟨ad,cap,e,h1,h2,h3⟩:=h;refine ⟨ad,cap,e,h1,h2,fun hA=>?_⟩;obtain ⟨b,off,cells,t,e2,h4,hB,hc⟩:=h3 hA;exact ⟨b,off,cells,t,e2,h4,hB.next hb,hc⟩
theorem OwnU.other {B C:Nat} {W:World} {v:Value} {A:List Int} (h:OwnU B C W v A) {b:Nat} (hb:b<B∨C≤b) (i:Nat) (x:Value):OwnU B C (W.setCell ⟨b,i,none⟩ x) v A:=by
 obtain ⟨ad,cap,e,h1,h2,h3⟩:=h;refine ⟨ad,cap,e,h1,h2,fun hA=>?_⟩;obtain ⟨g,off,cells,t,e2,h4,hB,hc⟩:=h3 hA;exact ⟨g,off,cells,t,e2,h4,hB.other ⟨b,i,none⟩ (by show g≠b; omega) x,hc⟩
theorem OwnU.tick {B C:Nat} {W:World} {ad:Option Addr} {cap n k:Nat} {A:List Int} (hn:A.length=n) (h:OwnU B C W (.slice ad n cap) A) (hk:k<n):∃ b off x,ad=some ⟨b,off,none⟩∧(B≤b∧b<C)∧W.cell? ⟨b,off+k,none⟩=some (.int .i64 x)∧W.frozen? ⟨b,off+k,none⟩=false∧∀ y,OwnU B C (W.setCell ⟨b,off+k,none⟩ (.int .i64 y)) (.slice ad n cap) (A.set k y):=by
 subst hn;obtain ⟨ad',cap',e,h1,h2,h3⟩:=h;simp only [Value.slice.injEq,true_and] at e
 obtain ⟨rfl,rfl⟩:=e;obtain ⟨b,off,cells,t,e2,h4,hB,hc⟩:=h3 (fun e=>by subst e; cases hk);refine ⟨b,off,A[k],e2,h4,hB.cell _ (hc k hk),hB.free _,fun y=>⟨ad,cap,by rw [List.length_set],by rw [List.length_set]; exact h1,h2,fun _=>⟨b,off,_,t,e2,h4,hB.set _ _,fun j hj=>?_⟩⟩⟩;rw [List.length_set] at hj;have hlt:off+k<cells.length:=(List.getElem?_eq_some_iff.1 (hc k hk)).1;by_cases e:k=j
 ·subst e; rw [List.getElem?_set_self hlt,List.getElem_set_self]
 ·rw [List.getElem?_set_ne (by omega),hc j hj,List.getElem_set_ne e]
theorem OwnL.other {B:Nat} {W:World} {v:Value} {A:List Int} (h:OwnL B W v A) {b:Nat} (hb:b<B) (i:Nat) (x:Value):OwnL B (W.setCell ⟨b,i,none⟩ x) v A:=by
 obtain ⟨ad,cap,e,h1,h2,h3⟩:=h;refine ⟨ad,cap,e,h1,h2,fun hA=>?_⟩;obtain ⟨g,off,cells,t,e2,h4,hB,hc⟩:=h3 hA;exact ⟨g,off,cells,t,e2,h4,hB.other ⟨b,i,none⟩ (by show g≠b; omega) x,hc⟩
structure Cq (B:World) (f:FuncId) (args:Array Value) (r:Value):Prop where
 go:∀ W,Below B.heap.size B W→Calls Try.prog f args W fun e W'=>e=.returned r∧Below B.heap.size B W'
theorem arr_start (W:World):Blk ((W.alloc (.cells #[.int .i64 0,.int .i64 0,.int .i64 0,.int .i64 0,.int .i64 0,.int .i64 0,.int .i64 0,.int .i64 0,.int .i64 0,.int .i64 0,.int .i64 0,.int .i64 0,.int .i64 0,.int .i64 0,.int .i64 0,.int .i64 0] 27)).alloc (.cells #[.int .i64 0,.int .i64 0,.int .i64 0,.int .i64 0,.int .i64 0,.int .i64 0,.int .i64 0,.int .i64 0,.int .i64 0,.int .i64 0,.int .i64 0,.int .i64 0,.int .i64 0,.int .i64 0,.int .i64 0,.int .i64 0] 27)) W.heap.size (arL zs16) 27∧Blk ((W.alloc (.cells #[.int .i64 0,.int .i64 0,.int .i64 0,.int .i64 0,.int .i64 0,.int .i64 0,.int .i64 0,.int .i64 0,.int .i64 0,.int .i64 0,.int .i64 0,.int .i64 0,.int .i64 0,.int .i64 0,.int .i64 0,.int .i64 0] 27)).alloc (.cells #[.int .i64 0,.int .i64 0,.int .i64 0,.int .i64 0,.int .i64 0,.int .i64 0,.int .i64 0,.int .i64 0,.int .i64 0,.int .i64 0,.int .i64 0,.int .i64 0,.int .i64 0,.int .i64 0,.int .i64 0,.int .i64 0] 27)) (W.heap.size+1) (arL zs16) 27:=
 ⟨(Blk.start W (arL zs16) _).alloc _,Blk.startAt (vs:=arL zs16) (by simp)⟩
theorem vtells_main (HC:VCAll) (hAw:Awake13Ok) (A B:List Int) (v u:Value) (i:Int) (hi0 : -9223372036854775808≤i) (hi1:i≤9223372036854775807) (w:World) (hA:IsL w v A) (hB:IsL w u B):
  Calls Try.prog 3 #[v,u,.int .i64 i] w fun e w'=>e=.returned (.bool true)∧Below w.heap.size w w':=by
 have U:Try.prog.underlying 27=some (.array 16 3):=Try.underlying27;have HA:=Lh (fun W (hb:Below w.heap.size w W)=>hA.next hb);have HB:=Lh (fun W (hb:Below w.heap.size w W)=>hB.next hb);have qa:=Cq.mk (B:=w) (fun W hb=>onto hb (may13_any A v W (hA.next hb)));have qb:=Cq.mk (B:=w) (fun W hb=>onto hb (may13_any B u W (hB.next hb)));have qw:=Cq.mk (B:=w) (fun W hb=>onto hb (hAw W));have HC0:=Lh hAw;have hb:=Below.refl w.heap.size w;clear hA hB hAw
 go_enter Try.func3,Try.ntmps3
 cases ea:mayL A
 ·rw [ea] at qa
  go_wp2_with (refine (Cq.go (B:=w) (by assumption) _ hb).mono ?_; rintro e w1 ⟨rfl,hb⟩)
  go_ret
  exact ⟨rfl,hb⟩
 rw [ea] at qa
 cases eb:mayL B
 ·rw [eb] at qb
  go_wp2_with (refine (Cq.go (B:=w) (by assumption) _ hb).mono ?_; rintro e w1 ⟨rfl,hb⟩)
  go_ret
  exact ⟨rfl,hb⟩
 rw [eb] at qb;have ma:=may_iff.1 ea;have mb:=may_iff.1 eb;clear ea eb;have pa:=pad_len ma.1;have pb:=pad_len mb.1;have oa:=Cq.mk (B:=w) (fun W hb=>onto hb (rf13Of_any A v W (HA.out _ hb) ma.1));have ob:=Cq.mk (B:=w) (fun W hb=>onto hb (rf13Of_any B u W (HB.out _ hb) mb.1));have hsa:Hid ((Try.prog.info? 27).map (·.size)=some (arL (pad A)).length):=Lh (by rw [show (arL (pad A)).length=16 by simp [arL,pa]]; kernel_rfl);have hsb:Hid ((Try.prog.info? 27).map (·.size)=some (arL (pad B)).length):=Lh (by rw [show (arL (pad B)).length=16 by simp [arL,pb]]; kernel_rfl);have hl1:(arL zs16).length=(arL (pad A)).length:=by simp [arL,pa]
 have hl2:(arL zs16).length=(arL (pad B)).length:=by simp [arL,pb]
 have HL12:=Lh (And.intro hl1 hl2);clear hl1 hl2
 go_upto_region 4 with (refine (Cq.go (B:=w) (by assumption) _ hb).mono ?_; rintro e w1 ⟨rfl,hb⟩)
 go_upto_region 5 with (first | (refine (Cq.go (B:=w) (by assumption) _ hb).mono ?_; rintro e w1 ⟨rfl,hb⟩) | (refine st_blk (arr_start _).1 (by rfl) (by rfl) (by rfl) (by rfl) HL12.out.1 hsa.out (fun w2 hw2=>?_); simp only [LAY]) | (refine st_blk (hw2.out▸blkCo (by omega) _ 0 (arr_start _).2) (by rfl) (by rfl) (by rfl) (by rfl) HL12.out.2 hsb.out (fun w3 hw3=>?_); simp only [LAY]))
 have hz1:=(arr_start w1).1;have hz2:=(arr_start w1).2;have hbA:Below w.heap.size w ((w1.alloc (.cells #[.int .i64 0,.int .i64 0,.int .i64 0,.int .i64 0,.int .i64 0,.int .i64 0,.int .i64 0,.int .i64 0,.int .i64 0,.int .i64 0,.int .i64 0,.int .i64 0,.int .i64 0,.int .i64 0,.int .i64 0,.int .i64 0] 27)).alloc (.cells #[.int .i64 0,.int .i64 0,.int .i64 0,.int .i64 0,.int .i64 0,.int .i64 0,.int .i64 0,.int .i64 0,.int .i64 0,.int .i64 0,.int .i64 0,.int .i64 0,.int .i64 0,.int .i64 0,.int .i64 0,.int .i64 0] 27)):=hb.trans ((((Below.refl w1.heap.size w1).alloc (Nat.le_refl _) _).alloc (by simp) _).mono hb.size);have hM2:Blk w2 w1.heap.size (arL (pad A)) 27:=by rw [hw2.out]; exact blkC0 hz1 HL12.out.1.symm
 have hM3:Blk w3 w1.heap.size (arL (pad A)) 27:=by rw [hw3.out]; exact blkCo (by omega) _ 0 hM2
 have hN2:Blk w2 (w1.heap.size+1) (arL zs16) 27:=by rw [hw2.out]; exact blkCo (by omega) _ 0 hz2
 have hN3:Blk w3 (w1.heap.size+1) (arL (pad B)) 27:=by rw [hw3.out]; exact blkC0 hN2 HL12.out.2.symm
 have hb3:Below w.heap.size w w3:=by
  have h1:=hb.size;rw [hw3.out];refine belC (by omega) _ 0 ?_;rw [hw2.out];exact belC (by omega) _ 0 hbA
 have HM:=Lh hM3;have HN:=Lh hN3;have HB3:=Lh hb3;clear hz1 hz2 hbA hM2 hM3 hN2 hN3 hb3 hw2 hw3 qa qb qw oa ob hb HL12;generalize w1.heap.size+1=bN at *
 generalize w1.heap.size=bM at *
 have HT:=Lh (HC.tick A v i w3 hi0 hi1 ma.med (HA.out _ HB3.out))
 go_upto_region 6 with (go_at_call 8; refine HT.out.mono ?_; rintro e w5 ⟨t,T,rfl,t1,t2,t3,hb5⟩)
 have HT5:=Lh t3.upto;have HPT:=Lh (And.intro t1 t2);have HB5:=Lh hb5;have HJ:=Lh (HC.join A B v u w5 ma.med mb.med (HA.out _ (HB3.out.trans (hb5.mono HB3.out.size))) (HB.out _ (HB3.out.trans (hb5.mono HB3.out.size))));have HTL:=Lh t3.isL;clear t1 t2 t3 hb5 HT
 go_upto_region 7 with (go_at_call 9; refine HJ.out.mono ?_; rintro e w6 ⟨j,J,rfl,t1,t2,t3,hb6⟩)
 have HJ6:=Lh t3;have HT6:=Lh (HT5.out.next hb6);have ht6:=HTL.out.next hb6;have hj6:=t3.isL;have hb36:Below w3.heap.size w3 w6:=HB5.out.trans (hb6.mono HB5.out.size);have hb06:Below w.heap.size w w6:=HB3.out.trans (hb36.mono HB3.out.size);have HM6:=Lh (HM.out.next hb36);have HN6:=Lh (HN.out.next hb36);have HS6:=Lh (And.intro hb36 (And.intro hb06 HB5.out.size));have mT:MedA T:=med_pad HPT.out.1 (by rw [HPT.out.2]; exact tick_in pa (pad_in ma) _);have mJ:MedA J:=med_pad t1 (by rw [t2]; exact join_in (fun q h=>by have:=pad_in ma q h; omega) (fun q h=>by have:=pad_in mb q h; omega));have lt:=tick_len pa i;have lj:=join_len pa pb;have hai:∀ q∈pad A,0≤q∧q≤4611686018427387904:=fun q h=>by have:=pad_in ma q h; omega
 have r1:=Lh (Cq.mk (B:=w6) (fun W h=>onto h (rf13Tick_any (pad A) pa hai i W)));have r2:=Lh (Cq.mk (B:=w6) (fun W h=>onto h (is13_any HC.at_ T (tickL (pad A) i) mT lt t W (ht6.next h))));rw [HPT.out.2,decide_eq_true rfl] at r2;have r3:=Lh (Cq.mk (B:=w6) (fun W h=>onto h (rf13Join_any (pad A) (pad B) pa pb W)));have r4:=Lh (Cq.mk (B:=w6) (fun W h=>onto h (is13_any HC.at_ J (joinL (pad A) (pad B)) mJ lj j W (hj6.next h))));rw [t2,decide_eq_true rfl] at r4;have r5:=Lh (Cq.mk (B:=w6) (fun W h=>onto h (HC.leq A B v u W ma.med mb.med (HA.out _ (hb06.trans (h.mono hb06.size))) (HB.out _ (hb06.trans (h.mono hb06.size))))));have r6:=Lh (Cq.mk (B:=w6) (fun W h=>onto h (rf13Leq_any (pad A) (pad B) pa pb W)));have r7:=Lh (Cq.mk (B:=w6) (fun W h=>onto h (HC.same A B v u W ma.med mb.med (HA.out _ (hb06.trans (h.mono hb06.size))) (HB.out _ (hb06.trans (h.mono hb06.size))))));have HEQ:∀ W,(Op.equalIn 10000 27 (.agg (arL (pad A)).toArray) (.agg (arL (pad B)).toArray)).run Try.prog W=.ok (decide (pad A=pad B)) W:=fun W=>eq_arr 9998 pa pb U Try.underlying3 (by kernel_rfl) (by kernel_rfl) W
 have l1:Cq w3 10 #[v,.agg (arL (pad A)).toArray] (.bool true):=Cq.mk (B:=w3) (fun W h=>onto h (by
  have h2:=is13_any HC.at_ A (pad A) ma.med pa v W (HA.out _ (HB3.out.trans (h.mono HB3.out.size)))
  rwa [decide_eq_true rfl] at h2))
 have l2:Cq w3 10 #[u,.agg (arL (pad B)).toArray] (.bool true):=Cq.mk (B:=w3) (fun W h=>onto h (by
  have h2:=is13_any HC.at_ B (pad B) mb.med pb u W (HB.out _ (HB3.out.trans (h.mono HB3.out.size)))
  rwa [decide_eq_true rfl] at h2))
 have HIS:=Lh (And.intro l1 l2);clear l1 l2 t1 t2 t3 hb6 ht6 hj6 mT mJ hb36 hb06 lt lj hai HTL HT5 HJ HPT HB5 HA HB HC;go_wp2_with fail
 refine rgH (fun W=>Blk W bM (arL (pad A)) 27∧Blk W bN (arL (pad B)) 27∧Below w6.heap.size w6 W) (And.intro HM6.out.drew (And.intro HN6.out.drew bdq)) fun hH=>?_
 refine tq 0 (t) hH ?_;refine tq 1 (.agg (arL (pad A)).toArray) hH ?_ (hy:=fun W h=>ldy rfl rfl h.1 U hsa.out);refine tq 2 (.int .i64 i) hH ?_;refine rd1 3 (by kernel_rfl) rfl fun K hK=>?_
 go_simp
 refine (r1.out.go _ hH.2.2).mono ?_
 rintro e W2 ⟨rfl,hb⟩
 go_wp2_with fail
 refine hK.out _ _ (And.intro (HM6.out.next hb) (And.intro (HN6.out.next hb) hb)) (fun hH2=>?_);clear hK K hH hb;have hH:=hH2;clear hH2
 try simp only [LAY]
 refine rd1 4 (by kernel_rfl) rfl fun K hK=>?_
 go_simp
 refine (r2.out.go _ hH.2.2).mono ?_
 rintro e W2 ⟨rfl,hb⟩
 go_wp2_with fail
 refine hK.out _ _ (And.intro (HM6.out.next hb) (And.intro (HN6.out.next hb) hb)) (fun hH2=>?_);clear hK K hH hb;have hH:=hH2;clear hH2
 try simp only [LAY]
 refine tq 5 (.bool false) hH ?_;refine tq 6 (.bool false) hH ?_;refine tq 7 (j) hH ?_;refine tq 8 (.agg (arL (pad A)).toArray) hH ?_ (hy:=fun W h=>ldy rfl rfl h.1 U hsa.out);refine tq 9 (.agg (arL (pad B)).toArray) hH ?_ (hy:=fun W h=>ldy rfl rfl h.2.1 U hsb.out);refine rd1 10 (by kernel_rfl) rfl fun K hK=>?_
 go_simp
 refine (r3.out.go _ hH.2.2).mono ?_
 rintro e W2 ⟨rfl,hb⟩
 go_wp2_with fail
 refine hK.out _ _ (And.intro (HM6.out.next hb) (And.intro (HN6.out.next hb) hb)) (fun hH2=>?_);clear hK K hH hb;have hH:=hH2;clear hH2
 try simp only [LAY]
 refine rd1 11 (by kernel_rfl) rfl fun K hK=>?_
 go_simp
 refine (r4.out.go _ hH.2.2).mono ?_
 rintro e W2 ⟨rfl,hb⟩
 go_wp2_with fail
 refine hK.out _ _ (And.intro (HM6.out.next hb) (And.intro (HN6.out.next hb) hb)) (fun hH2=>?_);clear hK K hH hb;have hH:=hH2;clear hH2
 try simp only [LAY]
 refine tq 12 (.bool false) hH ?_;refine tq 13 (.bool false) hH ?_;refine tq 14 (.bool false) hH ?_;refine tq 15 (v) hH ?_;refine tq 16 (u) hH ?_;refine tq 18 (.agg (arL (pad A)).toArray) hH ?_ (hy:=fun W h=>ldy rfl rfl h.1 U hsa.out);refine tq 19 (.agg (arL (pad B)).toArray) hH ?_ (hy:=fun W h=>ldy rfl rfl h.2.1 U hsb.out);refine rd1 17 (by kernel_rfl) rfl fun K hK=>?_
 go_simp
 refine (r5.out.go _ hH.2.2).mono ?_
 rintro e W2 ⟨rfl,hb⟩
 go_wp2_with fail
 refine hK.out _ _ (And.intro (HM6.out.next hb) (And.intro (HN6.out.next hb) hb)) (fun hH2=>?_);clear hK K hH hb;have hH:=hH2;clear hH2
 try simp only [LAY]
 refine rd1 20 (by kernel_rfl) rfl fun K hK=>?_
 go_simp
 refine (r6.out.go _ hH.2.2).mono ?_
 rintro e W2 ⟨rfl,hb⟩
 go_wp2_with fail
 refine hK.out _ _ (And.intro (HM6.out.next hb) (And.intro (HN6.out.next hb) hb)) (fun hH2=>?_);clear hK K hH hb;have hH:=hH2;clear hH2
 try simp only [LAY]
 refine tq 21 (.bool false) hH ?_;refine tq 22 (.bool false) hH ?_;refine tq 23 (.bool false) hH ?_;refine tq 24 (v) hH ?_;refine tq 25 (u) hH ?_;refine tq 27 (.agg (arL (pad A)).toArray) hH ?_ (hy:=fun W h=>ldy rfl rfl h.1 U hsa.out);refine tq 28 (.agg (arL (pad B)).toArray) hH ?_ (hy:=fun W h=>ldy rfl rfl h.2.1 U hsb.out);refine tq 29 (.bool (decide (pad A=pad B))) hH ?_;refine rd1 26 (by kernel_rfl) rfl fun K hK=>?_
 go_simp
 refine (r7.out.go _ hH.2.2).mono ?_
 rintro e W2 ⟨rfl,hb⟩
 go_wp2_with fail
 refine hK.out _ _ (And.intro (HM6.out.next hb) (And.intro (HN6.out.next hb) hb)) (fun hH2=>?_);clear hK K hH hb;have hH:=hH2;clear hH2
 try simp only [LAY]
 refine tq 30 (.bool false) hH ?_;refine tq 31 (.bool false) hH ?_;refine dnH ?_;have HT7:=Lh (HT6.out.next hH.2.2);have HJ7:=Lh (HJ6.out.next hH.2.2);have HB7:=Lh (HS6.out.1.trans (hH.2.2.mono HS6.out.1.size));have HF:=Lh HS6.out.2.2;clear hH HM6 HN6 HS6 HT6 HJ6 r1 r2 r3 r4 r5 r6 r7 HEQ;obtain ⟨nT,hnT⟩:∃ n,n=T.length:=⟨_,rfl⟩
 obtain ⟨nJ,hnJ⟩:∃ n,n=J.length:=⟨_,rfl⟩
 obtain ⟨aT,cT,rfl,eT1,eT2,-⟩:=HT7.out;obtain ⟨aJ,cJ,rfl,eJ1,eJ2,-⟩:=HJ7.out;rw [←hnT] at eT1 HT7;rw [←hnJ] at eJ1 HJ7;have HNT:=Lh hnT.symm;have HNJ:=Lh hnJ.symm;simp only [←hnT,←hnJ]
 clear hnT hnJ;go_wp2_with fail
 go_loopg [70] nT (fun g ti wr=>∃ k:Nat,k≤nT∧g=nT-k∧ti=.int .i64 (k:Int)∧∃ T',T'.length=nT∧OwnU w3.heap.size w5.heap.size wr (.slice aT nT cT) T'∧OwnL w5.heap.size wr (.slice aJ nJ cJ) J∧Below w3.heap.size w3 wr)
 case atStart=>exact ⟨0,Nat.zero_le _,rfl,rfl,T,HNT.out,HT7.out,HJ7.out,HB7.out⟩
 case round=>
  obtain ⟨k,hk,rfl,rfl,T',hT',hu,hl,hb⟩:=hrel;clear HT7 HJ7 HB7;by_cases hlt:k<nT
  ·obtain ⟨b,off,x,rfl,hbb,hc,hf,hnx⟩:=hu.tick hT' hlt
   have HX:=Lh (fun y=>show _∧_∧_ from ⟨hnx y,hl.other hbb.2 (off+k) (.int .i64 y),hb.setCell (p:=⟨b,off+k,none⟩) hbb.1 (.int .i64 y)⟩);have HL2:=Lh hT';clear hu hl hb hbb hnx hT';go_wp2_with fail
   go_roundg (nT-(k+1))
   case measure=>omega
   case rel=>exact ⟨k+1,by omega,rfl,by go_num,_,by rw [List.length_set]; exact HL2.out,HX.out _⟩
  ·obtain rfl:k=nT:=by omega
   obtain ⟨C8,HJ8⟩:∃ C8,Hid (OwnU w5.heap.size C8 wr (.slice aJ nJ cJ) J):=⟨_,Lh hl.upto⟩
   have HB8:=Lh hb;clear hu hl hb hT';go_wp2_with fail
   go_loopg [82] nJ (fun g ti wr=>∃ k:Nat,k≤nJ∧g=nJ-k∧ti=.int .i64 (k:Int)∧∃ T',T'.length=nJ∧OwnU w5.heap.size C8 wr (.slice aJ nJ cJ) T'∧Below w3.heap.size w3 wr)
   case atStart=>exact ⟨0,Nat.zero_le _,rfl,rfl,J,HNJ.out,HJ8.out,HB8.out⟩
   case round=>
    obtain ⟨k,hk,rfl,rfl,T',hT',hu,hb⟩:=hrel;clear HJ8 HB8;by_cases hlt:k<nJ
    ·obtain ⟨b,off,x,rfl,hbb,hc,hf,hnx⟩:=hu.tick hT' hlt
     have HX:=Lh (fun y=>show _∧_ from ⟨hnx y,hb.setCell (p:=⟨b,off+k,none⟩) (Nat.le_trans HF.out hbb.1) (.int .i64 y)⟩);have HL2:=Lh hT';clear hu hb hbb hnx hT';go_wp2_with fail
     go_roundg (nJ-(k+1))
     case measure=>omega
     case rel=>exact ⟨k+1,by omega,rfl,by go_num,_,by rw [List.length_set]; exact HL2.out,HX.out _⟩
    ·obtain rfl:k=nJ:=by omega
     have qw:=Cq.mk (B:=w3) (fun W h=>onto h (HC0.out W));obtain ⟨q1,q2⟩:=HIS.out;clear hu hT';go_wp2_with (first | (refine (Cq.go (B:=w3) (by assumption) _ hb).mono ?_; rintro e w8 ⟨rfl,hb⟩) | (refine ld_blk (HM.out.next hb) (by rfl) (by rfl) (by rfl) U hsa.out ?_; simp only [LAY]) | (refine ld_blk (HN.out.next hb) (by rfl) (by rfl) (by rfl) U hsb.out ?_; simp only [LAY]))
     go_ret
     exact ⟨rfl,HB3.out.trans (hb.mono HB3.out.size)⟩
end Go.Proofs.Ytgpfbgmdahmpkaa
