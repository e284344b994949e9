import Derived.Test.YtjilpbmehipagaaOr14
import Derived.Test.YtjilpbmehipagaaVa13
namespace Go.Proofs.Ytjilpbmehipagaa
open Go Go.Proofs Go.RowKit
def Know (L:List Ac) (k i:Nat):Prop:=i=k∨Ord L i k
def Kn (L:List Ac) (k:Nat) (t:Int) (i:Nat):Prop:=∃ j,j<k∧(acA L j).t=t∧Know L j i
def Sg (L:List Ac) (k:Nat) (l:Int) (i:Nat):Prop:=∃ j,j<k∧(acA L j).k=3∧(acA L j).l=l∧Know L j i
theorem know_iff {L:List Ac} {k i:Nat} (hk:k<L.length):Know L k i↔i=k∨Kn L k (acA L k).t i∨(acA L k).k=2∧Sg L k (acA L k).l i:=by
 have hO:Ord L i k↔∃ j,j<k∧dirP L j k∧Know L j i:=by
  rw [←cd_zero hk];exact ⟨fun ⟨j,_,a,b,c⟩=>⟨j,a,b,c⟩,fun ⟨j,a,b,c⟩=>⟨j,Nat.zero_le _,a,b,c⟩⟩
 unfold Know
 rw [hO]
 constructor
 ·rintro (h | ⟨j,a,b | ⟨b1,b2,b3⟩,c⟩)
  ·exact .inl h
  ·exact .inr (.inl ⟨j,a,b,c⟩)
  ·exact .inr (.inr ⟨b2,j,a,b1,b3,c⟩)
 ·rintro (h | ⟨j,a,b,c⟩ | ⟨b2,j,a,b1,b3,c⟩)
  ·exact .inl h
  ·exact .inr ⟨j,a,.inl b,c⟩
  ·exact .inr ⟨j,a,.inr ⟨b1,b2,b3⟩,c⟩
theorem kn_next {L:List Ac} {k i:Nat} {t:Int}:Kn L (k+1) t i↔Kn L k t i∨(acA L k).t=t∧Know L k i:=by
 constructor
 ·rintro ⟨j,a,b,c⟩
  by_cases e:j=k
  ·subst e; exact .inr ⟨b,c⟩
  ·exact .inl ⟨j,by omega,b,c⟩
 ·rintro (⟨j,a,b,c⟩ | ⟨b,c⟩)
  ·exact ⟨j,by omega,b,c⟩
  ·exact ⟨k,by omega,b,c⟩
theorem sg_next {L:List Ac} {k i:Nat} {l:Int}:Sg L (k+1) l i↔Sg L k l i∨((acA L k).k=3∧(acA L k).l=l)∧Know L k i:=by
 constructor
 ·rintro ⟨j,a,b,b2,c⟩
  by_cases e:j=k
  ·subst e; exact .inr ⟨⟨b,b2⟩,c⟩
  ·exact .inl ⟨j,by omega,b,b2,c⟩
 ·rintro (⟨j,a,b,b2,c⟩ | ⟨⟨b,b2⟩,c⟩)
  ·exact ⟨j,by omega,b,b2,c⟩
  ·exact ⟨k,by omega,b,b2,c⟩
theorem kn_own {L:List Ac} {k i:Nat} (hk:k<L.length):Kn L (k+1) (acA L k).t i↔Know L k i:=by
 rw [kn_next,know_iff hk]
 constructor
 ·rintro (h | ⟨_,h⟩)
  ·exact .inr (.inl h)
  ·exact h
 ·exact fun h=>.inr ⟨rfl,h⟩
def Dc (L:List Ac) (P:Nat→Prop):Prop:=∀ i j,P j→i<j→(acA L i).t=(acA L j).t→P i
theorem know_lt {L:List Ac} {k i:Nat} (h:Know L k i):i≤k:=h.elim (fun e=>Nat.le_of_eq e) (fun o=>Nat.le_of_lt o.lt)
theorem know_dc {L:List Ac} {k:Nat} (hk:k<L.length):Dc L (Know L k):=fun i j h hij ht=>by
 rcases h with rfl | h
 ·exact .inr (.one hij hk (.inl ht))
 ·exact .inr (.trans (.one hij (Nat.lt_trans h.lt h.len) (.inl ht)) h)
theorem kn_dc {L:List Ac} {k:Nat} {t:Int} (hk:k≤L.length):Dc L (Kn L k t):=fun i j ⟨x,a,b,c⟩ hij ht=>⟨x,a,b,know_dc (by omega) i j c hij ht⟩
theorem sg_dc {L:List Ac} {k:Nat} {l:Int} (hk:k≤L.length):Dc L (Sg L k l):=fun i j ⟨x,a,b,b2,c⟩ hij ht=>⟨x,a,b,b2,know_dc (by omega) i j c hij ht⟩
noncomputable def cntA (L:List Ac) (P:Nat→Prop) (u:Int):Nat:=(List.range L.length).countP fun i=>cb ((acA L i).t=u∧P i)
theorem cnt_congr {L:List Ac} {P Q:Nat→Prop} {u:Int} (h:∀ i,i<L.length→(acA L i).t=u→(P i↔Q i)):cntA L P u=cntA L Q u:=by
 unfold cntA
 refine List.countP_congr fun i hi=>?_
 rw [cb_iff,cb_iff];have hi:=List.mem_range.1 hi;exact ⟨fun ⟨a,b⟩=>⟨a,(h i hi a).1 b⟩,fun ⟨a,b⟩=>⟨a,(h i hi a).2 b⟩⟩
theorem cnt_mono {L:List Ac} {P Q:Nat→Prop} {u:Int} (h:∀ i,i<L.length→(acA L i).t=u→P i→Q i):cntA L P u≤cntA L Q u:=by
 unfold cntA
 refine List.countP_mono_left fun i hi hp=>?_
 rw [cb_iff] at hp ⊢;exact ⟨hp.1,h i (List.mem_range.1 hi) hp.1 hp.2⟩
theorem cnt_le {L:List Ac} {P:Nat→Prop} {u:Int}:cntA L P u≤L.length:=by
 unfold cntA; exact Nat.le_trans List.countP_le_length (by simp)
theorem cnt_add {L:List Ac} {P:Nat→Prop} {u:Int} {k:Nat} (hk:k<L.length) (hu:(acA L k).t=u) (hn:¬ P k):cntA L (fun i=>P i∨i=k) u=cntA L P u+1:=by
 unfold cntA
 have hs:List.range L.length=List.range' 0 k++k::List.range' (k+1) (L.length-(k+1)):=by
  rw [List.range_eq_range',show L.length=k+((L.length-(k+1))+1) by omega,←List.range'_append_1,Nat.zero_add,List.range'_succ]
  congr 3; omega
 rw [hs,List.countP_append,List.countP_append,List.countP_cons,List.countP_cons];have e1:∀ l:List Nat,k∉l→l.countP (fun i=>cb ((acA L i).t=u∧(P i∨i=k)))=l.countP (fun i=>cb ((acA L i).t=u∧P i)):=fun l hl=>by
  refine List.countP_congr fun i hi=>?_
  rw [cb_iff,cb_iff];exact ⟨fun ⟨a,b⟩=>⟨a,b.resolve_right fun e=>hl (e▸hi)⟩,fun ⟨a,b⟩=>⟨a,.inl b⟩⟩
 rw [e1 _ (by rw [List.mem_range'_1]; omega),e1 _ (by rw [List.mem_range'_1]; omega),cb_pos ⟨hu,Or.inr rfl⟩,cb_neg (fun h=>hn h.2)]
 simp; omega
theorem cnt_lt {L:List Ac} {P Q:Nat→Prop} {u:Int} (h:∀ i,i<L.length→(acA L i).t=u→P i→Q i) {k:Nat} (hk:k<L.length) (hu:(acA L k).t=u) (hq:Q k) (hn:¬ P k):cntA L P u+1≤cntA L Q u:=by
 rw [←cnt_add hk hu hn];exact cnt_mono fun i hi ht hp=>hp.elim (h i hi ht) (fun e=>e▸hq)
theorem dc_or {L:List Ac} {P Q:Nat→Prop} (hP:Dc L P) (hQ:Dc L Q) (u:Int):(∀ i,i<L.length→(acA L i).t=u→P i→Q i)∨(∀ i,i<L.length→(acA L i).t=u→Q i→P i):=by
 refine Classical.byContradiction fun hn=>?_
 obtain ⟨h1,h2⟩:=not_or.1 hn;have f:∀ A B:Nat→Prop,(¬ ∀ i,i<L.length→(acA L i).t=u→A i→B i)→∃ i,(acA L i).t=u∧A i∧¬ B i:=fun A B h=>Classical.byContradiction fun hh=>h fun i _ ht ha=>Classical.byContradiction fun hb=>hh ⟨i,ht,ha,hb⟩
 obtain ⟨i,a,b,c⟩:=f _ _ h1;obtain ⟨j,d,e,g⟩:=f _ _ h2;rcases Nat.lt_trichotomy i j with h | h | h
 ·exact c (hQ i j e h (a.trans d.symm))
 ·subst h; exact c e
 ·exact g (hP j i b h (d.trans a.symm))
theorem cnt_join {L:List Ac} {P Q:Nat→Prop} (hP:Dc L P) (hQ:Dc L Q) (u:Int):(cntA L (fun i=>P i∨Q i) u:Int)=if (cntA L P u:Int)<cntA L Q u then (cntA L Q u:Int) else cntA L P u:=by
 rcases dc_or hP hQ u with h | h
 ·have e:cntA L (fun i=>P i∨Q i) u=cntA L Q u:=cnt_congr fun i hi ht=>⟨fun hh=>hh.elim (h i hi ht) id,.inr⟩
  have:=cnt_mono h;rw [e]; split <;> omega
 ·have e:cntA L (fun i=>P i∨Q i) u=cntA L P u:=cnt_congr fun i hi ht=>⟨fun hh=>hh.elim id (h i hi ht),.inl⟩
  have:=cnt_mono h;rw [e]; split <;> omega
theorem cnt_tick {L:List Ac} {P:Nat→Prop} {k:Nat} (hk:k<L.length) (hn:¬ P k) (u:Int):cntA L (fun i=>P i∨i=k) u=if (acA L k).t=u then cntA L P u+1 else cntA L P u:=by
 split
 ·rename_i hu
  exact cnt_add hk hu hn
 ·rename_i hu
  exact cnt_congr fun i _ ht=>⟨fun h=>h.elim id fun e=>absurd (e▸ht) hu,.inl⟩
theorem cnt_ord {L:List Ac} {i k:Nat} (hik:i<k) (hk:k<L.length):Ord L i k↔cntA L (Know L i) (acA L i).t≤cntA L (Know L k) (acA L i).t:=by
 constructor
 ·intro h
  exact cnt_mono fun j _ _ hj=>hj.elim (fun e=>e▸.inr h) (fun o=>.inr (o.trans h))
 ·intro h
  refine Classical.byContradiction fun hn=>?_
  have hni:¬ Know L k i:=fun hh=>hh.elim (by omega) hn
  have:=cnt_lt (L:=L) (P:=Know L k) (Q:=Know L i) (u:=(acA L i).t) (fun j hj ht hp=>by
   rcases Nat.lt_trichotomy j i with e | e | e
   ·exact .inr (.one e (by omega) (.inl ht))
   ·exact absurd (e▸hp) hni
   ·exact absurd (know_dc hk i j hp e ht.symm) hni) (k:=i) (by omega) rfl (.inl rfl) hni
  omega
noncomputable def vecP (L:List Ac) (P:Nat→Prop):List Int:=(List.range 16).map fun u:Nat=>(cntA L P (u:Int):Int)
theorem vec_len {L:List Ac} {P:Nat→Prop}:(vecP L P).length=16:=by simp [vecP]
theorem vec_at {L:List Ac} {P:Nat→Prop} {u:Nat} (h:u<16):(vecP L P).getD u 0=cntA L P (u:Int):=by
 unfold vecP
 rw [List.getD_eq_getElem?_getD,List.getElem?_map,List.getElem?_range h]; rfl
theorem vec_congr {L:List Ac} {P Q:Nat→Prop} (h:∀ i,P i↔Q i):vecP L P=vecP L Q:=by rw [show P=Q from funext fun i=>propext (h i)]
theorem vec_in {L:List Ac} {P:Nat→Prop} (hl:L.length≤1000):∀ x∈vecP L P,0≤x∧x≤1000:=by
 intro x hx
 obtain ⟨u,_,rfl⟩:=List.mem_map.1 hx;have:=cnt_le (L:=L) (P:=P) (u:=(u:Int));omega
theorem vec_none {L:List Ac} {P:Nat→Prop} (h:∀ i,¬ P i):vecP L P=List.replicate 16 0:=by
 refine ext16 vec_len (by simp) fun j hj=>?_
 rw [vec_at hj];have:cntA L P (j:Int)=0:=by
  unfold cntA
  rw [List.countP_eq_zero];intro i _
  rw [cb_iff];exact fun hh=>h i hh.2
 rw [this];rw [List.getD_eq_getElem?_getD,List.getElem?_replicate,if_pos hj]; rfl
theorem vec_join {L:List Ac} {P Q:Nat→Prop} (hP:Dc L P) (hQ:Dc L Q):joinL (vecP L P) (vecP L Q)=vecP L fun i=>P i∨Q i:=by
 refine ext16 (join_len vec_len vec_len) vec_len fun j hj=>?_
 rw [join_at vec_len vec_len hj,vec_at hj,vec_at hj,vec_at hj,cnt_join hP hQ]
theorem vec_tick {L:List Ac} {P:Nat→Prop} {k:Nat} (hk:k<L.length) (hn:¬ P k) (h0:0≤(acA L k).t) (h1:(acA L k).t<16):tickL (vecP L P) (acA L k).t=vecP L fun i=>P i∨i=k:=by
 refine ext16 (tick_len vec_len _) vec_len fun j hj=>?_
 rw [tick_at vec_len h0 h1 j hj,vec_at hj,vec_at hj,cnt_tick hk hn];by_cases e:j=(acA L k).t.toNat
 ·rw [if_pos e,if_pos (by omega)]; simp
 ·rw [if_neg e,if_neg (by omega)]
theorem vec_ord {L:List Ac} {i k:Nat} (hik:i<k) (hk:k<L.length) (h0:0≤(acA L i).t) (h1:(acA L i).t<16):Ord L i k↔(vecP L (Know L i)).getD (acA L i).t.toNat 0≤(vecP L (Know L k)).getD (acA L i).t.toNat 0:=by
 rw [vec_at (by omega),vec_at (by omega),cnt_ord hik hk,show (((acA L i).t.toNat:Nat):Int)=(acA L i).t by omega];omega
end Go.Proofs.Ytjilpbmehipagaa
