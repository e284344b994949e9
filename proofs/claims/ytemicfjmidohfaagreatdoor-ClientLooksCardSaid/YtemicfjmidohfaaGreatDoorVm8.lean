import Derived.Test.YtemicfjmidohfaaGreatDoorVd8
import Derived.Test.YtemicfjmidohfaaGreatDoorPend
namespace Go.Proofs.YtemicfjmidohfaaGreatDoor
open Go Go.Proofs Go.RowKit
theorem rank_els:∀ (T:Tr) (i:Int),rankT T i=rkL T.els i
 | .nil,i=>by unfold rankT rkL; simp [Tr.els]
 | .node l x r,i=>by
  have hl:=Tr.els_length l;have hal:=alive_els l;have h1:=rank_els l i;have h2:=rank_els r (i-l.size - 1);unfold rkL at h1 h2 ⊢
  simp only [rankT,Tr.els]
  by_cases h:i≤l.size
  ·rw [if_pos h,h1,List.take_append_of_le_length (by omega)]
  ·rw [if_neg h,h2,List.take_append,List.take_of_length_le (l:=l.els) (i:=i.toNat) (by omega),show i.toNat-l.els.length=(i-l.size - 1).toNat+1 by omega,List.take_succ_cons,List.map_append,List.sum_append,List.map_cons,List.sum_cons,hal]
   omega
theorem slL_app:∀ (A B:List El) (k:Nat),(A.map El.al).sum≤k→slL (A++B) k=A.length+slL B (k-(A.map El.al).sum)
 | [],B,k,_=>by simp
 | x::A,B,k,h=>by
  simp only [List.cons_append,List.map_cons,List.sum_cons,slL,List.length_cons] at h ⊢
  cases hd:x.d with
  | true=>
   have ha:x.al=0:=by unfold El.al; simp [hd]
   rw [if_pos rfl,slL_app A B k (by omega),ha,Nat.zero_add]; omega
  | false=>
   have ha:x.al=1:=by unfold El.al; simp [hd]
   rw [if_neg (by simp),if_neg (by omega),slL_app A B (k - 1) (by omega),ha,show k - 1-(A.map El.al).sum=k-(1+(A.map El.al).sum) by omega]; omega
theorem slL_left:∀ (A B:List El) (k:Nat),k<(A.map El.al).sum→slL (A++B) k=slL A k
 | [],B,k,h=>by simp at h
 | x::A,B,k,h=>by
  simp only [List.cons_append,List.map_cons,List.sum_cons,slL] at h ⊢
  cases hd:x.d with
  | true=>
   have ha:x.al=0:=by unfold El.al; simp [hd]
   rw [if_pos rfl,if_pos rfl,slL_left A B k (by omega)]
  | false=>
   have ha:x.al=1:=by unfold El.al; simp [hd]
   simp only [Bool.false_eq_true,if_false]
   by_cases h0:k=0
   ·rw [if_pos h0,if_pos h0]
   ·rw [if_neg h0,if_neg h0,slL_left A B (k - 1) (by omega)]
theorem sel_els:∀ (T:Tr) (k:Int),0≤k→k<T.alive→selT T k=slL T.els k.toNat
 | .nil,k,h0,h1=>by simp only [Tr.alive] at h1; omega
 | .node l x r,k,h0,h1=>by
  have hl:=Tr.els_length l;have hal:=alive_els l;simp only [selT,Tr.els]
  simp only [Tr.alive] at h1
  by_cases h:k<l.alive
  ·rw [if_pos h,sel_els l k h0 h,slL_left _ _ _ (by omega)]
  ·rw [if_neg h,slL_app _ _ _ (by omega),←hal]
   cases hd:x.d with
   | true=>
    have ha:x.al=0:=by unfold El.al; simp [hd]
    rw [if_neg (by simp),sel_els r _ (by omega) (by omega),slL,if_pos hd,ha,hl,show (k-((l.alive:Int)+(0:Nat))).toNat=k.toNat-l.alive by omega]; omega
   | false=>
    have ha:x.al=1:=by unfold El.al; simp [hd]
    by_cases hk:k=l.alive
    ·rw [if_pos ⟨hk,rfl⟩,slL,if_neg (by simp [hd]),if_pos (by omega),hl]; omega
    ·rw [if_neg (fun e=>hk e.1),sel_els r _ (by omega) (by omega),slL,if_neg (by simp [hd]),if_neg (by omega),ha,hl,show (k-((l.alive:Int)+(1:Nat))).toNat=k.toNat-l.alive - 1 by omega]; omega
theorem sel_lt:∀ (L:List El) (k:Nat),k<(L.map El.al).sum→∃ x,L[slL L k]? = some x∧x.d=false
 | [],k,h=>by simp at h
 | x::L,k,h=>by
  simp only [List.map_cons,List.sum_cons,slL] at h ⊢
  cases hd:x.d with
  | true=>
   have ha:x.al=0:=by unfold El.al; simp [hd]
   rw [if_pos rfl,List.getElem?_cons_succ]; exact sel_lt L k (by omega)
  | false=>
   have ha:x.al=1:=by unfold El.al; simp [hd]
   rw [if_neg (by simp)];by_cases h0:k=0
   ·rw [if_pos h0]; exact ⟨x,rfl,hd⟩
   ·rw [if_neg h0,List.getElem?_cons_succ]; exact sel_lt L (k - 1) (by omega)
theorem sel_over:∀ (L:List El) (k:Nat),(L.map El.al).sum≤k→L.length≤slL L k:=fun L k h=>by
 have:=slL_app L [] k h;rw [List.append_nil] at this;omega
theorem nam_none {L:List El} {k:Int} (h:¬ (0≤k∧k<((L.map El.al).sum:Nat))):namC L k=(0,0):=by
 unfold namC
 by_cases h0:k<0
 ·rw [if_pos h0]
 ·have:=sel_over L k.toNat (by omega)
  rw [if_neg h0,List.getElem?_eq_none (by omega)]
theorem nam_some {L:List El} {k:Int} (h0:0≤k) (h1:k<((L.map El.al).sum:Nat)):∃ x,L[slL L k.toNat]? = some x∧x.d=false∧namC L k=(x.c,x.s):=by
 obtain ⟨x,hx,hd⟩:=sel_lt L k.toNat (by omega);refine ⟨x,hx,hd,?_⟩;unfold namC
 rw [if_neg (by omega),hx]
theorem nam_in {m:List Oq} (h:OkO m) {k:Int} (h0:0≤k) (h1:k<(((docR m).map El.al).sum:Nat)):∃ y∈m,y.k=0∧namC (docR m) k=(y.c,y.s)∧deadO m y.c y.s=false:=by
 obtain ⟨x,hx,hd,hn⟩:=nam_some h0 h1;obtain ⟨y,hy,rfl⟩:=List.mem_map.1 (show x∈(rowO m).map (elO m) from List.mem_of_getElem? hx);have hm:=(h.gd.mem y).1 hy;exact ⟨y,hm.1,hm.2,hn,hd⟩
theorem nam_yes {m:List Oq} {k:Int} (hn:namC (docR m) k≠(0,0)):0≤k∧k<(((docR m).map El.al).sum:Nat):=Decidable.byContradiction fun e=>hn (nam_none e)
theorem nam_flag {m:List Oq} (h:OkO m) {k:Int} (h0:0≤k) (h1:k<(((docR m).map El.al).sum:Nat)):noneB (namC (docR m) k).1 (namC (docR m) k).2=false:=by
 obtain ⟨y,hy,hk,e,_⟩:=nam_in h h0 h1;have:=may_bd (h.may y hy hk);rw [e];simp only [noneB,decide_eq_false_iff_not]
 omega
theorem topM_all {m:List Oq}:∀ {n:Int} {x:Oq},x∈m→x.k=0→x.c≤topM m n:=by
 induction m with
 | nil=>intro n x hx; cases hx
 | cons y m ih=>
  intro n x hx h0
  have e:topM (y::m) n=topM m (if y.k=0∧n<y.c then y.c else n):=rfl;rw [e];rcases List.mem_cons.1 hx with rfl | hx
  ·have h1:=topM_ge m (if x.k=0∧n<x.c then x.c else n)
   have h2:x.c≤(if x.k=0∧n<x.c then x.c else n):=by split <;> omega
   omega
  ·exact ih hx h0
theorem topM_one {m:List Oq}:∀ {n:Int},topM m n=n∨∃ x∈m,x.k=0∧topM m n=x.c:=by
 induction m with
 | nil=>intro n; exact .inl rfl
 | cons y m ih=>
  intro n
  have e:topM (y::m) n=topM m (if y.k=0∧n<y.c then y.c else n):=rfl;rw [e];rcases ih (n:=if y.k=0∧n<y.c then y.c else n) with h | ⟨x,hx,h0,h1⟩
  ·rw [h]
   split
   ·rename_i hy; exact .inr ⟨y,by simp,hy.1,rfl⟩
   ·exact .inl rfl
  ·exact .inr ⟨x,List.mem_cons_of_mem _ hx,h0,h1⟩
theorem topM_max {m:List Oq} {n:Int} (h:0≤n):topM m n=if topM m 0<n then n else topM m 0:=by
 have a:=topM_ge m n;have b:=topM_ge m 0;rcases topM_one (m:=m) (n:=n) with h1 | ⟨x,hx,h0,h1⟩;rotate_left;have:=topM_all (n:=0) hx h0;rotate_left
 all_goals
  rcases topM_one (m:=m) (n:=0) with h2 | ⟨y,hy,hy0,h2⟩
  ·split <;> omega
  ·have:=topM_all (n:=n) hy hy0;split <;> omega
theorem rem_zero {m l:List Oq} {o:Oq} (h:wrongE m o=0):remE m l o=0:=by
 unfold remE; rw [if_neg (by omega),h]
theorem del_w {m l:List Oq} (h:OkO m) {k:Int} (hn:namC (docR m) k≠(0,0)):remE m l (deV8 m k)=0:=by
 obtain ⟨h0,h1⟩:=nam_yes hn;obtain ⟨y,hy,hk,e,hd⟩:=nam_in h h0 h1;have hm:=h.may y hy hk;have hv:deV8 m k=⟨1,y.c,y.s,0,0,0,by decide,by decide⟩:=by unfold deV8; simp only [e]
 rw [hv];refine rem_zero (wrong_d0 ?_ rfl (fnd_pos.2 ⟨y,hy,by simp [opB,hk]⟩) (by unfold deadO at hd; have:=of_decide_eq_false hd; show fnd (opB 1 y.c y.s) m 0<0; omega));have b:=may_bd hm;unfold chkE kindE idE ancE ordE chrE
 simp [hm,noneB,firstE]
 omega
theorem ins_w {m l:List Oq} (h:OkO m) (hr:RmO l) {site at_ ch:Int} (lo : -2147483648≤ch) (hi:ch≤2147483647) (hc:inC8 m l site at_ ch=0):remE m l (inV8 m l site at_ ch lo hi)=0:=by
 obtain ⟨h1,h2,h3⟩:¬ (site<1∨1000<site∨at_<0∨(rkL (docR m) ((docR m).length:Int):Int)<at_)∧charB ch=false∧¬ 1048576<ctrI m l:=by
  unfold inC8 at hc
  split at hc
  ·omega
  ·rename_i g1
   split at hc
   ·omega
   ·rename_i g2
    split at hc
    ·omega
    ·rename_i g3
     exact ⟨g1,by simpa using g2,g3⟩
 have hctr:=ctr_in h hr;have hrk:rkL (docR m) ((docR m).length:Int)=((docR m).map El.al).sum:=rkL_len _;rw [hrk] at h1;have hgm:∀ x∈m,x.k=0→x.c<ctrI m l:=fun x hx hk=>by have:=topM_all (n:=topI l) hx hk; unfold ctrI; omega
 have hmay:mayB (ctrI m l) site=true:=by simp [mayB]; omega
 obtain ⟨a,n,hv,ha⟩:∃ a n,inV8 m l site at_ ch lo hi=⟨0,ctrI m l,site,a,n,ch,lo,hi⟩∧((a=0∧n=0)∨∃ y∈m,y.k=0∧y.c=a∧y.s=n):=by
  unfold inV8
  by_cases hat:0<at_
  ·rw [if_pos hat,if_pos hat]
   obtain ⟨y,hy,hk,e,_⟩:=nam_in h (k:=at_ - 1) (by omega) (by omega);exact ⟨_,_,rfl,.inr ⟨y,hy,hk,by rw [e],by rw [e]⟩⟩
  ·rw [if_neg hat,if_neg hat]
   exact ⟨_,_,rfl,.inl ⟨rfl,rfl⟩⟩
 rw [hv];have hch:¬ (ch<32∨1114111<ch∨(55296≤ch∧ch≤57343)):=by simpa [charB] using h2
 have hrb:runeB ch=true:=by simp only [runeB,decide_eq_true_eq]; omega
 refine rem_zero (wrong_i0 ?_ (by show ¬ (0:Int)=1; omega) (fnd_neg.2 fun x hx=>?_) ?_)
 ·show chkE 0 (ctrI m l) site a n ch=0
  have e4:ordE (ctrI m l) a=0:=by
   unfold ordE
   rw [if_neg];rcases ha with ⟨rfl,_⟩ | ⟨y,hy,hk,rfl,_⟩
   ·omega
   ·have:=hgm y hy hk; omega
  have e3:ancE a n=0:=by
   unfold ancE idE
   rcases ha with ⟨rfl,rfl⟩ | ⟨y,hy,hk,rfl,rfl⟩
   ·rfl
   ·rw [h.may y hy hk]; simp
  have e5:chrE 0 ch=0:=by
   unfold chrE
   rw [if_neg]
   rintro ⟨_,e | e⟩
   ·omega
   ·rw [hrb] at e; cases e
  unfold chkE kindE idE
  rw [e3,e4,e5,hmay];rfl
 ·cases hx':opB 0 (ctrI m l) site x with
  | false=>rfl
  | true=>
   obtain ⟨y1,y2,_⟩:=opB_iff.1 hx';have:=hgm x hx y1;omega
 ·rcases ha with ⟨rfl,rfl⟩ | ⟨y,hy,hk,rfl,rfl⟩
  ·exact .inl rfl
  ·exact .inr (fnd_pos.2 ⟨y,hy,by simp [opB,hk]⟩)
theorem pl_dead {m:List Oq} {o:Oq} (h:OkO m) (hw:wrongE m o=0):∃ (i:Nat) (x:El),i<(docR (m++[o])).length∧plO m o=(i:Int)∧(docR (m++[o]))[i]? = some x∧x.ch=chO m o∧x.d=decide (o.k=1):=by
 obtain ⟨i,hi,e,ec⟩:=pl_in h hw;refine ⟨i,(docR (m++[o]))[i],hi,e,List.getElem?_eq_getElem hi,ec.symm,?_⟩;have hx:elB o.c o.s (docR (m++[o]))[i]=true:=by
  rcases fnd_spec (elB o.c o.s) (docR (m++[o])) 0 with ⟨e',_⟩ | ⟨j,hj,e',hy⟩
  ·unfold plO at e; omega
  ·obtain rfl:i=j:=by unfold plO at e; omega
   exact hy
 have hd:((docR (m++[o]))[i]).d=deadO (m++[o]) o.c o.s:=by
  have h2:=elB_iff.1 hx;simp only [docR,List.getElem_map,elO] at h2 ⊢
  rw [h2.1,h2.2]
 rw [hd];unfold deadO
 refine decide_eq_decide.2 ⟨fun hf=>?_,fun hk=>fnd_pos.2 ⟨o,by simp,by simp [opB,hk]⟩⟩;obtain ⟨y,hy,hyb⟩:=fnd_pos.1 hf;obtain ⟨y1,y2,y3⟩:=opB_iff.1 hyb;rcases List.mem_append.1 hy with hm | hm
 ·obtain ⟨_,_,hdl | hc⟩:=wrong_zero hw
  ·exact hdl.1
  ·obtain ⟨z,hz,hz0,hz1⟩:=h.del y hm y1
   exact absurd ⟨hz1.1.trans y2,hz1.2.trans y3⟩ (hc.new z hz hz0)
 ·simp only [List.mem_singleton] at hm
  rw [←hm]; exact y1
theorem last_top {m:List Oq} {P:Pt} (h:OkO m) (he:els P=mapL m) (hf:Full 10 P):lastC P=topM m 0:=by
 rcases last_els hf with ⟨e,e1,_⟩ | ⟨l,x,e,e1,_⟩
 ·rcases topM_one (m:=m) (n:=0) with h2 | ⟨y,hy,hy0,_⟩
  ·rw [e1,h2]
  ·have hg:=mapL_get h hy hy0
   rw [←he,e] at hg;simp [getL] at hg
 ·rw [e1]
  rw [he] at e;obtain ⟨z,hz,hz0,hz1⟩:=mapK_key (m:=m) m x (show x∈mapL m by rw [e]; simp);have hzm:=h.may z hz hz0;have hzc:=(place_nm hzm).1;rw [hz1,hzc];have hle:=topM_all (n:=0) hz hz0;rcases topM_one (m:=m) (n:=0) with h2 | ⟨y,hy,hy0,h2⟩
  ·have:=(may_bd hzm).1
   omega
  ·have hym:=h.may y hy hy0
   have hg:=mapL_get h hy hy0;have hr:Ris (mapL m):=ris_mapK m m;rw [e] at hg hr;have hle2:placeI y.c y.s≤x.1:=by
    rcases Nat.lt_or_ge x.1 (placeI y.c y.s) with hlt | hge
    ·exfalso
     rw [getL_none] at hg
     ·cases hg
     ·intro u hu
      rcases List.mem_append.1 hu with hu | hu
      ·have:=(List.pairwise_append.1 hr).2.2 u hu x (by simp)
       omega
      ·simp only [List.mem_singleton] at hu
       subst hu;omega
    ·exact hge
   rw [hz1] at hle2;have b1:=may_bd hym;have b2:=may_bd hzm;unfold placeI at hle2
   omega
theorem ctr_max {m l:List Oq} {P:Pt} (h:OkO m) (he:els P=mapL m) (hf:Full 10 P):ctrI m l=(if lastC P<topI l then topI l else lastC P)+1:=by
 unfold ctrI
 rw [topM_max (top_ge l),last_top h he hf]
end Go.Proofs.YtemicfjmidohfaaGreatDoor
