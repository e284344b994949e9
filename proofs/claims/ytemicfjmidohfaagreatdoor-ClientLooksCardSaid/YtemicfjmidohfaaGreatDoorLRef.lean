import Derived.OwnWalk
import Derived.Test.YtemicfjmidohfaaGreatDoorLOp
namespace Go.Proofs.YtemicfjmidohfaaGreatDoor
open Go Go.Proofs Go.RowKit
def oqL (x:Oq):List Value:=[.int .i64 x.k,.int .i64 x.c,.int .i64 x.s,.int .i64 x.a,.int .i64 x.n,.int .i32 x.ch]
theorem oqL_len (x:Oq):(oqL x).length=6:=rfl
def OC (X:World) (g k:Nat) (y:Oq):Prop:=
 X.cell? ⟨g,k * 6,none⟩=some (.int .i64 y.k)∧X.cell? ⟨g,k * 6+1,none⟩=some (.int .i64 y.c)∧X.cell? ⟨g,k * 6+2,none⟩=some (.int .i64 y.s)∧X.cell? ⟨g,k * 6+3,none⟩=some (.int .i64 y.a)∧X.cell? ⟨g,k * 6+4,none⟩=some (.int .i64 y.n)∧X.cell? ⟨g,k * 6+5,none⟩=some (.int .i32 y.ch)
def fnd {α:Type} (p:α→Bool):List α→Nat→Int
 | [],_ => -1
 | x::l,i=>if p x=true then (i:Int) else fnd p l (i+1)
theorem fnd_yes {α:Type} {p:α→Bool} {x:α} {l:List α} {i:Nat} (h:p x=true):fnd p (x::l) i=i:=by simp [fnd,h]
theorem fnd_no {α:Type} {p:α→Bool} {x:α} {l:List α} {i:Nat} (h:p x=false):fnd p (x::l) i=fnd p l (i+1):=by simp [fnd,h]
def opB (k c s:Int) (x:Oq):Bool:=decide (x.k=k∧x.c=c∧x.s=s)
def elB (c s:Int) (x:El):Bool:=decide (x.c=c∧x.s=s)
def deadO (m:List Oq) (c s:Int):Bool:=decide (0≤fnd (opB 1 c s) m 0)
def elO (m:List Oq) (x:Oq):El:=⟨x.c,x.s,x.ch,deadO m x.c x.s,x.lo,x.hi⟩
def zOq:Value:=.agg #[.int .i64 0,.int .i64 0,.int .i64 0,.int .i64 0,.int .i64 0,.int .i32 0]
theorem oq_one (x:Oq):∀ u∈oqL x,u.oneCell'=true:=by
 intro u hu
 simp only [oqL,List.mem_cons,List.not_mem_nil,or_false] at hu
 rcases hu with rfl | rfl | rfl | rfl | rfl | rfl <;> rfl
theorem flat_one {α:Type} {f:α→List Value} (h:∀ x,∀ u∈f x,u.oneCell'=true) (l:List α):∀ u∈l.flatMap f,u.oneCell'=true:=by
 intro u hu
 obtain ⟨x,_,hx⟩:=List.mem_flatMap.1 hu;exact h x u hx
theorem tail_news {α:Type} {t:TypeId} {m:Nat} {f:α→List Value} (hf:∀ x,(f x).length=m) {W:World} {g n cap:Nat} {L:List α} (h:Sl t m f W (.slice (some ⟨g,0,none⟩) n cap) L) (j:Nat) (hj:j≤L.length):
  ∃ ad,tailA (some ⟨g,0,none⟩) j cap m=some ad∧∀ W',Below W.heap.size W W'→∀ i u,((L.drop j).flatMap f)[i]? = some u→W'.cell? (ad.add i)=some u:=by
 by_cases hc:cap=j
 ·refine ⟨⟨g,0,none⟩,by simp [tailA,hc],fun W' _ i u hi=>?_⟩
  have:L.length≤cap:=by
   rcases h with ⟨h0,_⟩ | ⟨g',cap',cur,hv,hg,h1,h2,h3⟩
   ·cases h0
   ·simp only [Value.slice.injEq] at hv
    obtain ⟨_,_,rfl⟩:=hv;exact h1
  rw [List.drop_eq_nil_of_le (by omega)] at hi;simp at hi
 ·refine ⟨⟨g,j * m,none⟩,?_,fun W' hb i u hi=>Sl.news hf (Sl.next h hb) j hj i u hi⟩
  simp only [tailA,hc,if_false,Option.map_some,Addr.add]
  split
  ·rename_i h0; simp [h0]
  ·simp
theorem own_new (w:World) (x:List Value) (m:Nat) (hm:x.length=m) (t:TypeId):(w.alloc (.cells ⟨x⟩ t)).ownsRow w.heap.size t m (.slice (some ⟨w.heap.size,0,none⟩) 1 1) 1 x:=
 ⟨by omega,.inr ⟨w.heap.size,1,⟨x⟩,rfl,Nat.le_refl _,Blk.start w x t,Nat.le_refl _,by unfold maxLen; omega,by simp [hm],by simp [←hm]⟩⟩
theorem row_len {m:List Oq} (g:Gd m):(rowO m).length≤m.length:=by
 have h:∀ (l m:List Oq),Nod l→(∀ x∈l,x∈m)→l.length≤m.length:=by
  intro l
  induction l with
  | nil=>intro m _ _; exact Nat.zero_le _
  | cons x l ih=>
   intro m hn hm
   obtain ⟨a,b,rfl⟩:=List.append_of_mem (hm x (by simp));have hn':=List.pairwise_cons.1 hn;have:=ih (a++b) hn'.2 (fun y hy=>by
    have h1:=hm y (by simp [hy]);have h2:=hn'.1 y hy;simp only [List.mem_append,List.mem_cons] at h1 ⊢
    rcases h1 with h1 | rfl | h1
    ·exact .inl h1
    ·exact absurd ⟨rfl,rfl⟩ h2
    ·exact .inr h1)
   simp only [List.length_append,List.length_cons] at this ⊢
   omega
 exact h _ _ g.nod fun x hx=>((g.mem x).1 hx).1
theorem fnd_spec {α:Type} (p:α→Bool):∀ (l:List α) (k:Nat),(fnd p l k = -1∧∀ x∈l,p x=false)∨∃ (i:Nat) (h:i<l.length),fnd p l k=((k+i:Nat):Int)∧p l[i]=true
 | [],k=>.inl ⟨rfl,by simp⟩
 | x::l,k=>by
  cases hx:p x with
  | true=>exact .inr ⟨0,by simp,by rw [fnd_yes hx]; rfl,by simpa using hx⟩
  | false=>
   rw [fnd_no hx];rcases fnd_spec p l (k+1) with ⟨h,h2⟩ | ⟨i,hi,h,h2⟩
   ·exact .inl ⟨h,by simpa [hx] using h2⟩
   ·exact .inr ⟨i+1,by simpa using hi,by rw [h]; congr 1; omega,by simpa using h2⟩
def sameB (x y:Oq):Bool:=decide (x.k=y.k∧x.c=y.c∧x.s=y.s∧x.a=y.a∧x.n=y.n∧x.ch=y.ch)
theorem sameB_iff {x y:Oq}:sameB x y=true↔x=y:=by
 simp only [sameB,decide_eq_true_eq]
 constructor
 ·rintro ⟨h1,h2,h3,h4,h5,h6⟩; exact Oq.same h1 h2 h3 h4 h5 h6
 ·rintro rfl; exact ⟨rfl,rfl,rfl,rfl,rfl,rfl⟩
def wrongE (m:List Oq) (o:Oq):Int:=
 if chkE o.k o.c o.s o.a o.n o.ch≠0 then chkE o.k o.c o.s o.a o.n o.ch
 else if o.k=1 then (if fnd (opB 0 o.c o.s) m 0<0 then 6 else if 0≤fnd (opB 1 o.c o.s) m 0 then 4 else 0)
 else if 0≤fnd (opB 0 o.c o.s) m 0 then (match m[(fnd (opB 0 o.c o.s) m 0).toNat]? with | some x=>if sameB x o=true then 4 else 5 | none=>5)
 else if noneB o.a o.n=false∧fnd (opB 0 o.a o.n) m 0<0 then 6 else 0
section
variable {m:List Oq} {o:Oq}
theorem wrong_chk (h:chkE o.k o.c o.s o.a o.n o.ch≠0):wrongE m o=chkE o.k o.c o.s o.a o.n o.ch:=by unfold wrongE; rw [if_pos h]
theorem wrong_d6 (h:chkE o.k o.c o.s o.a o.n o.ch=0) (hk:o.k=1) (hf:fnd (opB 0 o.c o.s) m 0<0):wrongE m o=6:=by unfold wrongE; rw [if_neg (by simp [h]),if_pos hk,if_pos hf]
theorem wrong_d4 (h:chkE o.k o.c o.s o.a o.n o.ch=0) (hk:o.k=1) (hf:0≤fnd (opB 0 o.c o.s) m 0) (hg:0≤fnd (opB 1 o.c o.s) m 0):wrongE m o=4:=by unfold wrongE; rw [if_neg (by simp [h]),if_pos hk,if_neg (by omega),if_pos hg]
theorem wrong_d0 (h:chkE o.k o.c o.s o.a o.n o.ch=0) (hk:o.k=1) (hf:0≤fnd (opB 0 o.c o.s) m 0) (hg:fnd (opB 1 o.c o.s) m 0<0):wrongE m o=0:=by unfold wrongE; rw [if_neg (by simp [h]),if_pos hk,if_neg (by omega),if_neg (by omega)]
theorem wrong_i4 {i:Nat} (h:chkE o.k o.c o.s o.a o.n o.ch=0) (hk:¬ o.k=1) (hf:fnd (opB 0 o.c o.s) m 0=(i:Int)) (hi:i<m.length) (hs:m[i]=o):wrongE m o=4:=by
 unfold wrongE; rw [if_neg (by simp [h]),if_neg hk,if_pos (by omega),hf,Int.toNat_natCast,List.getElem?_eq_getElem hi]; simp only [hs]; rw [if_pos (sameB_iff.2 rfl)]
theorem wrong_i5 {i:Nat} (h:chkE o.k o.c o.s o.a o.n o.ch=0) (hk:¬ o.k=1) (hf:fnd (opB 0 o.c o.s) m 0=(i:Int)) (hi:i<m.length) (hs:¬ m[i]=o):wrongE m o=5:=by
 unfold wrongE; rw [if_neg (by simp [h]),if_neg hk,if_pos (by omega),hf,Int.toNat_natCast,List.getElem?_eq_getElem hi]; simp only []; rw [if_neg (fun e=>hs (sameB_iff.1 e))]
theorem wrong_i6 (h:chkE o.k o.c o.s o.a o.n o.ch=0) (hk:¬ o.k=1) (hf:fnd (opB 0 o.c o.s) m 0<0) (hn:noneB o.a o.n=false) (hg:fnd (opB 0 o.a o.n) m 0<0):wrongE m o=6:=by
 unfold wrongE; rw [if_neg (by simp [h]),if_neg hk,if_neg (by omega),if_pos ⟨hn,hg⟩]
theorem wrong_i0 (h:chkE o.k o.c o.s o.a o.n o.ch=0) (hk:¬ o.k=1) (hf:fnd (opB 0 o.c o.s) m 0<0) (hg:noneB o.a o.n=true∨0≤fnd (opB 0 o.a o.n) m 0):wrongE m o=0:=by
 unfold wrongE; rw [if_neg (by simp [h]),if_neg hk,if_neg (by omega),if_neg]
 rintro ⟨h1,h2⟩
 rcases hg with h3 | h3
 ·rw [h1] at h3; cases h3
 ·omega
end
end Go.Proofs.YtemicfjmidohfaaGreatDoor
namespace Go.Proofs.YtemicfjmidohfaaGreatDoor
def entO (m:List Oq) (x:Oq):En:=⟨x.a,x.n,x.ch,deadO m x.c x.s⟩
def mapK (m l:List Oq):List (Nat×En):=l.foldl (fun acc x=>if x.k=0 then insL (placeI x.c x.s) (entO m x) acc else acc) []
def mapL (m:List Oq):List (Nat×En):=mapK m m
def MayO (m:List Oq):Prop:=∀ x∈m,x.k=0→mayB x.c x.s=true
theorem mapK_snoc (m l:List Oq) (x:Oq):mapK m (l++[x])=if x.k=0 then insL (placeI x.c x.s) (entO m x) (mapK m l) else mapK m l:=by simp [mapK]
theorem insL_fst {at_:Nat} {e:En}:∀ {l:List (Nat×En)} {x:Nat×En},x∈insL at_ e l→x=(at_,e)∨x∈l
 | [],x,h=>by simp only [insL,List.mem_singleton] at h; exact .inl h
 | y::l,x,h=>by
  unfold insL at h
  split at h
  ·rcases List.mem_cons.1 h with rfl | h
   ·exact .inr (by simp)
   ·rcases insL_fst h with h | h
    ·exact .inl h
    ·exact .inr (by simp [h])
  ·split at h
   ·rcases List.mem_cons.1 h with rfl | h
    ·exact .inl rfl
    ·exact .inr (by simp [h])
   ·rcases List.mem_cons.1 h with rfl | h
    ·exact .inl rfl
    ·exact .inr h
theorem ris_insL {at_:Nat} {e:En}:∀ {l:List (Nat×En)},Ris l→Ris (insL at_ e l)
 | [],_=>by simp [insL,Ris]
 | y::l,h=>by
  obtain ⟨h1,h2⟩:=List.pairwise_cons.1 h;unfold insL
  split
  ·rename_i c
   refine List.pairwise_cons.2 ⟨fun x hx=>?_,ris_insL h2⟩;rcases insL_fst hx with rfl | hx
   ·exact c
   ·exact h1 x hx
  ·split
   ·rename_i c c2
    refine List.pairwise_cons.2 ⟨fun x hx=>?_,h2⟩;have:=h1 x hx
    show at_<x.1
    omega
   ·rename_i c c2
    refine List.pairwise_cons.2 ⟨fun x hx=>?_,h⟩
    show at_<x.1
    rcases List.mem_cons.1 hx with rfl | hx
    ·omega
    ·have:=h1 x hx; omega
theorem ris_mapK (m:List Oq):∀ l,Ris (mapK m l):=by
 intro l
 have H:∀ (l:List Oq) (acc:List (Nat×En)),Ris acc→Ris (l.foldl (fun acc x=>if x.k=0 then insL (placeI x.c x.s) (entO m x) acc else acc) acc):=by
  intro l
  induction l with
  | nil=>intro acc h; exact h
  | cons x l ih=>
   intro acc h
   simp only [List.foldl_cons]
   apply ih
   split
   ·exact ris_insL h
   ·exact h
 exact H l [] List.Pairwise.nil
theorem getL_insL {at_ k:Nat} {e:En}:∀ {l:List (Nat×En)},Ris l→getL k (insL at_ e l)=if k=at_ then some e else getL k l
 | [],_=>by
  by_cases h:k=at_
  ·subst h; simp [insL,getL]
  ·have h2:¬ at_=k:=fun e=>h e.symm
   simp [insL,getL,h,h2]
 | y::l,h=>by
  obtain ⟨h1,h2⟩:=List.pairwise_cons.1 h;unfold insL
  split
  ·rename_i c
   by_cases hk:y.1=k
   ·have:¬ k=at_:=by omega
    simp [getL,hk,this]
   ·simp only [getL,hk,if_false]
    rw [getL_insL h2]
  ·split
   ·rename_i c c2
    by_cases hk:k=at_
    ·subst hk; simp [getL]
    ·have h3:¬ at_=k:=fun e=>hk e.symm
     have h4:¬ y.1=k:=by omega
     simp [getL,hk,h3,h4]
   ·rename_i c c2
    by_cases hk:k=at_
    ·subst hk; simp [getL]
    ·have h3:¬ at_=k:=fun e=>hk e.symm
     simp [getL,hk,h3]
theorem ris_ext:∀ {l l':List (Nat×En)},Ris l→Ris l'→(∀ k,getL k l=getL k l')→l=l'
 | [],[],_,_,_=>rfl
 | [],y::l',_,_,h=>by have:=h y.1; simp [getL] at this
 | x::l,[],_,_,h=>by have:=h x.1; simp [getL] at this
 | x::l,y::l',hl,hl',h=>by
  obtain ⟨a1,a2⟩:=List.pairwise_cons.1 hl;obtain ⟨b1,b2⟩:=List.pairwise_cons.1 hl';have hx:x.1=y.1:=by
   rcases Nat.lt_trichotomy x.1 y.1 with c | c | c
   ·have e:=h x.1
    have:getL x.1 (y::l')=none:=getL_none _ (fun z hz=>by rcases List.mem_cons.1 hz with rfl | hz; omega; have:=b1 z hz; omega);rw [this] at e;simp [getL] at e
   ·exact c
   ·have e:=h y.1
    have:getL y.1 (x::l)=none:=getL_none _ (fun z hz=>by rcases List.mem_cons.1 hz with rfl | hz; omega; have:=a1 z hz; omega);rw [this] at e;simp [getL] at e
  have hxy:x=y:=by
   have e:=h x.1;simp only [getL,if_true,hx] at e
   exact Prod.ext hx (by simpa using e)
  subst hxy
  congr 1
  refine ris_ext a2 b2 fun k=>?_
  have e:=h k;by_cases hk:x.1=k
  ·rw [getL_none l (fun z hz=>by have:=a1 z hz; omega),getL_none l' (fun z hz=>by have:=b1 z hz; omega)]
  ·simpa [getL,hk] using e
theorem place_inj {c s d t:Int} (h1:mayB c s=true) (h2:mayB d t=true) (h:placeI c s=placeI d t):c=d∧s=t:=by
 have a:=place_nm h1;have b:=place_nm h2;rw [h] at a;exact ⟨a.1.symm.trans b.1,a.2.symm.trans b.2⟩
theorem getL_mapK (m:List Oq) {c s:Int} (hc:mayB c s=true):∀ (l:List Oq),(∀ x∈l,x.k=0→mayB x.c x.s=true) →
  (∀ x∈l,x.k=0→x.eqI c s→∀ y∈l,y.k=0→y.eqI c s→x=y) →
  (∀ x∈l,x.k=0→x.eqI c s→getL (placeI c s) (mapK m l)=some (entO m x))∧((∀ x∈l,x.k=0→¬ x.eqI c s)→getL (placeI c s) (mapK m l)=none):=by
 intro l
 have key:∀ l:List Oq,(∀ x∈l,x.k=0→mayB x.c x.s=true)→(∀ x∈l,x.k=0→x.eqI c s→∀ y∈l,y.k=0→y.eqI c s→x=y) →
   (∀ x∈l.reverse,x.k=0→x.eqI c s→getL (placeI c s) (mapK m l.reverse)=some (entO m x))∧((∀ x∈l.reverse,x.k=0→¬ x.eqI c s)→getL (placeI c s) (mapK m l.reverse)=none):=by
  intro l
  induction l with
  | nil=>intro _ _; exact ⟨by simp,fun _=>rfl⟩
  | cons y l ih=>
   intro hm hu
   have ih':=ih (fun x hx=>hm x (by simp [hx])) (fun x hx h1 h2 z hz=>hu x (by simp [hx]) h1 h2 z (by simp [hz]));simp only [List.reverse_cons,mapK_snoc]
   by_cases hy:y.k=0
   ·rw [if_pos hy,getL_insL (ris_mapK m _)]
    by_cases hp:placeI c s=placeI y.c y.s
    ·rw [if_pos hp]
     have he:=place_inj hc (hm y (by simp) hy) hp;refine ⟨fun x hx h1 h2=>?_,fun h=>absurd ⟨he.1.symm,he.2.symm⟩ (h y (by simp) hy)⟩;have:x=y:=hu x (by simpa [or_comm] using hx) h1 h2 y (by simp) hy ⟨he.1.symm,he.2.symm⟩;rw [this]
    ·rw [if_neg hp]
     refine ⟨fun x hx h1 h2=>?_,fun h=>ih'.2 fun x hx=>h x (by simp [List.mem_reverse.1 hx])⟩;rcases List.mem_append.1 hx with hx | hx
     ·exact ih'.1 x hx h1 h2
     ·rw [List.mem_singleton] at hx
      subst hx;exact absurd (by rw [h2.1,h2.2]) hp
   ·rw [if_neg hy]
    refine ⟨fun x hx h1 h2=>?_,fun h=>ih'.2 fun x hx=>h x (by simp [List.mem_reverse.1 hx])⟩;rcases List.mem_append.1 hx with hx | hx
    ·exact ih'.1 x hx h1 h2
    ·rw [List.mem_singleton] at hx
     subst hx;exact absurd h1 hy
 intro hm hu
 have:=key l.reverse (fun x hx=>hm x (List.mem_reverse.1 hx)) (fun x hx h1 h2 y hy=>hu x (List.mem_reverse.1 hx) h1 h2 y (List.mem_reverse.1 hy));rw [List.reverse_reverse] at this;exact this
structure OkO (m:List Oq):Prop where
 gd:Gd m
 may:MayO m
 del:∀ x∈m,x.k=1→∃ y∈m,y.k=0∧y.eqI x.c x.s
theorem ok_nil:OkO []:=⟨gd_nil,by intro x hx; simp at hx,by simp⟩
theorem nod_eq:∀ {l:List Oq},Nod l→∀ {x y:Oq},x∈l→y∈l→x.c=y.c→x.s=y.s→x=y
 | [],_,_,_,hx,_,_,_=>by simp at hx
 | z::l,h,x,y,hx,hy,h1,h2=>by
  obtain ⟨a,b⟩:=List.pairwise_cons.1 h;rcases List.mem_cons.1 hx with rfl | hx'
  ·rcases List.mem_cons.1 hy with rfl | hy'
   ·rfl
   ·exact absurd ⟨h1,h2⟩ (a y hy')
  ·rcases List.mem_cons.1 hy with rfl | hy'
   ·exact absurd ⟨h1.symm,h2.symm⟩ (a x hx')
   ·exact nod_eq b hx' hy' h1 h2
theorem OkO.one {m:List Oq} (h:OkO m) {x y:Oq} (hx:x∈m) (hx0:x.k=0) (hy:y∈m) (hy0:y.k=0) (h1:x.c=y.c) (h2:x.s=y.s):x=y:=
 nod_eq h.gd.nod ((h.gd.mem x).2 ⟨hx,hx0⟩) ((h.gd.mem y).2 ⟨hy,hy0⟩) h1 h2
theorem fnd_any {α:Type} (p:α→Bool) (l:List α):decide (0≤fnd p l 0)=l.any p:=by
 rcases fnd_spec p l 0 with ⟨h,h2⟩ | ⟨i,hi,h,h2⟩
 ·rw [h,List.any_eq_false.2 (fun x hx=>by simp [h2 x hx])]; rfl
 ·rw [h,List.any_eq_true.2 ⟨l[i],List.getElem_mem hi,h2⟩]; simp
theorem fnd_neg {α:Type} {p:α→Bool} {l:List α}:fnd p l 0<0↔∀ x∈l,p x=false:=by
 rcases fnd_spec p l 0 with ⟨h,h2⟩ | ⟨i,hi,h,h2⟩
 ·rw [h]; exact ⟨fun _=>h2,fun _=>by omega⟩
 ·rw [h]
  refine ⟨fun h3=>by omega,fun h3=>?_⟩;rw [h3 _ (List.getElem_mem hi)] at h2
  cases h2
theorem fnd_pos {α:Type} {p:α→Bool} {l:List α}:0≤fnd p l 0↔∃ x∈l,p x=true:=by
 have:=fnd_neg (p:=p) (l:=l)
 constructor
 ·intro h
  rcases fnd_spec p l 0 with ⟨h1,_⟩ | ⟨i,hi,_,h2⟩
  ·omega
  ·exact ⟨_,List.getElem_mem hi,h2⟩
 ·rintro ⟨x,hx,hp⟩
  rcases Int.lt_or_le (fnd p l 0) 0 with h | h
  ·rw [this.1 h x hx] at hp; cases hp
  ·exact h
theorem fnd_at {α:Type} {p:α→Bool}:∀ (l:List α) (k:Nat) {i:Nat} (hi:i<l.length),p l[i]=true→(∀ j (hj:j<l.length),j<i→p l[j]=false)→fnd p l k=((k+i:Nat):Int)
 | [],_,i,hi,_,_=>by simp at hi
 | x::l,k,0,_,h,_=>by rw [fnd_yes (by simpa using h)]; rfl
 | x::l,k,i+1,hi,h,hl=>by
  have h0:=hl 0 (by simp) (by omega);simp only [List.getElem_cons_zero] at h0
  rw [fnd_no h0,fnd_at l (k+1) (i:=i) (by simpa using hi) (by simpa using h) (fun j hj hji=>by have:=hl (j+1) (by simpa using hj) (by omega); simpa using this)]
  congr 1
  omega
theorem opB_iff {k c s:Int} {x:Oq}:opB k c s x=true↔x.k=k∧x.c=c∧x.s=s:=by simp [opB]
theorem elB_iff {c s:Int} {x:El}:elB c s x=true↔x.c=c∧x.s=s:=by simp [elB]
theorem dead_snoc (m:List Oq) (o:Oq) (c s:Int):deadO (m++[o]) c s=(deadO m c s||opB 1 c s o):=by
 simp only [deadO,fnd_any,List.any_append,List.any_cons,List.any_nil,Bool.or_false]
theorem dead_other {m:List Oq} {o:Oq} {c s:Int} (h:¬ (o.k=1∧o.c=c∧o.s=s)):deadO (m++[o]) c s=deadO m c s:=by
 rw [dead_snoc];have:opB 1 c s o=false:=by simpa [opB] using h
 rw [this,Bool.or_false]
theorem elO_other {m:List Oq} {o x:Oq} (h:¬ (o.k=1∧o.c=x.c∧o.s=x.s)):elO (m++[o]) x=elO m x:=by
 unfold elO; simp only [dead_other h]
theorem entO_other {m:List Oq} {o x:Oq} (h:¬ (o.k=1∧o.c=x.c∧o.s=x.s)):entO (m++[o]) x=entO m x:=by
 unfold entO; rw [dead_other h]
theorem map_insR (o:Oq) (m l:List Oq) (h:o.k=0):l.map (elO (m++[o]))=l.map (elO m):=
 List.map_congr_left fun x _=>elO_other (by rw [h]; omega)
theorem dead_new {m:List Oq} (h:OkO m) {c s:Int} (hn:∀ x∈m,x.k=0→¬ x.eqI c s):deadO m c s=false:=by
 unfold deadO
 rw [fnd_any,List.any_eq_false];intro x hx hp
 obtain ⟨h1,h2,h3⟩:=opB_iff.1 hp;obtain ⟨y,hy,hy0,hy1⟩:=h.del x hx h1;exact hn y hy hy0 ⟨hy1.1.trans h2,hy1.2.trans h3⟩
def posK (o:Oq):List Oq→Nat
 | []=>0
 | y::l=>if lessB o.c o.s y.c y.s=true then posK o l+1 else 0
def posA (o:Oq):List Oq→Nat
 | []=>0
 | y::l=>if y.eqI o.a o.n then posK o l+1 else posA o l+1
def posR (o:Oq) (l:List Oq):Nat:=if o.a=0∧o.n=0 then posK o l else posA o l
theorem posK_le (o:Oq):∀ l,posK o l≤l.length
 | []=>Nat.le_refl _
 | y::l=>by unfold posK; split; have:=posK_le o l; simp; omega; omega
theorem posA_le (o:Oq):∀ l,posA o l≤l.length
 | []=>Nat.le_refl _
 | y::l=>by
  unfold posA
  split
  ·have:=posK_le o l; simp; omega
  ·have:=posA_le o l; simp; omega
theorem posR_le (o:Oq) (l:List Oq):posR o l≤l.length:=by unfold posR; split; exact posK_le o l; exact posA_le o l
theorem insK_pos (o:Oq):∀ l,insK o l=l.take (posK o l)++o::l.drop (posK o l)
 | []=>rfl
 | y::l=>by
  unfold insK posK
  split
  ·rw [insK_pos o l]; simp
  ·rfl
theorem insA_pos (o:Oq):∀ l,insA o l=l.take (posA o l)++o::l.drop (posA o l)
 | []=>rfl
 | y::l=>by
  unfold insA posA
  split
  ·rw [insK_pos o l]; simp
  ·rw [insA_pos o l]; simp
theorem insR_pos (o:Oq) (l:List Oq):insR o l=l.take (posR o l)++o::l.drop (posR o l):=by
 unfold insR posR; split; exact insK_pos o l; exact insA_pos o l
def docR (m:List Oq):List El:=(rowO m).map (elO m)
theorem docR_len (m:List Oq):(docR m).length=(rowO m).length:=by simp [docR]
theorem docR_ins {m:List Oq} {o:Oq} (h:OkO m) (hc:CanI m o):docR (m++[o])=(docR m).take (posR o (rowO m))++⟨o.c,o.s,o.ch,false,o.lo,o.hi⟩::(docR m).drop (posR o (rowO m)):=by
 have hd:deadO m o.c o.s=false:=dead_new h hc.new;have he:elO (m++[o]) o=⟨o.c,o.s,o.ch,false,o.lo,o.hi⟩:=by
  rw [elO_other (by rw [hc.k]; omega)];unfold elO
  simp only [hd]
 unfold docR
 rw [row_ins h.gd hc,map_insR o m _ hc.k,insR_pos,List.map_append,List.map_cons,List.map_take,List.map_drop,←he,elO_other (by rw [hc.k]; omega)]
theorem docR_ins_at {m:List Oq} {o:Oq} (h:OkO m) (hc:CanI m o):fnd (elB o.c o.s) (docR (m++[o])) 0=(posR o (rowO m):Int):=by
 have hle:=posR_le o (rowO m);rw [docR_ins h hc];generalize posR o (rowO m)=i at *
 have hl:((docR m).take i).length=i:=by rw [List.length_take,docR_len]; omega
 rw [fnd_at _ 0 (i:=i) (by rw [List.length_append,hl]; simp) (by rw [List.getElem_append_right (by omega)]; simp [hl,elB]) (fun j hj hji=>?_),Nat.zero_add];rw [List.getElem_append_left (by omega)];have hjl:j<(rowO m).length:=by omega
 have:((docR m).take i)[j]'(by omega)=elO m ((rowO m)[j]):=by simp [docR]
 rw [this];have hm:=(h.gd.mem (rowO m)[j]).1 (List.getElem_mem hjl);exact decide_eq_false (hc.new _ hm.1 hm.2)
theorem mapL_ins {m:List Oq} {o:Oq} (h:OkO m) (hc:CanI m o):mapL (m++[o])=insL (placeI o.c o.s) ⟨o.a,o.n,o.ch,false⟩ (mapL m):=by
 have hd:deadO m o.c o.s=false:=dead_new h hc.new;have hs:∀ l:List Oq,mapK (m++[o]) l=mapK m l:=by
  intro l
  unfold mapK
  congr 1
  funext acc x
  rw [entO_other (by rw [hc.k]; omega)]
 unfold mapL
 rw [mapK_snoc,if_pos hc.k,hs,entO_other (by rw [hc.k]; omega)];unfold entO
 rw [hd]
theorem docR_del {m:List Oq} {o x:Oq} (h:OkO m) (ho:o.k=1) {i:Nat} (hi:i<(rowO m).length) (hx:(rowO m)[i]=x) (hid:x.c=o.c∧x.s=o.s):
  docR (m++[o])=(docR m).set i ⟨x.c,x.s,x.ch,true,x.lo,x.hi⟩:=by
 unfold docR
 rw [row_del (by omega)]
 apply List.ext_getElem (by simp)
 intro j h1 h2
 have hj:j<(rowO m).length:=by simpa using h1
 rw [List.getElem_map,List.getElem_set];by_cases hij:i=j
 ·subst hij
  rw [if_pos rfl,hx];unfold elO
  have:deadO (m++[o]) x.c x.s=true:=by rw [dead_snoc,opB_iff.2 ⟨ho,hid.1.symm,hid.2.symm⟩,Bool.or_true]
  simp only [this]
 ·rw [if_neg hij,List.getElem_map]
  refine elO_other ?_
  rintro ⟨_,h3,h4⟩
  have hn:=h.gd.nod;have h5:(rowO m)[i].c=(rowO m)[j].c∧(rowO m)[i].s=(rowO m)[j].s:=by rw [hx]; exact ⟨hid.1.trans h3,hid.2.trans h4⟩
  rcases Nat.lt_or_gt_of_ne hij with hlt | hlt
  ·exact List.pairwise_iff_getElem.1 hn i j hi hj hlt h5
  ·exact List.pairwise_iff_getElem.1 hn j i hj hi hlt ⟨h5.1.symm,h5.2.symm⟩
theorem docR_at {m:List Oq} (h:OkO m) {i:Nat} (hi:i<(rowO m).length):fnd (elB (rowO m)[i].c (rowO m)[i].s) (docR m) 0=(i:Int):=by
 rw [fnd_at _ 0 (i:=i) (by rw [docR_len]; exact hi) (by simp [docR,elO,elB]) (fun j hj hji=>?_),Nat.zero_add];have hjl:j<(rowO m).length:=by omega
 have:=List.pairwise_iff_getElem.1 h.gd.nod j i hjl hi hji
 simpa [docR,elO,elB] using this
theorem mapL_get {m:List Oq} (h:OkO m) {x:Oq} (hx:x∈m) (h0:x.k=0):getL (placeI x.c x.s) (mapL m)=some (entO m x):=
 (getL_mapK m (h.may x hx h0) m h.may (fun _ ha ha0 ha1 _ hb hb0 hb1=>h.one ha ha0 hb hb0 (ha1.1.trans hb1.1.symm) (ha1.2.trans hb1.2.symm))).1 x hx h0 ⟨rfl,rfl⟩
theorem mapL_none {m:List Oq} (h:OkO m) {c s:Int} (hc:mayB c s=true) (hn:∀ x∈m,x.k=0→¬ x.eqI c s):getL (placeI c s) (mapL m)=none:=
 (getL_mapK m hc m h.may (fun _ ha ha0 ha1 _ hb hb0 hb1=>h.one ha ha0 hb hb0 (ha1.1.trans hb1.1.symm) (ha1.2.trans hb1.2.symm))).2 hn
theorem mapK_key {m:List Oq}:∀ (l:List Oq) (z:Nat×En),z∈mapK m l→∃ x∈l,x.k=0∧z.1=placeI x.c x.s:=by
 intro l
 have H:∀ (l:List Oq) (acc:List (Nat×En)) (z:Nat×En),z∈l.foldl (fun acc x=>if x.k=0 then insL (placeI x.c x.s) (entO m x) acc else acc) acc→z∈acc∨∃ x∈l,x.k=0∧z.1=placeI x.c x.s:=by
  intro l
  induction l with
  | nil=>intro acc z h; exact .inl h
  | cons x l ih=>
   intro acc z hz
   simp only [List.foldl_cons] at hz
   rcases ih _ z hz with h | ⟨y,hy,h1⟩
   ·split at h
    ·rename_i h0
     rcases insL_fst h with rfl | h
     ·exact .inr ⟨x,by simp,h0,rfl⟩
     ·exact .inl h
    ·exact .inl h
   ·exact .inr ⟨y,by simp [hy],h1⟩
 intro z hz
 rcases H l [] z hz with h | h
 ·simp at h
 ·exact h
theorem mapL_del {m:List Oq} {o x:Oq} (h:OkO m) (ho:o.k=1) (hx:x∈m) (h0:x.k=0) (hid:x.c=o.c∧x.s=o.s):
  mapL (m++[o])=insL (placeI o.c o.s) ⟨x.a,x.n,x.ch,true⟩ (mapL m):=by
 have hm':∀ y∈m,y.k=0→mayB y.c y.s=true:=h.may;have hu:∀ {c s:Int},∀ a∈m,a.k=0→a.eqI c s→∀ b∈m,b.k=0→b.eqI c s→a=b:=fun a ha ha0 ha1 b hb hb0 hb1=>h.one ha ha0 hb hb0 (ha1.1.trans hb1.1.symm) (ha1.2.trans hb1.2.symm)
 unfold mapL
 rw [mapK_snoc,if_neg (by omega)];refine ris_ext (ris_mapK _ _) (ris_insL (ris_mapK _ _)) fun k=>?_
 rw [getL_insL (ris_mapK _ _)];by_cases hk:∃ y∈m,y.k=0∧k=placeI y.c y.s
 ·obtain ⟨y,hy,hy0,rfl⟩:=hk
  rw [(getL_mapK (m++[o]) (hm' y hy hy0) m hm' hu).1 y hy hy0 ⟨rfl,rfl⟩,(getL_mapK m (hm' y hy hy0) m hm' hu).1 y hy hy0 ⟨rfl,rfl⟩];by_cases he:y.c=o.c∧y.s=o.s
  ·have hyx:y=x:=h.one hy hy0 hx h0 (he.1.trans hid.1.symm) (he.2.trans hid.2.symm)
   subst hyx;rw [if_pos (by rw [he.1,he.2])];unfold entO
   rw [dead_snoc,opB_iff.2 ⟨ho,hid.1.symm,hid.2.symm⟩,Bool.or_true]
  ·have hmo:mayB o.c o.s=true:=by rw [←hid.1,←hid.2]; exact hm' x hx h0
   rw [if_neg (fun e=>he (place_inj (hm' y hy hy0) hmo e)),entO_other (by rintro ⟨_,e1,e2⟩; exact he ⟨e1.symm,e2.symm⟩)]
 ·have h1:∀ z∈mapK (m++[o]) m,z.1≠k:=fun z hz e=>by
   obtain ⟨y,hy,hy0,hz1⟩:=mapK_key m z hz;exact hk ⟨y,hy,hy0,by rw [←e]; exact hz1⟩
  have h2:∀ z∈mapK m m,z.1≠k:=fun z hz e=>by
   obtain ⟨y,hy,hy0,hz1⟩:=mapK_key m z hz;exact hk ⟨y,hy,hy0,by rw [←e]; exact hz1⟩
  rw [getL_none _ h1,getL_none _ h2,if_neg]
  rintro rfl
  exact hk ⟨x,hx,h0,by rw [hid.1,hid.2]⟩
theorem ok_ins {m:List Oq} {o:Oq} (h:OkO m) (hc:CanI m o) (hm:mayB o.c o.s=true):OkO (m++[o]) where
 gd:=gd_ins h.gd hc
 may x hx hk:=by
  rcases List.mem_append.1 hx with hx | hx
  ·exact h.may x hx hk
  ·obtain rfl:=List.mem_singleton.1 hx; exact hm
 del x hx hk:=by
  rcases List.mem_append.1 hx with hx | hx
  ·obtain ⟨y,hy,h1⟩:=h.del x hx hk
   exact ⟨y,by simp [hy],h1⟩
  ·obtain rfl:=List.mem_singleton.1 hx
   have:=hc.k;omega
theorem ok_del {m:List Oq} {o:Oq} (h:OkO m) (hk:o.k=1) (hx:∃ y∈m,y.k=0∧y.eqI o.c o.s):OkO (m++[o]) where
 gd:=gd_del h.gd (by omega)
 may x hx hk2:=by
  rcases List.mem_append.1 hx with hx | hx
  ·exact h.may x hx hk2
  ·obtain rfl:=List.mem_singleton.1 hx; omega
 del x hx2 hk2:=by
  rcases List.mem_append.1 hx2 with hx2 | hx2
  ·obtain ⟨y,hy,h1⟩:=h.del x hx2 hk2
   exact ⟨y,by simp [hy],h1⟩
  ·obtain rfl:=List.mem_singleton.1 hx2
   obtain ⟨y,hy,h1⟩:=hx;exact ⟨y,by simp [hy],h1⟩
theorem chk_parts {o:Oq} (h:chkE o.k o.c o.s o.a o.n o.ch=0):mayB o.c o.s=true∧(o.k=1∨(o.k=0∧(noneB o.a o.n=true∨mayB o.a o.n=true)∧o.a<o.c)):=by
 have hk:kindE o.k o.a o.n o.ch=0:=by
  rcases kind_two o.k o.a o.n o.ch with h1 | h1
  ·rw [chk_kind h1] at h; cases h
  ·exact h1
 have hm:mayB o.c o.s=true:=by
  cases hb:mayB o.c o.s with
  | true=>rfl
  | false=>rw [chk_id hk hb] at h; cases h
 refine ⟨hm,?_⟩;rcases kind_zero hk with h0 | ⟨h1,_⟩
 ·refine .inr ⟨h0,?_⟩
  cases hn:noneB o.a o.n with
  | true=>
   have:=none_yes hn;have:=may_pos hm;exact ⟨.inl rfl,by omega⟩
  | false=>
   have hma:mayB o.a o.n=true:=by
    cases hb:mayB o.a o.n with
    | true=>rfl
    | false=>rw [chk_anc hk hm hn hb] at h; cases h
   refine ⟨.inr hma,?_⟩;rcases Int.lt_or_le o.a o.c with hl | hl
   ·exact hl
   ·rw [chk_ord hk hm hn hma hl] at h; cases h
 ·exact .inl h1
theorem may_hi {c s:Int} (h:mayB c s=true):c≤1048576:=by simp [mayB] at h; omega
theorem wrong_zero {m:List Oq} {o:Oq} (h:wrongE m o=0):chkE o.k o.c o.s o.a o.n o.ch=0∧mayB o.c o.s=true ∧
  ((o.k=1∧(∃ y∈m,y.k=0∧y.eqI o.c o.s)∧deadO m o.c o.s=false)∨(CanI m o)):=by
 have hck:chkE o.k o.c o.s o.a o.n o.ch=0:=by
  by_cases hc:chkE o.k o.c o.s o.a o.n o.ch=0
  ·exact hc
  ·rw [wrong_chk hc] at h; exact absurd h hc
 obtain ⟨hm,hp⟩:=chk_parts hck;refine ⟨hck,hm,?_⟩;by_cases hk:o.k=1
 ·refine .inl ⟨hk,?_⟩
  rcases Int.lt_or_le (fnd (opB 0 o.c o.s) m 0) 0 with hf | hf
  ·rw [wrong_d6 hck hk hf] at h; cases h
  ·rcases Int.lt_or_le (fnd (opB 1 o.c o.s) m 0) 0 with hg | hg
   ·obtain ⟨x,hx,hp⟩:=fnd_pos.1 hf
    obtain ⟨h1,h2,h3⟩:=opB_iff.1 hp;exact ⟨⟨x,hx,h1,h2,h3⟩,by unfold deadO; exact decide_eq_false (by omega)⟩
   ·rw [wrong_d4 hck hk hf hg] at h; cases h
 ·obtain ⟨h0,hn,hlt⟩:=hp.resolve_left hk
  have hf:fnd (opB 0 o.c o.s) m 0<0:=by
   rcases fnd_spec (opB 0 o.c o.s) m 0 with ⟨hf,_⟩ | ⟨i,hi,hf,_⟩
   ·omega
   ·rw [Nat.zero_add] at hf
    by_cases hs:m[i]=o
    ·rw [wrong_i4 hck hk hf hi hs] at h; cases h
    ·rw [wrong_i5 hck hk hf hi hs] at h; cases h
  refine .inr ⟨h0,hlt,may_pos hm,may_hi hm,fun x hx hx0 he=>?_,?_⟩
  ·have:=fnd_neg.1 hf x hx
   rw [opB_iff.2 ⟨hx0,he.1,he.2⟩] at this
   cases this
  ·cases hnb:noneB o.a o.n with
   | true=>exact .inl (none_yes hnb)
   | false=>
    rcases Int.lt_or_le (fnd (opB 0 o.a o.n) m 0) 0 with hg | hg
    ·rw [wrong_i6 hck hk hf hnb hg] at h; cases h
    ·obtain ⟨x,hx,hp⟩:=fnd_pos.1 hg
     obtain ⟨h1,h2,h3⟩:=opB_iff.1 hp;exact .inr ⟨x,hx,h1,h2,h3⟩
theorem wrong_ok {m:List Oq} {o:Oq} (h:OkO m) (hw:wrongE m o=0):OkO (m++[o]):=by
 obtain ⟨_,hm,h1 | h1⟩:=wrong_zero hw
 ·exact ok_del h h1.1 h1.2.1
 ·exact ok_ins h h1 hm
end Go.Proofs.YtemicfjmidohfaaGreatDoor
