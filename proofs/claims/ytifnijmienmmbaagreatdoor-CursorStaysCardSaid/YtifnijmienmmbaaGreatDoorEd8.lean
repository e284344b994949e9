import Derived.Test.YtifnijmienmmbaaGreatDoorVd8
import Derived.Test.YtifnijmienmmbaaGreatDoorRn8
namespace Go.Proofs.YtifnijmienmmbaaGreatDoor
open Go Go.Proofs Go.RowKit
theorem first_in:∀ l:List Int,firstE l=0∨firstE l∈l
 | []=>.inl rfl
 | x::l=>by
  unfold firstE
  split
  ·rcases first_in l with h | h
   ·exact .inl h
   ·exact .inr (List.mem_cons_of_mem _ h)
  ·exact .inr (List.mem_cons_self ..)
theorem chk_ne6 (k c s a n ch:Int):chkE k c s a n ch≠6:=by
 intro h
 unfold chkE at h
 rcases first_in [kindE k a n ch,idE c s,ancE a n,ordE c a,chrE k ch] with e | e
 ·omega
 ·rw [h] at e
  have h1:kindE k a n ch≠6:=by unfold kindE; split <;> first | decide | (split <;> decide)
  have h2:idE c s≠6:=by unfold idE; split <;> decide
  have h3:ancE a n≠6:=by unfold ancE idE; split <;> first | decide | (split <;> decide)
  have h4:ordE c a≠6:=by unfold ordE; split <;> decide
  have h5:chrE k ch≠6:=by unfold chrE; split <;> decide
  simp only [List.mem_cons,List.not_mem_nil,or_false] at e
  rcases e with e | e | e | e | e
  ·exact h1 e.symm
  ·exact h2 e.symm
  ·exact h3 e.symm
  ·exact h4 e.symm
  ·exact h5 e.symm
theorem chk_own {c s a n ch:Int} (hm:mayB c s=true) (ha:noneB a n=true∨mayB a n=true) (hac:a<c) (h32:32≤ch) (hr:runeB ch=true):chkE 0 c s a n ch=0:=by
 have h1:kindE 0 a n ch=0:=by unfold kindE; rw [if_pos rfl]
 have h2:idE c s=0:=by unfold idE; rw [if_pos hm]
 have h3:ancE a n=0:=by
  unfold ancE
  split
  ·rfl
  ·rename_i hn
   unfold idE
   rw [if_pos (by rcases ha with h | h; exact absurd h hn; exact h)]
 have h4:ordE c a=0:=by unfold ordE; rw [if_neg (by omega)]
 have h5:chrE 0 ch=0:=by
  unfold chrE
  rw [if_neg]
  rintro ⟨_,h | h⟩
  ·omega
  ·rw [hr] at h; cases h
 unfold chkE
 rw [h1,h2,h3,h4,h5];rfl
theorem wrong6 {m:List Oq} {x:Oq} (h:wrongE m x=6):chkE x.k x.c x.s x.a x.n x.ch=0∧fnd (opB 0 x.c x.s) m 0<0∧(x.k=1∨(noneB x.a x.n=false∧fnd (opB 0 x.a x.n) m 0<0)):=by
 have hck:chkE x.k x.c x.s x.a x.n x.ch=0:=by
  by_cases hc:chkE x.k x.c x.s x.a x.n x.ch=0
  ·exact hc
  ·rw [wrong_chk hc] at h; exact absurd h (chk_ne6 _ _ _ _ _ _)
 refine ⟨hck,?_⟩;unfold wrongE at h
 rw [if_neg (by simp [hck])] at h;by_cases hk:x.k=1
 ·rw [if_pos hk] at h
  by_cases hf:fnd (opB 0 x.c x.s) m 0<0
  ·exact ⟨hf,.inl hk⟩
  ·rw [if_neg hf] at h
   split at h <;> omega
 ·rw [if_neg hk] at h
  by_cases hf:0≤fnd (opB 0 x.c x.s) m 0
  ·rw [if_pos hf] at h
   split at h
   ·split at h <;> omega
   ·omega
  ·rw [if_neg hf] at h
   split at h
   ·rename_i hg
    exact ⟨by omega,.inr hg⟩
   ·omega
theorem wrong6_of {m:List Oq} {x:Oq} (h1:chkE x.k x.c x.s x.a x.n x.ch=0) (h2:fnd (opB 0 x.c x.s) m 0<0) (h3:x.k=1∨(noneB x.a x.n=false∧fnd (opB 0 x.a x.n) m 0<0)):wrongE m x=6:=by
 by_cases hk:x.k=1
 ·exact wrong_d6 h1 hk h2
 ·rcases h3 with h3 | ⟨h3,h4⟩
  ·exact absurd h3 hk
  ·exact wrong_i6 h1 hk h2 h3 h4
def Qt (m l:List Oq):Prop:=∀ x∈l,wrongE m x=6
theorem qt_of {m l:List Oq} (h:nxI m l<0):Qt m l:=fun x hx=>by
 have:=fnd_neg.1 h x hx
 simpa [nxB] using this
theorem qt_nx {m l:List Oq} (h:Qt m l):nxI m l<0:=fnd_neg.2 (fun x hx=>by simp [nxB,h x hx])
theorem cas_qt:∀ (f:Nat) (m l:List Oq) (a:List Chg),l.length≤f→Qt (casG f m l a).1 (casG f m l a).2.1
 | 0,m,l,a,h=>by
  have:l=[]:=List.eq_nil_of_length_eq_zero (by omega);subst this;intro x hx; cases hx
 | f+1,m,l,a,h=>by
  rcases Int.lt_or_le (nxI m l) 0 with hn | hn
  ·rw [cas_no hn]; exact qt_of hn
  ·obtain ⟨i,e,hi⟩:=nx_lt hn
   have hl:=List.length_eraseIdx_of_lt hi;by_cases hw:wrongE m l[i]=0
   ·rw [cas_in e hi hw]; exact cas_qt f _ _ _ (by omega)
   ·rw [cas_out e hi hw]; exact cas_qt f _ _ _ (by omega)
theorem qt_rem {m l:List Oq} (h:Qt m l) (o:Oq):Qt (remT m l o).1 (remT m l o).2.1:=by
 unfold remT
 split
 ·rename_i h6
  show Qt m (addL l o)
  unfold addL
  split
  ·intro x hx
   rcases List.mem_append.1 hx with hx | hx
   ·exact h x hx
   ·simp at hx; subst hx; exact h6
  ·exact h
 ·split
  ·exact cas_qt _ _ _ _ (Nat.le_refl _)
  ·exact h
theorem fnd_snoc {k c s:Int} {m:List Oq} {o:Oq} (h:fnd (opB k c s) m 0<0) (ho:opB k c s o=false):fnd (opB k c s) (m++[o]) 0<0:=
 fnd_neg.2 (fun x hx=>by
  rcases List.mem_append.1 hx with hx | hx
  ·exact fnd_neg.1 h x hx
  ·simp at hx; subst hx; exact ho)
theorem qt_snoc {m l:List Oq} {o:Oq} (h:Qt m l) (ho:o.k=1∨∀ x∈l,x.c<o.c):Qt (m++[o]) l:=by
 intro x hx
 obtain ⟨h1,h2,h3⟩:=wrong6 (h x hx);have hno:∀ c s:Int,(o.k=1∨c<o.c)→opB 0 c s o=false:=by
  intro c s hc
  unfold opB
  simp only [decide_eq_false_iff_not]
  rintro ⟨e1,e2,_⟩
  rcases hc with hc | hc <;> omega
 refine wrong6_of h1 (fnd_snoc h2 (hno _ _ (ho.imp id fun g=>g x hx))) ?_;rcases h3 with h3 | ⟨h3,h4⟩
 ·exact .inl h3
 ·refine .inr ⟨h3,fnd_snoc h4 (hno _ _ (ho.imp id fun g=>?_))⟩
  have hxc:=g x hx;obtain ⟨_,hp | ⟨_,_,hp⟩⟩:=chk_parts h1
  ·-- of kind 1 there is no anchor
   have hk:kindE x.k x.a x.n x.ch=0:=by
    rcases kind_two x.k x.a x.n x.ch with hk | hk
    ·rw [chk_kind hk] at h1; cases h1
    ·exact hk
   rcases kind_zero hk with h0 | ⟨_,h0⟩
   ·omega
   ·have hnn:noneB x.a x.n=true:=by simp [noneB,h0.1,h0.2.1]
    rw [h3] at hnn; cases hnn
  ·omega
theorem rk_append (A B:List El):((A++B).map El.al).sum=(A.map El.al).sum+(B.map El.al).sum:=by rw [List.map_append,List.sum_append_nat]
theorem alv_append (A B:List El):alv (A++B)=alv A++alv B:=by unfold alv; rw [List.filter_append,List.map_append]
theorem alv_len (A:List El):(alv A).length=(A.map El.al).sum:=by
 unfold alv
 rw [List.length_map]
 induction A with
 | nil=>rfl
 | cons x A ih=>
  cases h:x.d with
  | true=>simp [h,El.al,ih]
  | false=>simp [h,El.al,ih]; omega
theorem sl_split:∀ (L:List El) (k:Nat),k<(L.map El.al).sum→∃ (A B:List El) (x:El),L=A++x::B∧x.d=false∧(A.map El.al).sum=k∧slL L k=A.length
 | [],k,h=>by simp at h
 | x::L,k,h=>by
  cases hd:x.d with
  | true=>
   have e:El.al x=0:=by simp [El.al,hd]
   obtain ⟨A,B,y,h1,h2,h3,h4⟩:=sl_split L k (by simpa [e] using h);exact ⟨x::A,B,y,by rw [h1]; rfl,h2,by simp [e,h3],by unfold slL; rw [if_pos hd,h4]; rfl⟩
  | false=>
   have e:El.al x=1:=by simp [El.al,hd]
   by_cases hk:k=0
   ·subst hk
    exact ⟨[],L,x,rfl,hd,rfl,by unfold slL; rw [if_neg (by simp [hd]),if_pos rfl]; rfl⟩
   ·obtain ⟨A,B,y,h1,h2,h3,h4⟩:=sl_split L (k - 1) (by simp [e] at h; omega)
    exact ⟨x::A,B,y,by rw [h1]; rfl,h2,by simp [e,h3]; omega,by unfold slL; rw [if_neg (by simp [hd]),if_neg hk,h4]; rfl⟩
theorem sl_at (A B:List El) (x:El) (hd:x.d=false):slL (A++x::B) ((A.map El.al).sum)=A.length:=by
 induction A with
 | nil=>show slL (x::B) 0=0; unfold slL; rw [if_neg (by simp [hd]),if_pos rfl]
 | cons y A ih=>
  cases hy:y.d with
  | true=>
   have e:El.al y=0:=by simp [El.al,hy]
   rw [List.map_cons,List.sum_cons,e,Nat.zero_add,List.cons_append];unfold slL; rw [if_pos hy,ih]; rfl
  | false=>
   have e:El.al y=1:=by simp [El.al,hy]
   rw [List.map_cons,List.sum_cons,e,List.cons_append];unfold slL; rw [if_neg (by simp [hy]),if_neg (by omega),show 1+(A.map El.al).sum - 1=(A.map El.al).sum by omega,ih]; rfl
theorem pos_zero (o:Oq):∀ l:List Oq,(∀ y∈l,y.c<o.c)→posK o l=0
 | [],_=>rfl
 | y::l,h=>by
  unfold posK
  rw [if_neg];have:=h y (List.mem_cons_self ..);simp [lessB]; omega
theorem pos_at (o:Oq):∀ (A:List Oq) (y:Oq) (B:List Oq),(∀ z∈A,¬ z.eqI o.a o.n)→y.eqI o.a o.n→(∀ z∈B,z.c<o.c)→posA o (A++y::B)=A.length+1
 | [],y,B,_,hy,hB=>by
  show posA o (y::B)=_
  unfold posA; rw [if_pos hy,pos_zero o B hB]; rfl
 | z::A,y,B,hA,hy,hB=>by
  show posA o (z::(A++y::B))=_
  unfold posA
  rw [if_neg (hA z (List.mem_cons_self ..)),pos_at o A y B (fun w hw=>hA w (List.mem_cons_of_mem _ hw)) hy hB];simp
theorem topM_mem {y:Oq} (hk:y.k=0):∀ (m:List Oq) (n:Int),y∈m→y.c≤topM m n
 | [],_,hy=>by cases hy
 | x::m,n,hy=>by
  show y.c≤topM m (if x.k=0∧n<x.c then x.c else n)
  rcases List.mem_cons.1 hy with e | hy
  ·subst e
   refine Int.le_trans ?_ (topM_ge m _);split
   ·exact Int.le_refl _
   ·rename_i h
    by_cases hn:n<y.c
    ·exact absurd ⟨hk,hn⟩ h
    ·omega
  ·exact topM_mem hk m _ hy
theorem topI_mem {l:List Oq} {x:Oq} (hx:x∈l):x.c≤topI l:=by
 have G:∀ (l:List Oq) (n:Int),n≤l.foldl (fun n x=>if n<x.c then x.c else n) n:=by
  intro l
  induction l with
  | nil=>intro n; exact Int.le_refl _
  | cons x l ih=>
   intro n
   simp only [List.foldl_cons]
   refine Int.le_trans ?_ (ih _);split <;> omega
 have H:∀ (l:List Oq) (n:Int),x∈l→x.c≤l.foldl (fun n x=>if n<x.c then x.c else n) n:=by
  intro l
  induction l with
  | nil=>intro n h; cases h
  | cons y l ih=>
   intro n h
   simp only [List.foldl_cons]
   rcases List.mem_cons.1 h with rfl | h
   ·refine Int.le_trans ?_ (G l _)
    split <;> omega
   ·exact ih _ h
 exact H l 0 hx
theorem split_map {α β:Type} {f:α→β}:∀ {l:List α} {A B:List β} {x:β},l.map f=A++x::B→∃ (C D:List α) (y:α),l=C++y::D∧C.map f=A∧f y=x∧D.map f=B
 | [],A,B,x,h=>by simp at h
 | z::l,[],B,x,h=>by
  simp only [List.map_cons,List.nil_append,List.cons.injEq] at h
  exact ⟨[],l,z,rfl,rfl,h.1,h.2⟩
 | z::l,a::A,B,x,h=>by
  simp only [List.map_cons,List.cons_append,List.cons.injEq] at h
  obtain ⟨C,D,y,h1,h2,h3,h4⟩:=split_map h.2;exact ⟨z::C,D,y,by rw [h1]; rfl,by rw [List.map_cons,h2,h.1],h3,h4⟩
theorem ins_own {m l:List Oq} {n:Nat} (hV:VOk m l n) (hq:Qt m l) {site at_ ch:Int} (lo : -2147483648≤ch) (hi:ch≤2147483647) (hc:inC8 m l site at_ ch=0):
  inE8 m l site at_ ch lo hi=0∧inT8 m l site at_ ch lo hi=(m++[inV8 m l site at_ ch lo hi],l,[chgO m (inV8 m l site at_ ch lo hi)])∧wrongE m (inV8 m l site at_ ch lo hi)=0∧ChrB ch∧0≤at_ ∧
  (∀ x∈m,x.k=0→x.c<(inV8 m l site at_ ch lo hi).c) ∧
  ∃ A B:List El,docR m=A++B∧docR (m++[inV8 m l site at_ ch lo hi])=A++⟨(inV8 m l site at_ ch lo hi).c,site,ch,false,lo,hi⟩::B∧plO m (inV8 m l site at_ ch lo hi)=(A.length:Int)∧((A.map El.al).sum:Int)=at_:=by
 obtain ⟨h1,h2,h3⟩:¬ (site<1∨1000<site∨at_<0∨(rkL (docR m) ((docR m).length:Int):Int)<at_)∧charB ch=false∧¬ 1048576<ctrI m l:=by
  unfold inC8 at hc
  split at hc
  ·omega
  ·rename_i g1
   split at hc
   ·omega
   ·rename_i g2
    split at hc
    ·omega
    ·rename_i g3
     exact ⟨g1,by simpa using g2,g3⟩
 have hctr:=ctr_in hV.ok hV.rl;have hcb:32≤ch∧((0≤ch∧ch<55296)∨(57344≤ch∧ch≤1114111)):=by
  have:=h2; simp [charB] at this; omega
 have hgm:∀ x∈m,x.k=0→x.c<ctrI m l:=fun x hx hk=>by have:=topM_mem hk m (topI l) hx; unfold ctrI; omega
 have hgl:∀ x∈l,x.c<ctrI m l:=fun x hx=>by have h:=topI_mem hx; have h':=topM_ge m (topI l); unfold ctrI; omega
 have hrk:rkL (docR m) ((docR m).length:Int)=((docR m).map El.al).sum:=rkL_len _;rw [hrk] at h1;have hrow:∀ x∈rowO m,x.c<ctrI m l:=fun x hx=>hgm x ((hV.ok.gd.mem x).1 hx).1 ((hV.ok.gd.mem x).1 hx).2
 obtain ⟨o,ho⟩:∃ o,o=inV8 m l site at_ ch lo hi:=⟨_,rfl⟩
 have hok:o.k=0:=by rw [ho]; rfl
 have hoc:o.c=ctrI m l:=by rw [ho]; rfl
 have hos:o.s=site:=by rw [ho]; rfl
 have hoh:o.ch=ch:=by rw [ho]; rfl
 have hoa:o.a=if 0<at_ then (namC (docR m) (at_ - 1)).1 else 0:=by rw [ho]; rfl
 have hon:o.n=if 0<at_ then (namC (docR m) (at_ - 1)).2 else 0:=by rw [ho]; rfl
 have hmay:mayB o.c o.s=true:=by rw [hoc,hos]; simp [mayB]; omega
 have hrb:runeB o.ch=true:=by rw [hoh]; simp [runeB]; omega
 rw [←ho]
 -- the anchor,and the place behind it
 obtain ⟨A,B,hA1,hA2,hA3,hA4,hA5⟩:∃ A B:List El,docR m=A++B∧posR o (rowO m)=A.length∧((A.map El.al).sum:Int)=at_∧(noneB o.a o.n=true∨mayB o.a o.n=true∧0≤fnd (opB 0 o.a o.n) m 0)∧o.a<o.c:=by
  by_cases hat:0<at_
  ·rw [if_pos hat] at hoa hon
   obtain ⟨A,B,x,g1,g2,g3,g4⟩:=sl_split (docR m) (at_ - 1).toNat (by omega);have hnm:namC (docR m) (at_ - 1)=(x.c,x.s):=by
    unfold namC
    rw [if_neg (by omega),g4,g1,List.getElem?_append_right (Nat.le_refl _),Nat.sub_self];rfl
   rw [hnm] at hoa hon
   dsimp only at hoa hon
   have g1':(rowO m).map (elO m)=A++x::B:=g1;obtain ⟨C,D,y,k1,k2,k3,k4⟩:=split_map g1';have hyc:y.c=x.c:=by rw [←k3]; rfl
   have hys:y.s=x.s:=by rw [←k3]; rfl
   have hym:y∈rowO m:=by rw [k1]; simp
   obtain ⟨hym1,hym2⟩:=(hV.ok.gd.mem y).1 hym;have hymay:=hV.ok.may y hym1 hym2;have hlt:=hrow y hym;refine ⟨A++[x],B,by rw [g1]; simp,?_,?_,.inr ⟨by rw [hoa,hon,←hyc,←hys]; exact hymay,?_⟩,by rw [hoa,hoc,←hyc]; exact hlt⟩
   ·have hnz:¬ (o.a=0∧o.n=0):=by
     rintro ⟨e1,_⟩
     rw [hoa,←hyc] at e1;rw [e1] at hymay;simp [mayB] at hymay
    unfold posR
    rw [if_neg hnz,k1,pos_at o C y D]
    ·rw [List.length_append,←k2]; simp
    ·intro z hz e
     have hnod:=hV.ok.gd.nod;rw [k1] at hnod;have:=(List.pairwise_append.1 hnod).2.2 z hz y (List.mem_cons_self ..);exact this ⟨by rw [e.1,hoa,hyc],by rw [e.2,hon,hys]⟩
    ·exact ⟨by rw [hyc,hoa],by rw [hys,hon]⟩
    ·intro z hz
     rw [hoc];exact hrow z (by rw [k1]; simp [hz])
   ·rw [rk_append]
    have:El.al x=1:=by simp [El.al,g2]
    simp [this]; omega
   ·refine fnd_pos.2 ⟨y,hym1,opB_iff.2 ⟨hym2,by rw [hoa,hyc],by rw [hon,hys]⟩⟩
  ·rw [if_neg hat] at hoa hon
   refine ⟨[],docR m,rfl,?_,by simp; omega,.inl (by rw [hoa,hon]; rfl),by rw [hoa,hoc]; omega⟩;unfold posR
   rw [if_pos ⟨hoa,hon⟩,pos_zero o _ (fun y hy=>by rw [hoc]; exact hrow y hy)];rfl
 have hck:chkE o.k o.c o.s o.a o.n o.ch=0:=by
  rw [hok];exact chk_own hmay (hA4.imp id fun h=>h.1) hA5 (by rw [hoh]; omega) hrb
 have hnew:fnd (opB 0 o.c o.s) m 0<0:=fnd_neg.2 (fun x hx=>by
  simp only [opB,decide_eq_false_iff_not]
  rintro ⟨e1,e2,_⟩
  have:=hgm x hx e1
  omega)
 have hw:wrongE m o=0:=wrong_i0 hck (by omega) hnew (hA4.imp id fun h=>h.2);have hq2:Qt (m++[o]) l:=qt_snoc hq (.inr fun x hx=>by rw [hoc]; exact hgl x hx);have hcan:CanI m o:=by
  obtain ⟨_,_,⟨h1,_⟩ | h1⟩:=wrong_zero hw
  ·omega
  ·exact h1
 have hE:inE8 m l site at_ ch lo hi=0:=by
  unfold inE8; rw [if_neg (by simp [hc]),←ho]; unfold remE; rw [if_neg (by omega),hw]
 have hT:inT8 m l site at_ ch lo hi=(m++[o],l,[chgO m o]):=by
  unfold inT8; rw [if_neg (by simp [hc]),←ho]; unfold remT; rw [if_neg (by omega),if_pos hw,cas_no (qt_nx hq2)]
 refine ⟨hE,hT,hw,by unfold ChrB; omega,by omega,by rw [hoc]; exact hgm,A,B,hA1,?_,?_,hA3⟩
 ·rw [docR_ins hV.ok hcan,hA2,hA1,List.take_left,List.drop_left]
  congr 2
  subst hoh;subst hos;rfl
 ·unfold plO
  rw [docR_ins_at hV.ok hcan,hA2]
theorem del_own {m l:List Oq} {n:Nat} (hV:VOk m l n) {o:Oq} (hw:wrongE m o=0) (hok:o.k=0) (hg:∀ x∈m,x.k=0→x.c<o.c) (hq:Qt (m++[o]) l) {A B:List El} {e:El} (hL:docR (m++[o])=A++e::B) (he:e.d=false) (hec:e.c=o.c∧e.s=o.s) {at_:Int} (hat:((A.map El.al).sum:Int)=at_):
  deV8 (m++[o]) at_=⟨1,o.c,o.s,0,0,0,by decide,by decide⟩∧deE8 (m++[o]) l at_=0∧deT8 (m++[o]) l at_=(m++[o]++[deV8 (m++[o]) at_],l,[chgO (m++[o]) (deV8 (m++[o]) at_)]) ∧
  (∃ e':El,e'.d=true∧docR (m++[o]++[deV8 (m++[o]) at_])=A++e'::B)∧plO (m++[o]) (deV8 (m++[o]) at_)=(A.length:Int):=by
 have hok2:=wrong_ok hV.ok hw;have hnm:namC (docR (m++[o])) at_=(o.c,o.s):=by
  unfold namC
  rw [if_neg (by omega),hL,show at_.toNat=(A.map El.al).sum by omega,sl_at A B e he,List.getElem?_append_right (Nat.le_refl _),Nat.sub_self];simp [hec.1,hec.2]
 have hd:deV8 (m++[o]) at_=⟨1,o.c,o.s,0,0,0,by decide,by decide⟩:=by unfold deV8; rw [hnm]
 have hmay:mayB o.c o.s=true:=(wrong_zero hw).2.1;obtain ⟨d,hdd⟩:∃ d,d=deV8 (m++[o]) at_:=⟨_,rfl⟩
 have hdk:d.k=1:=by rw [hdd,hd]
 have hdc:d.c=o.c:=by rw [hdd,hd]
 have hds:d.s=o.s:=by rw [hdd,hd]
 have hda:d.a=0∧d.n=0∧d.ch=0:=by rw [hdd,hd]; exact ⟨rfl,rfl,rfl⟩
 have hck:chkE d.k d.c d.s d.a d.n d.ch=0:=by
  rw [hdk,hdc,hds,hda.1,hda.2.1,hda.2.2];have hlo:1≤o.c:=by simp [mayB] at hmay; omega
  have a1:kindE 1 0 0 0=0:=rfl;have a2:idE o.c o.s=0:=by unfold idE; rw [if_pos hmay]
  have a3:ancE 0 0=0:=rfl;have a4:ordE o.c 0=0:=by unfold ordE; rw [if_neg (by omega)]
  have a5:chrE 1 0=0:=rfl;unfold chkE
  rw [a1,a2,a3,a4,a5]; rfl
 have hf0:0≤fnd (opB 0 d.c d.s) (m++[o]) 0:=fnd_pos.2 ⟨o,by simp,opB_iff.2 ⟨hok,hdc.symm,hds.symm⟩⟩;have hf1:fnd (opB 1 d.c d.s) (m++[o]) 0<0:=fnd_neg.2 (fun x hx=>by
  simp only [opB,decide_eq_false_iff_not]
  rintro ⟨e1,e2,_⟩
  rcases List.mem_append.1 hx with hx | hx
  ·obtain ⟨y,hy,hy0,hy1⟩:=hV.ok.del x hx e1
   have:=hg y hy hy0;have:=hy1.1;omega
  ·simp at hx; subst hx; omega)
 have hwd:wrongE (m++[o]) d=0:=wrong_d0 hck hdk hf0 hf1;have hq2:Qt (m++[o]++[d]) l:=qt_snoc hq (.inl hdk);have hne:¬ (o.c,o.s)=((0,0):Int×Int):=by
  intro h
  have:=congrArg Prod.fst h;simp [mayB] at hmay this
  omega
 rw [←hdd];refine ⟨hdd.trans hd,?_,?_,?_,?_⟩
 ·unfold deE8; rw [if_neg (by rw [hnm]; exact hne),←hdd]; unfold remE; rw [if_neg (by omega),hwd]
 ·unfold deT8; rw [if_neg (by rw [hnm]; exact hne),←hdd]; unfold remT; rw [if_neg (by omega),if_pos hwd,cas_no (qt_nx hq2)]
 ·have hL':(rowO (m++[o])).map (elO (m++[o]))=A++e::B:=hL
  obtain ⟨C,D,y,k1,k2,k3,k4⟩:=split_map hL';have hCl:C.length=A.length:=by rw [←k2,List.length_map]
  have hi:C.length<(rowO (m++[o])).length:=by rw [k1]; simp
  have hx:(rowO (m++[o]))[C.length]=y:=by simp [k1]
  have hyid:y.c=d.c∧y.s=d.s:=by
   have e1:y.c=e.c:=by rw [←k3]; rfl
   have e2:y.s=e.s:=by rw [←k3]; rfl
   exact ⟨by rw [e1,hec.1,hdc],by rw [e2,hec.2,hds]⟩
  refine ⟨⟨y.c,y.s,y.ch,true,y.lo,y.hi⟩,rfl,?_⟩;rw [docR_del hok2 hdk hi hx hyid,hL,hCl];simp
 ·have hL':(rowO (m++[o])).map (elO (m++[o]))=A++e::B:=hL
  obtain ⟨C,D,y,k1,k2,k3,k4⟩:=split_map hL';have hCl:C.length=A.length:=by rw [←k2,List.length_map]
  have hrd:rowO (m++[o]++[d])=rowO (m++[o]):=row_del (by omega);have hi:C.length<(rowO (m++[o]++[d])).length:=by rw [hrd,k1]; simp
  have h:=docR_at (wrong_ok hok2 hwd) hi;have hx:(rowO (m++[o]++[d]))[C.length]=y:=(fun (R:List Oq) (hR:R=C++y::D) (hj:C.length<R.length)=>show R[C.length]=y by subst hR; simp) _ (hrd.trans k1) hi;rw [hx] at h;have e1:y.c=d.c:=by
   have:y.c=e.c:=by rw [←k3]; rfl
   rw [this,hec.1,hdc]
  have e2:y.s=d.s:=by
   have:y.s=e.s:=by rw [←k3]; rfl
   rw [this,hec.2,hds]
  rw [e1,e2,hCl] at h;exact h
def ChO (m:List Oq):Prop:=∀ x∈m,x.k=0→ChrB x.ch
theorem chk_chr {o:Oq} (h:chkE o.k o.c o.s o.a o.n o.ch=0) (hk:o.k=0):ChrB o.ch:=by
 have F:∀ (l:List Int),firstE l=0→∀ x∈l,x=0:=by
  intro l
  induction l with
  | nil=>intro _ x hx; cases hx
  | cons y l ih=>
   intro h x hx
   unfold firstE at h
   split at h
   ·rename_i hy
    rcases List.mem_cons.1 hx with e | hx
    ·rw [e,hy]
    ·exact ih h x hx
   ·rename_i hy; exact absurd h hy
 have h5:chrE o.k o.ch=0:=F _ h _ (by simp);unfold chrE at h5
 split at h5
 ·cases h5
 ·rename_i hn
  have:runeB o.ch=true:=by
   cases hr:runeB o.ch with
   | true=>rfl
   | false=>exact absurd ⟨hk,.inr hr⟩ hn
  simp [runeB] at this
  unfold ChrB; omega
theorem ch_snoc {m:List Oq} {o:Oq} (h:ChO m) (hw:wrongE m o=0):ChO (m++[o]):=fun x hx hk=>by
 rcases List.mem_append.1 hx with hx | hx
 ·exact h x hx hk
 ·simp at hx; subst hx; exact chk_chr (wrong_zero hw).1 hk
theorem cas_ch:∀ (f:Nat) (m l:List Oq) (a:List Chg),ChO m→ChO (casG f m l a).1
 | 0,_,_,_,h=>h
 | f+1,m,l,a,h=>by
  rcases Int.lt_or_le (nxI m l) 0 with hn | hn
  ·rw [cas_no hn]; exact h
  ·obtain ⟨i,e,hi⟩:=nx_lt hn
   by_cases hw:wrongE m l[i]=0
   ·rw [cas_in e hi hw]; exact cas_ch f _ _ _ (ch_snoc h hw)
   ·rw [cas_out e hi hw]; exact cas_ch f _ _ _ h
theorem ch_rem {m l:List Oq} (h:ChO m) (o:Oq):ChO (remT m l o).1:=by
 unfold remT
 split
 ·exact h
 ·split
  ·rename_i hw; exact cas_ch _ _ _ _ (ch_snoc h hw)
  ·exact h
theorem ch_row {m:List Oq} (g:Gd m) (h:ChO m):∀ r∈alv (docR m),ChrB r:=by
 intro r hr
 unfold alv docR at hr
 obtain ⟨x,hx,rfl⟩:=List.mem_map.1 hr;obtain ⟨y,hy,rfl⟩:=List.mem_map.1 (List.mem_filter.1 hx).1;exact h y ((g.mem y).1 hy).1 ((g.mem y).1 hy).2
theorem qt_nil:Qt [] []:=fun x hx=>by cases hx
theorem ch_nil:ChO []:=fun x hx=>by cases hx
theorem qt_ins {m l:List Oq} (h:Qt m l) (site at_ ch:Int) (lo : -2147483648≤ch) (hi:ch≤2147483647):Qt (inT8 m l site at_ ch lo hi).1 (inT8 m l site at_ ch lo hi).2.1:=by
 unfold inT8; split
 ·exact h
 ·exact qt_rem h _
theorem ch_ins {m l:List Oq} (h:ChO m) (site at_ ch:Int) (lo : -2147483648≤ch) (hi:ch≤2147483647):ChO (inT8 m l site at_ ch lo hi).1:=by
 unfold inT8; split
 ·exact h
 ·exact ch_rem h _
theorem qt_dl {m l:List Oq} (h:Qt m l) (k:Int):Qt (deT8 m l k).1 (deT8 m l k).2.1:=by
 unfold deT8; split
 ·exact h
 ·exact qt_rem h _
theorem ch_dl {m l:List Oq} (h:ChO m) (k:Int):ChO (deT8 m l k).1:=by
 unfold deT8; split
 ·exact h
 ·exact ch_rem h _
theorem ins_bad {m l:List Oq} {n:Nat} (hV:VOk m l n) (hq:Qt m l) {site at_ ch:Int} (lo : -2147483648≤ch) (hi:ch≤2147483647) (h:inE8 m l site at_ ch lo hi≠0):inT8 m l site at_ ch lo hi=(m,l,[]):=by
 by_cases hc:inC8 m l site at_ ch=0
 ·exact absurd (ins_own hV hq lo hi hc).1 h
 ·unfold inT8; rw [if_pos hc]
theorem ins_good {m l:List Oq} {site at_ ch:Int} (lo : -2147483648≤ch) (hi:ch≤2147483647) (h:inE8 m l site at_ ch lo hi=0):inC8 m l site at_ ch=0:=by
 by_cases hc:inC8 m l site at_ ch=0
 ·exact hc
 ·unfold inE8 at h; rw [if_pos hc] at h; exact absurd h hc
end Go.Proofs.YtifnijmienmmbaaGreatDoor
