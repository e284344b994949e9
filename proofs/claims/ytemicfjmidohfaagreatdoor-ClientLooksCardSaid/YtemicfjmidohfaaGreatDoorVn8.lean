import Derived.Test.YtemicfjmidohfaaGreatDoorLPnd
namespace Go.Proofs.YtemicfjmidohfaaGreatDoor
open Go Go.Proofs Go.RowKit
structure Chg where
 q:Int
 a:Int
 c:Int
 s:Int
 ch:Int
 d:Bool
def chgL (x:Chg):List Value:=[.int .i64 x.q,.int .i64 x.a,.int .i64 x.c,.int .i64 x.s,.int .i32 x.ch,.bool x.d]
theorem chgL_len (x:Chg):(chgL x).length=6:=rfl
theorem chg_one (x:Chg):∀ u∈chgL x,u.oneCell'=true:=by
 intro u hu
 simp only [chgL,List.mem_cons,List.not_mem_nil,or_false] at hu
 rcases hu with rfl | rfl | rfl | rfl | rfl | rfl <;> rfl
def rkL (L:List El) (i:Int):Nat:=((L.take i.toNat).map El.al).sum
def slL:List El→Nat→Nat
 | [],_=>0
 | x::l,k=>if x.d=true then slL l k+1 else if k=0 then 0 else slL l (k - 1)+1
def plO (m:List Oq) (o:Oq):Int:=fnd (elB o.c o.s) (docR (m++[o])) 0
def chO (m:List Oq) (o:Oq):Int:=match (docR (m++[o]))[(plO m o).toNat]? with
 | some x=>x.ch
 | none=>0
def chgO (m:List Oq) (o:Oq):Chg:=⟨(m.length:Int)+1,(rkL (docR (m++[o])) (plO m o):Int),o.c,o.s,chO m o,decide (o.k=1)⟩
theorem pl_in {m:List Oq} {o:Oq} (h:OkO m) (hw:wrongE m o=0):∃ (i:Nat) (hi:i<(docR (m++[o])).length),plO m o=(i:Int)∧chO m o=((docR (m++[o]))[i]).ch:=by
 have h2:=wrong_ok h hw;obtain ⟨x,hx,hx0,hx1⟩:∃ x∈m++[o],x.k=0∧x.eqI o.c o.s:=by
  obtain ⟨_,_,⟨_,⟨y,hy,hy0,hy1⟩,_⟩ | hc⟩:=wrong_zero hw
  ·exact ⟨y,List.mem_append_left _ hy,hy0,hy1⟩
  ·exact ⟨o,by simp,hc.k,rfl,rfl⟩
 have hr:x∈rowO (m++[o]):=(h2.gd.mem x).2 ⟨hx,hx0⟩;have hp:0≤fnd (elB o.c o.s) (docR (m++[o])) 0:=fnd_pos.2 ⟨elO (m++[o]) x,List.mem_map_of_mem hr,elB_iff.2 ⟨hx1.1,hx1.2⟩⟩;rcases fnd_spec (elB o.c o.s) (docR (m++[o])) 0 with ⟨e,_⟩ | ⟨i,hi,e,_⟩
 ·omega
 ·rw [Nat.zero_add] at e
  refine ⟨i,hi,e,?_⟩;unfold chO plO
  rw [e,Int.toNat_natCast,List.getElem?_eq_getElem hi]
def casG:Nat→List Oq→List Oq→List Chg→List Oq×List Oq×List Chg
 | 0,m,l,a=>(m,l,a)
 | f+1,m,l,a=>
  if 0≤nxI m l then
   match l[(nxI m l).toNat]? with
   | none=>(m,l,a)
   | some x=>if wrongE m x=0 then casG f (m++[x]) (l.eraseIdx (nxI m l).toNat) (a++[chgO m x]) else casG f m (l.eraseIdx (nxI m l).toNat) a
  else (m,l,a)
theorem cas_no {m l:List Oq} (h:nxI m l<0) (f:Nat) (a:List Chg):casG f m l a=(m,l,a):=by
 cases f with
 | zero=>rfl
 | succ f=>unfold casG; rw [if_neg (by omega)]
theorem cas_in {m l:List Oq} {i:Nat} (h:nxI m l=(i:Int)) (hi:i<l.length) (hw:wrongE m l[i]=0) (f:Nat) (a:List Chg):casG (f+1) m l a=casG f (m++[l[i]]) (l.eraseIdx i) (a++[chgO m l[i]]):=by
 conv=>lhs; unfold casG
 rw [if_pos (by omega),h,Int.toNat_natCast,List.getElem?_eq_getElem hi];simp only []
 rw [if_pos hw]
theorem cas_out {m l:List Oq} {i:Nat} (h:nxI m l=(i:Int)) (hi:i<l.length) (hw:¬ wrongE m l[i]=0) (f:Nat) (a:List Chg):casG (f+1) m l a=casG f m (l.eraseIdx i) a:=by
 conv=>lhs; unfold casG
 rw [if_pos (by omega),h,Int.toNat_natCast,List.getElem?_eq_getElem hi];simp only []
 rw [if_neg hw]
theorem cas_ok:∀ (f:Nat) (m l:List Oq) (a:List Chg),OkO m→OkO (casG f m l a).1∧(casG f m l a).2.1.length≤l.length∧(casG f m l a).1.length+(casG f m l a).2.1.length≤m.length+l.length∧m.length≤(casG f m l a).1.length∧(casG f m l a).2.2.length≤a.length+l.length
 | 0,m,l,a,h=>⟨h,Nat.le_refl _,Nat.le_refl _,Nat.le_refl _,Nat.le_add_right _ _⟩
 | f+1,m,l,a,h=>by
  rcases Int.lt_or_le (nxI m l) 0 with hn | hn
  ·rw [cas_no hn]; exact ⟨h,Nat.le_refl _,Nat.le_refl _,Nat.le_refl _,Nat.le_add_right _ _⟩
  ·obtain ⟨i,e,hi⟩:=nx_lt hn
   have hl:=List.length_eraseIdx_of_lt hi;by_cases hw:wrongE m l[i]=0
   ·rw [cas_in e hi hw]
    obtain ⟨h1,h2,h3,h4,h5⟩:=cas_ok f (m++[l[i]]) (l.eraseIdx i) (a++[chgO m l[i]]) (wrong_ok h hw);simp only [List.length_append,List.length_cons,List.length_nil] at h3 h4 h5
    exact ⟨h1,by omega,by omega,by omega,by omega⟩
   ·rw [cas_out e hi hw]
    obtain ⟨h1,h2,h3,h4,h5⟩:=cas_ok f m (l.eraseIdx i) a h;exact ⟨h1,by omega,by omega,by omega,by omega⟩
def remE (m l:List Oq) (o:Oq):Int:=if wrongE m o=6 then addE l o else wrongE m o
def remT (m l:List Oq) (o:Oq):List Oq×List Oq×List Chg:=
 if wrongE m o=6 then (m,addL l o,[]) else if wrongE m o=0 then casG l.length (m++[o]) l [chgO m o] else (m,l,[])
theorem rem_ok {m l:List Oq} (h:OkO m) (hl:l.length≤16) (o:Oq):OkO (remT m l o).1∧(remT m l o).2.1.length≤16∧(remT m l o).1.length+(remT m l o).2.1.length≤m.length+l.length+1∧(remT m l o).2.2.length≤l.length+1:=by
 unfold remT
 split
 ·refine ⟨h,add_len hl,?_,Nat.zero_le _⟩
  unfold addL
  split <;> simp; omega
 ·split
  ·rename_i hw
   obtain ⟨h1,h2,h3,_,h5⟩:=cas_ok l.length (m++[o]) l [chgO m o] (wrong_ok h hw);simp only [List.length_append,List.length_cons,List.length_nil] at h3 h5
   exact ⟨h1,by omega,by omega,by omega⟩
  ·exact ⟨h,hl,Nat.le_succ _,Nat.zero_le _⟩
def namC (L:List El) (k:Int):Int×Int:=if k<0 then (0,0) else match L[slL L k.toNat]? with
 | some x=>(x.c,x.s)
 | none=>(0,0)
def topM (m:List Oq) (n:Int):Int:=m.foldl (fun n x=>if x.k=0∧n<x.c then x.c else n) n
def ctrI (m l:List Oq):Int:=topM m (topI l)+1
def charB (ch:Int):Bool:=decide (ch<32∨1114111<ch∨(55296≤ch∧ch≤57343))
def inV8 (m l:List Oq) (site at_ ch:Int) (lo : -2147483648≤ch) (hi:ch≤2147483647):Oq:=
 ⟨0,ctrI m l,site,if 0<at_ then (namC (docR m) (at_ - 1)).1 else 0,if 0<at_ then (namC (docR m) (at_ - 1)).2 else 0,ch,lo,hi⟩
def inC8 (m l:List Oq) (site at_ ch:Int):Int:=
 if site<1∨1000<site∨at_<0∨(rkL (docR m) ((docR m).length:Int):Int)<at_ then 2
 else if charB ch=true then 1 else if 1048576<ctrI m l then 7 else 0
def deV8 (m:List Oq) (at_:Int):Oq:=⟨1,(namC (docR m) at_).1,(namC (docR m) at_).2,0,0,0,by decide,by decide⟩
def RmO (l:List Oq):Prop:=∀ x∈l,mayB x.c x.s=true
theorem rm_nil:RmO []:=fun x hx=>by cases hx
theorem rm_add {l:List Oq} {o:Oq} (h:RmO l):RmO (addL l o):=by
 unfold addL
 split
 ·rename_i he
  have hc:chkE o.k o.c o.s o.a o.n o.ch=0:=by
   by_cases hc:chkE o.k o.c o.s o.a o.n o.ch=0
   ·exact hc
   ·rw [(add_chk (l:=l) hc).1] at he; exact he
  intro x hx
  rcases List.mem_append.1 hx with hx | hx
  ·exact h x hx
  ·simp at hx; subst hx; exact (chk_parts hc).1
 ·exact h
theorem cas_rm:∀ (f:Nat) (m l:List Oq) (a:List Chg),RmO l→RmO (casG f m l a).2.1
 | 0,_,_,_,h=>h
 | f+1,m,l,a,h=>by
  rcases Int.lt_or_le (nxI m l) 0 with hn | hn
  ·rw [cas_no hn]; exact h
  ·obtain ⟨i,e,hi⟩:=nx_lt hn
   have h2:RmO (l.eraseIdx i):=fun x hx=>h x (List.mem_of_mem_eraseIdx hx)
   by_cases hw:wrongE m l[i]=0
   ·rw [cas_in e hi hw]; exact cas_rm f _ _ _ h2
   ·rw [cas_out e hi hw]; exact cas_rm f _ _ _ h2
theorem rem_rm {m l:List Oq} (h:RmO l) (o:Oq):RmO (remT m l o).2.1:=by
 unfold remT
 split
 ·exact rm_add h
 ·split
  ·exact cas_rm _ _ _ _ h
  ·exact h
theorem cas_rm2:∀ (f:Nat) (m l:List Oq) (a:List Chg),RmO m→RmO (casG f m l a).1
 | 0,_,_,_,h=>h
 | f+1,m,l,a,h=>by
  rcases Int.lt_or_le (nxI m l) 0 with hn | hn
  ·rw [cas_no hn]; exact h
  ·obtain ⟨i,e,hi⟩:=nx_lt hn
   by_cases hw:wrongE m l[i]=0
   ·rw [cas_in e hi hw]
    refine cas_rm2 f _ _ _ (fun x hx=>?_);rcases List.mem_append.1 hx with hx | hx
    ·exact h x hx
    ·simp at hx; subst hx; exact (wrong_zero hw).2.1
   ·rw [cas_out e hi hw]; exact cas_rm2 f _ _ _ h
theorem rem_rm2 {m l:List Oq} (h:RmO m) (o:Oq):RmO (remT m l o).1:=by
 unfold remT
 split
 ·exact h
 ·split
  ·rename_i hw
   refine cas_rm2 _ _ _ _ (fun x hx=>?_);rcases List.mem_append.1 hx with hx | hx
   ·exact h x hx
   ·simp at hx; subst hx; exact (wrong_zero hw).2.1
  ·exact h
structure VOk (m l:List Oq) (n:Nat):Prop where
 ok:OkO m
 rm:RmO m
 rl:RmO l
 l16:l.length≤16
 len:m.length+l.length≤n
theorem VOk.nil:VOk [] [] 0:=⟨ok_nil,rm_nil,rm_nil,by simp,by simp⟩
theorem VOk.rem {m l:List Oq} {n:Nat} (h:VOk m l n) (o:Oq):VOk (remT m l o).1 (remT m l o).2.1 (n+1):=by
 obtain ⟨h1,h2,h3,_⟩:=rem_ok h.ok h.l16 o;exact ⟨h1,rem_rm2 h.rm o,rem_rm h.rl o,h2,by have:=h.len; omega⟩
theorem VOk.more {m l:List Oq} {n k:Nat} (h:VOk m l n) (hk:n≤k):VOk m l k:=⟨h.ok,h.rm,h.rl,h.l16,Nat.le_trans h.len hk⟩
theorem topI_le {l:List Oq} (h:RmO l):topI l≤1048576:=by
 have H:∀ (l:List Oq) (n:Int),(∀ x∈l,x.c≤1048576)→n≤1048576→l.foldl (fun n x=>if n<x.c then x.c else n) n≤1048576:=by
  intro l
  induction l with
  | nil=>intro n _ hn; exact hn
  | cons x l ih=>
   intro n hx hn
   simp only [List.foldl_cons]
   refine ih _ (fun y hy=>hx y (List.mem_cons_of_mem _ hy)) ?_;have:=hx x (List.mem_cons_self ..);split <;> omega
 refine H l 0 (fun x hx=>?_) (by omega);have:=h x hx;simp [mayB] at this
 omega
theorem topM_ge (m:List Oq):∀ n,n≤topM m n:=by
 induction m with
 | nil=>intro n; exact Int.le_refl _
 | cons x m ih=>
  intro n
  unfold topM
  simp only [List.foldl_cons]
  refine Int.le_trans ?_ (ih _);split <;> omega
theorem topM_le {m:List Oq} (h:OkO m) {n:Int} (hn:n≤1048576):topM m n≤1048576:=by
 have H:∀ (l:List Oq) (n:Int),(∀ x∈l,x.k=0→x.c≤1048576)→n≤1048576→topM l n≤1048576:=by
  intro l
  induction l with
  | nil=>intro n _ hn; exact hn
  | cons x l ih=>
   intro n hx hn
   unfold topM
   simp only [List.foldl_cons]
   refine ih _ (fun y hy=>hx y (List.mem_cons_of_mem _ hy)) ?_;have:=hx x (List.mem_cons_self ..);split <;> omega
 refine H m n (fun x hx hk=>?_) hn;have:=h.may x hx hk;simp [mayB] at this
 omega
theorem ctr_in {m l:List Oq} (h:OkO m) (hr:RmO l):1≤ctrI m l∧ctrI m l≤1048577:=by
 have h1:=topM_le h (topI_le hr);have h2:=topM_ge m (topI l);have h3:=top_ge l;unfold ctrI; omega
def zeroO:Oq:=⟨0,0,0,0,0,0,by decide,by decide⟩
def inE8 (m l:List Oq) (site at_ ch:Int) (lo : -2147483648≤ch) (hi:ch≤2147483647):Int:=
 if inC8 m l site at_ ch≠0 then inC8 m l site at_ ch else remE m l (inV8 m l site at_ ch lo hi)
def inT8 (m l:List Oq) (site at_ ch:Int) (lo : -2147483648≤ch) (hi:ch≤2147483647):List Oq×List Oq×List Chg:=
 if inC8 m l site at_ ch≠0 then (m,l,[]) else remT m l (inV8 m l site at_ ch lo hi)
def deE8 (m l:List Oq) (k:Int):Int:=if namC (docR m) k=(0,0) then 2 else remE m l (deV8 m k)
def deT8 (m l:List Oq) (k:Int):List Oq×List Oq×List Chg:=if namC (docR m) k=(0,0) then (m,l,[]) else remT m l (deV8 m k)
def opP (E:Int) (o:Oq):Oq:=if E=0 then o else zeroO
theorem VOk.ins {m l:List Oq} {n:Nat} (h:VOk m l n) (site at_ ch:Int) (lo : -2147483648≤ch) (hi:ch≤2147483647):VOk (inT8 m l site at_ ch lo hi).1 (inT8 m l site at_ ch lo hi).2.1 (n+1):=by
 unfold inT8
 split
 ·exact h.more (by omega)
 ·exact h.rem _
theorem VOk.del {m l:List Oq} {n:Nat} (h:VOk m l n) (k:Int):VOk (deT8 m l k).1 (deT8 m l k).2.1 (n+1):=by
 unfold deT8
 split
 ·exact h.more (by omega)
 ·exact h.rem _
end Go.Proofs.YtemicfjmidohfaaGreatDoor
