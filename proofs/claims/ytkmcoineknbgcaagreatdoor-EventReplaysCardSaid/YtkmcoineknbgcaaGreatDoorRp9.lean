import Derived.Test.YtkmcoineknbgcaaGreatDoorEd8
namespace Go.Proofs.YtkmcoineknbgcaaGreatDoor
open Go Go.Proofs Go.RowKit
def doC (r:List Int) (c:Chg):Option (List Int):=
 if c.a<0 then none
 else if c.d=true then (if r[c.a.toNat]? = some c.ch then some (r.eraseIdx c.a.toNat) else none)
 else (if c.a.toNat≤r.length then some (r.take c.a.toNat++c.ch::r.drop c.a.toNat) else none)
def doL:List Int→List Chg→Option (List Int)
 | r,[]=>some r
 | r,c::l=>(doC r c).bind fun r'=>doL r' l
theorem doL_cons (r:List Int) (c:Chg) (l:List Chg):doL r (c::l)=(doC r c).bind fun r'=>doL r' l:=rfl
theorem doL_app:∀ (a b:List Chg) (r r':List Int),doL r a=some r'→doL r (a++b)=doL r' b
 | [],_,_,_,h=>by cases h; rfl
 | c::a,b,r,r',h=>by
  rw [List.cons_append,doL_cons];rw [doL_cons] at h
  cases hc:doC r c with
  | none=>rw [hc] at h; cases h
  | some q=>rw [hc] at h; exact doL_app a b q r' h
def SqL:Int→List Chg→Prop
 | _,[]=>True
 | q,c::l=>c.q=q+1∧SqL (q+1) l
theorem sq_app:∀ (a b:List Chg) (q:Int),SqL q a→SqL (q+a.length) b→SqL q (a++b)
 | [],b,q,_,h=>by simpa using h
 | c::a,b,q,h1,h2=>⟨h1.1,sq_app a b (q+1) h1.2 (by rw [List.length_cons,show q+((a.length+1:Nat):Int)=q+1+(a.length:Int) by omega] at h2; exact h2)⟩
theorem alv_cons (x:El) (B:List El):alv (x::B)=if x.d=true then alv B else x.ch::alv B:=by
 unfold alv
 cases h:x.d with
 | true=>simp [h]
 | false=>simp [h]
theorem rk_at9 (A B:List El):rkL (A++B) (A.length:Int)=(A.map El.al).sum:=by
 unfold rkL
 rw [Int.toNat_natCast,List.take_left'];rfl
theorem ch_at {m:List Oq} {o:Oq} {A B:List El} {e:El} (hL:docR (m++[o])=A++e::B) (hp:plO m o=(A.length:Int)):chO m o=e.ch:=by
 unfold chO
 rw [hp,hL,Int.toNat_natCast,List.getElem?_append_right (Nat.le_refl _),Nat.sub_self];rfl
theorem do_ch {m:List Oq} {o:Oq} (h:OkO m) (hw:wrongE m o=0):doC (alv (docR m)) (chgO m o)=some (alv (docR (m++[o]))):=by
 have key:∀ {A B:List El} {e:El},docR (m++[o])=A++e::B→plO m o=(A.length:Int)→chgO m o=⟨(m.length:Int)+1,((alv A).length:Int),o.c,o.s,e.ch,decide (o.k=1)⟩:=by
  intro A B e hL hp
  unfold chgO
  rw [ch_at hL hp,hp,hL,rk_at9,alv_len]
 obtain ⟨hck,hmay,hd | hc⟩:=wrong_zero hw
 ·obtain ⟨hk1,⟨x,hx,h0,h1,h2⟩,hdead⟩:=hd
  obtain ⟨i,hi,hxi⟩:=List.getElem_of_mem ((h.gd.mem x).2 ⟨hx,h0⟩);have hok2:=wrong_ok h hw;have hrow2:rowO (m++[o])=rowO m:=row_del (by omega);have hi2:i<(rowO (m++[o])).length:=by rw [hrow2]; exact hi
  have hpl:plO m o=(i:Int):=by
   have:=docR_at hok2 hi2;have e:(rowO (m++[o]))[i]=x:=by simp only [hrow2]; exact hxi
   rw [e,h1,h2] at this;exact this
  have hid:i<(docR m).length:=by rw [docR_len]; exact hi
  have hel:(docR m)[i]=elO m x:=by simp [docR,hxi]
  have hsp:docR m=(docR m).take i++elO m x::(docR m).drop (i+1):=by
   rw [←hel,←List.drop_eq_getElem_cons hid,List.take_append_drop]
  have hset:=docR_del h hk1 hi hxi ⟨h1,h2⟩;rw [List.set_eq_take_append_cons_drop,if_pos hid] at hset;have hlen:((docR m).take i).length=i:=by rw [List.length_take]; omega
  have hk:=key hset (by rw [hlen]; exact hpl);rw [hk,hset];generalize (docR m).take i=A at *
  generalize (docR m).drop (i+1)=B at *
  have hde:(elO m x).d=false:=by
   show deadO m x.c x.s=false
   rw [h1,h2]; exact hdead
  rw [hsp,alv_append,alv_append,alv_cons,alv_cons,if_neg (by rw [hde]; decide),if_pos rfl];have hdk:decide (o.k=1)=true:=decide_eq_true hk1;unfold doC
  simp only [hdk,if_true]
  rw [if_neg (by omega),Int.toNat_natCast,List.getElem?_append_right (Nat.le_refl _),Nat.sub_self];rw [if_pos (show ((elO m x).ch::alv B)[0]? = some x.ch from rfl),List.eraseIdx_append_of_length_le (Nat.le_refl _),Nat.sub_self];rfl
 ·have hle:=posR_le o (rowO m)
  have hdl:=docR_len m;have hpl:plO m o=(posR o (rowO m):Int):=docR_ins_at h hc;have hL:=docR_ins h hc;generalize posR o (rowO m)=p at *
  have hlen:((docR m).take p).length=p:=by rw [List.length_take]; omega
  have hk:=key hL (by rw [hlen]; exact hpl);rw [hk,hL];have hsp:docR m=(docR m).take p++(docR m).drop p:=(List.take_append_drop p _).symm;generalize hA:(docR m).take p=A at *
  generalize (docR m).drop p=B at *
  rw [hsp,alv_append,alv_append,alv_cons,if_neg (by show ¬ false=true; decide)];have hdk:decide (o.k=1)=false:=decide_eq_false (by rw [hc.k]; decide);unfold doC
  simp only [hdk]
  rw [if_neg (by omega),if_neg (by decide),Int.toNat_natCast,if_pos (by rw [List.length_append]; omega),List.take_left',List.drop_left']
  ·rfl
  ·rfl
theorem cas_do:∀ (f:Nat) (m l:List Oq) (a:List Chg),OkO m→∃ b,(casG f m l a).2.2=a++b∧doL (alv (docR m)) b=some (alv (docR (casG f m l a).1))∧SqL (m.length:Int) b∧(casG f m l a).1.length=m.length+b.length
 | 0,m,l,a,_=>⟨[],by rw [List.append_nil]; rfl,rfl,trivial,rfl⟩
 | f+1,m,l,a,h=>by
  rcases Int.lt_or_le (nxI m l) 0 with hn | hn
  ·rw [cas_no hn]; exact ⟨[],by rw [List.append_nil],rfl,trivial,rfl⟩
  ·obtain ⟨i,e,hi⟩:=nx_lt hn
   by_cases hw:wrongE m l[i]=0
   ·rw [cas_in e hi hw]
    obtain ⟨b,h1,h2,h3,h4⟩:=cas_do f (m++[l[i]]) (l.eraseIdx i) (a++[chgO m l[i]]) (wrong_ok h hw);refine ⟨chgO m l[i]::b,by rw [h1,List.append_assoc]; rfl,?_,⟨rfl,?_⟩,?_⟩
    ·rw [doL_cons,do_ch h hw]
     exact h2
    ·rw [List.length_append] at h3
     exact h3
    ·rw [h4,List.length_append,List.length_cons,List.length_cons,List.length_nil]; omega
   ·rw [cas_out e hi hw]
    exact cas_do f m (l.eraseIdx i) a h
theorem rem_do {m l:List Oq} (h:OkO m) (o:Oq):doL (alv (docR m)) (remT m l o).2.2=some (alv (docR (remT m l o).1))∧SqL (m.length:Int) (remT m l o).2.2∧(remT m l o).1.length=m.length+(remT m l o).2.2.length:=by
 unfold remT
 split
 ·exact ⟨rfl,trivial,rfl⟩
 ·split
  ·rename_i hw
   obtain ⟨b,h1,h2,h3,h4⟩:=cas_do l.length (m++[o]) l [chgO m o] (wrong_ok h hw);rw [h1];refine ⟨?_,⟨rfl,?_⟩,?_⟩
   ·show doL _ (chgO m o::b)=_
    rw [doL_cons,do_ch h hw];exact h2
   ·rw [List.length_append] at h3; exact h3
   ·rw [h4]; simp only [List.length_append,List.length_cons,List.length_nil]; omega
  ·exact ⟨rfl,trivial,rfl⟩
theorem ins_do {m l:List Oq} (h:OkO m) (site at_ ch:Int) (lo : -2147483648≤ch) (hi:ch≤2147483647):doL (alv (docR m)) (inT8 m l site at_ ch lo hi).2.2=some (alv (docR (inT8 m l site at_ ch lo hi).1))∧SqL (m.length:Int) (inT8 m l site at_ ch lo hi).2.2∧(inT8 m l site at_ ch lo hi).1.length=m.length+(inT8 m l site at_ ch lo hi).2.2.length:=by
 unfold inT8; split
 ·exact ⟨rfl,trivial,rfl⟩
 ·exact rem_do h _
theorem del_do {m l:List Oq} (h:OkO m) (k:Int):doL (alv (docR m)) (deT8 m l k).2.2=some (alv (docR (deT8 m l k).1))∧SqL (m.length:Int) (deT8 m l k).2.2∧(deT8 m l k).1.length=m.length+(deT8 m l k).2.2.length:=by
 unfold deT8; split
 ·exact ⟨rfl,trivial,rfl⟩
 ·exact rem_do h _
structure Ev9 (r:List Int) (q:Nat) (m:List Oq) (L:List Chg):Prop where
 d:doL r L=some (alv (docR m))
 s:SqL (q:Int) L
 n:m.length=q+L.length
 c:∀ x∈r,ChrB x
theorem Ev9.start {m:List Oq} (g:Gd m) (h:ChO m):Ev9 (alv (docR m)) m.length m []:=⟨rfl,trivial,rfl,ch_row g h⟩
theorem Ev9.step {r:List Int} {q:Nat} {m m':List Oq} {L C:List Chg} (h:Ev9 r q m L) (h1:doL (alv (docR m)) C=some (alv (docR m'))∧SqL (m.length:Int) C∧m'.length=m.length+C.length):Ev9 r q m' (L++C):=
 ⟨by rw [doL_app _ _ _ _ h.d]; exact h1.1,sq_app _ _ _ h.s (by have:=h1.2.1; rw [h.n] at this; simpa using this),by rw [h1.2.2,h.n,List.length_append,Nat.add_assoc],h.c⟩
def Bw9 (l:List Int):ByteArray:=⟨(l.flatMap Lib.encodeRune).toArray⟩
theorem txS9 (L:List El):txtS L=Bw9 (alv L):=by unfold txtS Bw9; rw [txt_alv]
theorem ch_ins9 {m l:List Oq} (h:ChO m) (site at_ ch:Int) (lo : -2147483648≤ch) (hi:ch≤2147483647):ChO (inT8 m l site at_ ch lo hi).1:=by
 unfold inT8; split
 ·exact h
 ·exact ch_rem h _
theorem ch_dl9 {m l:List Oq} (h:ChO m) (k:Int):ChO (deT8 m l k).1:=by
 unfold deT8; split
 ·exact h
 ·exact ch_rem h _
end Go.Proofs.YtkmcoineknbgcaaGreatDoor
