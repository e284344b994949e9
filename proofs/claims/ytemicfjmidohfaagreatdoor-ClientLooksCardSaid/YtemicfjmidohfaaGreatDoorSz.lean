import Derived.Test.YtemicfjmidohfaaGreatDoorRz
import Derived.Test.YtemicfjmidohfaaGreatDoorDc
namespace Go.Proofs.YtemicfjmidohfaaGreatDoor
open Go Go.Proofs Go.RowKit
theorem acA_app {L M:List Ac} {j:Nat} (h:j<L.length):acA (L++M) j=acA L j:=by
 unfold acA; rw [List.getD_eq_getElem?_getD,List.getD_eq_getElem?_getD,List.getElem?_append_left h]
theorem acA_top {L M:List Ac} {a:Ac}:acA (L++a::M) L.length=a:=by
 unfold acA; rw [List.getD_eq_getElem?_getD,List.getElem?_append_right (Nat.le_refl _),Nat.sub_self]; rfl
theorem dir_app {L M:List Ac} {i k:Nat} (hi:i<L.length) (hk:k<L.length):dirP (L++M) i k↔dirP L i k:=by
 unfold dirP; rw [acA_app hi,acA_app hk]
theorem ord_app {L M:List Ac} {i k:Nat} (hk:k<L.length):Ord (L++M) i k↔Ord L i k:=by
 constructor
 ·intro h
  induction h with
  | one a _ c=>exact .one a hk ((dir_app (by omega) hk).1 c)
  | step _ a _ c ih=>exact .step (ih (by omega)) a hk ((dir_app (by omega) hk).1 c)
 ·intro h
  induction h with
  | one a _ c=>exact .one a (by simp; omega) ((dir_app (by omega) hk).2 c)
  | step _ a _ c ih=>exact .step (ih (by omega)) a (by simp; omega) ((dir_app (by omega) hk).2 c)
theorem know_app {L M:List Ac} {i k:Nat} (hk:k<L.length):Know (L++M) k i↔Know L k i:=by unfold Know; rw [ord_app hk]
theorem kn_up {L M:List Ac} {n i:Nat} {t:Int} (h:Kn L L.length t i) (hn:L.length≤n):Kn (L++M) n t i:=by
 obtain ⟨j,a,b,c⟩:=h;exact ⟨j,by omega,by rw [acA_app a]; exact b,(know_app a).2 c⟩
theorem sg_up {L M:List Ac} {n i:Nat} {l:Int} (h:Sg L L.length l i) (hn:L.length≤n):Sg (L++M) n l i:=by
 obtain ⟨j,a,b,b2,c⟩:=h;exact ⟨j,by omega,by rw [acA_app a]; exact b,by rw [acA_app a]; exact b2,(know_app a).2 c⟩
theorem ord_new {L M:List Ac} {a:Ac} {i:Nat} (h:Kn L L.length a.t i):Ord (L++a::M) i L.length:=by
 obtain ⟨j,hj,b,c⟩:=h;have hd:dirP (L++a::M) j L.length:=.inl (by rw [acA_app hj,acA_top]; exact b);rcases c with rfl | c
 ·exact .one hj (by simp) hd
 ·exact .step ((ord_app hj).2 c) hj (by simp) hd
theorem kn_me {L M:List Ac} {a:Ac} {n:Nat} (hn:L.length<n):Kn (L++a::M) n a.t L.length:=⟨L.length,hn,by rw [acA_top],.inl rfl⟩
theorem kn_acq {L M:List Ac} {a:Ac} {i n:Nat} (hk:a.k=2) (h:Sg L L.length a.l i) (hn:L.length<n):Kn (L++a::M) n a.t i:=by
 refine ⟨L.length,hn,by rw [acA_top],.inr ?_⟩;obtain ⟨j,hj,b,b2,c⟩:=h;have hd:dirP (L++a::M) j L.length:=.inr (by rw [acA_app hj,acA_top]; exact ⟨b,hk,b2⟩);rcases c with rfl | c
 ·exact .one hj (by simp) hd
 ·exact .step ((ord_app hj).2 c) hj (by simp) hd
theorem sg_rel {L M:List Ac} {a:Ac} {i n:Nat} (hk:a.k=3) (h:Kn L L.length a.t i) (hn:L.length<n):Sg (L++a::M) n a.l i:=
 ⟨L.length,hn,by rw [acA_top]; exact hk,by rw [acA_top],.inr (ord_new h)⟩
def AtP (L:List Ac) (p:Int) (i:Nat):Prop:=i<L.length∧(acA L i).k<2∧(acA L i).l=p
theorem atP_app {L:List Ac} {a:Ac} {p:Int} {i:Nat} (h:AtP (L++[a]) p i):AtP L p i∨i=L.length∧a.k<2∧a.l=p:=by
 obtain ⟨h1,h2,h3⟩:=h;simp only [List.length_append,List.length_cons,List.length_nil] at h1
 by_cases hi:i<L.length
 ·rw [acA_app hi] at h2 h3; exact .inl ⟨hi,h2,h3⟩
 ·obtain rfl:i=L.length:=by omega
  rw [acA_top] at h2 h3; exact .inr ⟨rfl,h2,h3⟩
structure Sfe (L:List Ac) (ho:Int→Int) (fi:Int→Bool):Prop where
 may:mayAc L=true
 q:∀ s i,0≤s→s<100→AtP L s i→(0≤ho s→Kn L L.length (ho s) i)∧(ho s<0→Sg L L.length (1000+s) i)
 f0:∀ k i,0≤k→fi k=false→¬ AtP L (100+k) i
 f1:∀ k i,0≤k→AtP L (100+k) i→(acA L i).k=1→Sg L L.length (3000+k) i
 nr:∀ i j,i<j→j<L.length→(acA L i).k<2→(acA L j).k<2→(acA L i).l=(acA L j).l→(acA L i).k=1∨(acA L j).k=1→Ord L i j
theorem Sfe.nil (ho:Int→Int) (fi:Int→Bool):Sfe [] ho fi:=⟨rfl,fun _ i _ _ h=>absurd h.1 (by simp),fun _ i _ _ h=>absurd h.1 (by simp),fun _ i _ h=>absurd h.1 (by simp),fun i j _ h=>absurd h (by simp)⟩
theorem Sfe.code {L:List Ac} {ho:Int→Int} {fi:Int→Bool} (h:Sfe L ho fi):codeL L=0:=
 code_ok h.may fun ⟨i,k,hik,hk,⟨a,b,c,d⟩,e,_⟩=>e (h.nr i k hik hk a b c d)
theorem may_add {L:List Ac} {a:Ac} (h:mayAc L=true) (ha:mayA1 a=true):mayAc (L++[a])=true:=by
 unfold mayAc at *; rw [List.all_append,h]; simp [ha]
theorem nr_add {L:List Ac} {ho:Int→Int} {fi:Int→Bool} (h:Sfe L ho fi) {a:Ac} (hx:∀ i,AtP L a.l i→(acA L i).k=1∨a.k=1→a.k<2→Kn L L.length a.t i) (i j:Nat) (hij:i<j) (hj:j<(L++[a]).length)
  (b:(acA (L++[a]) i).k<2) (c:(acA (L++[a]) j).k<2) (d:(acA (L++[a]) i).l=(acA (L++[a]) j).l) (e:(acA (L++[a]) i).k=1∨(acA (L++[a]) j).k=1):Ord (L++[a]) i j:=by
 simp only [List.length_append,List.length_cons,List.length_nil] at hj
 have hi:i<L.length:=by omega
 rw [acA_app hi] at b d e;by_cases hl:j<L.length
 ·rw [acA_app hl] at c d e; exact (ord_app hl).2 (h.nr i j hij hl b c d e)
 ·obtain rfl:j=L.length:=by omega
  rw [acA_top] at c d e;exact ord_new (hx i ⟨hi,b,d⟩ e c)
theorem len_add {L:List Ac} {a:Ac}:(L++[a]).length=L.length+1:=by simp
theorem Sfe.sign {L:List Ac} {ho:Int→Int} {fi:Int→Bool} (h:Sfe L ho fi) {a:Ac} (ha:mayA1 a=true) (hk:2≤a.k):Sfe (L++[a]) ho fi where
 may:=may_add h.may ha
 q s i h0 h1 hi:=by
  rcases atP_app hi with hi | ⟨_,b,_⟩
  ·have:=h.q s i h0 h1 hi
   rw [len_add];exact ⟨fun x=>kn_up (this.1 x) (by omega),fun x=>sg_up (this.2 x) (by omega)⟩
  ·omega
 f0 k i h0 hf hi:=by
  rcases atP_app hi with hi | ⟨_,b,_⟩
  ·exact h.f0 k i h0 hf hi
  ·omega
 f1 k i h0 hi hw:=by
  rcases atP_app hi with hi | ⟨_,b,_⟩
  ·rw [acA_app hi.1] at hw; rw [len_add]; exact sg_up (h.f1 k i h0 hi hw) (by omega)
  ·omega
 nr:=nr_add h (fun _ _ _ x=>by omega)
theorem Sfe.lock {L:List Ac} {ho:Int→Int} {fi:Int→Bool} (h:Sfe L ho fi) {t s:Int} (ht:0≤t∧t≤15) (hs:ho s<0):Sfe (L++[⟨t,2,1000+s⟩]) (fun x=>if x=s then t else ho x) fi where
 may:=may_add h.may (by simp [mayA1]; omega)
 q x i h0 h1 hi:=by
  have hi:AtP L x i:=(atP_app hi).resolve_right (fun e=>by have:=e.2.1; simp at this);have:=h.q x i h0 h1 hi;rw [len_add];split
  ·next e=>subst e; exact ⟨fun _=>kn_acq (a:=⟨t,2,1000+x⟩) rfl (this.2 hs) (by omega),fun b=>by omega⟩
  ·exact ⟨fun b=>kn_up (this.1 b) (by omega),fun b=>sg_up (this.2 b) (by omega)⟩
 f0 k i h0 hf hi:=h.f0 k i h0 hf ((atP_app hi).resolve_right (fun e=>by have:=e.2.1; simp at this))
 f1 k i h0 hi hw:=by
  have hi:AtP L (100+k) i:=(atP_app hi).resolve_right (fun e=>by have:=e.2.1; simp at this);rw [acA_app hi.1] at hw; rw [len_add]; exact sg_up (h.f1 k i h0 hi hw) (by omega)
 nr:=nr_add h (fun _ _ _ x=>by simp at x)
theorem Sfe.unlock {L:List Ac} {ho:Int→Int} {fi:Int→Bool} (h:Sfe L ho fi) {t s:Int} (ht:0≤t∧t≤15) (hs:ho s=t):Sfe (L++[⟨t,3,1000+s⟩]) (fun x=>if x=s then -1 else ho x) fi where
 may:=may_add h.may (by simp [mayA1]; omega)
 q x i h0 h1 hi:=by
  have hi:AtP L x i:=(atP_app hi).resolve_right (fun e=>by have:=e.2.1; simp at this);have:=h.q x i h0 h1 hi;rw [len_add];split
  ·next e=>subst e; exact ⟨fun b=>by omega,fun _=>sg_rel (a:=⟨t,3,1000+x⟩) rfl (by have:=this.1 (by omega); rwa [hs] at this) (by omega)⟩
  ·exact ⟨fun b=>kn_up (this.1 b) (by omega),fun b=>sg_up (this.2 b) (by omega)⟩
 f0 k i h0 hf hi:=h.f0 k i h0 hf ((atP_app hi).resolve_right (fun e=>by have:=e.2.1; simp at this))
 f1 k i h0 hi hw:=by
  have hi:AtP L (100+k) i:=(atP_app hi).resolve_right (fun e=>by have:=e.2.1; simp at this);rw [acA_app hi.1] at hw; rw [len_add]; exact sg_up (h.f1 k i h0 hi hw) (by omega)
 nr:=nr_add h (fun _ _ _ x=>by simp at x)
theorem Sfe.queue {L:List Ac} {ho:Int→Int} {fi:Int→Bool} (h:Sfe L ho fi) {t s k:Int} (ht:0≤t∧t≤15) (hs:ho s=t) (h0:0≤s) (h1:s<100) (hk:0≤k∧k<2):Sfe (L++[⟨t,k,s⟩]) ho fi where
 may:=may_add h.may (by simp [mayA1]; omega)
 q x i h0 h1 hi:=by
  rw [len_add];rcases atP_app hi with hi | ⟨rfl,_,rfl⟩
  ·have:=h.q x i h0 h1 hi
   exact ⟨fun b=>kn_up (this.1 b) (by omega),fun b=>sg_up (this.2 b) (by omega)⟩
  ·exact ⟨fun _=>by dsimp only; rw [hs]; exact kn_me (a:=⟨t,k,s⟩) (by omega),fun b=>by dsimp only at b; omega⟩
 f0 x i h0 hf hi:=by
  rcases atP_app hi with hi | ⟨_,_,e⟩
  ·exact h.f0 x i h0 hf hi
  ·dsimp only at e; omega
 f1 x i h0 hi hw:=by
  rcases atP_app hi with hi | ⟨_,_,e⟩
  ·rw [acA_app hi.1] at hw; rw [len_add]; exact sg_up (h.f1 x i h0 hi hw) (by omega)
  ·dsimp only at e; omega
 nr:=nr_add h (fun i hi _ _=>by have:=(h.q s i h0 h1 hi).1 (by omega); rwa [hs] at this)
theorem Sfe.fill {L:List Ac} {ho:Int→Int} {fi:Int→Bool} (h:Sfe L ho fi) {t k:Int} (ht:0≤t∧t≤15) (h0:0≤k) (hf:fi k=false):Sfe (L++[⟨t,1,100+k⟩]++[⟨t,3,3000+k⟩]) ho (fun x=>if x=k then true else fi x):=by
 have g:∀ p i,AtP (L++[⟨t,1,100+k⟩]++[⟨t,3,3000+k⟩]) p i→AtP L p i∨i=L.length∧p=100+k:=fun p i hi=>by
  have hi:=(atP_app hi).resolve_right (fun e=>by have:=e.2.1; simp at this);rcases atP_app hi with hi | ⟨a,_,b⟩
  ·exact .inl hi
  ·exact .inr ⟨a,b.symm⟩
 have hl:(L++[⟨t,1,100+k⟩]++[⟨t,3,3000+k⟩]:List Ac).length=L.length+2:=by simp
 have hup:∀ {u i},Kn L L.length u i→Kn (L++[⟨t,1,100+k⟩]++[⟨t,3,3000+k⟩]) (L.length+2) u i:=fun hh=>by rw [List.append_assoc]; exact kn_up hh (by omega)
 have hsu:∀ {u i},Sg L L.length u i→Sg (L++[⟨t,1,100+k⟩]++[⟨t,3,3000+k⟩]) (L.length+2) u i:=fun hh=>by rw [List.append_assoc]; exact sg_up hh (by omega)
 refine ⟨may_add (may_add h.may (by simp [mayA1]; omega)) (by simp [mayA1]; omega),fun s i a b hi=>?_,fun x i a b hi=>?_,fun x i a hi hw=>?_,fun i j hij hj b c d e=>?_⟩
 ·rw [hl]
  rcases g s i hi with hi | ⟨_,e⟩
  ·have:=h.q s i a b hi; exact ⟨fun x=>hup (this.1 x),fun x=>hsu (this.2 x)⟩
  ·omega
 ·split at b
  ·cases b
  ·next hne=>
   rcases g _ i hi with hi | ⟨_,e⟩
   ·exact h.f0 x i a b hi
   ·exact hne (by omega)
 ·rw [hl]
  rcases g _ i hi with hi | ⟨rfl,e⟩
  ·rw [List.append_assoc,acA_app hi.1] at hw; exact hsu (h.f1 x i a hi hw)
  ·obtain rfl:x=k:=by omega
   have:=sg_rel (L:=L++[⟨t,1,100+x⟩]) (M:=[]) (a:=⟨t,3,3000+x⟩) (i:=L.length) (n:=L.length+2) rfl (by rw [len_add]; exact kn_me (L:=L) (M:=[]) (a:=⟨t,1,100+x⟩) (by omega)) (by simp);exact this
 ·have hn1:=nr_add h (a:=⟨t,1,100+k⟩) (fun i hi _ _=>absurd hi (h.f0 k i h0 hf))
  rw [hl] at hj;have hi:i<(L++[⟨t,1,100+k⟩]:List Ac).length:=by rw [len_add]; omega
  by_cases hj2:j<(L++[⟨t,1,100+k⟩]:List Ac).length
  ·rw [acA_app hi] at b d e; rw [acA_app hj2] at c d e
   exact (ord_app hj2).2 (hn1 i j hij hj2 b c d e)
  ·obtain rfl:j=(L++[⟨t,1,100+k⟩]:List Ac).length:=by rw [len_add] at *; omega
   rw [acA_top] at c; simp at c
theorem Sfe.fetch {L:List Ac} {ho:Int→Int} {fi:Int→Bool} (h:Sfe L ho fi) {t k:Int} (ht:0≤t∧t≤15) (h0:0≤k) (hf:fi k=true):Sfe (L++[⟨t,2,3000+k⟩]++[⟨t,0,100+k⟩]) ho fi:=by
 have h1:Sfe (L++[⟨t,2,3000+k⟩]) ho fi:=h.sign (by simp [mayA1]; omega) (by simp);refine ⟨may_add h1.may (by simp [mayA1]; omega),fun s i a b hi=>?_,fun x i a b hi=>?_,fun x i a hi hw=>?_,nr_add h1 (fun i hi hw _=>?_)⟩
 ·rw [len_add]
  rcases atP_app hi with hi | ⟨_,_,e⟩
  ·have:=h1.q s i a b hi; exact ⟨fun x=>kn_up (this.1 x) (by omega),fun x=>sg_up (this.2 x) (by omega)⟩
  ·dsimp only at e; omega
 ·rcases atP_app hi with hi | ⟨_,_,e⟩
  ·exact h1.f0 x i a b hi
  ·dsimp only at e; obtain rfl:x=k:=by omega
   rw [hf] at b; cases b
 ·rcases atP_app hi with hi | ⟨rfl,_,e⟩
  ·rw [acA_app hi.1] at hw; rw [len_add]; exact sg_up (h1.f1 x i a hi hw) (by omega)
  ·rw [acA_top] at hw; simp at hw
 ·rcases hw with hw | hw
  ·have hi2:AtP L (100+k) i:=(atP_app hi).resolve_right (fun e=>by have:=e.2.1; simp at this)
   rw [acA_app hi2.1] at hw;exact kn_acq (L:=L) (M:=[]) (a:=⟨t,2,3000+k⟩) rfl (h.f1 k i h0 hi2 hw) (by simp)
  ·simp at hw
end Go.Proofs.YtemicfjmidohfaaGreatDoor
namespace Go.Proofs.YtemicfjmidohfaaGreatDoor
open Go Go.Proofs Go.RowKit
structure QEn where
 tk:Int
 sl:Int
 c:Cal
structure Sto where
 h:Int
 q:List QEn
 z:Bool
structure Brd where
 st:List Sto
 room:Int
 tk:Int
 up:Bool
 gone:Bool
 r:Rpl
 sl:List (Int×Ans)
 tr:List Ac
def noSt:Sto:=⟨-1,[],false⟩
def Brd.at (b:Brd) (s:Int):Sto:=b.st.getD s.toNat noSt
def Brd.did (b:Brd) (l:List Ac):Brd:={ b with tr:=b.tr++l }
theorem did_did (b:Brd) (l k:List Ac):(b.did l).did k=b.did (l++k):=by simp [Brd.did,List.append_assoc]
theorem did_len (b:Brd) (l:List Ac):(b.did l).tr.length=b.tr.length+l.length:=by simp [Brd.did]
def Brd.set (b:Brd) (s:Int) (x:Sto):Brd:={ b with st:=b.st.set s.toNat x }
def newB (site stripes room:Int):Brd:=⟨List.replicate stripes.toNat noSt,room,0,false,false,newR site,[],[]⟩
def nilB:Brd:=⟨[],0,0,false,false,⟨0,[],[],false⟩,[],[]⟩
def newBE (site stripes room:Int):Int:=if stripes<1∨8<stripes∨room<1∨16<room then 2 else newE site
def upB (b:Brd) (t:Int):Brd:=b.did [⟨t,2,2001⟩]
def raiseB (b:Brd) (t:Int):Brd:=Brd.did { b with up:=true } [⟨t,2,2001⟩,⟨t,3,2001⟩]
def lockB (b:Brd) (t s:Int):Brd:=if 0≤(b.at s).h then b else (b.set s { b.at s with h:=t }).did [⟨t,2,1000+s⟩]
def unlockB (b:Brd) (t s:Int):Brd:=(b.set s { b.at s with h := -1 }).did [⟨t,3,1000+s⟩]
def pushE (b:Brd) (s:Int):Int:=if (b.at s).z=true then 9 else if (b.at s).q.length=b.room then 8 else 0
def pushB (b:Brd) (t s slot:Int) (c:Cal):Brd:=
 if pushE b s≠0 then b.did [⟨t,0,s⟩]
 else Brd.did { b.set s { b.at s with q:=(b.at s).q++[⟨b.tk,slot,c⟩] } with tk:=b.tk+1 } [⟨t,0,s⟩,⟨t,2,2000⟩,⟨t,3,2000⟩,⟨t,1,s⟩]
def popE (b:Brd) (s ticket:Int):Option QEn:=match (b.at s).q with
 | []=>none
 | e::_=>if e.tk=ticket then some e else none
def popB (b:Brd) (t s ticket:Int):Brd:=match popE b s ticket with
 | none=>b.did [⟨t,0,s⟩]
 | some _=>(b.set s { b.at s with q:=(b.at s).q.drop 1 }).did [⟨t,0,s⟩,⟨t,1,s⟩]
def sealB (b:Brd) (t s:Int):Brd:=(b.set s { b.at s with z:=true }).did [⟨t,1,s⟩]
def emptyB (b:Brd) (t s:Int):Brd:=b.did [⟨t,0,s⟩]
def emptyA (b:Brd) (s:Int):Bool:=(b.at s).z&&(b.at s).q.isEmpty
def publB (b:Brd) (t:Int) (r:Rpl):Brd:=Brd.did { b with r:=r } [⟨t,3,2002⟩]
def loadB (b:Brd) (t:Int):Brd:=b.did [⟨t,2,2002⟩]
def slotA:List (Int×Ans)→Int→Option Ans
 | [],_=>none
 | (i,x)::l,k=>if i=k then some x else slotA l k
def slotP:List (Int×Ans)→Int→Ans→List (Int×Ans)
 | [],k,x=>[(k,x)]
 | (i,y)::l,k,x=>if i=k then (i,x)::l else (i,y)::slotP l k x
def fillB (b:Brd) (t k:Int) (x:Ans):Brd:=Brd.did { b with sl:=slotP b.sl k x } [⟨t,1,100+k⟩,⟨t,3,3000+k⟩]
def filledB (b:Brd) (t k:Int):Brd:=b.did [⟨t,2,3000+k⟩]
def filledA (b:Brd) (k:Int):Bool:=(slotA b.sl k).isSome
def fetchB (b:Brd) (t k:Int):Brd:=b.did [⟨t,0,100+k⟩]
def fetchA (b:Brd) (k:Int):Ans:=(slotA b.sl k).getD ⟨0,0,⟨#[]⟩⟩
def leaveB (b:Brd) (t:Int):Brd:=Brd.did { b with gone:=true } [⟨t,3,2003⟩]
def goneB (b:Brd) (t:Int):Brd:=b.did [⟨t,2,2003⟩]
theorem slot_put (l:List (Int×Ans)) (k j:Int) (x:Ans):slotA (slotP l k x) j=if j=k then some x else slotA l j:=by
 induction l with
 | nil=>simp only [slotP,slotA]; by_cases h:k=j <;> simp [h,eq_comm]
 | cons a l ih=>
  obtain ⟨i,y⟩:=a;unfold slotP
  by_cases hi:i=k
  ·rw [if_pos hi]; simp only [slotA]; subst hi
   by_cases h:i=j
   ·subst h; simp
   ·rw [if_neg h,if_neg h,if_neg (fun e=>h e.symm)]
  ·rw [if_neg hi]; simp only [slotA]
   by_cases h:i=j
   ·subst h; rw [if_pos rfl,if_pos rfl,if_neg hi]
   ·rw [if_neg h,if_neg h,ih]
theorem filled_fill {b:Brd} {t k j:Int} {x:Ans}:filledA (fillB b t k x) j=if j=k then true else filledA b j:=by
 unfold filledA
 show (slotA (slotP b.sl k x) j).isSome=_
 rw [slot_put]; split <;> rfl
structure BOk (b:Brd) (n:Nat):Prop where
 st:b.st.length≤8
 r0:1≤b.room
 r1:b.room≤16
 q:∀ x∈b.st,(x.q.length:Int)≤b.room
 t0:0≤b.tk
 t1:b.tk≤n
 rp:RplOk b.r n
 sl:b.sl.length≤n
 tr:b.tr.length≤4 * n
theorem BOk.more {b:Brd} {n k:Nat} (h:BOk b n) (hk:n≤k):BOk b k:=⟨h.st,h.r0,h.r1,h.q,h.t0,by have:=h.t1; omega,h.rp.more hk,Nat.le_trans h.sl hk,Nat.le_trans h.tr (by omega)⟩
theorem BOk.new {site stripes room:Int} (h:newBE site stripes room=0):BOk (newB site stripes room) 0:=by
 have hh:¬ (stripes<1∨8<stripes∨room<1∨16<room):=fun e=>by unfold newBE at h; rw [if_pos e] at h; cases h
 refine ⟨?_,?_,?_,fun x hx=>?_,Int.le_refl _,Int.le_refl _,newR_ok site,Nat.le_refl _,Nat.le_refl _⟩
 ·show (List.replicate stripes.toNat noSt).length≤8; rw [List.length_replicate]; omega
 ·show 1≤room; omega
 ·show room≤16; omega
 ·obtain rfl:=List.eq_of_mem_replicate hx; show (0:Int)≤room; omega
theorem BOk.did {b:Brd} {n:Nat} (h:BOk b n) {l:List Ac} (hl:l.length≤4):BOk (b.did l) (n+1):=
 ⟨h.st,h.r0,h.r1,h.q,h.t0,by have:=h.t1; show b.tk≤((n+1:Nat):Int); omega,h.rp.more (by omega),by have:=h.sl; show b.sl.length≤n+1; omega,by have:=h.tr; show (b.tr++l).length≤_; rw [List.length_append]; omega⟩
theorem BOk.set {b:Brd} {n:Nat} (h:BOk b n) (s:Int) {x:Sto} (hx:(x.q.length:Int)≤b.room):BOk (b.set s x) n:=
 ⟨by show (b.st.set _ _).length≤8; rw [List.length_set]; exact h.st,h.r0,h.r1,fun y hy=>by
  rcases List.mem_or_eq_of_mem_set hy with hy | rfl
  ·exact h.q y hy
  ·exact hx,h.t0,h.t1,h.rp,h.sl,h.tr⟩
theorem BOk.at {b:Brd} {n:Nat} (h:BOk b n) (s:Int):((b.at s).q.length:Int)≤b.room:=by
 unfold Brd.at
 rw [List.getD_eq_getElem?_getD]
 cases e:b.st[s.toNat]? with
 | none=>have:=h.r0; show ((noSt.q.length:Nat):Int)≤b.room; show (0:Int)≤b.room; omega
 | some x=>exact h.q x (List.mem_of_getElem? e)
theorem at_set {b:Brd} {s j:Int} {x:Sto} (hs:0≤s) (h:s<b.st.length) (hj:0≤j):(b.set s x).at j=if j=s then x else b.at j:=by
 unfold Brd.at Brd.set
 simp only [List.getD_eq_getElem?_getD,List.getElem?_set]
 by_cases e:j=s
 ·subst e; rw [if_pos rfl,if_pos rfl,if_pos (by omega)]; rfl
 ·rw [if_neg (by omega),if_neg e]
end Go.Proofs.YtemicfjmidohfaaGreatDoor
namespace Go.Proofs.YtemicfjmidohfaaGreatDoor
open Go Go.Proofs Go.RowKit
theorem Sfe.congr {L:List Ac} {ho ho':Int→Int} {fi fi':Int→Bool} (h:Sfe L ho fi) (h1:∀ s,0≤s→s<100→ho' s=ho s) (h2:∀ k,0≤k→fi' k=fi k):Sfe L ho' fi':=
 ⟨h.may,fun s i a b c=>by rw [h1 s a b]; exact h.q s i a b c,fun k i a b=>h.f0 k i a (by rw [←h2 k a]; exact b),h.f1,h.nr⟩
def BSf (b:Brd):Prop:=Sfe b.tr (fun s=>(b.at s).h) (filledA b)
theorem BSf.new {site stripes room:Int}:BSf (newB site stripes room):=Sfe.nil _ _
theorem BSf.code {b:Brd} (h:BSf b):codeL b.tr=0:=Sfe.code h
theorem app1 (L:List Ac) (a b:Ac) (M:List Ac):L++a::b::M=(L++[a])++b::M:=by simp
theorem BSf.lock {b:Brd} (h:BSf b) {t s:Int} (ht:0≤t∧t≤15) (hs:0≤s) (hl:s<b.st.length):BSf (lockB b t s):=by
 unfold lockB
 split
 ·exact h
 ·refine (Sfe.lock (s:=s) h ht (by show (b.at s).h<0; omega)).congr (fun x a _=>?_) fun _ _=>rfl
  show ((b.set s _).at x).h=_
  rw [at_set hs hl a]; split <;> rfl
theorem BSf.unlock {b:Brd} (h:BSf b) {t s:Int} (ht:0≤t∧t≤15) (hs:0≤s) (hl:s<b.st.length) (hh:(b.at s).h=t):BSf (unlockB b t s):=by
 refine (Sfe.unlock (s:=s) h ht hh).congr (fun x a _=>?_) fun _ _=>rfl
 show ((b.set s _).at x).h=_
 rw [at_set hs hl a]; split <;> rfl
theorem hold_set {b:Brd} {s x:Int} {z:Sto} (hs:0≤s) (hl:s<b.st.length) (ha:0≤x) (hz:z.h=(b.at s).h):((b.set s z).at x).h=(b.at x).h:=by
 rw [at_set hs hl ha]; split
 ·next e=>subst e; exact hz
 ·rfl
theorem BSf.read {b:Brd} (h:BSf b) {t s:Int} (ht:0≤t∧t≤15) (hs:0≤s) (hl:s<100) (hh:(b.at s).h=t):BSf (b.did [⟨t,0,s⟩]):=
 Sfe.queue (k:=0) h ht hh hs hl (by decide)
theorem BSf.seal {b:Brd} (h:BSf b) {t s:Int} (ht:0≤t∧t≤15) (hs:0≤s) (hl:s<b.st.length) (h8:b.st.length≤8) (hh:(b.at s).h=t):BSf (sealB b t s):=
 (Sfe.queue (k:=1) h ht hh hs (by omega) (by decide)).congr (fun _ a _=>hold_set hs hl a rfl) fun _ _=>rfl
theorem BSf.push {b:Brd} (h:BSf b) {t s slot:Int} {c:Cal} (ht:0≤t∧t≤15) (hs:0≤s) (hl:s<b.st.length) (h8:b.st.length≤8) (hh:(b.at s).h=t):BSf (pushB b t s slot c):=by
 have h1:=h.read ht hs (by omega) hh;unfold pushB
 split
 ·exact h1
 ·have h2:=Sfe.sign h1 (a:=⟨t,2,2000⟩) (by simp [mayA1]; omega) (by simp)
  have h3:=Sfe.sign h2 (a:=⟨t,3,2000⟩) (by simp [mayA1]; omega) (by simp);have h4:=Sfe.queue (k:=1) h3 ht hh hs (by omega) (by decide);refine Sfe.congr (L:=_) (ho:=_) (fi:=_) ?_ (fun _ a _=>hold_set hs hl a rfl) fun _ _=>rfl
  show Sfe (b.tr++[_,_,_,_]) _ _
  rw [app1,app1,app1]; exact h4
theorem BSf.pop {b:Brd} (h:BSf b) {t s k:Int} (ht:0≤t∧t≤15) (hs:0≤s) (hl:s<b.st.length) (h8:b.st.length≤8) (hh:(b.at s).h=t):BSf (popB b t s k):=by
 have h1:=h.read ht hs (by omega) hh;unfold popB
 split
 ·exact h1
 ·have h4:=Sfe.queue (k:=1) h1 ht hh hs (by omega) (by decide)
  refine Sfe.congr (L:=_) (ho:=_) (fi:=_) ?_ (fun _ a _=>hold_set hs hl a rfl) fun _ _=>rfl
  show Sfe (b.tr++[_,_]) _ _
  rw [app1]; exact h4
theorem BSf.fill {b:Brd} (h:BSf b) {t k:Int} {x:Ans} (ht:0≤t∧t≤15) (hk:0≤k) (hf:filledA b k=false):BSf (fillB b t k x):=by
 refine Sfe.congr (L:=_) (ho:=_) (fi:=_) ?_ (fun _ _ _=>rfl) fun j _=>filled_fill (b:=b) (t:=t) (k:=k) (x:=x) (j:=j)
 show Sfe (b.tr++[_,_]) _ _
 rw [app1]; exact Sfe.fill h ht hk hf
theorem BSf.look {b:Brd} (h:BSf b) {t k:Int} (ht:0≤t∧t≤15):BSf (filledB b t k):=
 Sfe.sign h (a:=⟨t,2,3000+k⟩) (by simp [mayA1]; omega) (by simp)
theorem BSf.fetch {b:Brd} (h:BSf b) {t k:Int} (ht:0≤t∧t≤15) (hk:0≤k) (hf:filledA b k=true):BSf (fetchB (filledB b t k) t k):=
 Sfe.fetch h ht hk hf
theorem BOk.lock {b:Brd} {n:Nat} (h:BOk b n) (t s:Int):BOk (lockB b t s) (n+1):=by
 unfold lockB; split
 ·exact h.more (by omega)
 ·exact BOk.did (l:=[⟨t,2,1000+s⟩]) (h.set s (x:={ b.at s with h:=t }) (h.at s)) (by simp)
theorem BOk.push {b:Brd} {n:Nat} (h:BOk b n) (t s slot:Int) (c:Cal):BOk (pushB b t s slot c) (n+1):=by
 unfold pushB
 split
 ·exact h.did (by simp)
 ·next hp=>
  have hq:((b.at s).q.length:Int)+1≤b.room:=by
   unfold pushE at hp
   have:=h.at s;split at hp
   ·omega
   ·split at hp <;> omega
  have h1:=(h.set s (x:={ b.at s with q:=(b.at s).q++[⟨b.tk,slot,c⟩] }) (by show ((((b.at s).q++[(⟨b.tk,slot,c⟩:QEn)]).length:Nat):Int)≤b.room; rw [List.length_append]; exact_mod_cast hq))
  have h2:=h1.did (l:=[⟨t,0,s⟩,⟨t,2,2000⟩,⟨t,3,2000⟩,⟨t,1,s⟩]) (by simp);exact ⟨h2.st,h2.r0,h2.r1,h2.q,by show 0≤b.tk+1; have:=h.t0; omega,by show b.tk+1≤_; have:=h.t1; omega,h2.rp,h2.sl,h2.tr⟩
theorem BOk.pop {b:Brd} {n:Nat} (h:BOk b n) (t s k:Int):BOk (popB b t s k) (n+1):=by
 unfold popB
 split
 ·exact h.did (by simp)
 ·exact (h.set s (by show (((b.at s).q.drop 1).length:Int)≤b.room; have:=h.at s; rw [List.length_drop]; omega)).did (by simp)
theorem slotP_len (l:List (Int×Ans)) (k:Int) (x:Ans):(slotP l k x).length≤l.length+1:=by
 induction l with
 | nil=>simp [slotP]
 | cons a l ih=>obtain ⟨i,y⟩:=a; unfold slotP; split <;> simp; omega
theorem BOk.fill {b:Brd} {n:Nat} (h:BOk b n) (t k:Int) (x:Ans):BOk (fillB b t k x) (n+1):=by
 have h2:=h.did (l:=[⟨t,1,100+k⟩,⟨t,3,3000+k⟩]) (by simp);exact ⟨h2.st,h2.r0,h2.r1,h2.q,h2.t0,h2.t1,h2.rp,by show (slotP b.sl k x).length≤n+1; have:=slotP_len b.sl k x; have:=h.sl; omega,h2.tr⟩
end Go.Proofs.YtemicfjmidohfaaGreatDoor
