import Derived.Test.YtjilpbmehipagaaRk14
import Derived.Deep.OwnRows
import Derived.Deep.QuietTactic
namespace Go.Proofs.Ytjilpbmehipagaa
open Go Go.Proofs Go.RowKit
noncomputable def cb (p:Prop):Bool := @decide p (Classical.propDecidable p)
theorem cb_pos {p:Prop} (h:p):cb p=true:=by unfold cb; exact @decide_eq_true p (Classical.propDecidable p) h
theorem cb_neg {p:Prop} (h:¬ p):cb p=false:=by unfold cb; exact @decide_eq_false p (Classical.propDecidable p) h
theorem cb_iff {p:Prop}:cb p=true↔p:=⟨fun h=>Classical.byContradiction fun hn=>(by rw [cb_neg hn] at h; cases h),cb_pos⟩
theorem cb_congr {p q:Prop} (h:p↔q):cb p=cb q:=by rw [propext h]
def acA (L:List Ac) (i:Nat):Ac:=L.getD i ⟨0,0,0⟩
theorem acA_eq {L:List Ac} {i:Nat} (h:i<L.length):L[i]=acA L i:=by unfold acA; rw [List.getD_eq_getElem?_getD,List.getElem?_eq_getElem h]; rfl
def dirP (L:List Ac) (i k:Nat):Prop:=(acA L i).t=(acA L k).t∨(acA L i).k=3∧(acA L k).k=2∧(acA L i).l=(acA L k).l
inductive Ord (L:List Ac):Nat→Nat→Prop
 | one {i k:Nat}:i<k→k<L.length→dirP L i k→Ord L i k
 | step {x i k:Nat}:Ord L x i→i<k→k<L.length→dirP L i k→Ord L x k
theorem Ord.lt {L:List Ac} {i k:Nat} (h:Ord L i k):i<k:=by
 induction h with
 | one a _ _=>exact a
 | step _ a _ _ ih=>omega
theorem Ord.len {L:List Ac} {i k:Nat} (h:Ord L i k):k<L.length:=by cases h <;> assumption
theorem Ord.trans {L:List Ac} {i j k:Nat} (h:Ord L i j) (h2:Ord L j k):Ord L i k:=by
 induction h2 with
 | one a b c=>exact .step h a b c
 | step _ a b c ih=>exact .step ih a b c
def Cd (L:List Ac) (k m x:Nat):Prop:=∃ j,m≤j∧j<k∧dirP L j k∧(x=j∨Ord L x j)
theorem cd_top {L:List Ac} {k x:Nat}:¬ Cd L k k x:=fun ⟨j,a,b,_⟩=>by omega
theorem cd_no {L:List Ac} {k m x:Nat} (h:¬ dirP L m k):Cd L k (m+1) x↔Cd L k m x:=
 ⟨fun ⟨j,a,b,c⟩=>⟨j,by omega,b,c⟩,fun ⟨j,a,b,c,d⟩=>⟨j,by rcases Nat.lt_or_eq_of_le a with a | rfl; exact a; exact absurd c h,b,c,d⟩⟩
theorem cd_yes {L:List Ac} {k m x:Nat} (hm:m<k) (h:dirP L m k):(Cd L k (m+1) x∨x=m∨Ord L x m)↔Cd L k m x:=by
 constructor
 ·rintro (⟨j,a,b,c⟩ | h2)
  ·exact ⟨j,by omega,b,c⟩
  ·exact ⟨m,Nat.le_refl _,hm,h,h2⟩
 ·rintro ⟨j,a,b,c,d⟩
  rcases Nat.lt_or_eq_of_le a with a | rfl
  ·exact .inl ⟨j,a,b,c,d⟩
  ·exact .inr d
theorem cd_zero {L:List Ac} {k x:Nat} (hk:k<L.length):Cd L k 0 x↔Ord L x k:=by
 constructor
 ·rintro ⟨j,_,b,c,rfl | d⟩
  ·exact .one b hk c
  ·exact .step d b hk c
 ·intro h
  cases h with
  | one a b c=>exact ⟨x,Nat.zero_le _,a,c,.inl rfl⟩
  | step d a b c=>exact ⟨_,Nat.zero_le _,a,c,.inr d⟩
def FO (L:List Ac) (k x c:Nat):Prop:=c<k∧Ord L x c
def FM (L:List Ac) (k m x c:Nat):Prop:=FO L k x c∨c=k∧Cd L k m x
def FI (L:List Ac) (k m y x c:Nat):Prop:=FM L k (m+1) x c∨c=k∧(x=m∨x<y∧Ord L x m)
theorem fm_top {L:List Ac} {k x c:Nat}:FO L k x c↔FM L k k x c:=⟨.inl,fun h=>h.elim id fun h=>absurd h.2 cd_top⟩
theorem fm_no {L:List Ac} {k m x c:Nat} (h:¬ dirP L m k):FM L k (m+1) x c↔FM L k m x c:=by unfold FM; rw [cd_no h]
theorem fi_start {L:List Ac} {k m x c:Nat}:(FM L k (m+1) x c∨x=m∧c=k)↔FI L k m 0 x c:=by
 unfold FI
 constructor
 ·rintro (h | ⟨a,b⟩)
  ·exact .inl h
  ·exact .inr ⟨b,.inl a⟩
 ·rintro (h | ⟨a,b | ⟨b,_⟩⟩)
  ·exact .inl h
  ·exact .inr ⟨b,a⟩
  ·omega
theorem fi_at {L:List Ac} {k m y:Nat} (hm:m<k):FI L k m y y m↔Ord L y m:=by
 unfold FI FM FO
 constructor
 ·rintro ((h | h) | h)
  ·exact h.2
  ·omega
  ·omega
 ·intro h; exact .inl (.inl ⟨hm,h⟩)
theorem fi_yes {L:List Ac} {k m y x c:Nat} (h:Ord L y m):(FI L k m y x c∨x=y∧c=k)↔FI L k m (y+1) x c:=by
 unfold FI
 constructor
 ·rintro ((h2 | ⟨a,b | ⟨b,d⟩⟩) | ⟨rfl,b⟩)
  ·exact .inl h2
  ·exact .inr ⟨a,.inl b⟩
  ·exact .inr ⟨a,.inr ⟨by omega,d⟩⟩
  ·exact .inr ⟨b,.inr ⟨by omega,h⟩⟩
 ·rintro (h2 | ⟨a,b | ⟨b,d⟩⟩)
  ·exact .inl (.inl h2)
  ·exact .inl (.inr ⟨a,.inl b⟩)
  ·by_cases e:x=y
   ·exact .inr ⟨e,a⟩
   ·exact .inl (.inr ⟨a,.inr ⟨by omega,d⟩⟩)
theorem fi_no {L:List Ac} {k m y x c:Nat} (h:¬ Ord L y m):FI L k m y x c↔FI L k m (y+1) x c:=by
 unfold FI
 constructor
 ·rintro (h2 | ⟨a,b | ⟨b,d⟩⟩)
  ·exact .inl h2
  ·exact .inr ⟨a,.inl b⟩
  ·exact .inr ⟨a,.inr ⟨by omega,d⟩⟩
 ·rintro (h2 | ⟨a,b | ⟨b,d⟩⟩)
  ·exact .inl h2
  ·exact .inr ⟨a,.inl b⟩
  ·by_cases e:x=y
   ·subst e; exact absurd d h
   ·exact .inr ⟨a,.inr ⟨by omega,d⟩⟩
theorem fi_end {L:List Ac} {k m x c:Nat} (hm:m<k) (h:dirP L m k):FI L k m m x c↔FM L k m x c:=by
 unfold FI FM
 rw [←cd_yes hm h]
 constructor
 ·rintro ((h2 | ⟨a,b⟩) | ⟨a,b | ⟨b,d⟩⟩)
  ·exact .inl h2
  ·exact .inr ⟨a,.inl b⟩
  ·exact .inr ⟨a,.inr (.inl b)⟩
  ·exact .inr ⟨a,.inr (.inr d)⟩
 ·rintro (h2 | ⟨a,b | b | b⟩)
  ·exact .inl (.inl h2)
  ·exact .inl (.inr ⟨a,b⟩)
  ·exact .inr ⟨a,.inl b⟩
  ·exact .inr ⟨a,.inr ⟨b.lt,b⟩⟩
theorem fo_next {L:List Ac} {k x c:Nat} (hk:k<L.length):FM L k 0 x c↔FO L (k+1) x c:=by
 unfold FM FO
 rw [cd_zero hk]
 constructor
 ·rintro (⟨a,b⟩ | ⟨rfl,b⟩)
  ·exact ⟨by omega,b⟩
  ·exact ⟨by omega,b⟩
 ·rintro ⟨a,b⟩
  by_cases e:c=k
  ·subst e; exact .inr ⟨rfl,b⟩
  ·exact .inl ⟨by omega,b⟩
structure Mat (W:World) (g n:Nat) (F:Nat→Nat→Prop):Prop where
 top:W.rowIs g 34 n (fun i=>.slice (some ⟨g+1+i,0,none⟩) n n)
 row:∀ i,i<n→W.rowIs (g+1+i) 4 n (fun c=>.bool (cb (F i c)))
theorem rowIs_next {W W':World} {b n:Nat} {t:TypeId} {f:Nat→Value} (h:W.rowIs b t n f) (hb:Below W.heap.size W W'):W'.rowIs b t n f:=h.of_block (hb.block b h.lt)
theorem Mat.next {W W':World} {g n:Nat} {F:Nat→Nat→Prop} (h:Mat W g n F) (hb:Below W.heap.size W W'):Mat W' g n F:=⟨rowIs_next h.top hb,fun i hi=>rowIs_next (h.row i hi) hb⟩
theorem Mat.congr {W:World} {g n:Nat} {F G:Nat→Nat→Prop} (h:Mat W g n F) (e:∀ x c,F x c↔G x c):Mat W g n G:=⟨h.top,fun i hi=>(h.row i hi).congr fun c _=>by rw [cb_congr (e i c)]⟩
theorem Mat.set {W:World} {g n:Nat} {F:Nat→Nat→Prop} (h:Mat W g n F) {x k:Nat}:Mat (W.setCell ⟨g+1+x,k,none⟩ (.bool true)) g n (fun y c=>F y c∨y=x∧c=k):=
 ⟨h.top.setOther (by show g≠g+1+x; omega) _,fun i hi=>by
  by_cases e:i=x
  ·subst e
   refine ((h.row i hi).set k (.bool true)).congr fun c _=>?_
   by_cases e2:c=k
   ·rw [if_pos e2,cb_pos (.inr ⟨rfl,e2⟩)]
   ·rw [if_neg e2]; exact congrArg Value.bool (cb_congr ⟨.inl,fun h=>h.elim id fun h=>absurd h.2 e2⟩)
  ·refine ((h.row i hi).setOther (by show g+1+i≠g+1+x; omega) _).congr fun c _=>?_
   exact congrArg Value.bool (cb_congr ⟨.inl,fun h=>h.elim id fun h=>absurd h.1 e⟩)⟩
theorem made_rep (z:Value) (n:Nat):madeCells #[z] n=⟨List.replicate n z⟩:=by
 apply Array.ext
 ·simp [size_madeCells]
 ·intro i h1 h2; simp [madeCells,Nat.mod_one]
end Go.Proofs.Ytjilpbmehipagaa
