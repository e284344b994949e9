import Derived.Test.YtjilpbmehipagaaVc13
namespace Go.Proofs.Ytjilpbmehipagaa
open Go Go.Proofs Go.RowKit
theorem med_pad {T:List Int} (h:T.length≤16) (hp:∀ x∈pad T,0≤x∧x≤2199023255552):MedA T:=⟨h,fun x hx=>hp x (List.mem_append_left _ hx)⟩
theorem pad_in {A:List Int} (h:MayA A):∀ x∈pad A,0≤x∧x≤1099511627776:=by
 intro x hx
 unfold pad at hx
 rcases List.mem_append.1 hx with hx | hx
 ·exact h.2 x hx
 ·rw [(List.mem_replicate.1 hx).2]; omega
theorem getD_mem {L:List Int} {k:Nat} (h:k<L.length):L.getD k 0∈L:=by
 rw [List.getD_eq_getElem?_getD,List.getElem?_eq_getElem h]; exact List.getElem_mem h
theorem tick_in {L:List Int} (hL:L.length=16) (h:∀ x∈L,0≤x∧x≤1099511627776) (i:Int):∀ x∈tickL L i,0≤x∧x≤2199023255552:=by
 intro x hx
 unfold tickL at hx
 split at hx
 ·rename_i hi
  rcases List.mem_or_eq_of_mem_set hx with hx | hx
  ·have:=h x hx; omega
  ·have:=h _ (getD_mem (L:=L) (k:=i.toNat) (by omega)); omega
 ·have:=h x hx; omega
theorem join_in {L M:List Int} {c:Int} (h:∀ x∈L,0≤x∧x≤c) (h2:∀ x∈M,0≤x∧x≤c):∀ x∈joinL L M,0≤x∧x≤c:=by
 intro x hx
 unfold joinL at hx
 rw [List.mem_iff_getElem] at hx;obtain ⟨j,hj,rfl⟩:=hx;rw [List.getElem_zipWith];have a:=h _ (List.getElem_mem (show j<L.length by simp at hj; omega));have b:=h2 _ (List.getElem_mem (show j<M.length by simp at hj; omega));split <;> omega
theorem leq_of {M N:List Int} (h:∀ j,j<16→M.getD j 0≤N.getD j 0):leqL M N=true:=leq_iff.2 h
theorem leq_join1 {M N:List Int} (h:M.length=16) (h2:N.length=16):leqL M (joinL M N)=true:=leq_of fun j hj=>by rw [join_at h h2 hj]; split <;> omega
theorem leq_join2 {M N:List Int} (h:M.length=16) (h2:N.length=16):leqL N (joinL M N)=true:=leq_of fun j hj=>by rw [join_at h h2 hj]; split <;> omega
theorem join_least {M N F:List Int} (h:M.length=16) (h2:N.length=16) (a:leqL M F=true) (b:leqL N F=true):leqL (joinL M N) F=true:=leq_of fun j hj=>by
 have a:=leq_iff.1 a j hj;have b:=leq_iff.1 b j hj;rw [join_at h h2 hj]; split <;> omega
theorem join_comm {M N:List Int} (h:M.length=16) (h2:N.length=16):joinL M N=joinL N M:=ext16 (join_len h h2) (join_len h2 h) fun j hj=>by
 rw [join_at h h2 hj,join_at h2 h hj]; split <;> split <;> omega
theorem tick_at {M:List Int} (h:M.length=16) {i:Int} (h0:0≤i) (h1:i<16) (j:Nat) (hj:j<16):(tickL M i).getD j 0=if j=i.toNat then M.getD j 0+1 else M.getD j 0:=by
 unfold tickL
 rw [if_pos ⟨h0,h1⟩,List.getD_eq_getElem?_getD,List.getElem?_set];by_cases e:i.toNat=j
 ·subst e; rw [if_pos rfl,if_pos (by omega),if_pos rfl]; rfl
 ·rw [if_neg e,if_neg (fun h=>e h.symm),List.getD_eq_getElem?_getD]
theorem leq_tick {M:List Int} (h:M.length=16) {i:Int} (h0:0≤i) (h1:i<16):leqL M (tickL M i)=true:=leq_of fun j hj=>by rw [tick_at h h0 h1 j hj]; split <;> omega
theorem tick_nle {M:List Int} (h:M.length=16) {i:Int} (h0:0≤i) (h1:i<16):leqL (tickL M i) M=false:=by
 rw [←Bool.not_eq_true,leq_iff];intro hh
 have:=hh i.toNat (by omega);rw [tick_at h h0 h1 _ (by omega),if_pos rfl] at this;omega
def Awake13Ok:Prop:=∀ w:World,Calls Try.prog 13 #[] w fun e w'=>e=.returned (.bool true)∧Below w.heap.size w w'
theorem onto {f:FuncId} {args:Array Value} {v:Value} {w W:World} (hb:Below w.heap.size w W) (h:Calls Try.prog f args W fun e W'=>e=.returned v∧Below W.heap.size W W'):Calls Try.prog f args W fun e W'=>e=.returned v∧Below w.heap.size w W':=
 h.mono fun _ _ ⟨e,k⟩=>⟨e,hb.trans (k.mono hb.size)⟩
structure Lq (B:World) (v u:Value) (r:Bool):Prop where
 go:∀ W,Below B.heap.size B W→Calls Try.prog 18 #[v,u] W fun e W'=>e=.returned (.bool r)∧Below B.heap.size B W'
def OwnU (B C:Nat) (W:World) (v:Value) (A:List Int):Prop:=∃ ad cap,v=.slice ad A.length cap∧A.length≤cap∧cap≤9223372036854775807 ∧
 (A≠[]→∃ b off cells t,ad=some ⟨b,off,none⟩∧(B≤b∧b<C)∧Blk W b cells t∧∀ j (hj:j<A.length),cells[off+j]? = some (.int .i64 A[j]))
theorem OwnL.upto {B:Nat} {W:World} {v:Value} {A:List Int} (h:OwnL B W v A):OwnU B W.heap.size W v A:=by
 obtain ⟨ad,cap,e,h1,h2,h3⟩:=h;refine ⟨ad,cap,e,h1,h2,fun hA=>?_⟩;obtain ⟨b,off,cells,t,e2,h4,hB,hc⟩:=h3 hA;exact ⟨b,off,cells,t,e2,⟨h4,hB.lt⟩,hB,hc⟩
theorem OwnU.next {B C:Nat} {W W':World} {v:Value} {A:List Int} (h:OwnU B C W v A) (hb:Below W.heap.size W W'):OwnU B C W' v A:=by
 obtain ⟨ad,cap,e,h1,h2,h3⟩:=h;refine ⟨ad,cap,e,h1,h2,fun hA=>?_⟩;obtain ⟨b,off,cells,t,e2,h4,hB,hc⟩:=h3 hA;exact ⟨b,off,cells,t,e2,h4,hB.next hb,hc⟩
theorem OwnU.other {B C:Nat} {W:World} {v:Value} {A:List Int} (h:OwnU B C W v A) {b:Nat} (hb:b<B∨C≤b) (i:Nat) (x:Value):OwnU B C (W.setCell ⟨b,i,none⟩ x) v A:=by
 obtain ⟨ad,cap,e,h1,h2,h3⟩:=h;refine ⟨ad,cap,e,h1,h2,fun hA=>?_⟩;obtain ⟨g,off,cells,t,e2,h4,hB,hc⟩:=h3 hA;exact ⟨g,off,cells,t,e2,h4,hB.other ⟨b,i,none⟩ (by show g≠b; omega) x,hc⟩
theorem OwnU.tick {B C:Nat} {W:World} {ad:Option Addr} {cap n k:Nat} {A:List Int} (hn:A.length=n) (h:OwnU B C W (.slice ad n cap) A) (hk:k<n):∃ b off x,ad=some ⟨b,off,none⟩∧(B≤b∧b<C)∧W.cell? ⟨b,off+k,none⟩=some (.int .i64 x)∧W.frozen? ⟨b,off+k,none⟩=false∧∀ y:Int,OwnU B C (W.setCell ⟨b,off+k,none⟩ (.int .i64 y)) (.slice ad n cap) (A.set k y):=by
 subst hn;obtain ⟨ad',cap',e,h1,h2,h3⟩:=h;simp only [Value.slice.injEq,true_and] at e
 obtain ⟨rfl,rfl⟩:=e;obtain ⟨b,off,cells,t,e2,h4,hB,hc⟩:=h3 (fun e=>by subst e; cases hk);refine ⟨b,off,A[k],e2,h4,hB.cell _ (hc k hk),hB.free _,fun y=>⟨ad,cap,by rw [List.length_set],by rw [List.length_set]; exact h1,h2,fun _=>⟨b,off,_,t,e2,h4,hB.set _ _,fun j hj=>?_⟩⟩⟩;rw [List.length_set] at hj;have hlt:off+k<cells.length:=(List.getElem?_eq_some_iff.1 (hc k hk)).1;by_cases e:k=j
 ·subst e; rw [List.getElem?_set_self hlt,List.getElem_set_self]
 ·rw [List.getElem?_set_ne (by omega),hc j hj,List.getElem_set_ne e]
theorem OwnL.other {B:Nat} {W:World} {v:Value} {A:List Int} (h:OwnL B W v A) {b:Nat} (hb:b<B) (i:Nat) (x:Value):OwnL B (W.setCell ⟨b,i,none⟩ x) v A:=by
 obtain ⟨ad,cap,e,h1,h2,h3⟩:=h;refine ⟨ad,cap,e,h1,h2,fun hA=>?_⟩;obtain ⟨g,off,cells,t,e2,h4,hB,hc⟩:=h3 hA;exact ⟨g,off,cells,t,e2,h4,hB.other ⟨b,i,none⟩ (by show g≠b; omega) x,hc⟩
structure Cq (B:World) (f:FuncId) (args:Array Value) (r:Value):Prop where
 go:∀ W,Below B.heap.size B W→Calls Try.prog f args W fun e W'=>e=.returned r∧Below B.heap.size B W'
end Go.Proofs.Ytjilpbmehipagaa
