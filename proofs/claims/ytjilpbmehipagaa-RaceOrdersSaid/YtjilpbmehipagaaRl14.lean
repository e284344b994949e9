import Derived.Test.YtjilpbmehipagaaCk14
import Derived.Test.YtjilpbmehipagaaVck
import Derived.Test.YtjilpbmehipagaaMi14
import Derived.Test.YtjilpbmehipagaaRd14
set_option maxRecDepth 100000
set_option maxHeartbeats 12800000
namespace Go.Proofs.Ytjilpbmehipagaa
open Go Go.Proofs Go.RowKit
structure Bu (b g:Nat) (W W':World):Prop where
 os:W'.os=W.os
 tape:W'.tape=W.tape
 output:W'.output=W.output
 size:W.heap.size≤W'.heap.size
 block:∀ k,k<W.heap.size→k≠b→k≠g→W'.heap[k]? = W.heap[k]?
theorem Bu.of {b g:Nat} {W W':World} (h:Below W.heap.size W W'):Bu b g W W':=⟨h.os,h.tape,h.output,h.size,fun k hk _ _=>h.block k hk⟩
theorem Bu.trans {b g:Nat} {W W' W'':World} (h:Bu b g W W') (k:Bu b g W' W''):Bu b g W W'':=
 ⟨k.os.trans h.os,k.tape.trans h.tape,k.output.trans h.output,Nat.le_trans h.size k.size,fun i hi hb hc=>(k.block i (Nat.lt_of_lt_of_le hi h.size) hb hc).trans (h.block i hi hb hc)⟩
theorem Bu.next {b g:Nat} {W0 W W':World} (h:Bu b g W0 W) (hb:Below W.heap.size W W'):Bu b g W0 W':=h.trans (Bu.of hb)
theorem Bu.set (b g:Nat) (W:World) (i:Nat) (v:Value):Bu b g W (W.setCell ⟨b,i,none⟩ v):=by
 have k:=(Below.refl 0 W).setCell (p:=⟨b,i,none⟩) (Nat.zero_le _) v;exact ⟨k.os,k.tape,k.output,k.size,fun j _ hb _=>Below.heap_setCell _ _ _ _ hb⟩
theorem Bu.put (b:Nat) {g:Nat} {W W':World} (h:W.grownBy W' (some g)):Bu b g W W':=by
 have k:=Below.of_grown (B:=0) h (Nat.zero_le _) (fun _ _=>Nat.zero_le _);exact ⟨k.os,k.tape,k.output,k.size,fun j hj _ hg=>h.block j hj fun e=>by cases e; exact hg rfl⟩
theorem Bu.below {b g B:Nat} {W W':World} (h:Bu b g W W') (hb:B≤b) (hc:B≤g) (hs:B≤W.heap.size):Below B W W':=
 ⟨h.os,h.tape,h.output,h.size,fun k hk=>h.block k (by omega) (by omega) (by omega)⟩
theorem Bu.blk {b g k:Nat} {vs:List Value} {t:TypeId} {W W':World} (h:Bu b g W W') (hk:Blk W k vs t) (hb:k≠b) (hc:k≠g):Blk W' k vs t:=by
 have hl:=hk.lt;unfold Blk at hk ⊢
 rw [h.block k hl hb hc]; exact hk
theorem OwnL.bu {B b g:Nat} {W W':World} {v:Value} {A:List Int} (h:OwnL B W v A) (hb:Bu b g W W') (h1:b<B) (h2:g<B):OwnL B W' v A:=by
 obtain ⟨ad,cap,e,h3,h4,h5⟩:=h;refine ⟨ad,cap,e,h3,h4,fun hA=>?_⟩;obtain ⟨c,off,cells,t,e2,h6,h7,h8⟩:=h5 hA;exact ⟨c,off,cells,t,e2,h6,hb.blk h7 (by omega) (by omega),h8⟩
theorem OwnL.form {B:Nat} {W:World} {v:Value} {A:List Int} (h:OwnL B W v A):∃ a n c,v=.slice a n c:=by
 obtain ⟨a,c,rfl,_⟩:=h; exact ⟨_,_,_,rfl⟩
def Clk (B:Nat) (W:World) (v:Value) (M:List Int):Prop:=∃ A,OwnL B W v A∧A.length≤16∧pad A=M
theorem Clk.next {B:Nat} {W W':World} {v:Value} {M:List Int} (h:Clk B W v M) (hb:Below W.heap.size W W'):Clk B W' v M:=by
 obtain ⟨A,h1,h2⟩:=h; exact ⟨A,h1.next hb,h2⟩
theorem Clk.bu {B b g:Nat} {W W':World} {v:Value} {M:List Int} (h:Clk B W v M) (hb:Bu b g W W') (h1:b<B) (h2:g<B):Clk B W' v M:=by
 obtain ⟨A,h3,h4⟩:=h; exact ⟨A,h3.bu hb h1 h2,h4⟩
theorem Clk.mono {B B':Nat} {W:World} {v:Value} {M:List Int} (h:Clk B W v M) (hB:B'≤B):Clk B' W v M:=by
 obtain ⟨A,h3,h4⟩:=h; exact ⟨A,h3.mono hB,h4⟩
theorem Clk.nil {B:Nat} {W:World}:Clk B W (.slice none 0 0) (List.replicate 16 0):=
 ⟨[],⟨none,0,rfl,Nat.le_refl _,by omega,fun h=>absurd rfl h⟩,by decide,rfl⟩
theorem pad_mem {A:List Int} {x:Int} (h:x∈A):x∈pad A:=List.mem_append_left _ h
theorem Clk.ex {B:Nat} {W:World} {v:Value} {L:List Ac} {P:Nat→Prop} (h:Clk B W v (vecP L P)) (hl:L.length≤1000):∃ A,IsL W v A∧MedA A∧pad A=vecP L P:=by
 obtain ⟨A,h1,h2,h3⟩:=h;refine ⟨A,h1.isL,⟨h2,fun x hx=>?_⟩,h3⟩;have:=vec_in (P:=P) hl x (h3▸pad_mem hx);omega
theorem Clk.one {B:Nat} {W:World} {v:Value} {M:List Int} (h:Clk B W v M):v.oneCell'=true:=by
 obtain ⟨A,⟨ad,cap,rfl,_⟩,_⟩:=h; rfl
abbrev KNT:TypeId:=62
abbrev zCk:Value:=.slice none 0 0
def SgO (L:List Ac) (k B g:Nat) (W:World):Prop:=∃ n F K,n≤k∧MapI Try.prog 3 g n zCk F K W∧∀ l,Clk B W (F l) (vecP L (Sg L k l))
structure KnO (L:List Ac) (k B b g:Nat) (V:List Value) (W:World):Prop where
 lb:b<B
 lg:g<B
 ne:b≠g
 sz:B≤W.heap.size
 vl:V.length=16
 bb:Blk W b (V++[.map (some g)]) KNT
 vo:∀ u:Nat,u<16→Clk B W (V.getD u undef) (vecP L (Kn L k u))
 sg:SgO L k B g W
theorem SgO.next {L:List Ac} {k B g:Nat} {W W':World} (h:SgO L k B g W) (hb:Below W.heap.size W W'):SgO L k B g W':=by
 obtain ⟨n,F,K,h1,h2,h3⟩:=h; exact ⟨n,F,K,h1,h2.next hb,fun l=>(h3 l).next hb⟩
theorem KnO.next {L:List Ac} {k B b g:Nat} {V:List Value} {W W':World} (h:KnO L k B b g V W) (hb:Below W.heap.size W W'):KnO L k B b g V W':=
 ⟨h.lb,h.lg,h.ne,Nat.le_trans h.sz hb.size,h.vl,h.bb.next hb,fun u hu=>(h.vo u hu).next hb,h.sg.next hb⟩
theorem KnO.cells {L:List Ac} {k B b g:Nat} {V:List Value} {W:World} (h:KnO L k B b g V W) {u:Nat} (hu:u<16):W.cell? ⟨b,u,none⟩=some (V.getD u undef)∧W.cell? ⟨b,16,none⟩=some (.map (some g))∧W.frozen? ⟨b,u,none⟩=false:=
 ⟨h.bb.cell u (by rw [List.getElem?_append_left (by rw [h.vl]; exact hu),List.getD_eq_getElem?_getD,List.getElem?_eq_getElem (by rw [h.vl]; exact hu)]; rfl),
  h.bb.cell 16 (by rw [List.getElem?_append_right (by rw [h.vl]; exact Nat.le_refl _),h.vl]; rfl),h.bb.free u⟩
theorem kn_not {L:List Ac} {k:Nat} {t:Int}:¬ Kn L k t k:=fun ⟨j,hj,_,h⟩=>by have:=know_lt h; omega
theorem kn_tdc {L:List Ac} {k:Nat} (hk:k<L.length):Dc L fun i=>Kn L k (acA L k).t i∨i=k:=fun i j h hij ht=>by
 rcases h with h | rfl
 ·exact .inl (kn_dc (Nat.le_of_lt hk) i j h hij ht)
 ·exact .inl ⟨i,hij,ht,.inl rfl⟩
theorem know_vec {L:List Ac} {k:Nat} (hk:k<L.length) (hn:(acA L k).k≠2):vecP L (fun i=>Kn L k (acA L k).t i∨i=k)=vecP L (Know L k):=
 vec_congr fun i=>by rw [know_iff hk]; exact ⟨fun h=>h.elim (fun a=>.inr (.inl a)) .inl,fun h=>h.elim .inr fun h=>h.elim .inl fun h=>absurd h.1 hn⟩
theorem know_join {L:List Ac} {k:Nat} (hk:k<L.length) (hn:(acA L k).k=2):joinL (vecP L fun i=>Kn L k (acA L k).t i∨i=k) (vecP L (Sg L k (acA L k).l))=vecP L (Know L k):=by
 rw [vec_join (kn_tdc hk) (sg_dc (Nat.le_of_lt hk))];exact vec_congr fun i=>by rw [know_iff hk]; exact ⟨fun h=>h.elim (fun h=>h.elim (fun a=>.inr (.inl a)) .inl) fun a=>.inr (.inr ⟨hn,a⟩),fun h=>h.elim (fun a=>.inl (.inr a)) fun h=>h.elim (fun a=>.inl (.inl a)) fun h=>.inr h.2⟩
theorem sg_join {L:List Ac} {k:Nat} (hk:k<L.length) (hn:(acA L k).k=3):joinL (vecP L (Sg L k (acA L k).l)) (vecP L (Know L k))=vecP L (Sg L (k+1) (acA L k).l):=by
 rw [vec_join (sg_dc (Nat.le_of_lt hk)) (know_dc hk)];exact vec_congr fun i=>by rw [sg_next]; exact ⟨fun h=>h.elim .inl fun a=>.inr ⟨⟨hn,rfl⟩,a⟩,fun h=>h.elim .inl fun a=>.inr a.2⟩
theorem sg_same {L:List Ac} {k:Nat} {l:Int} (hn:¬ ((acA L k).k=3∧(acA L k).l=l)):vecP L (Sg L (k+1) l)=vecP L (Sg L k l):=vec_congr fun i=>by rw [sg_next]; exact ⟨fun h=>h.elim id fun a=>absurd a.1 hn,.inl⟩
theorem kn_same {L:List Ac} {k:Nat} {t:Int} (hn:(acA L k).t≠t):vecP L (Kn L (k+1) t)=vecP L (Kn L k t):=vec_congr fun i=>by rw [kn_next]; exact ⟨fun h=>h.elim id fun a=>absurd a.1 hn,.inl⟩
theorem SgO.stay {L:List Ac} {k B g:Nat} {W:World} (h:SgO L k B g W) (hn:(acA L k).k≠3):SgO L (k+1) B g W:=by
 obtain ⟨n,F,K,h1,h2,h3⟩:=h; exact ⟨n,F,K,by omega,h2,fun l=>by rw [sg_same fun a=>hn a.1]; exact h3 l⟩
structure Mid (L:List Ac) (k B b g:Nat) (V:List Value) (w:World) (v:Value) (W:World):Prop where
 lb:b<B
 lg:g<B
 ne:b≠g
 sz:B≤w.heap.size
 vl:V.length=16
 bx:Blk W w.heap.size (acL (acA L k)) 31
 bb:Blk W b (V++[.map (some g)]) KNT
 vo:∀ u:Nat,u<16→Clk B W (V.getD u undef) (vecP L (Kn L k u))
 sg:SgO L (k+1) B g W
 ck:Clk B W v (vecP L (Know L k))
 bu:Bu b g w W
theorem Mid.next {L:List Ac} {k B b g:Nat} {V:List Value} {w W W':World} {v:Value} (h:Mid L k B b g V w v W) (hb:Below W.heap.size W W'):Mid L k B b g V w v W':=
 ⟨h.lb,h.lg,h.ne,h.sz,h.vl,h.bx.next hb,h.bb.next hb,fun u hu=>(h.vo u hu).next hb,h.sg.next hb,h.ck.next hb,h.bu.next hb⟩
theorem Mid.cells {L:List Ac} {k B b g:Nat} {V:List Value} {w W:World} {v:Value} (h:Mid L k B b g V w v W) {u:Nat} (hu:u<16):W.cell? ⟨b,u,none⟩=some (V.getD u undef)∧W.frozen? ⟨b,u,none⟩=false:=
 ⟨h.bb.cell u (by rw [List.getElem?_append_left (by rw [h.vl]; exact hu),List.getD_eq_getElem?_getD,List.getElem?_eq_getElem (by rw [h.vl]; exact hu)]; rfl),h.bb.free u⟩
theorem Mid.fin {L:List Ac} {k B b g:Nat} {V:List Value} {w W:World} {v:Value} (h:Mid L k B b g V w v W) (hk:k<L.length) {u:Nat} (hu:u<16) (ht:(acA L k).t=u):
  Clk B (W.setCell ⟨b,u,none⟩ v) v (vecP L (Know L k))∧KnO L (k+1) B b g (V.set u v) (W.setCell ⟨b,u,none⟩ v)∧Bu b g w (W.setCell ⟨b,u,none⟩ v):=by
 have hB:=Bu.set b g W u v;have hc:=h.ck.bu hB h.lb h.lg;refine ⟨hc,⟨h.lb,h.lg,h.ne,Nat.le_trans h.sz (Nat.le_trans h.bu.size hB.size),by rw [List.length_set]; exact h.vl,?_,fun j hj=>?_,?_⟩,h.bu.trans hB⟩
 ·have:=h.bb.set u v
  rwa [List.set_append_left _ _ (by rw [h.vl]; exact hu)] at this
 ·rw [List.getD_eq_getElem?_getD,List.getElem?_set]
  by_cases e:u=j
  ·subst e
   rw [if_pos rfl,if_pos (by rw [h.vl]; exact hu),←ht,vec_congr fun i=>kn_own hk];exact hc
  ·rw [if_neg e,←List.getD_eq_getElem?_getD,kn_same (by rw [ht]; omega)]
   exact (h.vo j hj).bu hB h.lb h.lg
 ·obtain ⟨n,F,K,h1,h2,h3⟩:=h.sg
  exact ⟨n,F,K,h1,h2.stay (Below.heap_setCell _ _ _ _ (fun e=>h.ne (by rw [e]))),fun l=>(h3 l).bu hB h.lb h.lg⟩
theorem SgO.put {L:List Ac} {k B g:Nat} {W:World} (hk2:k≤1000) (h:SgO L k B g W) (h0 : -9223372036854775808≤(acA L k).l) (h1:(acA L k).l≤9223372036854775807) (lg:g<B) {v:Value} (hv:Clk B W v (vecP L (Sg L (k+1) (acA L k).l))):
  ∃ W',(Instr.mapUpdate 59 (.map (some g)) (.int .i64 (acA L k).l) v).run Try.prog W=.ok () W'∧SgO L (k+1) B g W'∧Bu g g W W':=by
 obtain ⟨n,F,K,h2,h3,h4⟩:=h;obtain ⟨W',hr,hm,hg⟩:=h3.put (t:=59) (e:=49) Try.underlying3 (by kernel_rfl) (by omega) (i:=(acA L k).l) (by simp [Lit.wf]; exact ⟨h0,h1⟩) v;have hB:=Bu.put g hg;refine ⟨W',hr,⟨n+1,_,_,by omega,hm,fun l=>?_⟩,hB⟩;by_cases e:l=(acA L k).l
 ·subst e; rw [if_pos rfl]; exact hv.bu hB lg lg
 ·rw [if_neg e,sg_same fun a=>e a.2.symm]; exact (h4 l).bu hB lg lg
theorem SgO.look {g n:Nat} {F:Int→Value} {K:Int→Bool} {W:World} (h3:MapI Try.prog 3 g n zCk F K W) {l:Int} (h0 : -9223372036854775808≤l) (h1:l≤9223372036854775807):
  (Instr.lookup 59 (.map (some g)) (.int .i64 l) false).run Try.prog W=.ok (F l) W:=
 (h3.look (t:=59) (e:=49) Try.underlying3 (by kernel_rfl) (show (zeroValue 49).run Try.prog W=.ok zCk W from by kernel_rfl) (i:=l) (by simp [Lit.wf]; exact ⟨h0,h1⟩)).1
theorem Bu.wide {b g:Nat} {W W':World} (h:Bu g g W W'):Bu b g W W':=⟨h.os,h.tape,h.output,h.size,fun k hk _ hg=>h.block k hk hg hg⟩
structure Pre (L:List Ac) (k B b g:Nat) (V:List Value) (w:World) (v:Value) (M:List Int) (W:World):Prop where
 kn:KnO L k B b g V W
 bx:Blk W w.heap.size (acL (acA L k)) 31
 bu:Bu b g w W
 ck:Clk B W v M
 sz:B≤w.heap.size
theorem Pre.next {L:List Ac} {k B b g:Nat} {V:List Value} {w W W':World} {v:Value} {M:List Int} (h:Pre L k B b g V w v M W) (hb:Below W.heap.size W W'):Pre L k B b g V w v M W':=
 ⟨h.kn.next hb,h.bx.next hb,h.bu.next hb,h.ck.next hb,h.sz⟩
theorem Pre.mid {L:List Ac} {k B b g:Nat} {V:List Value} {w W:World} {v:Value} {M:List Int} (h:Pre L k B b g V w v M W) (hM:M=vecP L (Know L k)) (hn:(acA L k).k≠3):Mid L k B b g V w v W:=
 ⟨h.kn.lb,h.kn.lg,h.kn.ne,h.sz,h.kn.vl,h.bx,h.kn.bb,h.kn.vo,h.kn.sg.stay hn,hM▸h.ck,h.bu⟩
theorem Pre.mid3 {L:List Ac} {k B b g:Nat} {V:List Value} {w W W':World} {v:Value} {M:List Int} (h:Pre L k B b g V w v M W) (hM:M=vecP L (Know L k)) (hs:SgO L (k+1) B g W') (hb:Bu g g W W'):Mid L k B b g V w v W':=
 ⟨h.kn.lb,h.kn.lg,h.kn.ne,h.sz,h.kn.vl,hb.blk h.bx (by have:=h.kn.lg; have:=h.sz; omega) (by have:=h.kn.lg; have:=h.sz; omega),hb.blk h.kn.bb h.kn.ne h.kn.ne,fun u hu=>(h.kn.vo u hu).bu hb h.kn.lg h.kn.lg,hs,hM▸h.ck.bu hb h.kn.lg h.kn.lg,h.bu.trans hb.wide⟩
theorem blk3 {W:World} {b:Nat} {x y z:Value} {l:List Value} {t:TypeId} (h:Blk W b (x::y::z::l) t):W.cell? ⟨b,0,none⟩=some x∧W.cell? ⟨b,1,none⟩=some y∧W.cell? ⟨b,2,none⟩=some z:=h.c3
abbrev acV (x:Ac):Value:=.agg #[.int .i64 x.t,.int .i64 x.k,.int .i64 x.l]
def touB (x:Ac):Bool:=decide (x.k=0∨x.k=1)
def claB (x y:Ac):Bool:=decide ((x.k=0∨x.k=1)∧(y.k=0∨y.k=1)∧x.l=y.l∧(x.k=1∨y.k=1))
theorem isact_any (x:Ac) (w:World):Calls Try.prog 25 #[acV x] w fun e w'=>e=.returned (.bool (mayA1 x))∧Below w.heap.size w w':=by
 obtain ⟨t,k,l⟩:=x;have HD:=Lh (show ∀ b,decide (0≤t∧t≤15∧0≤k∧k≤3)=b→mayA1 ⟨t,k,l⟩=b from fun _ h=>h);have hb:=Lh (bA (w:=w) (o:=.cells #[.int .i64 t,.int .i64 k,.int .i64 l] 31))
 go_enter Try.func25,Try.ntmps25
 by_cases c1:0≤t
 rotate_left
 ·have HE:=Lh (HD.out false (decide_eq_false (by omega)))
  clear HD;go_wp2_with fail
  go_ret
  exact ⟨by rw [HE.out]; rfl,hb.out⟩
 by_cases c2:t<16
 rotate_left
 ·have HE:=Lh (HD.out false (decide_eq_false (by omega)))
  clear HD;go_wp2_with fail
  go_ret
  exact ⟨by rw [HE.out]; rfl,hb.out⟩
 by_cases c3:0≤k
 rotate_left
 ·have HE:=Lh (HD.out false (decide_eq_false (by omega)))
  clear HD;go_wp2_with fail
  go_ret
  exact ⟨by rw [HE.out]; rfl,hb.out⟩
 have c2':t≤15:=by omega
 have HE:=Lh (HD.out (decide (k≤3)) (by simp only [c1,c2',c3,true_and]));clear HD c2';go_wp2_with fail
 go_ret
 exact ⟨by rw [HE.out]; rfl,hb.out⟩
theorem touches_any (x:Ac) (w:World):Calls Try.prog 19 #[acV x] w fun e w'=>e=.returned (.bool (touB x))∧Below w.heap.size w w':=by
 obtain ⟨t,k,l⟩:=x;have HD:=Lh (show ∀ b,decide (k=0∨k=1)=b→touB ⟨t,k,l⟩=b from fun _ h=>h);have hb:=Lh (bA (w:=w) (o:=.cells #[.int .i64 t,.int .i64 k,.int .i64 l] 31))
 go_enter Try.func19,Try.ntmps19
 by_cases c1:k=0
 ·subst c1
  have HE:=Lh (HD.out true (by decide));clear HD;go_wp2_with fail
  go_ret
  exact ⟨by rw [HE.out]; rfl,hb.out⟩
 ·have c1':(k==0)=false:=by simpa using c1
  have HE:=Lh (HD.out (k==1) (by rw [Bool.eq_iff_iff]; simp [c1]));clear HD c1;go_wp2_with fail
  go_ret
  exact ⟨by rw [HE.out]; rfl,hb.out⟩
theorem clashes_any (x y:Ac) (w:World):Calls Try.prog 28 #[acV x,acV y] w fun e w'=>e=.returned (.bool (claB x y))∧Below w.heap.size w w':=by
 have HT:=Lh (fun t k l W=>show Calls Try.prog 19 #[.agg #[.int .i64 t,.int .i64 k,.int .i64 l]] W fun e w'=>e=.returned (.bool (touB ⟨t,k,l⟩))∧Below W.heap.size W w' from touches_any ⟨t,k,l⟩ W);obtain ⟨xt,xk,xl⟩:=x;obtain ⟨yt,yk,yl⟩:=y;have HD:=Lh (show ∀ b,(touB ⟨xt,xk,xl⟩&&(touB ⟨yt,yk,yl⟩&&((xl==yl)&&((xk==1)||(yk==1)))))=b→claB ⟨xt,xk,xl⟩ ⟨yt,yk,yl⟩=b from fun b h=>by
  rw [←h,Bool.eq_iff_iff]; simp [claB,touB])
 have hb:=Lh (show Below w.heap.size w ((w.alloc (.cells #[.int .i64 xt,.int .i64 xk,.int .i64 xl] 31)).alloc (.cells #[.int .i64 yt,.int .i64 yk,.int .i64 yl] 31)) from bA.trans (bA.mono (by simp)));have hX:=Lh (Blk.alloc (Blk.start w [.int .i64 xt,.int .i64 xk,.int .i64 xl] 31) (.cells #[.int .i64 yt,.int .i64 yk,.int .i64 yl] 31));have hY:=Lh (Blk.startAt (W:=w.alloc (.cells #[.int .i64 xt,.int .i64 xk,.int .i64 xl] 31)) (vs:=[.int .i64 yt,.int .i64 yk,.int .i64 yl]) (t:=31) (b:=w.heap.size+1) (by simp))
 dsimp only [acV]
 go_enter Try.func28,Try.ntmps28
 go_upto_region 1 with fail
 generalize (w.alloc (.cells #[.int .i64 xt,.int .i64 xk,.int .i64 xl] 31)).alloc (.cells #[.int .i64 yt,.int .i64 yk,.int .i64 yl] 31)=W0 at *
 obtain ⟨x0,x1,x2⟩:=blk3 hX.out;obtain ⟨y0,y1,y2⟩:=blk3 hY.out;have HX:=Lh (HT.out xt xk xl W0);have HY:=Lh (fun W=>HT.out yt yk yl W);have HK:=Lh (fun W (h:Below W0.heap.size W0 W)=>And.intro (hX.out.next h) (And.intro (hY.out.next h) (hb.out.trans (h.mono hb.out.size))));generalize touB ⟨xt,xk,xl⟩=tx at *
 generalize touB ⟨yt,yk,yl⟩=ty at *
 clear HT
 cases tx with
 | false=>
  go_wp2_with (go_at_call 19; refine HX.out.mono ?_; rintro e w1 ⟨rfl,hb1⟩)
  go_ret
  exact ⟨by rw [HD.out false rfl]; rfl,hb.out.trans (hb1.mono hb.out.size)⟩
 | true=>
  have HZ:=Lh (fun W (h:Below w.heap.size w W∧Blk W w.heap.size [.int .i64 xt,.int .i64 xk,.int .i64 xl] 31∧Blk W (w.heap.size+1) [.int .i64 yt,.int .i64 yk,.int .i64 yl] 31) W' (h2:Below W.heap.size W W')=>And.intro (h.1.trans (h2.mono h.1.size)) (And.intro (h.2.1.next h2) (h.2.2.next h2)));have HK:=Lh (fun W (h:Below W0.heap.size W0 W)=>And.intro (hb.out.trans (h.mono hb.out.size)) (And.intro (hX.out.next h) (hY.out.next h)));clear hX hY hb
  cases ty with
  | false=>
   go_wp2_with (first | (go_at_call 19; refine HX.out.mono ?_; clear HX; rintro e w1 ⟨rfl,hb1⟩; have H1:=Lh (HK.out w1 hb1); clear hb1 HK; obtain ⟨y0,y1,y2⟩:=blk3 H1.out.2.2) | (go_at_call 19; refine (HY.out _).mono ?_; clear HY; rintro e w2 ⟨rfl,hb2⟩; have H2:=Lh (HZ.out _ H1.out _ hb2)))
   go_ret
   exact ⟨by rw [HD.out false rfl]; rfl,H2.out.1⟩
  | true=>
   by_cases c1:xl=yl
   rotate_left
   ·have c1':(xl==yl)=false:=by simpa using c1
    rw [c1'] at HD;go_wp2_with (first | (go_at_call 19; refine HX.out.mono ?_; clear HX; rintro e w1 ⟨rfl,hb1⟩; have H1:=Lh (HK.out w1 hb1); clear hb1 HK; obtain ⟨y0,y1,y2⟩:=blk3 H1.out.2.2) | (go_at_call 19; refine (HY.out _).mono ?_; clear HY; rintro e w2 ⟨rfl,hb2⟩; have H2:=Lh (HZ.out _ H1.out _ hb2); obtain ⟨p0,p1,p2⟩:=blk3 H2.out.2.1; obtain ⟨q0,q1,q2⟩:=blk3 H2.out.2.2))
    go_ret
    exact ⟨by rw [HD.out false rfl]; rfl,H2.out.1⟩
   subst c1;by_cases c2:xk=1
   ·subst c2
    go_wp2_with (first | (go_at_call 19; refine HX.out.mono ?_; clear HX; rintro e w1 ⟨rfl,hb1⟩; have H1:=Lh (HK.out w1 hb1); clear hb1 HK; obtain ⟨y0,y1,y2⟩:=blk3 H1.out.2.2) | (go_at_call 19; refine (HY.out _).mono ?_; clear HY; rintro e w2 ⟨rfl,hb2⟩; have H2:=Lh (HZ.out _ H1.out _ hb2); obtain ⟨p0,p1,p2⟩:=blk3 H2.out.2.1; obtain ⟨q0,q1,q2⟩:=blk3 H2.out.2.2))
    go_ret
    exact ⟨by rw [HD.out true (by simp)]; rfl,H2.out.1⟩
   ·have c2':(xk==1)=false:=by simpa using c2
    have HE:=Lh (HD.out (yk==1) (by simp [c2']));clear HD c2;go_wp2_with (first | (go_at_call 19; refine HX.out.mono ?_; clear HX; rintro e w1 ⟨rfl,hb1⟩; have H1:=Lh (HK.out w1 hb1); clear hb1 HK; obtain ⟨y0,y1,y2⟩:=blk3 H1.out.2.2) | (go_at_call 19; refine (HY.out _).mono ?_; clear HY; rintro e w2 ⟨rfl,hb2⟩; have H2:=Lh (HZ.out _ H1.out _ hb2); obtain ⟨p0,p1,p2⟩:=blk3 H2.out.2.1; obtain ⟨q0,q1,q2⟩:=blk3 H2.out.2.2))
    go_ret
    exact ⟨by rw [HE.out]; rfl,H2.out.1⟩
end Go.Proofs.Ytjilpbmehipagaa
