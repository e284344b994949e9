import Derived.Test.YtemicfjmidohfaaGreatDoorRz
import Derived.Test.YtemicfjmidohfaaGreatDoorVz
import Derived.Test.YtemicfjmidohfaaGreatDoorMi14
set_option maxRecDepth 100000
set_option maxHeartbeats 12800000
namespace Go.Proofs.YtemicfjmidohfaaGreatDoor
open Go Go.Proofs Go.RowKit
structure Bu (b g:Nat) (W W':World):Prop where
 os:W'.os=W.os
 tape:W'.tape=W.tape
 output:W'.output=W.output
 size:W.heap.size≤W'.heap.size
 block:∀ k,k<W.heap.size→k≠b→k≠g→W'.heap[k]? = W.heap[k]?
theorem Bu.of {b g:Nat} {W W':World} (h:Below W.heap.size W W'):Bu b g W W':=⟨h.os,h.tape,h.output,h.size,fun k hk _ _=>h.block k hk⟩
theorem Bu.trans {b g:Nat} {W W' W'':World} (h:Bu b g W W') (k:Bu b g W' W''):Bu b g W W'':=
 ⟨k.os.trans h.os,k.tape.trans h.tape,k.output.trans h.output,Nat.le_trans h.size k.size,fun i hi hb hc=>(k.block i (Nat.lt_of_lt_of_le hi h.size) hb hc).trans (h.block i hi hb hc)⟩
theorem Bu.next {b g:Nat} {W0 W W':World} (h:Bu b g W0 W) (hb:Below W.heap.size W W'):Bu b g W0 W':=h.trans (Bu.of hb)
theorem Bu.set (b g:Nat) (W:World) (i:Nat) (v:Value):Bu b g W (W.setCell ⟨b,i,none⟩ v):=by
 have k:=(Below.refl 0 W).setCell (p:=⟨b,i,none⟩) (Nat.zero_le _) v;exact ⟨k.os,k.tape,k.output,k.size,fun j _ hb _=>Below.heap_setCell _ _ _ _ hb⟩
theorem Bu.put (b:Nat) {g:Nat} {W W':World} (h:W.grownBy W' (some g)):Bu b g W W':=by
 have k:=Below.of_grown (B:=0) h (Nat.zero_le _) (fun _ _=>Nat.zero_le _);exact ⟨k.os,k.tape,k.output,k.size,fun j hj _ hg=>h.block j hj fun e=>by cases e; exact hg rfl⟩
theorem Bu.below {b g B:Nat} {W W':World} (h:Bu b g W W') (hb:B≤b) (hc:B≤g) (hs:B≤W.heap.size):Below B W W':=
 ⟨h.os,h.tape,h.output,h.size,fun k hk=>h.block k (by omega) (by omega) (by omega)⟩
theorem Bu.blk {b g k:Nat} {vs:List Value} {t:TypeId} {W W':World} (h:Bu b g W W') (hk:Blk W k vs t) (hb:k≠b) (hc:k≠g):Blk W' k vs t:=by
 have hl:=hk.lt;unfold Blk at hk ⊢
 rw [h.block k hl hb hc]; exact hk
theorem OwnL.bu {B b g:Nat} {W W':World} {v:Value} {A:List Int} (h:OwnL B W v A) (hb:Bu b g W W') (h1:b<B) (h2:g<B):OwnL B W' v A:=by
 obtain ⟨ad,cap,e,h3,h4,h5⟩:=h;refine ⟨ad,cap,e,h3,h4,fun hA=>?_⟩;obtain ⟨c,off,cells,t,e2,h6,h7,h8⟩:=h5 hA;exact ⟨c,off,cells,t,e2,h6,hb.blk h7 (by omega) (by omega),h8⟩
theorem OwnL.form {B:Nat} {W:World} {v:Value} {A:List Int} (h:OwnL B W v A):∃ a n c,v=.slice a n c:=by
 obtain ⟨a,c,rfl,_⟩:=h; exact ⟨_,_,_,rfl⟩
def Clk (B:Nat) (W:World) (v:Value) (M:List Int):Prop:=∃ A,OwnL B W v A∧A.length≤16∧pad A=M
theorem Clk.next {B:Nat} {W W':World} {v:Value} {M:List Int} (h:Clk B W v M) (hb:Below W.heap.size W W'):Clk B W' v M:=by
 obtain ⟨A,h1,h2⟩:=h; exact ⟨A,h1.next hb,h2⟩
theorem Clk.bu {B b g:Nat} {W W':World} {v:Value} {M:List Int} (h:Clk B W v M) (hb:Bu b g W W') (h1:b<B) (h2:g<B):Clk B W' v M:=by
 obtain ⟨A,h3,h4⟩:=h; exact ⟨A,h3.bu hb h1 h2,h4⟩
theorem Clk.mono {B B':Nat} {W:World} {v:Value} {M:List Int} (h:Clk B W v M) (hB:B'≤B):Clk B' W v M:=by
 obtain ⟨A,h3,h4⟩:=h; exact ⟨A,h3.mono hB,h4⟩
theorem Clk.nil {B:Nat} {W:World}:Clk B W (.slice none 0 0) (List.replicate 16 0):=
 ⟨[],⟨none,0,rfl,Nat.le_refl _,by omega,fun h=>absurd rfl h⟩,by decide,rfl⟩
theorem pad_mem {A:List Int} {x:Int} (h:x∈A):x∈pad A:=List.mem_append_left _ h
theorem Clk.ex {B:Nat} {W:World} {v:Value} {L:List Ac} {P:Nat→Prop} (h:Clk B W v (vecP L P)) (hl:L.length≤1000):∃ A,IsL W v A∧MedA A∧pad A=vecP L P:=by
 obtain ⟨A,h1,h2,h3⟩:=h;refine ⟨A,h1.isL,⟨h2,fun x hx=>?_⟩,h3⟩;have:=vec_in (P:=P) hl x (h3▸pad_mem hx);omega
theorem Clk.one {B:Nat} {W:World} {v:Value} {M:List Int} (h:Clk B W v M):v.oneCell'=true:=by
 obtain ⟨A,⟨ad,cap,rfl,_⟩,_⟩:=h; rfl
abbrev KNT:TypeId:=310
abbrev zCk:Value:=.slice none 0 0
def SgO (L:List Ac) (k B g:Nat) (W:World):Prop:=∃ n F K,n≤k∧MapI Tryz.prog 3 g n zCk F K W∧∀ l,Clk B W (F l) (vecP L (Sg L k l))
structure KnO (L:List Ac) (k B b g:Nat) (V:List Value) (W:World):Prop where
 lb:b<B
 lg:g<B
 ne:b≠g
 sz:B≤W.heap.size
 vl:V.length=16
 bb:Blk W b (V++[.map (some g)]) KNT
 vo:∀ u:Nat,u<16→Clk B W (V.getD u undef) (vecP L (Kn L k u))
 sg:SgO L k B g W
theorem SgO.next {L:List Ac} {k B g:Nat} {W W':World} (h:SgO L k B g W) (hb:Below W.heap.size W W'):SgO L k B g W':=by
 obtain ⟨n,F,K,h1,h2,h3⟩:=h; exact ⟨n,F,K,h1,h2.next hb,fun l=>(h3 l).next hb⟩
theorem KnO.next {L:List Ac} {k B b g:Nat} {V:List Value} {W W':World} (h:KnO L k B b g V W) (hb:Below W.heap.size W W'):KnO L k B b g V W':=
 ⟨h.lb,h.lg,h.ne,Nat.le_trans h.sz hb.size,h.vl,h.bb.next hb,fun u hu=>(h.vo u hu).next hb,h.sg.next hb⟩
theorem KnO.cells {L:List Ac} {k B b g:Nat} {V:List Value} {W:World} (h:KnO L k B b g V W) {u:Nat} (hu:u<16):W.cell? ⟨b,u,none⟩=some (V.getD u undef)∧W.cell? ⟨b,16,none⟩=some (.map (some g))∧W.frozen? ⟨b,u,none⟩=false:=
 ⟨h.bb.cell u (by rw [List.getElem?_append_left (by rw [h.vl]; exact hu),List.getD_eq_getElem?_getD,List.getElem?_eq_getElem (by rw [h.vl]; exact hu)]; rfl),
  h.bb.cell 16 (by rw [List.getElem?_append_right (by rw [h.vl]; exact Nat.le_refl _),h.vl]; rfl),h.bb.free u⟩
theorem kn_not {L:List Ac} {k:Nat} {t:Int}:¬ Kn L k t k:=fun ⟨j,hj,_,h⟩=>by have:=know_lt h; omega
theorem kn_tdc {L:List Ac} {k:Nat} (hk:k<L.length):Dc L fun i=>Kn L k (acA L k).t i∨i=k:=fun i j h hij ht=>by
 rcases h with h | rfl
 ·exact .inl (kn_dc (Nat.le_of_lt hk) i j h hij ht)
 ·exact .inl ⟨i,hij,ht,.inl rfl⟩
theorem know_vec {L:List Ac} {k:Nat} (hk:k<L.length) (hn:(acA L k).k≠2):vecP L (fun i=>Kn L k (acA L k).t i∨i=k)=vecP L (Know L k):=
 vec_congr fun i=>by rw [know_iff hk]; exact ⟨fun h=>h.elim (fun a=>.inr (.inl a)) .inl,fun h=>h.elim .inr fun h=>h.elim .inl fun h=>absurd h.1 hn⟩
theorem know_join {L:List Ac} {k:Nat} (hk:k<L.length) (hn:(acA L k).k=2):joinL (vecP L fun i=>Kn L k (acA L k).t i∨i=k) (vecP L (Sg L k (acA L k).l))=vecP L (Know L k):=by
 rw [vec_join (kn_tdc hk) (sg_dc (Nat.le_of_lt hk))];exact vec_congr fun i=>by rw [know_iff hk]; exact ⟨fun h=>h.elim (fun h=>h.elim (fun a=>.inr (.inl a)) .inl) fun a=>.inr (.inr ⟨hn,a⟩),fun h=>h.elim (fun a=>.inl (.inr a)) fun h=>h.elim (fun a=>.inl (.inl a)) fun h=>.inr h.2⟩
theorem sg_join {L:List Ac} {k:Nat} (hk:k<L.length) (hn:(acA L k).k=3):joinL (vecP L (Sg L k (acA L k).l)) (vecP L (Know L k))=vecP L (Sg L (k+1) (acA L k).l):=by
 rw [vec_join (sg_dc (Nat.le_of_lt hk)) (know_dc hk)];exact vec_congr fun i=>by rw [sg_next]; exact ⟨fun h=>h.elim .inl fun a=>.inr ⟨⟨hn,rfl⟩,a⟩,fun h=>h.elim .inl fun a=>.inr a.2⟩
theorem sg_same {L:List Ac} {k:Nat} {l:Int} (hn:¬ ((acA L k).k=3∧(acA L k).l=l)):vecP L (Sg L (k+1) l)=vecP L (Sg L k l):=vec_congr fun i=>by rw [sg_next]; exact ⟨fun h=>h.elim id fun a=>absurd a.1 hn,.inl⟩
theorem kn_same {L:List Ac} {k:Nat} {t:Int} (hn:(acA L k).t≠t):vecP L (Kn L (k+1) t)=vecP L (Kn L k t):=vec_congr fun i=>by rw [kn_next]; exact ⟨fun h=>h.elim id fun a=>absurd a.1 hn,.inl⟩
theorem SgO.stay {L:List Ac} {k B g:Nat} {W:World} (h:SgO L k B g W) (hn:(acA L k).k≠3):SgO L (k+1) B g W:=by
 obtain ⟨n,F,K,h1,h2,h3⟩:=h; exact ⟨n,F,K,by omega,h2,fun l=>by rw [sg_same fun a=>hn a.1]; exact h3 l⟩
structure Mid (L:List Ac) (k B b g:Nat) (V:List Value) (w:World) (v:Value) (W:World):Prop where
 lb:b<B
 lg:g<B
 ne:b≠g
 sz:B≤w.heap.size
 vl:V.length=16
 bx:Blk W w.heap.size (acL (acA L k)) 179
 bb:Blk W b (V++[.map (some g)]) KNT
 vo:∀ u:Nat,u<16→Clk B W (V.getD u undef) (vecP L (Kn L k u))
 sg:SgO L (k+1) B g W
 ck:Clk B W v (vecP L (Know L k))
 bu:Bu b g w W
theorem Mid.next {L:List Ac} {k B b g:Nat} {V:List Value} {w W W':World} {v:Value} (h:Mid L k B b g V w v W) (hb:Below W.heap.size W W'):Mid L k B b g V w v W':=
 ⟨h.lb,h.lg,h.ne,h.sz,h.vl,h.bx.next hb,h.bb.next hb,fun u hu=>(h.vo u hu).next hb,h.sg.next hb,h.ck.next hb,h.bu.next hb⟩
theorem Mid.cells {L:List Ac} {k B b g:Nat} {V:List Value} {w W:World} {v:Value} (h:Mid L k B b g V w v W) {u:Nat} (hu:u<16):W.cell? ⟨b,u,none⟩=some (V.getD u undef)∧W.frozen? ⟨b,u,none⟩=false:=
 ⟨h.bb.cell u (by rw [List.getElem?_append_left (by rw [h.vl]; exact hu),List.getD_eq_getElem?_getD,List.getElem?_eq_getElem (by rw [h.vl]; exact hu)]; rfl),h.bb.free u⟩
theorem Mid.fin {L:List Ac} {k B b g:Nat} {V:List Value} {w W:World} {v:Value} (h:Mid L k B b g V w v W) (hk:k<L.length) {u:Nat} (hu:u<16) (ht:(acA L k).t=u):
  Clk B (W.setCell ⟨b,u,none⟩ v) v (vecP L (Know L k))∧KnO L (k+1) B b g (V.set u v) (W.setCell ⟨b,u,none⟩ v)∧Bu b g w (W.setCell ⟨b,u,none⟩ v):=by
 have hB:=Bu.set b g W u v;have hc:=h.ck.bu hB h.lb h.lg;refine ⟨hc,⟨h.lb,h.lg,h.ne,Nat.le_trans h.sz (Nat.le_trans h.bu.size hB.size),by rw [List.length_set]; exact h.vl,?_,fun j hj=>?_,?_⟩,h.bu.trans hB⟩
 ·have:=h.bb.set u v
  rwa [List.set_append_left _ _ (by rw [h.vl]; exact hu)] at this
 ·rw [List.getD_eq_getElem?_getD,List.getElem?_set]
  by_cases e:u=j
  ·subst e
   rw [if_pos rfl,if_pos (by rw [h.vl]; exact hu),←ht,vec_congr fun i=>kn_own hk];exact hc
  ·rw [if_neg e,←List.getD_eq_getElem?_getD,kn_same (by rw [ht]; omega)]
   exact (h.vo j hj).bu hB h.lb h.lg
 ·obtain ⟨n,F,K,h1,h2,h3⟩:=h.sg
  exact ⟨n,F,K,h1,h2.stay (Below.heap_setCell _ _ _ _ (fun e=>h.ne (by rw [e]))),fun l=>(h3 l).bu hB h.lb h.lg⟩
theorem SgO.put {L:List Ac} {k B g:Nat} {W:World} (hk2:k≤1000) (h:SgO L k B g W) (h0 : -9223372036854775808≤(acA L k).l) (h1:(acA L k).l≤9223372036854775807) (lg:g<B) {v:Value} (hv:Clk B W v (vecP L (Sg L (k+1) (acA L k).l))):
  ∃ W',(Instr.mapUpdate 307 (.map (some g)) (.int .i64 (acA L k).l) v).run Tryz.prog W=.ok () W'∧SgO L (k+1) B g W'∧Bu g g W W':=by
 obtain ⟨n,F,K,h2,h3,h4⟩:=h;obtain ⟨W',hr,hm,hg⟩:=h3.put (t:=307) (e:=242) Tryz.underlying3 (by kernel_rfl) (by omega) (i:=(acA L k).l) (by simp [Lit.wf]; exact ⟨h0,h1⟩) v;have hB:=Bu.put g hg;refine ⟨W',hr,⟨n+1,_,_,by omega,hm,fun l=>?_⟩,hB⟩;by_cases e:l=(acA L k).l
 ·subst e; rw [if_pos rfl]; exact hv.bu hB lg lg
 ·rw [if_neg e,sg_same fun a=>e a.2.symm]; exact (h4 l).bu hB lg lg
theorem SgO.look {g n:Nat} {F:Int→Value} {K:Int→Bool} {W:World} (h3:MapI Tryz.prog 3 g n zCk F K W) {l:Int} (h0 : -9223372036854775808≤l) (h1:l≤9223372036854775807):
  (Instr.lookup 307 (.map (some g)) l false).run Tryz.prog W=.ok (F l) W:=
 (h3.look (t:=307) (e:=242) Tryz.underlying3 (by kernel_rfl) (show (zeroValue 242).run Tryz.prog W=.ok zCk W from by kernel_rfl) (i:=l) (by simp [Lit.wf]; exact ⟨h0,h1⟩)).1
theorem Bu.wide {b g:Nat} {W W':World} (h:Bu g g W W'):Bu b g W W':=⟨h.os,h.tape,h.output,h.size,fun k hk _ hg=>h.block k hk hg hg⟩
structure Pre (L:List Ac) (k B b g:Nat) (V:List Value) (w:World) (v:Value) (M:List Int) (W:World):Prop where
 kn:KnO L k B b g V W
 bx:Blk W w.heap.size (acL (acA L k)) 179
 bu:Bu b g w W
 ck:Clk B W v M
 sz:B≤w.heap.size
theorem Pre.next {L:List Ac} {k B b g:Nat} {V:List Value} {w W W':World} {v:Value} {M:List Int} (h:Pre L k B b g V w v M W) (hb:Below W.heap.size W W'):Pre L k B b g V w v M W':=
 ⟨h.kn.next hb,h.bx.next hb,h.bu.next hb,h.ck.next hb,h.sz⟩
theorem Pre.mid {L:List Ac} {k B b g:Nat} {V:List Value} {w W:World} {v:Value} {M:List Int} (h:Pre L k B b g V w v M W) (hM:M=vecP L (Know L k)) (hn:(acA L k).k≠3):Mid L k B b g V w v W:=
 ⟨h.kn.lb,h.kn.lg,h.kn.ne,h.sz,h.kn.vl,h.bx,h.kn.bb,h.kn.vo,h.kn.sg.stay hn,hM▸h.ck,h.bu⟩
theorem Pre.mid3 {L:List Ac} {k B b g:Nat} {V:List Value} {w W W':World} {v:Value} {M:List Int} (h:Pre L k B b g V w v M W) (hM:M=vecP L (Know L k)) (hs:SgO L (k+1) B g W') (hb:Bu g g W W'):Mid L k B b g V w v W':=
 ⟨h.kn.lb,h.kn.lg,h.kn.ne,h.sz,h.kn.vl,hb.blk h.bx (by have:=h.kn.lg; have:=h.sz; omega) (by have:=h.kn.lg; have:=h.sz; omega),hb.blk h.kn.bb h.kn.ne h.kn.ne,fun u hu=>(h.kn.vo u hu).bu hb h.kn.lg h.kn.lg,hs,hM▸h.ck.bu hb h.kn.lg h.kn.lg,h.bu.trans hb.wide⟩
theorem blk3 {W:World} {b:Nat} {x y z:Value} {l:List Value} {t:TypeId} (h:Blk W b (x::y::z::l) t):W.cell? ⟨b,0,none⟩=some x∧W.cell? ⟨b,1,none⟩=some y∧W.cell? ⟨b,2,none⟩=some z:=h.c3
abbrev acV (x:Ac):Value:=.agg #[x.t,x.k,x.l]
def touB (x:Ac):Bool:=decide (x.k=0∨x.k=1)
def claB (x y:Ac):Bool:=decide ((x.k=0∨x.k=1)∧(y.k=0∨y.k=1)∧x.l=y.l∧(x.k=1∨y.k=1))
theorem isact_any (x:Ac) (w:World):Calls Tryz.prog 197 #[acV x] w (Rt (.bool (mayA1 x)) w):=by
 obtain ⟨t,k,l⟩:=x;have HD:=Lh (show ∀ b,decide (0≤t∧t≤15∧0≤k∧k≤3)=b→mayA1 ⟨t,k,l⟩=b from fun _ h=>h);have hb:=Lh (bA (w:=w) (o:=.cells #[t,k,l] 179))
 go_enter Tryz.func197,Tryz.ntmps197
 by_cases c1:0≤t
 rotate_left
 ·have HE:=Lh (HD.out false (decide_eq_false (by omega)))
  clear HD;go_wp2_with fail
  go_ret
  exact ⟨by rw [HE.out]; rfl,hb.out⟩
 by_cases c2:t<16
 rotate_left
 ·have HE:=Lh (HD.out false (decide_eq_false (by omega)))
  clear HD;go_wp2_with fail
  go_ret
  exact ⟨by rw [HE.out]; rfl,hb.out⟩
 by_cases c3:0≤k
 rotate_left
 ·have HE:=Lh (HD.out false (decide_eq_false (by omega)))
  clear HD;go_wp2_with fail
  go_ret
  exact ⟨by rw [HE.out]; rfl,hb.out⟩
 have c2':t≤15:=by omega
 have HE:=Lh (HD.out (decide (k≤3)) (by simp only [c1,c2',c3,true_and]));clear HD c2';go_wp2_with fail
 go_ret
 exact ⟨by rw [HE.out]; rfl,hb.out⟩
theorem touches_any (x:Ac) (w:World):Calls Tryz.prog 143 #[acV x] w (Rt (.bool (touB x)) w):=by
 obtain ⟨t,k,l⟩:=x;have HD:=Lh (show ∀ b,decide (k=0∨k=1)=b→touB ⟨t,k,l⟩=b from fun _ h=>h);have hb:=Lh (bA (w:=w) (o:=.cells #[t,k,l] 179))
 go_enter Tryz.func143,Tryz.ntmps143
 by_cases c1:k=0
 ·subst c1
  have HE:=Lh (HD.out true (by decide));clear HD;go_wp2_with fail
  go_ret
  exact ⟨by rw [HE.out]; rfl,hb.out⟩
 ·have c1':(k==0)=false:=by simpa using c1
  have HE:=Lh (HD.out (k==1) (by rw [Bool.eq_iff_iff]; simp [c1]));clear HD c1;go_wp2_with fail
  go_ret
  exact ⟨by rw [HE.out]; rfl,hb.out⟩
theorem rclash_any (x y:Ac) (w:World):Calls Tryz.prog 199 #[acV x,acV y] w (Rt (.bool (claB x y)) w):=by
 have HT:=Lh (fun (t k l:Int) W=>show Calls Tryz.prog 143 #[.agg #[t,k,l]] W (Rt (.bool (touB ⟨t,k,l⟩)) W) from touches_any ⟨t,k,l⟩ W);obtain ⟨xt,xk,xl⟩:=x;obtain ⟨yt,yk,yl⟩:=y;have HD:=Lh (show ∀ b,(touB ⟨xt,xk,xl⟩&&(touB ⟨yt,yk,yl⟩&&((xl==yl)&&((xk==1)||(yk==1)))))=b→claB ⟨xt,xk,xl⟩ ⟨yt,yk,yl⟩=b from fun b h=>by
  rw [←h,Bool.eq_iff_iff]; simp [claB,touB])
 have hb:=Lh (show Below w.heap.size w ((w.alloc (.cells #[xt,xk,xl] 179)).alloc (.cells #[yt,yk,yl] 179)) from bA.trans (bA.mono (by simp)));have hX:=Lh (Blk.alloc (Blk.start w [xt,xk,xl] 179) (.cells #[yt,yk,yl] 179));have hY:=Lh (Blk.startAt (W:=w.alloc (.cells #[xt,xk,xl] 179)) (vs:=[.int .i64 yt,.int .i64 yk,.int .i64 yl]) (t:=179) (b:=w.heap.size+1) (by simp))
 dsimp only [acV]
 go_enter Tryz.func199,Tryz.ntmps199
 go_upto_region 1 with fail
 generalize World.alloc _ _=W0 at *
 obtain ⟨x0,x1,x2⟩:=blk3 hX.out;obtain ⟨y0,y1,y2⟩:=blk3 hY.out;have HX:=Lh (HT.out xt xk xl W0);have HY:=Lh (fun W=>HT.out yt yk yl W);have HK:=Lh (fun W (h:Below W0.heap.size W0 W)=>And.intro (hX.out.next h) (And.intro (hY.out.next h) (hb.out.trans (h.mono hb.out.size))));generalize touB ⟨xt,xk,xl⟩=tx at *
 generalize touB ⟨yt,yk,yl⟩=ty at *
 clear HT
 cases tx with
 | false=>
  go_wp2_with (go_at_call 143; refine HX.out.mono ?_; rintro e w1 ⟨rfl,hb1⟩)
  go_ret
  exact ⟨by rw [HD.out false rfl]; rfl,hb.out.trans (hb1.mono hb.out.size)⟩
 | true=>
  have HZ:=Lh (fun W (h:Below w.heap.size w W∧Blk W w.heap.size [xt,xk,xl] 179∧Blk W (w.heap.size+1) [yt,yk,yl] 179) W' (h2:Below W.heap.size W W')=>And.intro (h.1.trans (h2.mono h.1.size)) (And.intro (h.2.1.next h2) (h.2.2.next h2)));have HK:=Lh (fun W (h:Below W0.heap.size W0 W)=>And.intro (hb.out.trans (h.mono hb.out.size)) (And.intro (hX.out.next h) (hY.out.next h)));clear hX hY hb
  cases ty with
  | false=>
   go_wp2_with (first | (go_at_call 143; refine HX.out.mono ?_; clear HX; rintro e w1 ⟨rfl,hb1⟩; have H1:=Lh (HK.out w1 hb1); clear hb1 HK; obtain ⟨y0,y1,y2⟩:=blk3 H1.out.2.2) | (go_at_call 143; refine (HY.out _).mono ?_; clear HY; rintro e w2 ⟨rfl,hb2⟩; have H2:=Lh (HZ.out _ H1.out _ hb2)))
   go_ret
   exact ⟨by rw [HD.out false rfl]; rfl,H2.out.1⟩
  | true=>
   by_cases c1:xl=yl
   rotate_left
   ·have c1':(xl==yl)=false:=by simpa using c1
    rw [c1'] at HD;go_wp2_with (first | (go_at_call 143; refine HX.out.mono ?_; clear HX; rintro e w1 ⟨rfl,hb1⟩; have H1:=Lh (HK.out w1 hb1); clear hb1 HK; obtain ⟨y0,y1,y2⟩:=blk3 H1.out.2.2) | (go_at_call 143; refine (HY.out _).mono ?_; clear HY; rintro e w2 ⟨rfl,hb2⟩; have H2:=Lh (HZ.out _ H1.out _ hb2); obtain ⟨p0,p1,p2⟩:=blk3 H2.out.2.1; obtain ⟨q0,q1,q2⟩:=blk3 H2.out.2.2))
    go_ret
    exact ⟨by rw [HD.out false rfl]; rfl,H2.out.1⟩
   subst c1;by_cases c2:xk=1
   ·subst c2
    go_wp2_with (first | (go_at_call 143; refine HX.out.mono ?_; clear HX; rintro e w1 ⟨rfl,hb1⟩; have H1:=Lh (HK.out w1 hb1); clear hb1 HK; obtain ⟨y0,y1,y2⟩:=blk3 H1.out.2.2) | (go_at_call 143; refine (HY.out _).mono ?_; clear HY; rintro e w2 ⟨rfl,hb2⟩; have H2:=Lh (HZ.out _ H1.out _ hb2); obtain ⟨p0,p1,p2⟩:=blk3 H2.out.2.1; obtain ⟨q0,q1,q2⟩:=blk3 H2.out.2.2))
    go_ret
    exact ⟨by rw [HD.out true (by simp)]; rfl,H2.out.1⟩
   ·have c2':(xk==1)=false:=by simpa using c2
    have HE:=Lh (HD.out (yk==1) (by simp [c2']));clear HD c2;go_wp2_with (first | (go_at_call 143; refine HX.out.mono ?_; clear HX; rintro e w1 ⟨rfl,hb1⟩; have H1:=Lh (HK.out w1 hb1); clear hb1 HK; obtain ⟨y0,y1,y2⟩:=blk3 H1.out.2.2) | (go_at_call 143; refine (HY.out _).mono ?_; clear HY; rintro e w2 ⟨rfl,hb2⟩; have H2:=Lh (HZ.out _ H1.out _ hb2); obtain ⟨p0,p1,p2⟩:=blk3 H2.out.2.1; obtain ⟨q0,q1,q2⟩:=blk3 H2.out.2.2))
    go_ret
    exact ⟨by rw [HE.out]; rfl,H2.out.1⟩
end Go.Proofs.YtemicfjmidohfaaGreatDoor
set_option maxRecDepth 100000
set_option maxHeartbeats 12800000
namespace Go.Proofs.YtemicfjmidohfaaGreatDoor
open Go Go.Proofs Go.RowKit
theorem istrace_any (L:List Ac) (v:Value) (w:World) (h:IsAc w v L):Calls Tryz.prog 140 #[v] w (Rt (.bool (mayAc L)) w):=by
 obtain ⟨ad,cap,rfl,h1,h2,h3⟩:=h;have HL:=Lh h3;clear h3;have hl:L.length≤9223372036854775807:=by omega
 have HI:=Lh (fun (t k l:Int) W=>show Calls Tryz.prog 197 #[.agg #[t,k,l]] W (Rt (.bool (mayA1 ⟨t,k,l⟩)) W) from isact_any ⟨t,k,l⟩ W)
 go_enter Tryz.func140,Tryz.ntmps140
 go_wp2_with fail
 go_loopg [7] L.length (fun g t7 wr=>∃ k:Nat,k≤L.length∧g=L.length-k∧t7=.int .i64 (k:Int)∧Hid (∀ x∈L.take k,mayA1 x=true)∧Below w.heap.size w wr)
 case atStart=>exact ⟨0,Nat.zero_le _,rfl,rfl,Lh (fun x hx=>by cases hx),Below.refl _ _⟩
 case round=>
  obtain ⟨k,hk,rfl,rfl,HT,hb⟩:=hrel;by_cases hlt:k<L.length
  ·obtain ⟨b,off,rfl,hbw,hc⟩:=HL.out (fun e=>by rw [e] at hlt; cases hlt)
   have c0:=(hb.cell (p:=⟨b,off+k * 3,none⟩) hbw).trans (hc k hlt).1;have c1:=(hb.cell (p:=⟨b,off+k * 3+1,none⟩) hbw).trans (hc k hlt).2.1;have c2:=(hb.cell (p:=⟨b,off+k * 3+2,none⟩) hbw).trans (hc k hlt).2.2;have HTK:=Lh (show L.take (k+1)=L.take k++[L[k]] from List.take_succ_eq_append_getElem hlt);have HM:=Lh (show ¬ mayA1 L[k]=true→mayAc L=false from fun h=>by
    rw [←Bool.not_eq_true,mayAc,List.all_eq_true]; exact fun hh=>h (hh _ (List.getElem_mem hlt)))
   generalize L[k]=x at *
   obtain ⟨xt,xk,xl⟩:=x;simp only at c0 c1 c2
   have HB:=Lh (hb.trans ((bA (w:=wr) (o:=.cells #[xt,xk,xl] 179)).mono hb.size));have HQ:=Lh (HI.out xt xk xl);clear hc hb
   cases hx:mayA1 ⟨xt,xk,xl⟩ with
   | true=>
    rw [hx] at HQ;have HX:=Lh hx;clear hx HM;go_wp2_with (go_at_call 197; refine (HQ.out _).mono ?_; rintro e w2 ⟨rfl,hb2⟩)
    go_roundg (L.length-(k+1))
    case measure=>omega
    case rel=>exact ⟨k+1,by omega,rfl,by go_num,Lh (by
     intro y hy
     rw [HTK.out,List.mem_append] at hy;rcases hy with hy | hy
     ·exact HT.out y hy
     ·rw [List.mem_singleton] at hy; subst hy; exact HX.out),HB.out.trans (hb2.mono HB.out.size)⟩
   | false=>
    rw [hx] at HQ;have HN:=Lh (HM.out (by rw [hx]; decide));clear hx HM HT HTK;go_wp2_with (go_at_call 197; refine (HQ.out _).mono ?_; rintro e w2 ⟨rfl,hb2⟩)
    go_ret
    exact ⟨by rw [HN.out]; rfl,HB.out.trans (hb2.mono HB.out.size)⟩
  ·obtain rfl:k=L.length:=by omega
   have hall:mayAc L=true:=by
    have h:=HT.out;rw [List.take_length] at h;rw [mayAc,List.all_eq_true]; exact h
   have HN:=Lh hall;clear hall HT;go_wp2_with fail
   go_ret
   exact ⟨by rw [HN.out]; rfl,hb⟩
theorem kno_of {L:List Ac} {B b g:Nat} {K:Int→Bool} {W:World} (hb:b<B) (hg:g<B) (ne:b≠g) (hs:B≤W.heap.size) (hB:Blk W b (List.replicate 16 zCk++[.map (some g)]) KNT) (hm:MapI Tryz.prog 3 g 0 zCk (fun _=>zCk) K W):KnO L 0 B b g (List.replicate 16 zCk) W:=by
 refine ⟨hb,hg,ne,hs,by simp,hB,fun u hu=>?_,0,_,_,Nat.le_refl _,hm,fun l=>?_⟩;rw [List.getD_eq_getElem?_getD,List.getElem?_replicate,if_pos hu];rotate_left;rotate_left
 all_goals
  rw [vec_none fun i ⟨j,hj,_⟩=>absurd hj (Nat.not_lt_zero _)];exact Clk.nil
theorem unknowing_any (w:World):Calls Tryz.prog 141 #[] w fun e w'=>∃ b g K,e=.returned (.pointer (some ⟨b,0,none⟩))∧w.heap.size≤b∧w.heap.size≤g∧b≠g∧b<w'.heap.size∧g<w'.heap.size∧Blk w' b (List.replicate 16 zCk++[.map (some g)]) KNT∧MapI Tryz.prog 3 g 0 zCk (fun _=>zCk) K w'∧Below w.heap.size w w':=by
 have H:=Lh (And.intro (Blk.startAt (W:=w.alloc (.map #[] 0)) (vs:=List.replicate 16 zCk++[.map (some w.heap.size)]) (t:=KNT) (b:=w.heap.size+1) (by simp)) ((MapI.start (P:=Tryz.prog) (kt:=3) (z:=zCk) w).next (bA (o:=.cells ⟨List.replicate 16 zCk++[.map (some w.heap.size)]⟩ KNT))));have hmm := @run_makeMap Tryz.prog;have hb:=Lh (show Below w.heap.size w ((w.alloc (.map #[] 0)).alloc (.cells ⟨List.replicate 16 zCk++[.map (some w.heap.size)]⟩ KNT)) from bA.trans (bA.mono (by simp)))
 go_enter Tryz.func141,Tryz.ntmps141
 go_wp2_with fail
 go_ret
 exact ⟨_,_,_,rfl,by omega,Nat.le_refl _,by omega,by simp,by simp; omega,H.out.1,H.out.2,hb.out⟩
end Go.Proofs.YtemicfjmidohfaaGreatDoor
set_option maxRecDepth 100000
set_option maxHeartbeats 12800000
namespace Go.Proofs.YtemicfjmidohfaaGreatDoor
open Go Go.Proofs Go.RowKit
theorem learn_any (L:List Ac) (k u:Nat) (kk l:Int) (hx:acA L k=⟨u,kk,l⟩) (hu:u<16) (hk:k<L.length) (hl:L.length≤1000) (h0 : -9223372036854775808≤l) (h1:l≤9223372036854775807) (B b g:Nat) (V:List Value) (w:World) (h:KnO L k B b g V w):
  Calls Tryz.prog 142 #[.pointer (some ⟨b,0,none⟩),.agg #[.int .i64 (u:Int),kk,l]] w fun e w'=>∃ v V',e=.returned v∧Clk B w' v (vecP L (Know L k))∧KnO L (k+1) B b g V' w'∧Bu b g w w':=by
 have HX:=Lh (Blk.start w [.int .i64 (u:Int),kk,l] 179);have H1:=Lh (h.next (bA (o:=.cells #[.int .i64 (u:Int),kk,l] 179)));have HS:=Lh (And.intro h.sz (Bu.of (b:=b) (g:=g) (bA (w:=w) (o:=.cells #[.int .i64 (u:Int),kk,l] 179))));have HL:=Lh (And.intro hk hl);have HA:=Lh hx;have HR:=Lh (And.intro h0 h1);have HI:Hid (IntKind.i64.wrap (u:Int)=u):=Lh (IntWalk.i64_in _ (by omega));clear hk hl hx h h0 h1
 go_enter Tryz.func142,Tryz.ntmps142
 go_upto_region 1 with fail
 generalize World.alloc _ _=w1 at *
 obtain ⟨c0,c16,-⟩:=H1.out.cells hu;obtain ⟨x0,x1,x2⟩:=blk3 HX.out;obtain ⟨T0,hT0,hM0,hP0⟩:=(H1.out.vo u hu).ex HL.out.2;have HT:=Lh (fun W (hb:Below w1.heap.size w1 W)=>vtick_ok T0 (V.getD u undef) (u:Int) W (by omega) (by omega) hM0 (hT0.next hb));rw [hP0] at HT;have HK:=Lh (fun (W:World) (hb:Below w1.heap.size w1 W)=>show KnO L k B b g V W∧Blk W w.heap.size (acL (acA L k)) 179∧Bu b g w W from ⟨H1.out.next hb,by rw [HA.out]; exact HX.out.next hb,HS.out.2.next hb⟩);clear hT0 hM0 hP0 H1 HX;obtain ⟨vu,hvu⟩:∃ x,x=V.getD u undef:=⟨_,rfl⟩
 rw [←hvu] at c0 HT;have HVU:=Lh hvu;clear hvu;refine rgH (fun W=>Ce W w.heap.size 0 (.int .i64 (u:Int))∧W.cell? ⟨b,u,none⟩=some vu) ⟨x0,c0⟩ fun hH=>?_
 refine ta 0 hH ?_;refine ta 1 hH ?_;refine ta 2 hH ?_;refine ta 3 hH ?_;refine ta 4 hH ?_;refine tq 5 (.pointer (some ⟨b,u,none⟩)) hH ?_ (hy:=by intro w hSw; go_simp; intro hh; omega);refine ta 6 hH ?_;refine ta 7 hH ?_;refine ta 8 hH ?_;refine rd1 9 (by kernel_rfl) rfl fun K hK=>?_
 go_simp
 refine (HT.out _ bdq).mono ?_
 rintro e w2 ⟨v,T,rfl,hT,hp,ho,hb⟩
 obtain ⟨a5,n5,q5,rfl⟩:=ho.form;go_wp2_with fail
 have hb2:Below w1.heap.size w1 w2:=bdq.trans hb;obtain ⟨hk2,hx2,hu2⟩:=HK.out w2 hb2;have HP:Hid (Pre L k B b g V w (.slice a5 n5 q5) (vecP L fun i=>Kn L k (acA L k).t i∨i=k) w2):=Lh ⟨hk2,hx2,hu2,⟨T,ho.mono (Nat.le_trans HS.out.1 HS.out.2.size),hT,by
  have e:(acA L k).t=(u:Int):=by rw [HA.out]
  rw [hp,e,←vec_tick HL.out.1 (P:=Kn L k (u:Int)) kn_not (by rw [e]; omega) (by rw [e]; omega),e]⟩,HS.out.1⟩
 obtain ⟨d0,d16,-⟩:=hk2.cells hu;obtain ⟨e0,e1,e2⟩:=blk3 (HA.out▸hx2:Blk w2 w.heap.size (acL ⟨u,kk,l⟩) 179);refine hK.out _ _ ⟨e0,by rw [HVU.out]; exact d0⟩ ?_;clear hK K hH HK HT hb hb2 hT hp ho hk2 hx2 hu2 c0 c16 x0 x1 x2 d0;intro hH
 try simp only [LAY]
 refine ta 10 hH ?_;refine dnH ?_;generalize w1.drew.heap.size=zz at *
 clear hH HS;have HNE:Hid (w.heap.size≠b):=Lh (by have:=HP.out.kn.lb; have:=HP.out.sz; omega);obtain ⟨n0,F,MK,hn0,hm,hF⟩:=HP.out.kn.sg;have HLK:=Lh (fun (W:World) (h:MapI Tryz.prog 3 g n0 zCk F MK W)=>SgO.look h HR.out.1 HR.out.2);obtain ⟨TB,iB,mB,pB⟩:=(hF l).ex HL.out.2;obtain ⟨TA,iA,mA,pA⟩:=HP.out.ck.ex HL.out.2;clear hF;by_cases k2:kk=2
 ·have HJ:=Lh (vjoin_ok TA TB _ _ w2.drew mA mB (iA.next bdq) (iB.next bdq))
  clear iA iB mA mB;subst k2
  go_upto_region 4 with fail
  generalize F l=fl at *
  refine rgH (fun W=>Ce W b 16 (.map (some g))∧Ce W w.heap.size 2 l∧MapI Tryz.prog 3 g n0 zCk F MK W) ⟨d16,e2,hm⟩ fun hH=>?_
  refine ta 0 hH ?_;refine ta 1 hH ?_;refine ta 2 hH ?_;refine ta 3 hH ?_;refine ta 4 hH ?_;refine ta 5 hH ?_;refine ta 6 hH ?_;refine tq 7 (fl) hH ?_ (hy:=fun W h=>by have hq:=HLK.out W h.2.2; go_simp);refine rd1 8 (by kernel_rfl) rfl fun K hK=>?_
  go_simp
  refine HJ.out.mono ?_
  rintro e w3 ⟨v3,T3,rfl,h3,p3,o3,hb3⟩
  obtain ⟨a6,n6,q6,rfl⟩:=o3.form;go_wp2_with fail
  have HM:Hid (Mid L k B b g V w (.slice a6 n6 q6) w3):=Lh (Pre.mid (M:=vecP L (Know L k)) ⟨(HP.out.next (bdq.trans hb3)).kn,(HP.out.next (bdq.trans hb3)).bx,(HP.out.next (bdq.trans hb3)).bu,⟨T3,o3.mono HP.out.kn.sz,h3,by
   rw [p3,pA,pB,←know_join HL.out.1 (by rw [HA.out]),HA.out]⟩,HP.out.sz⟩ rfl (by rw [HA.out]; show (2:Int)≠3; decide))
  obtain ⟨g0,g1,g2⟩:=blk3 (HA.out▸HM.out.bx:Blk _ w.heap.size (acL ⟨u,2,l⟩) 179);refine hK.out _ _ ⟨(World.cell?_of_block (hb3.block b (by have:=HP.out.kn.lb; have:=HP.out.kn.sz; show b<w2.heap.size; omega))).trans d16,g2,(hm.next bdq).next hb3⟩ ?_;clear hK K hH HP HLK HJ hm h3 p3 o3 hb3 pA pB d16 e0 e1 e2 g0 g1 g2;intro hH
  try simp only [LAY]
  refine ta 9 hH ?_;refine dnH ?_;clear hH;obtain ⟨f0,ff⟩:=HM.out.cells hu;obtain ⟨y0,y1,y2⟩:=blk3 (HA.out▸HM.out.bx:Blk _ w.heap.size (acL ⟨u,2,l⟩) 179)
  go_upto_region 7 with fail
  refine rgH (fun W=>Ce W w.heap.size 0 (.int .i64 (u:Int))) y0 fun hH=>?_
  have HF:=Lh ((HM.out.next bdq).fin HL.out.1 hu (by rw [HA.out]));clear HM;refine ta 0 hH ?_;refine ta 1 hH ?_;refine ta 2 hH ?_;refine ta 3 hH ?_;refine ta 4 hH ?_;refine ta 5 hH ?_;refine tq 6 (.pointer (some ⟨b,u,none⟩)) hH ?_ (hy:=by intro w hSw; go_simp; intro hh; omega);refine rd1 7 (by kernel_rfl) rfl fun K hK=>?_
  go_simp
  go_wp2_with fail
  refine hK.out _ _ ?_ (fun hH=>?_)
  ·exact (World.cell?_of_block (Below.heap_setCell _ _ _ _ HNE.out)).trans y0
  clear hK K
  try simp only [LAY]
  refine dnH ?_;go_wp2_with fail
  go_ret
  exact ⟨_,_,rfl,HF.out.1,HF.out.2.1,HF.out.2.2⟩
 have k2b:(kk==2)=false:=by simpa using k2
 by_cases k3:kk=3
 ·have HJ:=Lh (vjoin_ok TB TA _ _ w2.drew mB mA (iB.next bdq) (iA.next bdq))
  clear iA iB mA mB;subst k3
  go_upto_region 6 with fail
  generalize hfl:F l=fl at *
  refine rgH (fun W=>Ce W b 16 (.map (some g))∧Ce W w.heap.size 2 l) ⟨d16,e2⟩ fun hH=>?_
  refine ta 0 hH ?_;refine ta 1 hH ?_;refine ta 2 hH ?_;refine ta 3 hH ?_;refine ta 4 hH ?_;refine ta 5 hH ?_;refine ta 6 hH ?_;refine ta 7 hH ?_;refine ta 8 hH ?_;refine ta 9 hH ?_;refine ta 10 hH ?_;refine ta 11 hH ?_;refine ta 13 hH ?_;have hq:=HLK.out w2.drew hm;refine rd1 12 (by kernel_rfl) rfl fun K hK=>?_
  go_simp
  refine hK.out _ _ ⟨d16,e2⟩ ?_;clear hK K hH hq;intro hH
  try simp only [LAY]
  refine rd1 14 (by kernel_rfl) rfl fun K hK=>?_
  go_simp
  refine HJ.out.mono ?_
  rintro e w3 ⟨v3,T3,rfl,h3,p3,o3,hb3⟩
  obtain ⟨a6,n6,q6,rfl⟩:=o3.form;go_wp2_with fail
  have HP3:=Lh (HP.out.next (bdq.trans hb3));obtain ⟨w5,hr,hs,hbu⟩:=SgO.put (W:=w3) (by have:=HL.out; omega) HP3.out.kn.sg (by rw [HA.out]; exact HR.out.1) (by rw [HA.out]; exact HR.out.2) HP3.out.kn.lg (v:=.slice a6 n6 q6) ⟨T3,o3.mono HP.out.kn.sz,h3,by
   rw [p3,pA,pB,←sg_join HL.out.1 (by rw [HA.out]),HA.out,←know_vec HL.out.1 (by rw [HA.out]; show (3:Int)≠2; decide),HA.out]⟩
  have HM:=Lh (HP3.out.mid3 (know_vec HL.out.1 (by rw [HA.out]; show (3:Int)≠2; decide)) hs hbu);rw [HA.out] at hr;clear hs hbu;obtain ⟨g0,g1,g2⟩:=blk3 (HA.out▸HP3.out.bx:Blk _ w.heap.size (acL ⟨u,3,l⟩) 179);refine hK.out _ _ ⟨(World.cell?_of_block (hb3.block b (by have:=HP.out.kn.lb; have:=HP.out.kn.sz; show b<w2.heap.size; omega))).trans d16,g2⟩ ?_;clear hK K hH HP HP3 HLK HJ hm h3 p3 o3 hb3 pA pB d16 e0 e1 e2 g0 g1 g2;intro hH
  try simp only [LAY]
  refine rd1 15 (by kernel_rfl) rfl fun K hK=>?_
  go_simp
  go_wp2_with fail
  refine hK.out _ _ ⟨HM.out.bb.cell 16 (by rw [List.getElem?_append_right (by rw [HM.out.vl]; exact Nat.le_refl _),HM.out.vl]; rfl),(blk3 (HA.out▸HM.out.bx:Blk _ w.heap.size (acL ⟨u,3,l⟩) 179)).2.2⟩ (fun hH2=>?_);clear hK K hH hH2 hr
  try simp only [LAY]
  refine dnH ?_;obtain ⟨f0,ff⟩:=HM.out.cells hu;obtain ⟨y0,y1,y2⟩:=blk3 (HA.out▸HM.out.bx:Blk _ w.heap.size (acL ⟨u,3,l⟩) 179)
  go_upto_region 7 with fail
  refine rgH (fun W=>Ce W w.heap.size 0 (.int .i64 (u:Int))) y0 fun hH=>?_
  have HF:=Lh ((HM.out.next bdq).fin HL.out.1 hu (by rw [HA.out]));clear HM;refine ta 0 hH ?_;refine ta 1 hH ?_;refine ta 2 hH ?_;refine ta 3 hH ?_;refine ta 4 hH ?_;refine ta 5 hH ?_;refine tq 6 (.pointer (some ⟨b,u,none⟩)) hH ?_ (hy:=by intro w hSw; go_simp; intro hh; omega);refine rd1 7 (by kernel_rfl) rfl fun K hK=>?_
  go_simp
  go_wp2_with fail
  refine hK.out _ _ ?_ (fun hH=>?_)
  ·exact (World.cell?_of_block (Below.heap_setCell _ _ _ _ HNE.out)).trans y0
  clear hK K
  try simp only [LAY]
  refine dnH ?_;go_wp2_with fail
  go_ret
  exact ⟨_,_,rfl,HF.out.1,HF.out.2.1,HF.out.2.2⟩
 have k3b:(kk==3)=false:=by simpa using k3
 have HM:=Lh (HP.out.mid (know_vec HL.out.1 (by rw [HA.out]; exact k2)) (by rw [HA.out]; exact k3));clear HP d16 e0 HLK hm iA iB mA mB pA pB;obtain ⟨f0,ff⟩:=HM.out.cells hu;obtain ⟨y0,y1,y2⟩:=blk3 (HA.out▸HM.out.bx:Blk _ w.heap.size (acL ⟨u,kk,l⟩) 179)
 go_upto_region 7 with fail
 refine rgH (fun W=>Ce W w.heap.size 0 (.int .i64 (u:Int))) y0 fun hH=>?_
 have HF:=Lh ((HM.out.next bdq).fin HL.out.1 hu (by rw [HA.out]));clear HM;refine ta 0 hH ?_;refine ta 1 hH ?_;refine ta 2 hH ?_;refine ta 3 hH ?_;refine ta 4 hH ?_;refine ta 5 hH ?_;refine tq 6 (.pointer (some ⟨b,u,none⟩)) hH ?_ (hy:=by intro w hSw; go_simp; intro hh; omega);refine rd1 7 (by kernel_rfl) rfl fun K hK=>?_
 go_simp
 go_wp2_with fail
 refine hK.out _ _ ?_ (fun hH=>?_)
 ·exact (World.cell?_of_block (Below.heap_setCell _ _ _ _ HNE.out)).trans y0
 clear hK K
 try simp only [LAY]
 refine dnH ?_;go_wp2_with fail
 go_ret
 exact ⟨_,_,rfl,HF.out.1,HF.out.2.1,HF.out.2.2⟩
 end Go.Proofs.YtemicfjmidohfaaGreatDoor
set_option maxRecDepth 100000
set_option maxHeartbeats 12800000
namespace Go.Proofs.YtemicfjmidohfaaGreatDoor
open Go Go.Proofs Go.RowKit
def Dd (c:Int) (L:List Ac) (k:Nat) (l:Int) (i:Nat):Prop:=∃ j,j<k∧(acA L j).k=c∧(acA L j).l=l∧Know L j i
theorem dd_next {c:Int} {L:List Ac} {k i:Nat} {l:Int}:Dd c L (k+1) l i↔Dd c L k l i∨((acA L k).k=c∧(acA L k).l=l)∧Know L k i:=by
 constructor
 ·rintro ⟨j,a,b,b2,d⟩
  by_cases e:j=k
  ·subst e; exact .inr ⟨⟨b,b2⟩,d⟩
  ·exact .inl ⟨j,by omega,b,b2,d⟩
 ·rintro (⟨j,a,b,b2,d⟩ | ⟨⟨b,b2⟩,d⟩)
  ·exact ⟨j,by omega,b,b2,d⟩
  ·exact ⟨k,by omega,b,b2,d⟩
theorem dd_dc {c:Int} {L:List Ac} {k:Nat} {l:Int} (hk:k≤L.length):Dc L (Dd c L k l):=fun i j ⟨x,a,b,b2,d⟩ hij ht=>⟨x,a,b,b2,know_dc (by omega) i j d hij ht⟩
theorem dd_same {c:Int} {L:List Ac} {k:Nat} {l:Int} (hn:¬ ((acA L k).k=c∧(acA L k).l=l)):vecP L (Dd c L (k+1) l)=vecP L (Dd c L k l):=vec_congr fun i=>by rw [dd_next]; exact ⟨fun h=>h.elim id fun a=>absurd a.1 hn,.inl⟩
theorem dd_join {c:Int} {L:List Ac} {k:Nat} (hk:k<L.length) (hn:(acA L k).k=c):joinL (vecP L (Dd c L k (acA L k).l)) (vecP L (Know L k))=vecP L (Dd c L (k+1) (acA L k).l):=by
 rw [vec_join (dd_dc (Nat.le_of_lt hk)) (know_dc hk)];exact vec_congr fun i=>by rw [dd_next]; exact ⟨fun h=>h.elim .inl fun a=>.inr ⟨⟨hn,rfl⟩,a⟩,fun h=>h.elim .inl fun a=>.inr a.2⟩
theorem vec_leq {L:List Ac} {P Q:Nat→Prop} (hm:mayAc L=true) (hP:Dc L P) (hQ:Dc L Q):leqL (vecP L P) (vecP L Q)=true↔∀ i,i<L.length→P i→Q i:=by
 rw [leq_iff]
 constructor
 ·intro h i hi hp
  refine Classical.byContradiction fun hq=>?_
  have hmi:mayA1 (acA L i)=true:=by rw [←acA_eq hi]; exact List.all_eq_true.1 hm _ (List.getElem_mem hi)
  obtain ⟨x1,x2,-⟩:0≤(acA L i).t∧(acA L i).t≤15∧0≤(acA L i).k∧(acA L i).k≤3:=by simpa [mayA1] using hmi
  have h2:=h (acA L i).t.toNat (by omega);rw [vec_at (by omega),vec_at (by omega),show (((acA L i).t.toNat:Nat):Int)=(acA L i).t by omega] at h2;have h3:=cnt_lt (L:=L) (P:=Q) (Q:=P) (u:=(acA L i).t) (fun j hj ht hqj=>by
   rcases Nat.lt_trichotomy j i with e | e | e
   ·exact hP j i hp e ht
   ·subst e; exact hp
   ·exact absurd (hQ i j hqj e ht.symm) hq) hi rfl hp hq
  omega
 ·intro h j hj
  rw [vec_at hj,vec_at hj];have:=cnt_mono (L:=L) (u:=(j:Int)) fun i hi _ hp=>h i hi hp
  omega
theorem know_sub {L:List Ac} {j k:Nat} (hjk:j<k) (hk:k<L.length):(∀ i,i<L.length→Know L j i→Know L k i)↔Ord L j k:=
 ⟨fun h=>(h j (by omega) (.inl rfl)).elim (by omega) id,fun h i _ hi=>hi.elim (fun e=>e▸.inr h) fun o=>.inr (o.trans h)⟩
theorem dd_leq {c:Int} {L:List Ac} {k:Nat} {l:Int} (hm:mayAc L=true) (hk:k<L.length):leqL (vecP L (Dd c L k l)) (vecP L (Know L k))=true↔∀ j,j<k→(acA L j).k=c→(acA L j).l=l→Ord L j k:=by
 rw [vec_leq hm (dd_dc (Nat.le_of_lt hk)) (know_dc hk)]
 constructor
 ·intro h j hj a b
  exact (know_sub hj hk).1 fun i hi hji=>h i hi ⟨j,hj,a,b,hji⟩
 ·rintro h i hi ⟨j,hj,a,b,d⟩
  exact (know_sub hj hk).2 (h j hj a b) i hi d
noncomputable def knwB (L:List Ac) (k:Nat):Bool:=leqL (vecP L (Dd 1 L k (acA L k).l)) (vecP L (Know L k))&&(((acA L k).k==0)||leqL (vecP L (Dd 0 L k (acA L k).l)) (vecP L (Know L k)))
theorem may_at {L:List Ac} (hm:mayAc L=true) {i:Nat} (hi:i<L.length):0≤(acA L i).t∧(acA L i).t≤15∧0≤(acA L i).k∧(acA L i).k≤3:=by
 have hmi:mayA1 (acA L i)=true:=by rw [←acA_eq hi]; exact List.all_eq_true.1 hm _ (List.getElem_mem hi)
 simpa [mayA1] using hmi
theorem knw_iff {L:List Ac} {k:Nat} (hm:mayAc L=true) (hk:k<L.length) (ht:(acA L k).k=0∨(acA L k).k=1):knwB L k=true↔∀ j,j<k→¬ raceP L j k:=by
 unfold knwB
 rw [Bool.and_eq_true,Bool.or_eq_true,dd_leq hm hk,dd_leq hm hk,beq_iff_eq]
 constructor
 ·rintro ⟨h1,h2⟩ j hj ⟨⟨a,b,c,d⟩,e,_⟩
  have hm1:=may_at hm (show j<L.length by omega);by_cases e1:(acA L j).k=1
  ·exact e (h1 j hj e1 c)
  ·have e0:(acA L j).k=0:=by omega
   have e2:(acA L k).k=1:=by omega
   rcases h2 with h2 | h2
   ·omega
   ·exact e (h2 j hj e0 c)
 ·intro h
  have no:∀ j,j<k→((acA L j).k<2∧(acA L k).k<2∧(acA L j).l=(acA L k).l∧((acA L j).k=1∨(acA L k).k=1))→Ord L j k:=fun j hj a=>
   Classical.byContradiction fun hn=>h j hj ⟨a,hn,fun o=>by have:=o.lt; omega⟩
  refine ⟨fun j hj a b=>no j hj ⟨by omega,by omega,b,.inl a⟩,?_⟩;by_cases e:(acA L k).k=0
  ·exact .inl e
  ·exact .inr fun j hj a b=>no j hj ⟨by omega,by omega,b,.inr (by omega)⟩
theorem Clk.form {B:Nat} {W:World} {v:Value} {M:List Int} (h:Clk B W v M):∃ a n c,v=.slice a n c:=by
 obtain ⟨A,h,_⟩:=h; exact h.form
theorem known_any {L:List Ac} {P R Q:Nat→Prop} (hl:L.length≤1000) (t kk l:Int) {B:Nat} {r v c:Value} (w:World) (hr:Clk B w r (vecP L R)) (hv:Clk B w v (vecP L P)) (hc:Clk B w c (vecP L Q)):
  Calls Tryz.prog 144 #[.agg #[r,v],.agg #[t,kk,l],c] w (Rt (.bool (leqL (vecP L P) (vecP L Q)&&((kk==0)||leqL (vecP L R) (vecP L Q)))) w):=by
 obtain ⟨TR,iR,mR,pR⟩:=hr.ex hl;obtain ⟨TV,iV,mV,pV⟩:=hv.ex hl;obtain ⟨TC,iC,mC,pC⟩:=hc.ex hl;obtain ⟨ra,rn,rc,rfl⟩:=hr.form;obtain ⟨va,vn,vc,rfl⟩:=hv.form;obtain ⟨ca,cn,cc,rfl⟩:=hc.form;clear hr hv hc;have hb:=Lh (show Below w.heap.size w ((w.alloc (.cells #[.slice ra rn rc,.slice va vn vc] 245)).alloc (.cells #[t,kk,l] 179)) from bA.trans (bA.mono (by simp)));have hX:=Lh (Blk.alloc (Blk.start w [.slice ra rn rc,.slice va vn vc] 245) (.cells #[t,kk,l] 179));have hY:=Lh (Blk.startAt (W:=w.alloc (.cells #[.slice ra rn rc,.slice va vn vc] 245)) (vs:=[.int .i64 t,.int .i64 kk,.int .i64 l]) (t:=179) (b:=w.heap.size+1) (by simp))
 go_enter Tryz.func144,Tryz.ntmps144
 go_upto_region 1 with fail
 generalize World.alloc _ _=W0 at *
 have HQ1:=Lh (vleq_ok TV TC _ _ W0 mV mC (iV.next hb.out) (iC.next hb.out));have HQ2:=Lh (fun W (h:Below W0.heap.size W0 W)=>vleq_ok TR TC _ _ W mR mC (iR.next (hb.out.trans (h.mono hb.out.size))) (iC.next (hb.out.trans (h.mono hb.out.size))));rw [pV,pC] at HQ1;rw [pR,pC] at HQ2;have HK:=Lh (fun W (h:Below W0.heap.size W0 W)=>And.intro (hb.out.trans (h.mono hb.out.size)) (And.intro (hX.out.next h) (hY.out.next h)));have q0:=hX.out.cell 1 rfl;clear hX hY iR mR pR iV mV pV iC mC pC;obtain ⟨z1,hz1⟩:∃ z,leqL (vecP L P) (vecP L Q)=z:=⟨_,rfl⟩
 obtain ⟨z2,hz2⟩:∃ z,leqL (vecP L R) (vecP L Q)=z:=⟨_,rfl⟩
 rw [hz1] at HQ1;rw [hz2] at HQ2;have HZ:=Lh (And.intro hz1 hz2);clear hz1 hz2
 cases z1 with
 | false=>
  clear HQ2;go_wp2_with (go_at_call 149; refine HQ1.out.mono ?_; rintro e w1 ⟨rfl,hb1⟩; have H1:=Lh (HK.out w1 hb1))
  go_ret
  exact ⟨by rw [HZ.out.1]; rfl,H1.out.1⟩
 | true=>
  by_cases c1:kk=0
  ·subst c1
   clear HQ2;go_wp2_with (go_at_call 149; refine HQ1.out.mono ?_; rintro e w1 ⟨rfl,hb1⟩; have H1:=Lh (HK.out w1 hb1); obtain ⟨y0,y1,y2⟩:=blk3 H1.out.2.2)
   go_ret
   exact ⟨by rw [HZ.out.1]; rfl,H1.out.1⟩
  ·have c1':(kk==0)=false:=by simpa using c1
   clear c1;go_wp2_with (first | (go_at_call 149; refine HQ1.out.mono ?_; clear HQ1; rintro e w1 ⟨rfl,hb1⟩; have H1:=Lh (HK.out w1 hb1); obtain ⟨y0,y1,y2⟩:=blk3 H1.out.2.2; have x0:=H1.out.2.1.cell 0 rfl; have HQ3:=Lh (HQ2.out w1 hb1)) | (go_at_call 149; refine HQ3.out.mono ?_; rintro e w2 ⟨rfl,hb2⟩))
   go_ret
   exact ⟨by rw [HZ.out.1,HZ.out.2,c1']; rfl,H1.out.1.trans (hb2.mono H1.out.1.size)⟩
theorem info_de:(Tryz.prog.info? 245).map (·.size)=some 2:=by kernel_rfl
theorem with_any {L:List Ac} {P R Q:Nat→Prop} (hl:L.length≤1000) (t kk l:Int) {B:Nat} {r v c:Value} (w:World) (hB:B≤w.heap.size) (hr:Clk B w r (vecP L R)) (hv:Clk B w v (vecP L P)) (hc:Clk B w c (vecP L Q)):
  Calls Tryz.prog 146 #[.agg #[r,v],.agg #[t,kk,l],c] w fun e w'=>∃ r' v',e=.returned (.agg #[r',v'])∧Clk B w' r' (if kk=0 then joinL (vecP L R) (vecP L Q) else vecP L R)∧Clk B w' v' (if kk=0 then vecP L P else joinL (vecP L P) (vecP L Q))∧Below w.heap.size w w':=by
 obtain ⟨TR,iR,mR,pR⟩:=hr.ex hl;obtain ⟨TV,iV,mV,pV⟩:=hv.ex hl;obtain ⟨TC,iC,mC,pC⟩:=hc.ex hl;obtain ⟨ra,rn,rc,rfl⟩:=hr.form;obtain ⟨va,vn,vc,rfl⟩:=hv.form;obtain ⟨ca,cn,cc,rfl⟩:=hc.form;have HC:=Lh (fun W (h:Below w.heap.size w W)=>And.intro (hr.next h) (hv.next h));clear hr hv hc;have hb:=Lh (show Below w.heap.size w (((w.alloc (.cells #[.slice ra rn rc,.slice va vn vc] 245)).alloc (.cells #[t,kk,l] 179)).alloc (.cells #[.slice none 0 0,.slice none 0 0] 245)) from (bA.trans (bA.mono (by simp))).trans (bA.mono (by simp; omega)));have hX:=Lh (Blk.alloc (Blk.alloc (Blk.start w [.slice ra rn rc,.slice va vn vc] 245) (.cells #[t,kk,l] 179)) (.cells #[.slice none 0 0,.slice none 0 0] 245));have hY:=Lh (Blk.alloc (Blk.startAt (W:=w.alloc (.cells #[.slice ra rn rc,.slice va vn vc] 245)) (vs:=[.int .i64 t,.int .i64 kk,.int .i64 l]) (t:=179) (b:=w.heap.size+1) (by simp)) (.cells #[.slice none 0 0,.slice none 0 0] 245));have hZ:=Lh (Blk.startAt (W:=(w.alloc (.cells #[.slice ra rn rc,.slice va vn vc] 245)).alloc (.cells #[t,kk,l] 179)) (vs:=[.slice none 0 0,.slice none 0 0]) (t:=245) (b:=w.heap.size+1+1) (by simp));have HBB:=Lh hB;clear hB
 go_enter Tryz.func146,Tryz.ntmps146
 go_upto_region 1 with fail
 generalize World.alloc _ _=W0 at *
 have HJ1:=Lh (vjoin_ok TR TC _ _ W0 mR mC (iR.next hb.out) (iC.next hb.out));have HJ2:=Lh (vjoin_ok TV TC _ _ W0 mV mC (iV.next hb.out) (iC.next hb.out));rw [pR,pC] at HJ1;rw [pV,pC] at HJ2;have HK:=Lh (fun W (h:Below W0.heap.size W0 W)=>And.intro (hb.out.trans (h.mono hb.out.size)) (And.intro (hX.out.next h) (hZ.out.next h)));obtain ⟨y0,y1,y2⟩:=blk3 hY.out;have x0 := hX.out.c2;have HSZ:=Lh (Nat.le_trans HBB.out hb.out.size);have HSX:Hid (w.heap.size+1+1<W0.heap.size):=Lh hZ.out.lt;clear hX hY hZ hb iR mR pR iV mV pV iC mC pC;by_cases c1:kk=0
 ·subst c1
  clear HJ2
  go_upto_region 4 with (go_at_call 147; refine HJ1.out.mono ?_; rintro e w1 ⟨x,T,rfl,hT,hp,ho,hb1⟩; obtain ⟨xa,xn,xc,rfl⟩:=ho.form; have H1:=Lh (HK.out w1 hb1); have HO:=Lh (show Clk W0.heap.size w1 (.slice xa xn xc) _ from ⟨T,ho,hT,hp⟩); clear ho hT hp hb1; have z0:=H1.out.2.1.cell 0 rfl; have z1:=H1.out.2.1.free 0)
  have H2:=Lh (And.intro (H1.out.2.1.set 0 (.slice xa xn xc)) (And.intro (H1.out.2.2.other ⟨w.heap.size,0,none⟩ (by show w.heap.size+1+1≠w.heap.size; omega) (.slice xa xn xc)) (And.intro (H1.out.1.setCell (p:=⟨w.heap.size,0,none⟩) (Nat.le_refl _) (.slice xa xn xc)) (HO.out.bu (Bu.set w.heap.size w.heap.size w1 0 (.slice xa xn xc)) (by have:=HSX.out; omega) (by have:=HSX.out; omega)))));clear z0 z1 H1 HO HK HJ1;generalize w1.setCell ⟨w.heap.size,0,none⟩ (.slice xa xn xc)=w2 at *
  have a0 := H2.out.1.c2;have f0:=H2.out.2.1.cell 0 rfl;have f1:=H2.out.2.1.free 0;have f2:=H2.out.2.1.cell 1 rfl;have f3:=H2.out.2.1.free 1;have H3:=Lh (And.intro ((H2.out.2.1.set 0 (.slice xa xn xc)).set 1 (.slice va vn vc)) (And.intro ((H2.out.2.2.1.setCell (p:=⟨w.heap.size+1+1,0,none⟩) (by show w.heap.size≤w.heap.size+1+1; omega) (.slice xa xn xc)).setCell (p:=⟨w.heap.size+1+1,1,none⟩) (by show w.heap.size≤w.heap.size+1+1; omega) (.slice va vn vc)) ((H2.out.2.2.2.bu (Bu.set (w.heap.size+1+1) (w.heap.size+1+1) w2 0 (.slice xa xn xc)) HSX.out HSX.out).bu (Bu.set (w.heap.size+1+1) (w.heap.size+1+1) _ 1 (.slice va vn vc)) HSX.out HSX.out)));go_wp2_with fail
  have b0 := H3.out.1.c2;exact bodyPost_ret (by simp [results, Tryz.results146, go_sem, b0]) rfl ⟨_,_,rfl,H3.out.2.2.mono HSZ.out,(HC.out _ H3.out.2.1).2,H3.out.2.1⟩
 ·have c1':(kk==0)=false:=by simpa using c1
  have HC1:=Lh c1;clear HJ1 c1
  go_upto_region 4 with (go_at_call 147; refine HJ2.out.mono ?_; rintro e w1 ⟨x,T,rfl,hT,hp,ho,hb1⟩; obtain ⟨xa,xn,xc,rfl⟩:=ho.form; have H1:=Lh (HK.out w1 hb1); have HO:=Lh (show Clk W0.heap.size w1 (.slice xa xn xc) _ from ⟨T,ho,hT,hp⟩); clear ho hT hp hb1; have z0:=H1.out.2.1.cell 1 rfl; have z1:=H1.out.2.1.free 1)
  have H2:=Lh (And.intro (H1.out.2.1.set 1 (.slice xa xn xc)) (And.intro (H1.out.2.2.other ⟨w.heap.size,1,none⟩ (by show w.heap.size+1+1≠w.heap.size; omega) (.slice xa xn xc)) (And.intro (H1.out.1.setCell (p:=⟨w.heap.size,1,none⟩) (Nat.le_refl _) (.slice xa xn xc)) (HO.out.bu (Bu.set w.heap.size w.heap.size w1 1 (.slice xa xn xc)) (by have:=HSX.out; omega) (by have:=HSX.out; omega)))));clear z0 z1 H1 HO HK HJ2;generalize w1.setCell ⟨w.heap.size,1,none⟩ (.slice xa xn xc)=w2 at *
  have a0 := H2.out.1.c2;have f0:=H2.out.2.1.cell 0 rfl;have f1:=H2.out.2.1.free 0;have f2:=H2.out.2.1.cell 1 rfl;have f3:=H2.out.2.1.free 1;have H3:=Lh (And.intro ((H2.out.2.1.set 0 (.slice ra rn rc)).set 1 (.slice xa xn xc)) (And.intro ((H2.out.2.2.1.setCell (p:=⟨w.heap.size+1+1,0,none⟩) (by show w.heap.size≤w.heap.size+1+1; omega) (.slice ra rn rc)).setCell (p:=⟨w.heap.size+1+1,1,none⟩) (by show w.heap.size≤w.heap.size+1+1; omega) (.slice xa xn xc)) ((H2.out.2.2.2.bu (Bu.set (w.heap.size+1+1) (w.heap.size+1+1) w2 0 (.slice ra rn rc)) HSX.out HSX.out).bu (Bu.set (w.heap.size+1+1) (w.heap.size+1+1) _ 1 (.slice xa xn xc)) HSX.out HSX.out)));go_wp2_with fail
  have b0 := H3.out.1.c2;exact bodyPost_ret (by simp [results, Tryz.results146, go_sem, b0]) rfl ⟨_,_,rfl,(HC.out _ H3.out.2.1).1,H3.out.2.2.mono HSZ.out,H3.out.2.1⟩
end Go.Proofs.YtemicfjmidohfaaGreatDoor
set_option maxRecDepth 100000
set_option maxHeartbeats 12800000
namespace Go.Proofs.YtemicfjmidohfaaGreatDoor
open Go Go.Proofs Go.RowKit
theorem wrap_some (k:IntKind) (x:Int):∃ y,k.wrap x=y:=⟨_,rfl⟩
def Cnt (b:Nat) (W:World):Prop:=∃ D:List Int,D.length=16∧Blk W b (arL D) 312
theorem Cnt.at {b:Nat} {W:World} (h:Cnt b W) {u:Nat} (hu:u<16):∃ d,W.cell? ⟨b,u,none⟩=some (.int .i64 d)∧W.frozen? ⟨b,u,none⟩=false∧∀ z:Int,Cnt b (W.setCell ⟨b,u,none⟩ z):=by
 obtain ⟨D,h1,h2⟩:=h;refine ⟨_,ar_cell h2 u (by omega),h2.free u,fun (z:Int)=>⟨D.set u z,by rw [List.length_set]; exact h1,?_⟩⟩;have:=h2.set u z
 rwa [show (arL D).set u z=arL (D.set u z) by simp [arL,List.map_set]] at this
theorem Cnt.next {b:Nat} {W W':World} (h:Cnt b W) (hb:Below W.heap.size W W'):Cnt b W':=by
 obtain ⟨D,h1,h2⟩:=h; exact ⟨D,h1,h2.next hb⟩
theorem firstunknown_any (L:List Ac) (v:Value) (y:Ac) (C:List Int) (c:Value) (w:World) (hm:mayAc L=true) (h:IsAc w v L) (hc:IsL w c C) (hC:MedA C):
  Calls Tryz.prog 145 #[v,acV y,c] w fun e w'=>∃ a,e=.returned a∧Below w.heap.size w w':=by
 obtain ⟨yt,yk,yl⟩:=y;obtain ⟨ad,cap,rfl,h1,h2,h3⟩:=h;have HL:=Lh h3;have HM:=Lh (fun i (hi:i<L.length)=>show 0≤L[i].t∧L[i].t≤15 from by have:=may_at hm hi; rw [←acA_eq hi] at this; exact ⟨this.1,this.2.1⟩);clear h3 hm;have hl:L.length≤9223372036854775807:=by omega
 have HA:=Lh (fun (t k l:Int) W=>show Calls Tryz.prog 199 #[.agg #[t,k,l],.agg #[yt,yk,yl]] W (Rt (.bool (claB ⟨t,k,l⟩ ⟨yt,yk,yl⟩)) W) from rclash_any ⟨t,k,l⟩ ⟨yt,yk,yl⟩ W);have HT:=Lh (fun (i:Nat) (hi:i<16) W (hb:Below w.heap.size w W)=>vat_ok C c (i:Int) W (by omega) (by omega) hC (hc.next hb));have HB0:=Lh (show Below w.heap.size w ((w.alloc (.cells #[yt,yk,yl] 179)).alloc (.cells ⟨arL (List.replicate 16 0)⟩ 312)) from bA.trans (bA.mono (by simp)));have HY0:=Lh (Blk.alloc (Blk.start w [yt,yk,yl] 179) (.cells ⟨arL (List.replicate 16 0)⟩ 312));have HC0:Hid (Cnt (w.heap.size+1) ((w.alloc (.cells #[yt,yk,yl] 179)).alloc (.cells ⟨arL (List.replicate 16 0)⟩ 312))):=Lh ⟨List.replicate 16 0,by simp,Blk.startAt (by simp)⟩;clear hc hC
 dsimp only [acV]
 go_enter Tryz.func145,Tryz.ntmps145
 go_upto_region 2 with fail
 generalize hW0:(w.alloc (.cells #[yt,yk,yl] 179)).alloc (.cells _ 312)=W0
 replace HB0:Hid (Below w.heap.size w W0):=by rw [←hW0]; exact HB0
 replace HY0:Hid (Blk W0 w.heap.size [yt,yk,yl] 179):=by rw [←hW0]; exact HY0
 replace HC0:Hid (Cnt (w.heap.size+1) W0):=by rw [←hW0]; exact HC0
 clear hW0;go_wp2_with fail
 go_loopg [12] L.length (fun g t12 wr=>∃ k:Nat,k≤L.length∧g=L.length-k∧t12=.int .i64 (k:Int)∧Below w.heap.size w wr∧Blk wr w.heap.size [yt,yk,yl] 179∧Cnt (w.heap.size+1) wr)
 case atStart=>exact ⟨0,Nat.zero_le _,rfl,rfl,HB0.out,HY0.out,HC0.out⟩
 case round=>
  obtain ⟨k,hk,rfl,rfl,hb,hy,hcn⟩:=hrel;clear HB0 HY0 HC0;by_cases hlt:k<L.length
  ·obtain ⟨b,off,rfl,hbw,hc⟩:=HL.out (fun e=>by rw [e] at hlt; cases hlt)
   have c0:=(hb.cell (p:=⟨b,off+k * 3,none⟩) hbw).trans (hc k hlt).1;have c1:=(hb.cell (p:=⟨b,off+k * 3+1,none⟩) hbw).trans (hc k hlt).2.1;have c2:=(hb.cell (p:=⟨b,off+k * 3+2,none⟩) hbw).trans (hc k hlt).2.2;have hmk:=HM.out k hlt;generalize L[k]=x at *
   obtain ⟨xt,xk,xl⟩:=x;simp only at c0 c1 c2 hmk
   obtain ⟨u,rfl⟩:∃ u:Nat,xt=(u:Int):=⟨xt.toNat,by omega⟩
   have hu:u<16:=by omega
   clear hc hmk;have HB1:=Lh (And.intro (hb.trans ((bA (w:=wr) (o:=.cells #[.int .i64 (u:Int),xk,xl] 179)).mono hb.size)) (And.intro (hy.next (bA (o:=.cells #[.int .i64 (u:Int),xk,xl] 179))) (And.intro (hcn.next (bA (o:=.cells #[.int .i64 (u:Int),xk,xl] 179))) (Blk.start wr [.int .i64 (u:Int),xk,xl] 179))));have HNE:=Lh (show w.heap.size+1≠wr.heap.size∧w.heap.size+1≠w.heap.size from ⟨by obtain ⟨D,_,hD⟩:=hcn; have:=hD.lt; omega,by omega⟩);have HE:=Lh (HA.out (u:Int) xk xl);clear hb hy hcn
   go_upto_region 5 with fail
   generalize hq:wr.heap.size=bx at *
   generalize World.alloc _ _=w1 at *
   clear hq c0 c1 c2;obtain ⟨d,hd,hf,hs⟩:=HB1.out.2.2.1.at hu;obtain ⟨x0,x1,x2⟩:=blk3 HB1.out.2.2.2;obtain ⟨d1,hd1⟩:=wrap_some .i64 (d+1);have HB2:=Lh (And.intro (HB1.out.1.setCell (p:=⟨w.heap.size+1,u,none⟩) (Nat.le_succ _) d1) (And.intro (HB1.out.2.1.other ⟨w.heap.size+1,u,none⟩ (Ne.symm HNE.out.2) d1) (And.intro (hs d1) (HB1.out.2.2.2.other ⟨w.heap.size+1,u,none⟩ (Ne.symm HNE.out.1) d1))));clear hs HB1
   go_upto_region 6 with fail
   generalize w1.setCell ⟨w.heap.size+1,u,none⟩ d1=w2 at *
   clear hd hf x0 x1 x2 hd1;obtain ⟨e,he,-⟩:=HB2.out.2.2.1.at hu;have HTT:=Lh (fun W (hb:Below w.heap.size w W)=>HT.out u hu W hb);obtain ⟨at_,hat⟩:∃ a,a=atL C (u:Int):=⟨_,rfl⟩
   rw [←hat] at HTT;clear hat;have HK:=Lh (fun W (h:Below w2.heap.size w2 W)=>show Below w.heap.size w W∧Blk W w.heap.size [yt,yk,yl] 179∧Cnt (w.heap.size+1) W from ⟨HB2.out.1.trans (h.mono HB2.out.1.size),HB2.out.2.1.next h,HB2.out.2.2.1.next h⟩);have HK2:=Lh (fun W (h:Below w2.heap.size w2 W)=>show (W.cell? ⟨bx,0,none⟩=some (.int .i64 (u:Int))∧W.cell? ⟨bx,1,none⟩=some (.int .i64 xk)∧W.cell? ⟨bx,2,none⟩=some (.int .i64 xl))∧(W.cell? ⟨w.heap.size,0,none⟩=some (.int .i64 yt)∧W.cell? ⟨w.heap.size,1,none⟩=some (.int .i64 yk)∧W.cell? ⟨w.heap.size,2,none⟩=some (.int .i64 yl))∧W.cell? ⟨w.heap.size+1,u,none⟩=some (.int .i64 e) from ⟨blk3 (HB2.out.2.2.2.next h),blk3 (HB2.out.2.1.next h),by obtain ⟨D,_,hD⟩:=HB2.out.2.2.1; exact (h.cell (p:=⟨w.heap.size+1,u,none⟩) hD.lt).trans he⟩);clear HB2 HA HT he;refine rgH (fun W=>(W.cell? ⟨bx,0,none⟩=some (.int .i64 (u:Int))∧W.cell? ⟨bx,1,none⟩=some (.int .i64 xk)∧W.cell? ⟨bx,2,none⟩=some (.int .i64 xl))∧(W.cell? ⟨w.heap.size,0,none⟩=some (.int .i64 yt)∧W.cell? ⟨w.heap.size,1,none⟩=some (.int .i64 yk)∧W.cell? ⟨w.heap.size,2,none⟩=some (.int .i64 yl))∧W.cell? ⟨w.heap.size+1,u,none⟩=some (.int .i64 e)) (HK2.out _ bdq) fun hH=>?_
   refine ta 0 hH ?_;refine ta 1 hH ?_;refine rd1 2 (by kernel_rfl) rfl fun K hK=>?_
   go_simp
   refine (HE.out _).mono ?_
   rintro ee w3 ⟨rfl,hb3⟩
   go_wp2_with fail
   refine hK.out _ _ (HK2.out _ (bdq.trans hb3)) ?_;clear hK K hH;intro hH
   try simp only [LAY]
   have HB3:=Lh (bdq.trans hb3);clear hb3;generalize claB ⟨(u:Int),xk,xl⟩ ⟨yt,yk,yl⟩=z at *
   cases z with
   | false=>
    refine ta 3 hH ?_;refine sk 4 hH ?_
    try simp only [LAY]
    refine sk 5 hH ?_
    try simp only [LAY]
    refine sk 6 hH ?_
    try simp only [LAY]
    refine sk 7 hH ?_
    try simp only [LAY]
    refine sk 8 hH ?_
    try simp only [LAY]
    refine sk 9 hH ?_
    try simp only [LAY]
    refine sk 10 hH ?_
    try simp only [LAY]
    refine sk 11 hH ?_
    try simp only [LAY]
    refine sk 12 hH ?_
    try simp only [LAY]
    refine ta 13 hH ?_;refine dnH ?_;go_wp2_with fail
    go_roundg (L.length-(k+1))
    case measure=>omega
    case rel=>exact ⟨k+1,by omega,rfl,by go_num,HK.out _ HB3.out⟩
   | true=>
    refine ta 3 hH ?_;refine ta 4 hH ?_;refine ta 5 hH ?_;refine tq 6 (.pointer (some ⟨w.heap.size+1,u,none⟩)) hH ?_ (hy:=by intro w hSw; go_simp; intro hh; omega);refine ta 7 hH ?_;refine ta 8 hH ?_;refine ta 9 hH ?_;refine ta 10 hH ?_;refine rd1 11 (by kernel_rfl) rfl fun K hK=>?_
    go_simp
    refine (HTT.out _ (HK.out _ HB3.out).1).mono ?_
    rintro ee w4 ⟨rfl,hb4⟩
    go_wp2_with fail
    refine hK.out _ _ (HK2.out _ (HB3.out.trans (hb4.mono HB3.out.size))) ?_;clear hK K hH;intro hH
    try simp only [LAY]
    have HB4:=Lh (HK.out _ (HB3.out.trans (hb4.mono HB3.out.size)));clear hb4 HB3;by_cases hz:at_<e
    ·have hz2:decide (at_<e)=true:=decide_eq_true hz
     refine ta 12 hH ?_;refine ta 13 hH ?_;refine dnH ?_;go_wp2_with fail
     go_ret
     exact ⟨_,rfl,HB4.out.1⟩
    ·have hz2:decide (at_<e)=false:=decide_eq_false hz
     have hz3:e≤at_:=by omega
     refine ta 12 hH ?_;refine ta 13 hH ?_;refine dnH ?_;go_wp2_with fail
     go_roundg (L.length-(k+1))
     case measure=>omega
     case rel=>exact ⟨k+1,by omega,rfl,by go_num,HB4.out⟩
  ·obtain rfl:k=L.length:=by omega
   go_wp2_with fail
   go_ret
   exact ⟨_,rfl,hb⟩
end Go.Proofs.YtemicfjmidohfaaGreatDoor
set_option maxRecDepth 100000
set_option maxHeartbeats 12800000
namespace Go.Proofs.YtemicfjmidohfaaGreatDoor
open Go Go.Proofs Go.RowKit
def DpO (L:List Ac) (k B g:Nat) (W:World):Prop:=g<B∧∃ n F K,n≤k∧MapI Tryz.prog 3 g n (.agg #[zCk,zCk]) F K W∧∀ l,∃ r v,F l=.agg #[r,v]∧Clk B W r (vecP L (Dd 0 L k l))∧Clk B W v (vecP L (Dd 1 L k l))
theorem DpO.bu {L:List Ac} {k B g b h:Nat} {W W':World} (hd:DpO L k B g W) (hb:Bu b h W W') (n1:g≠b) (n2:g≠h) (lb:b<B) (lh:h<B):DpO L k B g W':=by
 obtain ⟨h0,n,F,K,h1,h2,h3⟩:=hd;refine ⟨h0,n,F,K,h1,h2.stay (hb.block g h2.lt n1 n2),fun l=>?_⟩;obtain ⟨r,v,e,h4,h5⟩:=h3 l;exact ⟨r,v,e,h4.bu hb lb lh,h5.bu hb lb lh⟩
theorem DpO.next {L:List Ac} {k B g:Nat} {W W':World} (hd:DpO L k B g W) (hb:Below W.heap.size W W'):DpO L k B g W':=by
 obtain ⟨h0,n,F,K,h1,h2,h3⟩:=hd;refine ⟨h0,n,F,K,h1,h2.next hb,fun l=>?_⟩;obtain ⟨r,v,e,h4,h5⟩:=h3 l;exact ⟨r,v,e,h4.next hb,h5.next hb⟩
theorem DpO.stay {L:List Ac} {k B g:Nat} {W:World} (hd:DpO L k B g W) (h0:(acA L k).k≠0) (h1:(acA L k).k≠1):DpO L (k+1) B g W:=by
 obtain ⟨hg,n,F,K,h2,h3,h4⟩:=hd;refine ⟨hg,n,F,K,by omega,h3,fun l=>?_⟩;rw [dd_same fun a=>h0 a.1,dd_same fun a=>h1 a.1]; exact h4 l
theorem DpO.look {L:List Ac} {k B g:Nat} {W:World} (hd:DpO L k B g W) {l:Int} (h0 : -9223372036854775808≤l) (h1:l≤9223372036854775807):
  ∃ r v,(Instr.lookup 240 (.map (some g)) l false).run Tryz.prog W=.ok (.agg #[r,v]) W∧Clk B W r (vecP L (Dd 0 L k l))∧Clk B W v (vecP L (Dd 1 L k l)):=by
 obtain ⟨_,n,F,K,h2,h3,h4⟩:=hd;obtain ⟨r,v,e,h5,h6⟩:=h4 l;refine ⟨r,v,?_,h5,h6⟩;rw [←e];exact (h3.look (t:=240) (e:=245) Tryz.underlying3 (by kernel_rfl) (show (zeroValue 245).run Tryz.prog W=.ok (.agg #[zCk,zCk]) W from by kernel_rfl) (i:=l) (by simp [Lit.wf]; exact ⟨h0,h1⟩)).1
theorem DpO.put {L:List Ac} {k B g:Nat} {W:World} (hk:k<L.length) (hk2:k≤1000) (hd:DpO L k B g W) (h0 : -9223372036854775808≤(acA L k).l) (h1:(acA L k).l≤9223372036854775807) (ht:(acA L k).k=0∨(acA L k).k=1) {r v:Value}
  (hr:Clk B W r (if (acA L k).k=0 then joinL (vecP L (Dd 0 L k (acA L k).l)) (vecP L (Know L k)) else vecP L (Dd 0 L k (acA L k).l))) (hv:Clk B W v (if (acA L k).k=0 then vecP L (Dd 1 L k (acA L k).l) else joinL (vecP L (Dd 1 L k (acA L k).l)) (vecP L (Know L k)))):
  ∃ W',(Instr.mapUpdate 240 (.map (some g)) (.int .i64 (acA L k).l) (.agg #[r,v])).run Tryz.prog W=.ok () W'∧DpO L (k+1) B g W'∧Bu g g W W':=by
 obtain ⟨hg,n,F,K,h2,h3,h4⟩:=hd;obtain ⟨W',hu,hm,hg2⟩:=h3.put (t:=240) (e:=245) Tryz.underlying3 (by kernel_rfl) (by omega) (i:=(acA L k).l) (by simp [Lit.wf]; exact ⟨h0,h1⟩) (.agg #[r,v]);have hB:=Bu.put g hg2;have hr2:Clk B W r (vecP L (Dd 0 L (k+1) (acA L k).l)):=by
  by_cases e:(acA L k).k=0
  ·rw [if_pos e,dd_join hk e] at hr; exact hr
  ·rw [if_neg e] at hr; rw [dd_same fun a=>e a.1]; exact hr
 have hv2:Clk B W v (vecP L (Dd 1 L (k+1) (acA L k).l)):=by
  by_cases e:(acA L k).k=0
  ·rw [if_pos e] at hv; rw [dd_same fun a=>by have:=a.1; omega]; exact hv
  ·rw [if_neg e,dd_join hk (by omega)] at hv; exact hv
 refine ⟨W',hu,⟨hg,n+1,_,_,by omega,hm,fun l=>?_⟩,hB⟩;by_cases e:l=(acA L k).l
 ·subst e; rw [if_pos rfl]; exact ⟨r,v,rfl,hr2.bu hB hg hg,hv2.bu hB hg hg⟩
 ·obtain ⟨r',v',e',h5,h6⟩:=h4 l
  rw [if_neg e,dd_same fun a=>e a.2.symm,dd_same fun a=>e a.2.symm]; exact ⟨r',v',e',h5.bu hB hg hg,h6.bu hB hg hg⟩
theorem KnO.bu {L:List Ac} {k B b g h:Nat} {V:List Value} {W W':World} (hk:KnO L k B b g V W) (hb:Bu h h W W') (n1:b≠h) (n2:g≠h) (lh:h<B):KnO L k B b g V W':=by
 refine ⟨hk.lb,hk.lg,hk.ne,Nat.le_trans hk.sz hb.size,hk.vl,hb.blk hk.bb n1 n1,fun u hu=>(hk.vo u hu).bu hb lh lh,?_⟩;obtain ⟨n,F,K,h1,h2,h3⟩:=hk.sg;exact ⟨n,F,K,h1,h2.stay (hb.block g h2.lt n2 n2),fun l=>(h3 l).bu hb lh lh⟩
theorem dpo_zero {L:List Ac} {B g:Nat} {W:World} (hg:g<B) {K:Int→Bool} (hm:MapI Tryz.prog 3 g 0 (.agg #[zCk,zCk]) (fun _=>.agg #[zCk,zCk]) K W):DpO L 0 B g W:=by
 refine ⟨hg,0,_,_,Nat.le_refl _,hm,fun l=>⟨_,_,rfl,?_,?_⟩⟩;rotate_left;rotate_left
 all_goals
  rw [vec_none fun i ⟨j,hj,_⟩=>absurd hj (Nat.not_lt_zero _)];exact Clk.nil
theorem isac_take {W:World} {ad:Option Addr} {n cap k:Nat} {L:List Ac} (h:IsAc W (.slice ad n cap) L) (hk:k≤L.length):IsAc W (.slice ad k cap) (L.take k):=by
 obtain ⟨ad',cap',e,h1,h2,h3⟩:=h
 cases e
 refine ⟨ad,cap,by rw [List.length_take,Nat.min_eq_left hk],by rw [List.length_take]; omega,h2,fun hne=>?_⟩;obtain ⟨b,off,e,h4,h5⟩:=h3 (fun e=>hne (by rw [e]; simp));exact ⟨b,off,e,h4,fun j hj=>by rw [List.getElem_take]; exact h5 j (by rw [List.length_take] at hj; omega)⟩
structure FsO (L:List Ac) (k B b g p:Nat) (w W:World):Prop where
 kn:∃ V,KnO L k B b g V W
 dp:DpO L k B p W
 be:Below w.heap.size w W
 nr:∀ i j,i<j→j<k→¬ raceP L i j
theorem FsO.next {L:List Ac} {k B b g p:Nat} {w W W':World} (h:FsO L k B b g p w W) (hb:Below W.heap.size W W'):FsO L k B b g p w W':=by
 obtain ⟨V,h1⟩:=h.kn;exact ⟨⟨V,h1.next hb⟩,h.dp.next hb,h.be.trans (hb.mono h.be.size),h.nr⟩
theorem rfirst_ok:RFirstOk:=by
 intro L v w hl hLO h
 have hAc:=h;obtain ⟨ad,cap,rfl,h1,h2,-⟩:=h;have HTR:=Lh (istrace_any L _ w hAc);have HAc:=Lh (fun W (hb:Below w.heap.size w W)=>hAc.next hb);obtain ⟨n,hn⟩:∃ n,n=L.length:=⟨_,rfl⟩
 have HN:=Lh (And.intro hn.symm (And.intro hl hLO));rw [←hn] at HAc HTR h1 ⊢;clear hn hAc hl hLO
 go_enter Tryz.func86,Tryz.ntmps86
 cases em:mayAc L
 ·rw [em] at HTR
  have HC:=Lh (code_form em);go_wp2_with (go_at_call 140; refine HTR.out.mono ?_; rintro e w1 ⟨rfl,hb⟩)
  refine bodyPost_ret (v:=.tuple #[.int .i64 (-1),.int .i64 (-1),.int .i64 1]) (by simp [results, Tryz.results86, go_sem]) rfl ⟨_,_,by rw [HC.out],hb⟩
 rw [em] at HTR;have HM:=Lh em;have hmm := @run_makeMap Tryz.prog;clear em
 go_upto_region 4 with (first | (go_at_call 140; refine HTR.out.mono ?_; clear HTR; rintro e w1 ⟨rfl,hb1⟩) | (go_at_call 141; refine (unknowing_any _).mono ?_; rintro e w2 ⟨b,g,K0,rfl,ub,ug,une,ulb,ulg,uB,uM,hb2⟩))
 have HG:=Lh (And.intro (Nat.le_trans hb1.size ub) (And.intro (Nat.le_trans hb1.size ug) (And.intro (Nat.le_trans hb1.size hb2.size) (And.intro ulb ulg))));have H0:Hid (FsO L 0 (w2.heap.size+1) b g w2.heap.size w (w2.alloc (.map #[] 0))):=Lh ⟨⟨_,kno_of (K:=K0) (by omega) (by omega) une (by simp) (uB.next bA) (uM.next bA)⟩,dpo_zero (by omega) (MapI.start w2),(hb1.trans (hb2.mono hb1.size)).trans (bA.mono (Nat.le_trans hb1.size hb2.size)),fun i j _ h=>absurd h (Nat.not_lt_zero _)⟩;have HNE:=Lh une;clear ub ug une ulb ulg uB uM hb1 hb2 hmm;generalize hp:w2.heap.size=p at *
 generalize w2.alloc (.map #[] 0)=W0 at *
 clear hp;go_wp2_with fail
 go_loopg [18] n (fun g_ t18 wr=>∃ k:Nat,k≤n∧g_=n-k∧t18=.int .i64 (k:Int)∧FsO L k (p+1) b g p w wr)
 case atStart=>exact ⟨0,Nat.zero_le _,rfl,rfl,H0.out⟩
 case round=>
  obtain ⟨k,hk,rfl,rfl,hr⟩:=hrel;clear H0;by_cases hlt:k<n
  ·have hlt2:k<L.length:=by have:=HN.out.1; omega
   obtain ⟨bb,off,had,hbw,hc⟩:=(HAc.out w (Below.refl _ _)).at HN.out.1 (by omega);subst had;have c0:=(hr.be.cell (p:=⟨bb,off+k * 3,none⟩) hbw).trans (hc k hlt).1;have c1:=(hr.be.cell (p:=⟨bb,off+k * 3+1,none⟩) hbw).trans (hc k hlt).2.1;have c2:=(hr.be.cell (p:=⟨bb,off+k * 3+2,none⟩) hbw).trans (hc k hlt).2.2;have hmk:=may_at HM.out hlt2;have hlo : -9223372036854775808≤(acA L k).l∧(acA L k).l≤9223372036854775807:=by rw [←acA_eq hlt2]; exact HN.out.2.2 _ (List.getElem_mem hlt2)
   have HX:=Lh (show acA L k=⟨(acA L k).t,(acA L k).k,(acA L k).l⟩ from rfl);generalize (acA L k).t=xt at *
   generalize (acA L k).k=xk at *
   generalize (acA L k).l=xl at *
   obtain ⟨u,rfl⟩:∃ u:Nat,xt=(u:Int):=⟨xt.toNat,by omega⟩
   have hu:u<16:=by omega
   have HR:=Lh (hr.next (bA (o:=.cells #[.int .i64 (u:Int),xk,xl] 179)));have HB:=Lh (Blk.start wr [.int .i64 (u:Int),xk,xl] 179);have HSZ:=Lh (show p+1≤wr.heap.size from by obtain ⟨V,h⟩:=hr.kn; exact h.sz);have HMK:=Lh (And.intro hmk hlo);have HLT:=Lh (And.intro hlt hlt2);have hwk:IntKind.i64.wrap ((k:Int)+1)=(k:Int)+1:=IntWalk.i64_in _ (by have:=HN.out.1; have:=HN.out.2.1; omega);clear hr hc hmk hlo hlt2
   go_upto_region 7 with fail
   generalize World.alloc _ _=w3 at *
   generalize hbx:wr.heap.size=bx at *
   clear hbx c0 c1 c2 hlt;obtain ⟨V,hkn⟩:=HR.out.kn;have HLN:=Lh (learn_any L k u xk xl HX.out hu HLT.out.2 (by have:=HN.out; omega) HMK.out.2.1 HMK.out.2.2 (p+1) b g V w3 hkn);clear hkn;obtain ⟨x0,x1,x2⟩:=blk3 HB.out
   go_upto_region 8 with (go_at_call 142; refine HLN.out.mono ?_; clear HLN; rintro e w4 ⟨v,V',rfl,hck,hkn,hbu⟩)
   have H4:Hid (Below w.heap.size w w4∧DpO L k (p+1) p w4∧(∃ V,KnO L (k+1) (p+1) b g V w4)∧Clk (p+1) w4 v (vecP L (Know L k))∧Blk w4 bx [.int .i64 (u:Int),xk,xl] 179∧∀ i j,i<j→j<k→¬ raceP L i j):=Lh
    ⟨HR.out.be.trans (hbu.below HG.out.1 HG.out.2.1 HR.out.be.size),HR.out.dp.bu hbu (by have:=HG.out; omega) (by have:=HG.out; omega) (by have:=HG.out; omega) (by have:=HG.out; omega),⟨V',hkn⟩,hck,hbu.blk HB.out (by have:=HG.out; have:=HSZ.out; omega) (by have:=HG.out; have:=HSZ.out; omega),HR.out.nr⟩
   have H5:=Lh (fun W (hb:Below w4.heap.size w4 W)=>show Below w.heap.size w W∧DpO L k (p+1) p W∧(∃ V,KnO L (k+1) (p+1) b g V W)∧Clk (p+1) W v (vecP L (Know L k))∧Blk W bx [.int .i64 (u:Int),xk,xl] 179 from
    ⟨H4.out.1.trans (hb.mono H4.out.1.size),H4.out.2.1.next hb,by obtain ⟨V,h⟩:=H4.out.2.2.1; exact ⟨V,h.next hb⟩,H4.out.2.2.2.1.next hb,H4.out.2.2.2.2.1.next hb⟩)
   obtain ⟨va,vn,vc,rfl⟩:=hck.form;clear hck hkn hbu HR HB x0 x1 x2;obtain ⟨y0,y1,y2⟩:=blk3 H4.out.2.2.2.2.1;have HTO:=Lh (show Calls Tryz.prog 143 #[.agg #[.int .i64 (u:Int),xk,xl]] w4 (Rt (.bool (touB ⟨u,xk,xl⟩)) w4) from touches_any ⟨u,xk,xl⟩ w4);by_cases ht:xk=0∨xk=1
   rotate_left
   ·rw [show touB ⟨u,xk,xl⟩=false from decide_eq_false ht] at HTO
    have HNX:=Lh ht;clear ht;go_wp2_with (go_at_call 143; refine HTO.out.mono ?_; rintro e w5 ⟨rfl,hb5⟩)
    go_roundg (n-(k+1))
    case measure=>have:=HLT.out; omega
    case rel=>
     obtain ⟨g1,g2,g3,-,-⟩:=H5.out _ hb5;refine ⟨k+1,by have:=HLT.out; omega,rfl,by go_num,g3,g2.stay (by rw [HX.out]; exact fun e=>HNX.out (.inl e)) (by rw [HX.out]; exact fun e=>HNX.out (.inr e)),g1,fun i j h1 h2 hrr=>?_⟩;by_cases e:j=k
     ·subst e
      have h3:=hrr.1.2.1;rw [HX.out] at h3;have:=HMK.out.1.2.2;exact HNX.out (show xk=0∨xk=1 by have h4:xk<2:=h3; omega)
     ·exact H4.out.2.2.2.2.2 i j h1 (by omega) hrr
   rw [show touB ⟨u,xk,xl⟩=true from decide_eq_true ht] at HTO;have HTT:=Lh ht;clear ht
   go_upto_region 9 with (go_at_call 143; refine HTO.out.mono ?_; rintro e w5 ⟨rfl,hb5⟩; have H6:=Lh (H5.out _ hb5); clear hb5)
   clear y0 y1 y2 HTO;obtain ⟨y0,y1,y2⟩:=blk3 H6.out.2.2.2.2;obtain ⟨rv,wv,hlk,hrd,hwd⟩:=H6.out.2.1.look (l:=xl) HMK.out.2.1 HMK.out.2.2;obtain ⟨ra,rn,rc,rfl⟩:=hrd.form;obtain ⟨wa,wn,wc,rfl⟩:=hwd.form;have H7:=Lh (And.intro (hrd.next (bA (o:=.cells #[.slice ra rn rc,.slice wa wn wc] 245))) (And.intro (hwd.next (bA (o:=.cells #[.slice ra rn rc,.slice wa wn wc] 245))) (And.intro (Blk.start w5 [.slice ra rn rc,.slice wa wn wc] 245) (bA (w:=w5) (o:=.cells #[.slice ra rn rc,.slice wa wn wc] 245)))));clear hrd hwd
   go_upto_region 10 with fail
   generalize World.alloc _ _=w6 at *
   have HKN:=Lh (show Calls Tryz.prog 144 #[.agg #[.slice ra rn rc,.slice wa wn wc],.agg #[.int .i64 (u:Int),xk,xl],.slice va vn vc] w6 (Rt (.bool (knwB L k)) w6) from by
    have h:=known_any (L:=L) (by have:=HN.out; omega) (u:Int) xk xl w6 H7.out.1 H7.out.2.1 (H6.out.2.2.2.1.next H7.out.2.2.2);have e:knwB L k=(leqL (vecP L (Dd 1 L k xl)) (vecP L (Know L k))&&((xk==0)||leqL (vecP L (Dd 0 L k xl)) (vecP L (Know L k)))):=by unfold knwB; rw [HX.out]
    rw [e]; exact h)
   have HKW:=Lh (knw_iff HM.out HLT.out.2 (by rw [HX.out]; exact HTT.out));have H8:=Lh (fun W (hb:Below w6.heap.size w6 W)=>And.intro (H7.out.1.next hb) (And.intro (H7.out.2.1.next hb) (And.intro (H7.out.2.2.1.next hb) (And.intro (H6.out.2.2.2.2.next (H7.out.2.2.2.trans (hb.mono H7.out.2.2.2.size))) (And.intro (H6.out.2.2.2.1.next (H7.out.2.2.2.trans (hb.mono H7.out.2.2.2.size))) (And.intro (H6.out.2.1.next (H7.out.2.2.2.trans (hb.mono H7.out.2.2.2.size))) (And.intro (H6.out.2.2.1.imp fun V h=>h.next (H7.out.2.2.2.trans (hb.mono H7.out.2.2.2.size))) (H6.out.1.trans ((H7.out.2.2.2.trans (hb.mono H7.out.2.2.2.size)).mono H6.out.1.size)))))))));have d0 := H7.out.2.2.1.c2;clear y0 y1 y2 hlk;obtain ⟨y0,y1,y2⟩:=blk3 (H8.out _ (Below.refl _ _)).2.2.2.1;have HNR:=Lh H4.out.2.2.2.2.2;have HS5:=Lh (show p+1≤w5.heap.size from by obtain ⟨V,h⟩:=H6.out.2.2.1; exact h.sz);clear H4 H5 H6 H7;generalize w5.heap.size=bd at *
   generalize hz:knwB L k=z at *
   cases z with
   | false=>
    go_upto_region 11 with (go_at_call 144; refine HKN.out.mono ?_; clear HKN; rintro e w7 ⟨rfl,hb7⟩; have H9:=Lh (H8.out _ hb7); clear hb7)
    have HFU:=Lh (fun W (hb:Below w7.heap.size w7 W)=>show Calls Tryz.prog 145 #[.slice (some ⟨bb,off,none⟩) k cap,.agg #[.int .i64 (u:Int),xk,xl],.slice va vn vc] W fun e w'=>∃ a,e=.returned a∧Below W.heap.size W w' from by
     obtain ⟨TC,iC,mC,-⟩:=(H9.out.2.2.2.2.1.next hb).ex (by have:=HN.out; omega);exact firstunknown_any (L.take k) _ ⟨u,xk,xl⟩ TC _ W (by have h:=HM.out; rw [mayAc,List.all_eq_true] at h ⊢; exact fun x hx=>h x (List.mem_of_mem_take hx)) (isac_take (HAc.out W (H9.out.2.2.2.2.2.2.2.trans (hb.mono H9.out.2.2.2.2.2.2.2.size))) (k:=k) (by have:=HLT.out; omega)) iC mC)
    obtain ⟨e0,e1,e2⟩:=blk3 H9.out.2.2.2.1;have HCR:=Lh (show codeL L=13 from by
     obtain ⟨j,hj,hrr⟩:∃ j,j<k∧raceP L j k:=Classical.byContradiction fun hn=>by
      have h:=HKW.out.2 fun j hj hrr=>hn ⟨j,hj,hrr⟩
      cases h
     exact code_race HM.out ⟨j,k,hj,HLT.out.2,hrr⟩)
    have HBE:=Lh H9.out.2.2.2.2.2.2.2;have hq1:(k:Int)≤(cap:Int):=by have:=HLT.out.1; omega
    refine rgH (fun W=>Cz3 W bx (.int .i64 (u:Int)) xk xl) ⟨e0,e1,e2⟩ fun hH=>?_
    refine ta 0 hH ?_;refine ta 1 hH ?_;refine ta 2 hH ?_;refine ta 3 hH ?_;refine ta 4 hH ?_;refine ta 6 hH ?_;refine rd1 5 (by kernel_rfl) rfl fun K hK=>?_
    go_simp
    refine (HFU.out _ bdq).mono ?_
    rintro e w8 ⟨fa,rfl,hb8⟩
    go_wp2_with fail
    have HE:=Lh (HBE.out.trans ((bdq.trans hb8).mono HBE.out.size));refine hK.out _ _ (by have h:=H9.out.2.2.2.1.next (bdq.trans hb8); exact blk3 h) ?_;clear hK K hH hb8;intro hH
    try simp only [LAY]
    refine ta 7 hH ?_;refine ta 8 hH ?_;refine ta 9 hH ?_;refine dnH ?_;go_wp2_with fail
    refine bodyPost_ret (v:=.tuple #[fa,.int .i64 (k:Int),.int .i64 13]) (by simp [results, Tryz.results86, go_sem]) rfl ⟨_,_,by rw [HCR.out],HE.out⟩
   | true=>
    go_upto_region 12 with (go_at_call 144; refine HKN.out.mono ?_; clear HKN; rintro e w7 ⟨rfl,hb7⟩; have H9:=Lh (H8.out _ hb7); clear hb7)
    have HWT:=Lh (fun W (hb:Below w7.heap.size w7 W)=>with_any (L:=L) (by have:=HN.out; omega) (u:Int) xk xl W (Nat.le_trans (by have:=HS5.out; have h2:=H9.out.2.2.1.lt; omega) hb.size) (H9.out.1.next hb) (H9.out.2.1.next hb) (H9.out.2.2.2.2.1.next hb));have HSV:=Lh (fun W (hb:Below w7.heap.size w7 W)=>show (W.cell? ⟨bx,0,none⟩=some (.int .i64 (u:Int))∧W.cell? ⟨bx,1,none⟩=some (.int .i64 xk)∧W.cell? ⟨bx,2,none⟩=some (.int .i64 xl))∧W.cell? ⟨bd,0,none⟩=some (.slice ra rn rc)∧W.cell? ⟨bd,1,none⟩=some (.slice wa wn wc) from ⟨blk3 (H9.out.2.2.2.1.next hb),(H9.out.2.2.1.next hb).c2⟩);have hnr:∀ i j,i<j→j<k+1→¬ raceP L i j:=fun i j h1 h2=>by
     by_cases e:j=k
     ·subst e; exact HKW.out.1 trivial i h1
     ·exact HNR.out i j h1 (by omega)
    have HNR2:=Lh hnr;clear hnr HKW HNR;refine rgH (fun W=>(W.cell? ⟨bx,0,none⟩=some (.int .i64 (u:Int))∧W.cell? ⟨bx,1,none⟩=some (.int .i64 xk)∧W.cell? ⟨bx,2,none⟩=some (.int .i64 xl))∧W.cell? ⟨bd,0,none⟩=some (.slice ra rn rc)∧W.cell? ⟨bd,1,none⟩=some (.slice wa wn wc)) (HSV.out _ bdq) fun hH=>?_
    refine ta 0 hH ?_;refine ta 1 hH ?_;refine ta 2 hH ?_;refine ta 3 hH ?_;refine ta 4 hH ?_;refine ta 5 hH ?_;refine rd1 6 (by kernel_rfl) rfl fun K hK=>?_
    go_simp
    refine (HWT.out _ bdq).mono ?_
    rintro e w8 ⟨r2,v2,rfl,hr2,hv2,hb8⟩
    go_wp2_with fail
    refine hK.out _ _ (HSV.out _ (bdq.trans hb8)) ?_;clear hK K hH;intro hH
    try simp only [LAY]
    have hb9:Below w7.heap.size w7 w8:=bdq.trans hb8;obtain ⟨w9,hmu,hdp,hbu⟩:=(H9.out.2.2.2.2.2.1.next hb9).put HLT.out.2 (by have:=HN.out; have:=HLT.out; omega) (by rw [HX.out]; exact HMK.out.2.1) (by rw [HX.out]; exact HMK.out.2.2) (by rw [HX.out]; exact HTT.out) (r:=r2) (v:=v2) (by rw [HX.out]; exact hr2) (by rw [HX.out]; exact hv2);rw [HX.out] at hmu;obtain ⟨V2,hV2⟩:=H9.out.2.2.2.2.2.2.1;have HE:Hid (FsO L (k+1) (p+1) b g p w w9):=Lh ⟨⟨V2,(hV2.next hb9).bu hbu (by have:=HG.out; omega) (by have:=HG.out; omega) (by omega)⟩,hdp,(H9.out.2.2.2.2.2.2.2.trans (hb9.mono H9.out.2.2.2.2.2.2.2.size)).trans (hbu.below HG.out.2.2.1 HG.out.2.2.1 (Nat.le_trans H9.out.2.2.2.2.2.2.2.size hb9.size)),HNR2.out⟩;have hS9:(w9.cell? ⟨bx,0,none⟩=some (.int .i64 (u:Int))∧w9.cell? ⟨bx,1,none⟩=some (.int .i64 xk)∧w9.cell? ⟨bx,2,none⟩=some (.int .i64 xl))∧w9.cell? ⟨bd,0,none⟩=some (.slice ra rn rc)∧w9.cell? ⟨bd,1,none⟩=some (.slice wa wn wc):=by
     have g1:=hbu.blk (H9.out.2.2.2.1.next hb9) (by have:=HSZ.out; omega) (by have:=HSZ.out; omega);have g2:=hbu.blk (H9.out.2.2.1.next hb9) (by have:=HS5.out; omega) (by have:=HS5.out; omega);exact ⟨blk3 g1,g2.c2⟩
    have HS9:=Lh hS9;clear hS9 hdp hbu hV2 hr2 hv2 hb8 hb9;refine rd1 7 (by kernel_rfl) rfl fun K hK=>?_
    go_simp
    go_wp2_with fail
    refine hK.out _ _ HS9.out (fun hH2=>?_);clear hK K hH hH2 hmu
    try simp only [LAY]
    refine dnH ?_;go_wp2_with fail
    go_roundg (n-(k+1))
    case measure=>have:=HLT.out; omega
    case rel=>exact ⟨k+1,by have:=HLT.out; omega,rfl,by go_num,HE.out⟩
  ·obtain rfl:n=k:=by omega
   have HC:=Lh (code_ok HM.out (fun ⟨i,j,h1,h2,h3⟩=>hr.nr i j h1 (by have:=HN.out.1; omega) h3));have HB:=Lh hr.be;clear hr;go_wp2_with fail
   refine bodyPost_ret (v:=.tuple #[.int .i64 (-1),.int .i64 (-1),.int .i64 0]) (by simp [results, Tryz.results86, go_sem]) rfl ⟨_,_,by rw [HC.out],HB.out⟩
end Go.Proofs.YtemicfjmidohfaaGreatDoor
namespace Go.Proofs.YtemicfjmidohfaaGreatDoor
open Go Go.Proofs Go.RowKit
theorem acA_drop {L:List Ac} {i j:Nat}:acA (L.drop i) j=acA L (i+j):=by
 unfold acA; rw [List.getD_eq_getElem?_getD,List.getD_eq_getElem?_getD,List.getElem?_drop]
theorem ord_drop {L:List Ac} {i a b:Nat}:Ord (L.drop i) a b↔Ord L (i+a) (i+b):=by
 constructor
 ·intro h
  induction h with
  | one h1 h2 h3=>exact .one (by omega) (by rw [List.length_drop] at h2; omega) (by unfold dirP at h3 ⊢; rwa [acA_drop,acA_drop] at h3)
  | step _ h1 h2 h3 ih=>exact .step ih (by omega) (by rw [List.length_drop] at h2; omega) (by unfold dirP at h3 ⊢; rwa [acA_drop,acA_drop] at h3)
 ·intro h
  generalize hx:i+b=y at h
  induction h generalizing b with
  | one h1 h2 h3=>subst hx; exact .one (by omega) (by rw [List.length_drop]; omega) (by unfold dirP at h3 ⊢; rwa [acA_drop,acA_drop])
  | @step j y h0 h1 h2 h3 ih=>
   subst hx;have hj:=h0.lt;obtain ⟨c,rfl⟩:∃ c,j=i+c:=⟨j-i,by omega⟩
   exact .step (ih rfl) (by omega) (by rw [List.length_drop]; omega) (by unfold dirP at h3 ⊢; rwa [acA_drop,acA_drop])
theorem may_drop {L:List Ac} {i:Nat} (h:mayAc L=true):mayAc (L.drop i)=true:=by
 rw [mayAc,List.all_eq_true] at h ⊢; exact fun x hx=>h x (List.mem_of_mem_drop hx)
end Go.Proofs.YtemicfjmidohfaaGreatDoor
namespace Go.Proofs.YtemicfjmidohfaaGreatDoor
open Go Go.Proofs Go.RowKit
theorem rc_ok:RAll:=by
 constructor
 ·exact rfirst_ok
end Go.Proofs.YtemicfjmidohfaaGreatDoor
