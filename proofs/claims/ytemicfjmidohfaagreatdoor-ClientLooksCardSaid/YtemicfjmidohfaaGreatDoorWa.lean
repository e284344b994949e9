import Derived.Test.YtemicfjmidohfaaGreatDoorSz
import Derived.Test.YtemicfjmidohfaaGreatDoorDc
import Derived.Test.YtemicfjmidohfaaGreatDoorMi14
import Derived.Test.YtemicfjmidohfaaGreatDoorRz
import Derived.Test.YtemicfjmidohfaaGreatDoorKz
import Derived.Test.YtemicfjmidohfaaGreatDoorRy
namespace Go.Proofs.YtemicfjmidohfaaGreatDoor
open Go Go.Proofs Go.RowKit
def ansC (x:Ans):Value:=.agg #[x.e,x.n,.string x.t]
def entL (x:QEn):List Value:=[.int .i64 x.tk,.int .i64 x.sl]++calL x.c
def nBd:Nat:=50
def zBd:List Value:=[.bool false,.bool false,.int .i64 0,.slice none 0 0,.bool false,.bool false,.int .i64 0,.slice none 0 0,.bool false,.bool false,.int .i64 0,.slice none 0 0,.bool false,.bool false,.int .i64 0,.slice none 0 0,
 .bool false,.bool false,.int .i64 0,.slice none 0 0,.bool false,.bool false,.int .i64 0,.slice none 0 0,.bool false,.bool false,.int .i64 0,.slice none 0 0,.bool false,.bool false,.int .i64 0,.slice none 0 0,
 .int .i64 0,.int .i64 0,.int .i64 0,.bool false,.bool false,.int .i64 0,.bool false,.pointer none,.pointer none,.int .i64 0,.slice none 0 0,.int .i64 0,.int .i64 0,.complex .f64 0 0,.complex .f64 0 0,.map none,.pointer none,.int .i64 0]
abbrev ENT:TypeId:=115
abbrev LNK:TypeId:=252
abbrev BDT:TypeId:=51
def zRs:Value:=.agg #[.int .i64 0,.int .i64 0,.string ⟨#[]⟩]
def bTy:List TypeId:=[ENT,LNK,363,353,73]
variable {X:Nat→Prop} {W W':World}
def IsMs (X:Nat→Prop) (W:World) (v:Value) (l:List (Int×Ans)) (n:Nat):Prop:=
 (v=.map none∧l=[])∨∃ g m,v=.map (some g)∧¬ X g∧m≤n∧MapI Tryz.prog 3 g m zRs (fun i=>ansC ((slotA l i).getD ⟨0,0,⟨#[]⟩⟩)) (fun i=>(slotA l i).isSome) W
theorem IsMs.next {v:Value} {l:List (Int×Ans)} {n:Nat} (h:IsMs X W v l n) (hb:Below W.heap.size W W'):IsMs X W' v l n:=by
 rcases h with h | ⟨g,m,e,h1,h2,h3⟩
 ·exact .inl h
 ·exact .inr ⟨g,m,e,h1,h2,h3.next hb⟩
theorem IsMs.more {v:Value} {l:List (Int×Ans)} {n k:Nat} {Y:Nat→Prop} (h:IsMs X W v l n) (hn:n≤k) (hY:∀ c,Y c→X c∨W.heap.size≤c):IsMs Y W v l k:=by
 rcases h with h | ⟨g,m,e,h1,h2,h3⟩
 ·exact .inl h
 ·exact .inr ⟨g,m,e,fun hy=>(hY g hy).elim h1 fun h=>by have:=h3.lt; omega,Nat.le_trans h2 hn,h3⟩
theorem IsMs.stay {v:Value} {l:List (Int×Ans)} {n:Nat} (h:IsMs X W v l n) (hs:∀ c o,¬ X c→W.heap[c]? = some o→o.isCells=false→W'.heap[c]? = W.heap[c]?):IsMs X W' v l n:=by
 rcases h with h | ⟨g,m,e,h1,h2,h3⟩
 ·exact .inl h
 ·refine .inr ⟨g,m,e,h1,h2,h3.stay ?_⟩
  obtain ⟨D,⟨es,cl,hb,r⟩,ha⟩:=h3;exact hs g _ h1 hb rfl
def IsLk (W:World):Value→List Ac→Prop
 | v,[]=>v=.pointer none
 | v,a::l=>∃ b u,v=.pointer (some ⟨b,0,none⟩)∧Blk W b (u::acL a) LNK∧IsLk W u l
theorem IsLk.next (hb:Below W.heap.size W W'):∀ {l:List Ac} {v:Value},IsLk W v l→IsLk W' v l
 | [],_,h=>h
 | _::_,_,⟨b,u,e,h1,h2⟩=>⟨b,u,e,h1.next hb,h2.next hb⟩
theorem IsLk.kt (hk:KT LNK W W'):∀ {l:List Ac} {v:Value},IsLk W v l→IsLk W' v l
 | [],_,h=>h
 | _::_,_,⟨b,u,e,h1,h2⟩=>⟨b,u,e,hk _ _ h1,h2.kt hk⟩
theorem IsLk.one:∀ {l:List Ac} {v:Value},IsLk W v l→v.oneCell'=true
 | [],_,h=>by cases h; rfl
 | _::_,_,⟨b,u,e,_⟩=>by cases e; rfl
structure StA (X:Nat→Prop) (W:World) (cs:List Value) (i:Nat) (x:Sto) (k:Int) (q:Value):Prop where
 c0:cs[i * 4]? = some (.bool (decide (0≤x.h)))
 c1:cs[i * 4+1]? = some (.bool x.z)
 c2:cs[i * 4+2]? = some (.int .i64 k)
 c3:cs[i * 4+3]? = some q
 h0:0≤x.h→k=x.h
 h1:x.h<0→x.h = -1
 q:So X ENT 13 entL W q x.q
structure IsBd (W:World) (X:Nat→Prop) (b:Brd) (cs:List Value):Prop where
 len:cs.length=nBd
 one:∀ u∈cs,u.oneCell'=true
 s8:b.st.length≤8
 st:∀ i (h:i<b.st.length),∃ k q,StA X W cs i b.st[i] k q
 pl:cs[32]? = some (.int .i64 (b.st.length:Int))∧cs[33]? = some (.int .i64 b.room)∧cs[34]? = some (.int .i64 b.tk)∧cs[35]? = some (.bool b.up)∧cs[36]? = some (.bool b.gone)
 rp:IsRp W b.r ((cs.drop 37).take 10)
 ms:∃ v,cs[47]? = some v∧IsMs X W v b.sl b.sl.length
 lk:∃ v,cs[48]? = some v∧IsLk W v b.tr.reverse
 n:cs[49]? = some (.int .i64 (b.tr.length:Int))
 lo:LocOk b.tr
theorem IsRp.kt {r:Rpl} {cs:List Value} (h:IsRp W r cs) (h1:KT 363 W W') (h2:KT 353 W W') (h3:KT 73 W W') (hs:W.heap.size≤W'.heap.size):IsRp W' r cs:=by
 obtain ⟨v0,v1,v2,v3,v4,v5,v6,v7,hv,hc⟩:=h.ex;exact ⟨v0,v1,v2,v3,v4,v5,v6,v7,hv.kt h1 h2 h3 hs,hc⟩
theorem IsBd.next {b:Brd} {cs:List Value} (h:IsBd W X b cs) (hb:Below W.heap.size W W'):IsBd W' X b cs where
 len:=h.len
 one:=h.one
 s8:=h.s8
 st i hi:=by obtain ⟨k,q,s⟩:=h.st i hi; exact ⟨k,q,{ s with q:=s.q.next hb }⟩
 pl:=h.pl
 rp:=h.rp.next hb
 ms:=by obtain ⟨v,h1,h2⟩:=h.ms; exact ⟨v,h1,h2.next hb⟩
 lk:=by obtain ⟨v,h1,h2⟩:=h.lk; exact ⟨v,h1,h2.next hb⟩
 n:=h.n
 lo:=h.lo
theorem IsBd.more {Y:Nat→Prop} {b:Brd} {cs:List Value} (h:IsBd W X b cs) (hY:∀ c,Y c→X c∨W.heap.size≤c):IsBd W Y b cs where
 len:=h.len
 one:=h.one
 s8:=h.s8
 st i hi:=by obtain ⟨k,q,s⟩:=h.st i hi; exact ⟨k,q,{ s with q:=s.q.grow (Below.refl _ _) hY }⟩
 pl:=h.pl
 rp:=h.rp
 ms:=by obtain ⟨v,h1,h2⟩:=h.ms; exact ⟨v,h1,h2.more (Nat.le_refl _) hY⟩
 lk:=h.lk
 n:=h.n
 lo:=h.lo
theorem IsBd.kt {b:Brd} {cs:List Value} (h:IsBd W X b cs) (hk:∀ t∈bTy,KT t W W') (hm:∀ c o,¬ X c→W.heap[c]? = some o→o.isCells=false→W'.heap[c]? = W.heap[c]?) (hs:W.heap.size≤W'.heap.size):IsBd W' X b cs where
 len:=h.len
 one:=h.one
 s8:=h.s8
 st i hi:=by obtain ⟨k,q,s⟩:=h.st i hi; exact ⟨k,q,{ s with q:=s.q.kt (hk _ (by simp [bTy])) }⟩
 pl:=h.pl
 rp:=h.rp.kt (hk _ (by simp [bTy])) (hk _ (by simp [bTy])) (hk _ (by simp [bTy])) hs
 ms:=by obtain ⟨v,h1,h2⟩:=h.ms; exact ⟨v,h1,h2.stay hm⟩
 lk:=by obtain ⟨v,h1,h2⟩:=h.lk; exact ⟨v,h1,h2.kt (hk _ (by simp [bTy]))⟩
 n:=h.n
 lo:=h.lo
end Go.Proofs.YtemicfjmidohfaaGreatDoor
set_option maxRecDepth 100000
set_option maxHeartbeats 12800000
namespace Go.Proofs.YtemicfjmidohfaaGreatDoor
open Go Go.Proofs Go.RowKit
theorem IsBd.setN {W:World} {X:Nat→Prop} {b:Brd} {cs zs:List Value} {g:Nat} {t:TypeId} (h:IsBd W X b cs) (hB:Blk W g zs t) (ht:t∉bTy) (us:List Value):IsBd (setN W g 0 us) X b cs:=
 h.kt (fun u hu=>KT.setN (fun e:t=u=>ht (by rw [e]; exact hu)) us 0 hB) (fun c o _ ho hc=>setN_other us 0 fun e=>by
  subst e; unfold Blk at hB; rw [hB] at ho; cases ho; cases hc) (Nat.le_of_eq (setN_size _ 0).symm)
theorem IsBd.grown {W W':World} {X:Nat→Prop} {b:Brd} {cs:List Value} {m:Nat} {o:Obj} (h:IsBd W X b cs) (hg:W.grownBy W' (some m)) (ho:W.heap[m]? = some o) (hc:o.isCells=false) (hX:X m):IsBd W' X b cs:=
 h.kt (fun _ _ _ _ hb=>hb.grown hg fun r e=>by cases e; exact ⟨o,ho,hc⟩) (fun c o' hn hc' _=>hg.block c (Array.getElem?_eq_some_iff.1 hc').1 fun e=>by cases e; exact hn hX) hg.size
def Old (X:Nat→Prop) (w:World):Prop:=∀ c,X c→c<w.heap.size
def RB (b:Brd) (X:Nat→Prop) (f:Value→Value) (w:World) (e:Ending) (w':World):Prop:=Below w.heap.size w w'∧∃ cs:List Value,e=.returned (f (.agg cs.toArray))∧IsBd w' X b cs
def BCall (f:FuncId) (xs:List Value) (b b':Brd) (t:Int) (g:Value→Value):Prop:=∀ (n:Nat) (X:Nat→Prop) (cs:List Value) (w:World),BOk b n→n≤1000→IsBd w X b cs→Old X w→0≤t→t≤15→Calls Tryz.prog f (.agg cs.toArray::.int .i64 t::xs).toArray w (RB b' X g w)
def BAsk (f:FuncId) (xs:List Value) (b:Brd) (R:World→Ending→World→Prop):Prop:=∀ (n:Nat) (X:Nat→Prop) (cs:List Value) (w:World),BOk b n→n≤1000→IsBd w X b cs→Calls Tryz.prog f (.agg cs.toArray::xs).toArray w (R w)
def noEnt:List Value:=[.int .i64 0,.int .i64 0,.int .i64 0,.int .i64 0,.int .i32 0,.int .i64 0,.int .i64 0,.int .i64 0,.int .i64 0,.int .i64 0,.int .i32 0,.int .i64 0,.int .i64 0]
def popV (x:Option QEn):Value:=.agg (x.elim noEnt entL).toArray
def newBr (site stripes room:Int):Brd:=if newBE site stripes room=0 then newB site stripes room else nilB
def IsEn (W:World) (v:Value) (L:List QEn):Prop:=∃ ad cap,v=.slice ad L.length cap∧L.length≤cap∧cap≤9223372036854775807 ∧
 (L≠[]→∃ b off,ad=some ⟨b,off,none⟩∧b<W.heap.size∧∀ j (hj:j<L.length),W.rangeAt b (off+j * 13) (entL L[j]))
structure BAll:Prop where
 new:∀ (site stripes room:Int) (X:Nat→Prop) (w:World),-9223372036854775808≤site→site≤9223372036854775807 → -9223372036854775808≤stripes→stripes≤9223372036854775807 → -9223372036854775808≤room→room≤9223372036854775807→Old X w→Calls Tryz.prog 7 #[site,stripes,room] w (RB (newBr site stripes room) X (fun v=>.tuple #[v,.int .i64 (newBE site stripes room)]) w)
 hold:∀ (b:Brd) (s:Int),0≤s→s<b.st.length→BAsk 29 [s] b fun w e w'=>e=.returned (.int .i64 (b.at s).h)∧Below w.heap.size w w'
 trace:∀ (b:Brd),BAsk 35 [] b fun w e w'=>∃ v,e=.returned v∧IsAc w' v b.tr∧LocOk b.tr∧Below w.heap.size w w'
 lock:∀ (b:Brd) (t s:Int),0≤s→s<b.st.length→BCall 30 [s] b (lockB b t s) t fun v=>.tuple #[v,.bool (decide ((b.at s).h<0))]
 unlock:∀ (b:Brd) (t s:Int),0≤s→s<b.st.length→BCall 43 [s] b (unlockB b t s) t fun v=>v
 push:∀ (b:Brd) (t s k:Int) (c:Cal),0≤s→s<b.st.length→0≤k→k≤800→BCall 45 [s,k,.agg (calL c).toArray] b (pushB b t s k c) t fun v=>.tuple #[v,.int .i64 (pushE b s)]
 pop:∀ (b:Brd) (t s k:Int),0≤s→s<b.st.length → -9223372036854775808≤k→k≤9223372036854775807→BCall 21 [s,k] b (popB b t s k) t fun v=>.tuple #[v,popV (popE b s k),.bool (popE b s k).isSome]
 sl:∀ (b:Brd) (t s:Int),0≤s→s<b.st.length→BCall 47 [s] b (sealB b t s) t fun v=>v
 empty:∀ (b:Brd) (t s:Int),0≤s→s<b.st.length→BCall 49 [s] b (emptyB b t s) t fun v=>.tuple #[v,.bool (emptyA b s)]
 fill:∀ (b:Brd) (t k:Int) (x:Ans),0≤k→k≤800→BCall 19 [k,ansC x] b (fillB b t k x) t fun v=>v
 filled:∀ (b:Brd) (t k:Int),0≤k→k≤800→BCall 59 [k] b (filledB b t k) t fun v=>.tuple #[v,.bool (filledA b k)]
 fetch:∀ (b:Brd) (t k:Int),0≤k→k≤800→BCall 61 [k] b (fetchB b t k) t fun v=>.tuple #[v,ansC (fetchA b k)]
 stripes:∀ (b:Brd),BAsk 8 [] b fun w e w'=>e=.returned (.int .i64 (b.st.length:Int))∧Below w.heap.size w w'
 queue:∀ (b:Brd) (s:Int),0≤s→s<b.st.length→BAsk 36 [s] b fun w e w'=>∃ v,e=.returned v∧IsEn w' v (b.at s).q∧Below w.heap.size w w'
 up:∀ (b:Brd) (t:Int),BCall 38 [] b (upB b t) t fun v=>.tuple #[v,.bool b.up]
 raise:∀ (b:Brd) (t:Int),BCall 40 [] b (raiseB b t) t fun v=>.tuple #[v,.bool (!b.up)]
 pub:∀ (b:Brd) (t:Int) (r:Rpl) (rs:List Value) (n:Nat) (X:Nat→Prop) (cs:List Value) (w:World),BOk b n→n≤1000→IsBd w X b cs→Old X w→IsRp w r rs→0≤t→t≤15→Calls Tryz.prog 55 #[.agg cs.toArray,t,.agg rs.toArray] w (RB (publB b t r) X (fun v=>v) w)
 load:∀ (b:Brd) (t:Int) (n:Nat) (X:Nat→Prop) (cs:List Value) (w:World),BOk b n→n≤1000→IsBd w X b cs→Old X w→0≤t→t≤15→Calls Tryz.prog 51 #[.agg cs.toArray,t] w fun e w'=>Below w.heap.size w w'∧∃ ds rs:List Value,e=.returned (.tuple #[.agg ds.toArray,.agg rs.toArray])∧IsBd w' X (loadB b t) ds∧IsRp w' b.r rs
 leave:∀ (b:Brd) (t:Int),BCall 23 [] b (leaveB b t) t fun v=>v
 gone:∀ (b:Brd) (t:Int),BCall 63 [] b (goneB b t) t fun v=>.tuple #[v,.bool b.gone]
def Awake15Ok:Prop:=∀ w:World,Pows w→Tabs w→Calls Tryz.prog 6 #[] w (Rt (.bool true) w)
structure A15 where
 k:Int
 t:Int
 s:Int
 j:Int
 c:Cal
 tk:Int
 o:Int
 k0:0≤k
 k1:k≤255
 t0 : -9223372036854775808≤t
 t1:t≤9223372036854775807
 s0 : -9223372036854775808≤s
 s1:s≤9223372036854775807
 j0 : -9223372036854775808≤j
 j1:j≤9223372036854775807
 u0 : -9223372036854775808≤tk
 u1:tk≤9223372036854775807
 o0 : -9223372036854775808≤o
 o1:o≤9223372036854775807
abbrev a15L (x:A15):List Value:=[.int .u8 x.k,.int .i64 x.t,.int .i64 x.s,.int .i64 x.j,.int .i64 x.c.k,.int .i64 x.c.p,.int .i32 x.c.ch,.int .i64 x.c.o.k,.int .i64 x.c.o.c,.int .i64 x.c.o.s,.int .i64 x.c.o.a,.int .i64 x.c.o.n,.int .i32 x.c.o.ch,.int .i64 x.c.a,.int .i64 x.c.b,.int .i64 x.tk,.int .i64 x.o]
def IsA15 (W:World) (v:Value) (L:List A15):Prop:=∃ ad cap,v=.slice ad L.length cap∧L.length≤cap∧cap≤9223372036854775807 ∧
 (L≠[]→∃ b off,ad=some ⟨b,off,none⟩∧b<W.heap.size∧∀ j (hj:j<L.length),W.rangeAt b (off+j * 17) (a15L L[j]))
theorem rng_next {W W':World} {b o:Nat} {vs:List Value} (h:W.rangeAt b o vs) (hb:Below W.heap.size W W') (hl:b<W.heap.size):W'.rangeAt b o vs:=fun i u hu=>(hb.cell (p:=⟨b,o+i,none⟩) hl).trans (h i u hu)
theorem IsA15.next {W W':World} {v:Value} {L:List A15} (h:IsA15 W v L) (hb:Below W.heap.size W W'):IsA15 W' v L:=by
 obtain ⟨ad,cap,e,h1,h2,h3⟩:=h;refine ⟨ad,cap,e,h1,h2,fun hA=>?_⟩;obtain ⟨b,off,e2,h4,h5⟩:=h3 hA;exact ⟨b,off,e2,Nat.lt_of_lt_of_le h4 hb.size,fun j hj=>rng_next (h5 j hj) hb h4⟩
theorem kldm {P:Program} {ops:Array Oper} {rest:List Oper} {op:Oper} {a a':Act} {w:World} {Q:Exit→Act→World→Prop} {b o:Nat} {vs:List Value} {ty:TypeId} {x:Operand} {n:Nat} (hB:w.rangeAt b o vs) (hl:vs.length=n) (h:wpList P ops Q rest a' w)
  (ho:op.op=.load ty x:=by rfl) (hx:a.eval x=.pointer (some ⟨b,o,none⟩):=by rfl) (hu:(P.underlying ty).any TypeDesc.isRow=true:=by kernel_rfl) (hi:(P.info? ty).map (·.size)=some n:=by kernel_rfl)
  (hw:Region.wanted op (yielded ops a.tmps)=true:=by rfl) (ha:a.put op.dst (.agg vs.toArray)=a':=by (try simp only [LAY]); rfl):wpList P ops Q (op::rest) a w:=
 wpList_step fun _ hK=>by
  simp only [hw,if_true]
  obtain ⟨d,hd,hr⟩:=isRow_of hu;exact wp_load_mid ty x ho b o hx vs d hB hd hr (by rw [hl]; exact hi) (hK _ _ (ha▸h))
def may15 (t s j st:Int):Bool:=decide (0≤t∧t≤15∧0≤s∧s<st∧0≤j∧j≤800)
theorem may15_any (x:A15) (st:Int) (w:World):Calls Tryz.prog 11 #[.agg (a15L x).toArray,st] w (Rt (.bool (may15 x.t x.s x.j st)) w):=by
 obtain ⟨k,t,s,j,c,tk,o,-,-,-,-,-,-,-,-,-,-,-,-⟩:=x
 dsimp only [a15L]
 have HD:=Lh (show ∀ b,decide (0≤t∧t≤15∧0≤s∧s<st∧0≤j∧j≤800)=b→may15 t s j st=b from fun _ h=>h);have hb:=Lh (bl1 w [.int .u8 k,t,s,j,c.k,c.p,.int .i32 c.ch,c.o.k,c.o.c,c.o.s,c.o.a,c.o.n,.int .i32 c.o.ch,c.a,c.b,tk,o] 77)
 go_enter Tryz.func11,Tryz.ntmps11
 by_cases c1:0≤t
 rotate_left
 ·have HE:=Lh (HD.out false (decide_eq_false (by omega)))
  clear HD;go_wp2_with fail
  go_ret
  exact ⟨by rw [HE.out]; rfl,hb.out⟩
 by_cases c2:t≤15
 rotate_left
 ·have HE:=Lh (HD.out false (decide_eq_false (by omega)))
  clear HD;go_wp2_with fail
  go_ret
  exact ⟨by rw [HE.out]; rfl,hb.out⟩
 by_cases c3:0≤s
 rotate_left
 ·have HE:=Lh (HD.out false (decide_eq_false (by omega)))
  clear HD;go_wp2_with fail
  go_ret
  exact ⟨by rw [HE.out]; rfl,hb.out⟩
 by_cases c4:s<st
 rotate_left
 ·have HE:=Lh (HD.out false (decide_eq_false (by omega)))
  clear HD;go_wp2_with fail
  go_ret
  exact ⟨by rw [HE.out]; rfl,hb.out⟩
 by_cases c5:0≤j
 rotate_left
 ·have HE:=Lh (HD.out false (decide_eq_false (by omega)))
  clear HD;go_wp2_with fail
  go_ret
  exact ⟨by rw [HE.out]; rfl,hb.out⟩
 have HE:=Lh (HD.out (decide (j≤800)) (by simp only [c1,c2,c3,c4,c5,true_and]));clear HD;go_wp2_with fail
 go_ret
 exact ⟨by rw [HE.out]; rfl,hb.out⟩
end Go.Proofs.YtemicfjmidohfaaGreatDoor
namespace Go.Proofs.YtemicfjmidohfaaGreatDoor
open Go Go.Proofs Go.RowKit
variable {X:Nat→Prop} {W W':World}
def fldOff (P:Program) (S:TypeId) (i:Nat):Option (TypeId×Nat):=match P.underlying S with
 | some (.struct fs)=>fs[i]?.map fun f=>(f.type,f.offset)
 | _=>none
def aggT (P:Program) (t:TypeId):Option Bool:=match P.underlying t with
 | some (.struct _) | some (.array _ _)=>some true
 | some _=>some false
 | none=>none
theorem run_agg {P:Program} {t:TypeId} {b:Bool} (h:aggT P t=some b) (w:World):(isAgg t).run P w=.ok b w:=by
 unfold aggT at h
 cases hu:P.underlying t with
 | none=>rw [hu] at h; cases h
 | some d=>rw [hu] at h; cases d <;> cases h <;> simp [isAgg,run_underlying hu]
theorem run_part1 {P:Program} {t:TypeId} {cs:List Value} {o:Nat} {v:Value} (h:aggT P t=some false) (hv:cs[o]? = some v) (w:World):(part t cs.toArray o).run P w=.ok v w:=by
 simp [part,run_agg h,hv]
theorem run_partN {P:Program} {t:TypeId} {cs:List Value} {o n:Nat} (h:aggT P t=some true) (hn:(P.info? t).map (·.size)=some n) (w:World):(part t cs.toArray o).run P w=.ok (.agg ((cs.drop o).take n).toArray) w:=by
 obtain ⟨i,hi,rfl⟩:=Option.map_eq_some_iff.1 hn;simp [part,run_agg h,run_sizeOf w hi,Program.cellsOf,hi]
theorem run_fld {P:Program} {S F:TypeId} {cs:List Value} {i o:Nat} {v:Value} (h:fldOff P S i=some (F,o)) (w:World) (hp:(part F cs.toArray o).run P w=.ok v w):(Instr.field S (.agg cs.toArray) i).run P w=.ok v w:=by
 unfold fldOff at h
 split at h
 ·next fs hu=>
  obtain ⟨f,hf,e⟩:=Option.map_eq_some_iff.1 h
  cases e
  simp [Instr.field,run_underlying hu,hf,asAgg,hp]
 ·cases h
theorem fld1 {P:Program} {S F:TypeId} {cs:List Value} {i o:Nat} {v:Value} (hv:cs[o]? = some v) (h:fldOff P S i=some (F,o):=by kernel_rfl) (ha:aggT P F=some false:=by kernel_rfl) (w:World):(Instr.field S (.agg cs.toArray) i).run P w=.ok v w:=
 run_fld h w (run_part1 ha hv w)
theorem fldN {P:Program} {S F:TypeId} {cs us:List Value} {i o n:Nat} (hv:(cs.drop o).take n=us) (h:fldOff P S i=some (F,o):=by kernel_rfl) (ha:aggT P F=some true:=by kernel_rfl) (hn:(P.info? F).map (·.size)=some n:=by kernel_rfl) (w:World):(Instr.field S (.agg cs.toArray) i).run P w=.ok (.agg us.toArray) w:=by
 subst hv; exact run_fld h w (run_partN ha hn w)
theorem idxN {P:Program} {A E:TypeId} {cs us:List Value} {k m n:Nat} (hk:k<m) (hv:(cs.drop (k * n)).take n=us) (h:P.underlying A=some (.array m E):=by kernel_rfl) (ha:aggT P E=some true:=by kernel_rfl) (hn:(P.info? E).map (·.size)=some n:=by kernel_rfl) (w:World):(Instr.index A (.agg cs.toArray) (.int .i64 (k:Int))).run P w=.ok (.agg us.toArray) w:=by
 subst hv;obtain ⟨i,hi,rfl⟩:=Option.map_eq_some_iff.1 hn;have hp:=run_partN (P:=P) (t:=E) (cs:=cs) (o:=k * i.size) ha hn w;have hs:P.cellsOf E=i.size:=by simp [Program.cellsOf,hi]
 simp [Instr.index,asIntOf,run_underlying h,run_sizeOf w hi,hs,hk,hp]
theorem len_set (cs:List Value) (i:Nat) (v:Value):(cs.set i v).length=cs.length:=List.length_set
theorem one_set {cs:List Value} (h:∀ u∈cs,u.oneCell'=true) (i:Nat) {v:Value} (hv:v.oneCell'=true):∀ u∈cs.set i v,u.oneCell'=true:=fun u hu=>by
 rcases List.mem_or_eq_of_mem_set hu with hu | rfl
 ·exact h u hu
 ·exact hv
theorem get_off {cs:List Value} {i p:Nat} {v:Value} (h:p≠i):(cs.set i v)[p]? = cs[p]? := List.getElem?_set_ne (fun e=>h e.symm)
theorem rp_same {cs cs':List Value} (h:∀ p,37≤p→p<47→cs'[p]? = cs[p]?):(cs'.drop 37).take 10=(cs.drop 37).take 10:=by
 refine List.ext_getElem? fun p=>?_
 simp only [List.getElem?_take,List.getElem?_drop]
 split
 ·exact h _ (by omega) (by omega)
 ·rfl
theorem IsBd.stripe {b:Brd} {cs cs':List Value} {s:Nat} {x:Sto} {k:Int} {q:Value} (h:IsBd W X b cs) (hs:s<b.st.length) (hl:cs'.length=cs.length) (h1:∀ u∈cs',u.oneCell'=true) (ho:∀ p,p<s * 4∨s * 4+4≤p→cs'[p]? = cs[p]?) (hx:StA X W cs' s x k q):IsBd W X (b.set s x) cs':=by
 have h8:=h.s8;have ho2:∀ p,32≤p→cs'[p]? = cs[p]? := fun p hp=>ho p (.inr (by omega))
 have hb:(b.set s x).st=b.st.set s x:=by show b.st.set (s:Int).toNat x=_; rw [Int.toNat_natCast]
 obtain ⟨p1,p2,p3,p4,p5⟩:=h.pl;have hlen:(b.set s x).st.length=b.st.length:=by rw [hb,List.length_set]
 refine ⟨hl.trans h.len,h1,by rw [hlen]; exact h8,fun i hi=>?_,⟨by rw [ho2 _ (by omega),hlen]; exact p1,(ho2 _ (by omega)).trans p2,(ho2 _ (by omega)).trans p3,(ho2 _ (by omega)).trans p4,(ho2 _ (by omega)).trans p5⟩,?_,?_,?_,(ho2 _ (by omega)).trans h.n,h.lo⟩
 ·rw [hlen] at hi
  simp only [hb,List.getElem_set]
  by_cases e:s=i
  ·subst e; rw [if_pos rfl]; exact ⟨k,q,hx⟩
  ·rw [if_neg e]
   obtain ⟨k',q',c0,c1,c2,c3,r0,r1,r2⟩:=h.st i hi;exact ⟨k',q',⟨(ho _ (by omega)).trans c0,(ho _ (by omega)).trans c1,(ho _ (by omega)).trans c2,(ho _ (by omega)).trans c3,r0,r1,r2⟩⟩
 ·rw [rp_same fun p a _=>ho2 p (by omega)]; exact h.rp
 ·obtain ⟨v,e,r⟩:=h.ms; exact ⟨v,(ho2 _ (by omega)).trans e,r⟩
 ·obtain ⟨v,e,r⟩:=h.lk; exact ⟨v,(ho2 _ (by omega)).trans e,r⟩
theorem IsBd.plain {b b':Brd} {cs:List Value} {i:Nat} {v:Value} (h:IsBd W X b cs) (hi:32≤i) (h1:v.oneCell'=true) (hst:b'.st=b.st)
  (hp:(cs.set i v)[33]? = some (.int .i64 b'.room)∧(cs.set i v)[34]? = some (.int .i64 b'.tk)∧(cs.set i v)[35]? = some (.bool b'.up)∧(cs.set i v)[36]? = some (.bool b'.gone)) (h32:i≠32∧(i<37∨47≤i)) (hr:b'.r=b.r)
  (hm:∃ u,(cs.set i v)[47]? = some u∧IsMs X W u b'.sl b'.sl.length) (hk:i<48∧b'.tr=b.tr):IsBd W X b' (cs.set i v):=by
 refine ⟨(len_set _ _ _).trans h.len,one_set h.one i h1,by rw [hst]; exact h.s8,fun j hj=>?_,⟨by rw [get_off (by omega),hst]; exact h.pl.1,hp⟩,?_,hm,?_,?_,by rw [hk.2]; exact h.lo⟩
 ·have h8:=h.s8
  have hj':j<b.st.length:=by rw [←hst]; exact hj
  obtain ⟨k',q',c0,c1,c2,c3,r0,r1,r2⟩:=h.st j hj';simp only [hst]
  exact ⟨k',q',⟨(get_off (by omega)).trans c0,(get_off (by omega)).trans c1,(get_off (by omega)).trans c2,(get_off (by omega)).trans c3,r0,r1,r2⟩⟩
 ·rw [rp_same fun p a c=>get_off (by omega),hr]; exact h.rp
 ·obtain ⟨u,e,r⟩:=h.lk; exact ⟨u,(get_off (by omega)).trans e,by rw [hk.2]; exact r⟩
 ·rw [get_off (by omega),hk.2]; exact h.n
theorem IsBd.act {b:Brd} {cs:List Value} {a:Ac} {lv:Value} (h:IsBd W X b cs) (hk:IsLk W lv (a::b.tr.reverse)) (ha : -9223372036854775808≤a.l∧a.l≤9223372036854775807):IsBd W X (b.did [a]) (putN cs 48 [lv,.int .i64 ((b.tr.length:Int)+1)]):=by
 have hl:=h.len;have h8:=h.s8;have g:∀ p,p≠48→p≠49→(putN cs 48 [lv,.int .i64 ((b.tr.length:Int)+1)])[p]? = cs[p]? := fun p h1 h2=>by
  simp only [putN]; rw [get_off (by omega),get_off (by omega)]
 have htl:(b.did [a]).tr.length=b.tr.length+1:=by simp [Brd.did]
 have htr:(b.did [a]).tr.reverse=a::b.tr.reverse:=by simp [Brd.did]
 have hln:cs.length=50:=hl;refine ⟨by rw [putN_len]; exact hl,one_set (one_set h.one 48 hk.one) 49 rfl,h8,fun i hi=>?_,⟨(g _ (by omega) (by omega)).trans h.pl.1,(g _ (by omega) (by omega)).trans h.pl.2.1,(g _ (by omega) (by omega)).trans h.pl.2.2.1,(g _ (by omega) (by omega)).trans h.pl.2.2.2.1,(g _ (by omega) (by omega)).trans h.pl.2.2.2.2⟩,?_,?_,⟨lv,?_,htr▸hk⟩,?_,?_⟩
 ·obtain ⟨k',q',c0,c1,c2,c3,r0,r1,r2⟩:=h.st i hi
  have hi8:i<8:=Nat.lt_of_lt_of_le hi h8;exact ⟨k',q',⟨(g _ (by omega) (by omega)).trans c0,(g _ (by omega) (by omega)).trans c1,(g _ (by omega) (by omega)).trans c2,(g _ (by omega) (by omega)).trans c3,r0,r1,r2⟩⟩
 ·rw [rp_same fun p a c=>g p (by omega) (by omega)]; exact h.rp
 ·obtain ⟨v,e,r⟩:=h.ms; exact ⟨v,(g _ (by omega) (by omega)).trans e,r⟩
 ·simp only [putN]; rw [get_off (by omega),List.getElem?_set_self (by omega)]
 ·simp only [putN]; rw [List.getElem?_set_self (by rw [List.length_set]; omega),htl]; simp
 ·intro x hx
  rcases List.mem_append.1 hx with hx | hx
  ·exact h.lo x hx
  ·obtain rfl:=List.mem_singleton.1 hx; exact ha
end Go.Proofs.YtemicfjmidohfaaGreatDoor
set_option maxRecDepth 100000
set_option maxHeartbeats 12800000
namespace Go.Proofs.YtemicfjmidohfaaGreatDoor
open Go Go.Proofs Go.RowKit
variable {X:Nat→Prop} {W W':World}
abbrev ACT:TypeId:=179
theorem IsBd.setI {b:Brd} {cs zs:List Value} {g:Nat} {t:TypeId} (h:IsBd W X b cs) (hB:Blk W g zs t) (ht:t∉bTy) (us:List Value) (i:Nat):IsBd (Go.Proofs.YtemicfjmidohfaaGreatDoor.setN W g i us) X b cs:=
 h.kt (fun u hu=>KT.setN (fun e:t=u=>ht (by rw [e]; exact hu)) us i hB) (fun c o _ ho hc=>setN_other us i fun e=>by
  subst e; unfold Blk at hB; rw [hB] at ho; cases ho; cases hc) (Nat.le_of_eq (setN_size _ i).symm)
theorem bd_not:BDT∉bTy:=by decide
theorem act_not:ACT∉bTy:=by decide
theorem Blk.rngT {g i:Nat} {cs us:List Value} {t:TypeId} (h:Blk W g cs t) (hu:∀ j u,us[j]? = some u→cs[i+j]? = some u):W.rangeAt g i us:=fun j u hj=>h.cell _ (hu j u hj)
theorem get2 {cs:List Value} {i:Nat} {x y:Value} (h0:cs[i]? = some x) (h1:cs[i+1]? = some y):∀ (j:Nat) (u:Value),[x,y][j]? = some u→cs[i+j]? = some u
 | 0,_,h=>by cases h; exact h0
 | 1,_,h=>by cases h; exact h1
 | _+2,_,h=>by cases h
theorem IsAc.rng {a:Option Addr} {n cap:Nat} {L:List Ac} (h:IsAc W (.slice a n cap) L) (j:Nat) (hj:j<L.length):∃ g off,a=some ⟨g,off,none⟩∧W.rangeAt g (off+j * 3) (acL L[j]):=by
 obtain ⟨ad,c,e,_,_,h3⟩:=h
 cases e
 obtain ⟨g,off,rfl,_,h5⟩:=h3 (fun e=>by rw [e] at hj; cases hj);refine ⟨g,off,rfl,fun i u hu=>?_⟩;obtain ⟨k0,k1,k2⟩:=h5 j hj
 match i,hu with
 | 0,hu=>cases hu; exact k0
 | 1,hu=>cases hu; exact k1
 | 2,hu=>cases hu; exact k2
 | _+3,hu=>cases hu
theorem act_fin {w w2:World} {l k:Int} (h:w2=setN (w.alloc (.cells ⟨[.int .i64 0,.int .i64 0,.int .i64 0]⟩ ACT)) w.heap.size 0 [.int .i64 0,k,l]):Blk w2 w.heap.size [.int .i64 0,k,l] ACT∧Below w.heap.size w w2:=by
 rw [h]; exact ⟨setN_all (Blk.start _ _ _) rfl,setN_below (Nat.le_refl _) _ _ bA⟩
theorem acq_any:AcP Tryz.prog 84 2:=fun l w=>by
 go_enter Tryz.func84,Tryz.ntmps84
 go_wp2_with (refine kst (n:=3) (Blk.start w [.int .i64 0,.int .i64 0,.int .i64 0] ACT) rfl rfl (fun u hu=>ac_one ⟨0,2,l⟩ u hu) (fun w2 hw2=>?_))
 exact bodyPost_ret (res_c (n:=3) (act_fin hw2.out).1 rfl) rfl ⟨rfl,(act_fin hw2.out).2⟩
theorem rel_any:AcP Tryz.prog 74 3:=fun l w=>by
 go_enter Tryz.func74,Tryz.ntmps74
 go_wp2_with (refine kst (n:=3) (Blk.start w [.int .i64 0,.int .i64 0,.int .i64 0] ACT) rfl rfl (fun u hu=>ac_one ⟨0,3,l⟩ u hu) (fun w2 hw2=>?_))
 exact bodyPost_ret (res_c (n:=3) (act_fin hw2.out).1 rfl) rfl ⟨rfl,(act_fin hw2.out).2⟩
theorem rd_any:AcP Tryz.prog 78 0:=fun l w=>by
 go_enter Tryz.func78,Tryz.ntmps78
 go_wp2_with (refine kst (n:=3) (Blk.start w [.int .i64 0,.int .i64 0,.int .i64 0] ACT) rfl rfl (fun u hu=>ac_one ⟨0,0,l⟩ u hu) (fun w2 hw2=>?_))
 exact bodyPost_ret (res_c (n:=3) (act_fin hw2.out).1 rfl) rfl ⟨rfl,(act_fin hw2.out).2⟩
theorem wr_any:AcP Tryz.prog 73 1:=fun l w=>by
 go_enter Tryz.func73,Tryz.ntmps73
 go_wp2_with (refine kst (n:=3) (Blk.start w [.int .i64 0,.int .i64 0,.int .i64 0] ACT) rfl rfl (fun u hu=>ac_one ⟨0,1,l⟩ u hu) (fun w2 hw2=>?_))
 exact bodyPost_ret (res_c (n:=3) (act_fin hw2.out).1 rfl) rfl ⟨rfl,(act_fin hw2.out).2⟩
theorem one_pi (p:Option Addr) (n:Int):∀ u∈[Value.pointer p,.int .i64 n],u.oneCell'=true:=fun u hu=>by
 simp only [List.mem_cons,List.not_mem_nil,or_false] at hu
 rcases hu with rfl | rfl <;> rfl
theorem IsLk.ptr:∀ {l:List Ac} {v:Value},IsLk W v l→∃ p,v=.pointer p
 | [],_,h=>⟨none,h⟩
 | _::_,_,⟨_,_,e,_⟩=>⟨_,e⟩
theorem wlk_any (p:Option Addr) (n:Nat) (a:Ac) (w:World) (hn:n≤1000000):Calls Tryz.prog 114 #[.agg #[.pointer p,.int .i64 (n:Int)],.agg (acL a).toArray] w fun e w'=>∃ g,e=.returned (.agg [.pointer (some ⟨g,0,none⟩),.int .i64 ((n:Int)+1)].toArray)∧Blk w' g (.pointer p::acL a) LNK∧Below w.heap.size w w':=by
 obtain ⟨t,k,l⟩:=a
 dsimp only [acL]
 go_enter Tryz.func114,Tryz.ntmps114
 go_upto_region 1 with fail
 generalize hW2:World.alloc (World.alloc (World.alloc w _) _) _=W2;have H2:=Lh (show Below w.heap.size w W2∧Blk W2 w.heap.size [.pointer p,.int .i64 (n:Int)] 49∧Blk W2 (w.heap.size+1) [t,k,l] ACT∧Blk W2 (w.heap.size+1+1) [.pointer none,.int .i64 0] 49 from by
  rw [←hW2]; exact ⟨(bA.alloc (by simp) _).alloc (by simp; omega) _,((Blk.start w _ _).alloc _).alloc _,(Blk.startAt (by simp)).alloc _,Blk.startAt (by simp)⟩)
 clear hW2;have H3:=Lh (And.intro (bA (w:=W2) (o:=.cells ⟨[.pointer p,.int .i64 t,.int .i64 k,.int .i64 l]⟩ LNK)) (Blk.start W2 [.pointer p,t,k,l] LNK));have q0:=H2.out.2.1.cell 0 rfl;have q1:=(H2.out.2.1.next H3.out.1).cell 1 rfl;go_wp2_with (first
  | (refine kld (n:=3) H2.out.2.2.1 rfl ?_)
  | (refine kst (n:=2) (H2.out.2.2.2.next H3.out.1) rfl rfl (one_pi _ _) (fun w4 hw4=>?_)))
 have hne:W2.heap.size≠w.heap.size+1+1:=by have:=H2.out.2.2.2.lt; omega
 have hB:Blk w4 (w.heap.size+1+1) [.pointer (some ⟨W2.heap.size,0,none⟩),.int .i64 ((n:Int)+1)] 49:=by rw [hw4.out]; exact setN_all (H2.out.2.2.2.next H3.out.1) rfl
 exact bodyPost_ret (res_c (n:=2) hB rfl) rfl ⟨W2.heap.size,rfl,by rw [hw4.out]; exact H3.out.2.setN hne _ _,by rw [hw4.out]; exact setN_below (by omega) _ _ (H2.out.1.trans (H3.out.1.mono H2.out.1.size))⟩
theorem told_any (b:Brd) (cs:List Value) (t:Int) (v:Value) (L:List Ac) (w:World) (h:IsBd w X b cs) (hn:b.tr.length≤900000) (hv:IsAc w v L) (hL:L.length≤4) (hlo:LocOk L):Calls Tryz.prog 72 #[.agg cs.toArray,t,v] w (RB (b.did (L.map fun a=>⟨t,a.k,a.l⟩)) X (fun v=>v) w):=by
 obtain ⟨va,vc,rfl,hvc⟩:∃ a c,v=.slice a L.length c∧L.length≤c:=by obtain ⟨a,c,e,h1,_⟩:=hv; exact ⟨a,c,e,h1⟩
 have HP:=Lh (And.intro hn (And.intro hL hlo));have hl4:L.length≤1000:=by omega
 have HH:=Lh h;have HV:=Lh hv;clear h hv hn hL hlo
 go_enter Tryz.func72,Tryz.ntmps72
 go_upto_region 1 with fail
 generalize hW2:World.alloc (World.alloc w _) _=W2;have H2:=Lh (show Bq BDT w 1 cs zBd W2 from by rw [←hW2]; exact Bq.start w _ _);clear hW2;have HS:=Lh (show ∃ ds,Bq BDT w 1 ds zBd W2∧IsBd W2 X (b.did ((L.take 0).map fun a=>⟨t,a.k,a.l⟩)) ds from ⟨cs,H2.out,by have:=HH.out.next H2.out.bel; simpa [Brd.did] using this⟩);clear H2 HH;go_wp2_with fail
 go_loopg [8,11] L.length (fun g_ t8 t11 wx=>∃ j:Nat,j≤L.length∧g_=L.length-j∧t11=.int .i64 (j:Int)∧∃ ds,Bq BDT w 1 ds zBd wx∧IsBd wx X (b.did ((L.take j).map fun a=>⟨t,a.k,a.l⟩)) ds)
 case atStart=>exact ⟨0,Nat.zero_le _,rfl,rfl,HS.out⟩
 case round=>
  obtain ⟨j,hj,rfl,rfl,ds,h1,h2⟩:=hrel;clear HS;by_cases hjl:j<L.length
  rotate_left
  ·obtain rfl:j=L.length:=by omega
   rw [List.take_length] at h2;have H:=Lh (And.intro h1 h2);clear h1 h2;go_wp2_with (first
    | (refine kld (n:=nBd) H.out.1.b0 H.out.2.len ?_)
    | (refine kst (n:=nBd) H.out.1.b1 rfl H.out.2.len H.out.2.one (fun w6 hw6=>?_)))
   have hb:=H.out.1.all1 (us:=ds) (H.out.2.len.trans rfl);rw [←hw6.out] at hb;exact bodyPost_ret (res_c (n:=nBd) hb.b1 H.out.2.len) rfl ⟨hb.bel,ds,rfl,by rw [hw6.out]; exact H.out.2.setI H.out.1.b1 bd_not _ _⟩
  ·obtain ⟨vg,vo,rfl,hr⟩:=(HV.out.next h1.bel).rng j hjl
   obtain ⟨a,ha⟩:∃ a,L[j]=a:=⟨_,rfl⟩
   rw [ha] at hr;have HA:=Lh (And.intro ha hr);have H:=Lh (And.intro h1 h2);obtain ⟨at_,ak,al⟩:=a;have hb4:=Lh (bA (w:=wr) (o:=.cells ⟨[.int .i64 0,.int .i64 0,.int .i64 0]⟩ ACT));have hB4:=Lh (Blk.start wr [.int .i64 0,.int .i64 0,.int .i64 0] ACT);clear h1 h2 ha hr
   go_upto_region 4 with (first
    | (refine kldm (n:=3) HA.out.2 rfl ?_)
    | (refine kst (n:=3) hB4.out rfl rfl (ac_one ⟨at_,ak,al⟩) (fun w4 hw4=>?_)))
   have H4:=Lh (show Below wr.heap.size wr w4∧Blk w4 wr.heap.size [at_,ak,al] ACT from by
    rw [hw4.out];exact ⟨setN_below (Nat.le_refl _) _ _ hb4.out,setN_all hB4.out rfl⟩)
   clear hw4 hb4 hB4;have q0:=H4.out.2.cell 0 rfl;have f0:=H4.out.2.free 0
   go_upto_region 5 with fail
   have H5:=Lh (show Below wr.heap.size wr (w4.setCell ⟨wr.heap.size,0,none⟩ t)∧Blk (w4.setCell ⟨wr.heap.size,0,none⟩ t) wr.heap.size [t,ak,al] ACT from ⟨H4.out.1.setCell (p:=⟨wr.heap.size,0,none⟩) (Nat.le_refl _) _,H4.out.2.set 0 _⟩);clear q0 f0 H4;generalize w4.setCell ⟨wr.heap.size,0,none⟩ t=w5 at *
   have H6:=Lh (And.intro (H.out.1.next H5.out.1) (H.out.2.next H5.out.1));obtain ⟨bb,hbb⟩:∃ bb,b.did ((L.take j).map fun a=>(⟨t,a.k,a.l⟩:Ac))=bb:=⟨_,rfl⟩
   have HN:=Lh (show bb.tr.length≤1000000 from by rw [←hbb,did_len,List.length_map,List.length_take]; have:=HP.out.1; omega);rw [hbb] at H6;have HBB:=Lh hbb;obtain ⟨lv,hlv,hlk⟩:=H6.out.2.lk;obtain ⟨lp,rfl⟩:=hlk.ptr;have HL:=Lh hlk;have hR:=Lh (H6.out.1.b0.rngT (get2 hlv H6.out.2.n));have hb5:=Lh H5.out.2;clear hlv hlk hbb H5 H;generalize hN:bb.tr.length=N at *
   have HNE:=Lh hN;clear hN;go_wp2_with (first
    | (refine kldm (n:=2) hR.out rfl ?_)
    | (refine kld (n:=3) hb5.out rfl ?_)
    | (go_at_call 114; refine (wlk_any lp _ ⟨t,ak,al⟩ w5 HN.out).mono ?_; rintro e w6 ⟨g,rfl,hg,hb6⟩; have H7:=Lh (And.intro (H6.out.1.next hb6) (And.intro (H6.out.2.next hb6) (show IsLk w6 (.pointer (some ⟨g,0,none⟩)) (⟨t,ak,al⟩::bb.tr.reverse) from ⟨g,.pointer lp,rfl,hg,HL.out.next hb6⟩))); clear H6 hb6 hg)
    | (refine kstm (n:=2) (o:=48) (us:=[.pointer (some ⟨g,0,none⟩),.int .i64 ((N:Int)+1)]) H7.out.1.b0 (by rw [H7.out.2.1.len]; exact Nat.le_refl 50) rfl (one_pi _ _) (fun w7 hw7=>?_)))
   have H8:=Lh (show ∃ ds,Bq BDT w 1 ds zBd w7∧IsBd w7 X (b.did ((L.take (j+1)).map fun a=>⟨t,a.k,a.l⟩)) ds from by
    have e:b.did ((L.take (j+1)).map fun a=>(⟨t,a.k,a.l⟩:Ac))=bb.did [⟨t,ak,al⟩]:=by
     rw [←HBB.out,did_did,List.take_add_one,List.getElem?_eq_getElem hjl,HA.out.1]; simp
    rw [e];rw [hw7.out,←HNE.out];have hx:=H7.out.2.1.act H7.out.2.2 (HP.out.2.2 ⟨at_,ak,al⟩ (HA.out.1▸List.getElem_mem hjl));exact ⟨_,H7.out.1.put0 48 _,hx.setI H7.out.1.b0 bd_not _ 48⟩)
   clear H7 hw7 HN HL hR hb5 HA
   go_roundg (L.length-(j+1))
   case measure=>omega
   case rel=>exact ⟨j+1,by omega,rfl,by go_num,H8.out⟩
end Go.Proofs.YtemicfjmidohfaaGreatDoor
namespace Go.Proofs.YtemicfjmidohfaaGreatDoor
open Go Go.Proofs Go.RowKit
variable {X:Nat→Prop}
structure Bs (X:Nat→Prop) (w:World) (d:Nat) (ds:List Value) (b:Brd) (W:World):Prop where
 dp:0<d
 bel:Below w.heap.size w W
 b0:Blk W w.heap.size ds BDT
 b1:∃ zs,zs.length=nBd∧Blk W (w.heap.size+d) zs BDT
 ib:IsBd W X b ds
variable {w W W':World} {d:Nat} {ds es zs:List Value} {b b':Brd}
theorem Bs.next (h:Bs X w d ds b W) (hb:Below W.heap.size W W'):Bs X w d ds b W':=by
 obtain ⟨z,h1,h2⟩:=h.b1;exact ⟨h.dp,h.bel.trans (hb.mono h.bel.size),h.b0.next hb,⟨z,h1,h2.next hb⟩,h.ib.next hb⟩
theorem Bs.of (h:Bq BDT w d ds zs W) (hz:zs.length=nBd) (hI:IsBd W X b ds):Bs X w d ds b W:=⟨h.dp,h.bel,h.b0,⟨zs,hz,h.b1⟩,hI⟩
theorem Bs.all1 (h:Bs X w d ds b W) (hl:es.length=nBd):Bs X w d ds b (setN W (w.heap.size+d) 0 es)∧Blk (setN W (w.heap.size+d) 0 es) (w.heap.size+d) es BDT:=by
 obtain ⟨z,h1,h2⟩:=h.b1;have hB:=setN_all (us:=es) h2 (by rw [hl,h1]);exact ⟨⟨h.dp,setN_below (by omega) _ _ h.bel,h.b0.setN (by have:=h.dp; omega) _ _,⟨es,hl,hB⟩,h.ib.setI h2 bd_not _ _⟩,hB⟩
theorem Bs.put (h:Bs X w d ds b W) (i:Nat) (v:Value) (hI:IsBd W X b' (ds.set i v)):Bs X w d (ds.set i v) b' (W.setCell ⟨w.heap.size,i,none⟩ v):=by
 obtain ⟨z,h1,h2⟩:=h.b1;exact ⟨h.dp,h.bel.setCell (p:=⟨w.heap.size,i,none⟩) (Nat.le_refl _) _,h.b0.set i v,⟨z,h1,h2.other ⟨w.heap.size,i,none⟩ (by show w.heap.size+d≠w.heap.size; have:=h.dp; omega) v⟩,hI.setI h.b0 bd_not [v] i⟩
theorem ac_new (W:World) (L:List Ac) (hl:L.length≤4):IsAc (W.alloc (.cells ⟨L.flatMap acL⟩ ACT)) (.slice (some ⟨W.heap.size,0,none⟩) L.length L.length) L:=by
 refine ⟨_,_,rfl,Nat.le_refl _,by omega,fun _=>⟨W.heap.size,0,rfl,by simp,fun j hj=>?_⟩⟩;have hB:=Blk.start W (L.flatMap acL) ACT;have hf:=fun i (hi:i<3)=>flat_at (f:=acL) (fun _=>rfl) L j i hj hi
 exact ⟨hB.cell _ (by rw [Nat.zero_add]; exact hf 0 (by decide)),hB.cell _ (by rw [Nat.zero_add]; exact hf 1 (by decide)),hB.cell _ (by rw [Nat.zero_add]; exact hf 2 (by decide))⟩
def Bt (X:Nat→Prop) (w:World) (d:Nat) (ds:List Value) (b:Brd) (T:World→Prop) (W:World):Prop:=Bs X w d ds b W∧T W
variable {T:World→Prop}
theorem Bt.next (hT:∀ W W',T W→Below W.heap.size W W'→T W') (W W':World) (h:Bt X w d ds b T W) (hb:Below W.heap.size W W'):Bt X w d ds b T W':=⟨h.1.next hb,hT _ _ h.2 hb⟩
theorem tru (W W':World) (_:True) (_:Below W.heap.size W W'):True:=trivial
variable {md:Region.Mode} {ops:Array Oper} {Q:Exit→Act→World→Prop} {fuel:Nat} {L:Array Bool}
theorem rTd {S:World→Prop} {o1 o2:Oper} {a a1:Act} {t:Int} (i j:Nat) (L0:List Ac) (hH:Bt X w d ds b T W) (hn:b.tr.length≤900000) (hS:∀ W,Bt X w d ds b T W→S W)
  (h:∀ W' es,Bt X w d ds b T W'→IsBd W' X (b.did (L0.map fun a=>⟨t,a.k,a.l⟩)) es→wpAnyH Tryz.prog md ops Q S fuel ((L.setIfInBounds i true).setIfInBounds j true) (a1.put o2.dst (.agg es.toArray)) W') (hlo:LocOk L0) (hT:∀ W W',T W→Below W.heap.size W W'→T W')
  (hl:L0.length≤4:=by simp) (hr1:Region.ready md ops L=[i]:=by kernel_rfl) (hr2:Region.ready md ops (L.setIfInBounds i true)=[j]:=by kernel_rfl)
  (ho1:ops.toList[i]? = some o1:=by rfl) (ho2:ops.toList[j]? = some o2:=by rfl) (hg1:o1.guard=none:=by rfl) (hg2:o2.guard=none:=by rfl)
  (he1:(execOp a.eval o1).run Tryz.prog W=.ok (.value (.slice (some ⟨W.heap.size,0,none⟩) L0.length L0.length)) (W.alloc (.cells ⟨L0.flatMap acL⟩ ACT)):=by go_simp; rfl) (ha1:a.put o1.dst (.slice (some ⟨W.heap.size,0,none⟩) L0.length L0.length)=a1:=by (try simp only [LAY]); rfl)
  (he2:∀ w,(execOp a1.eval o2).run Tryz.prog w=.ok (.enter 72 #[.agg ds.toArray,t,.slice (some ⟨W.heap.size,0,none⟩) L0.length L0.length]) w:=by intro w; go_simp):wpAnyH Tryz.prog md ops Q S (fuel+1+1) L a W:=by
 refine rd1 i hr1 ho1 fun K hK=>?_
 rw [if_pos (by simp [Region.wanted,hg1])];unfold Oper.wp
 rw [he1];have h1:=hH.next hT _ _ (bA (o:=.cells ⟨L0.flatMap acL⟩ ACT));have hv:=ac_new W L0 hl;refine hK.out _ _ (hS _ h1) fun _=>?_
 rw [ha1];refine rd1 j hr2 ho2 fun K hK=>?_
 rw [if_pos (by simp [Region.wanted,hg2])];unfold Oper.wp
 rw [he2];refine (told_any b ds t _ L0 _ h1.1.ib hn hv hl hlo).mono fun e w2 hR=>?_
 obtain ⟨hb2,es,rfl,hI⟩:=hR;have h2:=h1.next hT _ _ hb2;exact hK.out _ _ (hS _ h2) fun _=>h w2 es h2 hI
theorem rSt {S:World→Prop} {o3:Oper} {a:Act} {x y:Operand} (e n:Nat) (hI:IsBd W X b' es) (hbx:∃ zs,zs.length=nBd∧Blk W (w.heap.size+e) zs BDT)
  (h:S (setN W (w.heap.size+e) 0 es)∧wpAnyH Tryz.prog md ops Q S fuel (L.setIfInBounds n true) a (setN W (w.heap.size+e) 0 es))
  (hr3:Region.ready md ops L=[n]:=by kernel_rfl) (ho3:ops.toList[n]? = some o3:=by rfl) (hg3:o3.guard=none:=by rfl) (hd3:o3.dst=none:=by rfl)
  (hop:o3.op=.store BDT x y:=by rfl) (hx:a.eval x=.pointer (some ⟨w.heap.size+e,0,none⟩):=by rfl) (hy:a.eval y=.agg es.toArray:=by rfl):wpAnyH Tryz.prog md ops Q S (fuel+1) L a W:=by
 obtain ⟨z,hz,hB⟩:=hbx;refine rd1 n hr3 ho3 fun K hK=>?_
 rw [if_pos (by simp [Region.wanted,hg3])];refine wp_store_mid BDT x y hop _ 0 es.toArray hx hy (by have:=blk_thr hB; rw [hz,←hI.len] at this; simpa using this) (by rw [show (Tryz.prog.info? BDT).map (·.size)=some nBd by kernel_rfl,←hI.len]; simp) (all_oneCell_toArray hI.one) ?_;rw [hd3,List.toList_toArray,kC_N];exact hK.out _ _ h.1 fun _=>h.2
theorem rTg {S:World→Prop} {o1 o2 o3:Oper} {a a1:Act} {t:Int} {x y:Operand} (e i j n:Nat) (L0:List Ac) (hH:Bt X w d ds b T W) (hn:b.tr.length≤900000) (hbx:∀ W,Bs X w d ds b W→∃ zs,zs.length=nBd∧Blk W (w.heap.size+e) zs BDT) (hS:∀ W,Bt X w d ds b T W→S W)
  (h:∀ W' es,Bt X w d ds b T W'→IsBd W' X (b.did (L0.map fun a=>⟨t,a.k,a.l⟩)) es→S (setN W' (w.heap.size+e) 0 es)∧wpAnyH Tryz.prog md ops Q S fuel (((L.setIfInBounds i true).setIfInBounds j true).setIfInBounds n true) (a1.put o2.dst (.agg es.toArray)) (setN W' (w.heap.size+e) 0 es)) (hlo:LocOk L0) (hT:∀ W W',T W→Below W.heap.size W W'→T W')
  (hl:L0.length≤4)
  (hr1:Region.ready md ops L=[i]) (hr2:Region.ready md ops (L.setIfInBounds i true)=[j]) (hr3:Region.ready md ops ((L.setIfInBounds i true).setIfInBounds j true)=[n])
  (ho1:ops.toList[i]? = some o1) (ho2:ops.toList[j]? = some o2) (ho3:ops.toList[n]? = some o3) (hg1:o1.guard=none) (hg2:o2.guard=none) (hg3:o3.guard=none) (hd3:o3.dst=none)
  (he1:(execOp a.eval o1).run Tryz.prog W=.ok (.value (.slice (some ⟨W.heap.size,0,none⟩) L0.length L0.length)) (W.alloc (.cells ⟨L0.flatMap acL⟩ ACT))) (ha1:a.put o1.dst (.slice (some ⟨W.heap.size,0,none⟩) L0.length L0.length)=a1)
  (he2:∀ w,(execOp a1.eval o2).run Tryz.prog w=.ok (.enter 72 #[.agg ds.toArray,t,.slice (some ⟨W.heap.size,0,none⟩) L0.length L0.length]) w)
  (hop:o3.op=.store BDT x y) (hx:∀ es,(a1.put o2.dst (.agg es)).eval x=.pointer (some ⟨w.heap.size+e,0,none⟩)) (hy:∀ es,(a1.put o2.dst (.agg es)).eval y=.agg es):wpAnyH Tryz.prog md ops Q S (fuel+1+1+1) L a W:=
 rTd i j L0 hH hn hS (fun W' es h2 hI=>rSt e n hI (hbx _ h2.1) (h W' es h2 hI) hr3 ho3 hg3 hd3 hop (hx _) (hy _)) hlo hT hl hr1 hr2 ho1 ho2 hg1 hg2 he1 ha1 he2
theorem rTl {o1 o2 o3:Oper} {a a1:Act} {t:Int} {x y:Operand} (i j n:Nat) (L0:List Ac) (hH:Bt X w d ds b T W) (hn:b.tr.length≤900000) (h:∀ W' es,Bt X w d ds b T W'→Blk W' (w.heap.size+d) es BDT→IsBd W' X (b.did (L0.map fun a=>⟨t,a.k,a.l⟩)) es→wpAnyH Tryz.prog md ops Q (Bt X w d ds b T) fuel (((L.setIfInBounds i true).setIfInBounds j true).setIfInBounds n true) (a1.put o2.dst (.agg es.toArray)) W') (hlo:LocOk L0)
  (hT:∀ W W',T W→Below W.heap.size W W'→T W':=by exact tru) (hT2:∀ W es,T W→Bs X w d ds b W→T (setN W (w.heap.size+d) 0 es):=by exact fun _ _ _ _=>trivial)
  (hl:L0.length≤4:=by simp)
  (hr1:Region.ready md ops L=[i]:=by kernel_rfl) (hr2:Region.ready md ops (L.setIfInBounds i true)=[j]:=by kernel_rfl) (hr3:Region.ready md ops ((L.setIfInBounds i true).setIfInBounds j true)=[n]:=by kernel_rfl)
  (ho1:ops.toList[i]? = some o1:=by rfl) (ho2:ops.toList[j]? = some o2:=by rfl) (ho3:ops.toList[n]? = some o3:=by rfl) (hg1:o1.guard=none:=by rfl) (hg2:o2.guard=none:=by rfl) (hg3:o3.guard=none:=by rfl) (hd3:o3.dst=none:=by rfl)
  (he1:(execOp a.eval o1).run Tryz.prog W=.ok (.value (.slice (some ⟨W.heap.size,0,none⟩) L0.length L0.length)) (W.alloc (.cells ⟨L0.flatMap acL⟩ ACT)):=by go_simp; rfl) (ha1:a.put o1.dst (.slice (some ⟨W.heap.size,0,none⟩) L0.length L0.length)=a1:=by (try simp only [LAY]); rfl)
  (he2:∀ w,(execOp a1.eval o2).run Tryz.prog w=.ok (.enter 72 #[.agg ds.toArray,t,.slice (some ⟨W.heap.size,0,none⟩) L0.length L0.length]) w:=by intro w; go_simp)
  (hop:o3.op=.store BDT x y:=by rfl) (hx:∀ es,(a1.put o2.dst (.agg es)).eval x=.pointer (some ⟨w.heap.size+d,0,none⟩):=by intro es; rfl) (hy:∀ es,(a1.put o2.dst (.agg es)).eval y=.agg es:=by intro es; rfl):wpAnyH Tryz.prog md ops Q (Bt X w d ds b T) (fuel+1+1+1) L a W:=
 rTg d i j n L0 hH hn (fun _ h=>h.b1) (fun _ h=>h) (fun W' es h' hI=>by
  obtain ⟨z,_,hB⟩:=h'.1.b1;have hA:=h'.1.all1 (es:=es) hI.len;exact ⟨⟨hA.1,hT2 _ _ h'.2 h'.1⟩,h _ es ⟨hA.1,hT2 _ _ h'.2 h'.1⟩ hA.2 (hI.setI hB bd_not _ _)⟩) hlo hT hl hr1 hr2 hr3 ho1 ho2 ho3 hg1 hg2 hg3 hd3 he1 ha1 he2 hop hx hy
theorem rTo {o1 o2 o3:Oper} {a a1:Act} {t:Int} {x y:Operand} (i j n:Nat) (L0:List Ac) (hH:Bt X w d ds b T W) (hn:b.tr.length≤900000) (h:∀ W' es,Bt X w d es (b.did (L0.map fun a=>⟨t,a.k,a.l⟩)) T W'→wpAnyH Tryz.prog md ops Q (fun _=>True) fuel (((L.setIfInBounds i true).setIfInBounds j true).setIfInBounds n true) (a1.put o2.dst (.agg es.toArray)) W') (hlo:LocOk L0)
  (hT:∀ W W',T W→Below W.heap.size W W'→T W':=by exact tru) (hT2:∀ W es,T W→Bs X w d ds b W→T (setN W (w.heap.size+0) 0 es):=by exact fun _ _ _ _=>trivial)
  (hl:L0.length≤4:=by simp)
  (hr1:Region.ready md ops L=[i]:=by kernel_rfl) (hr2:Region.ready md ops (L.setIfInBounds i true)=[j]:=by kernel_rfl) (hr3:Region.ready md ops ((L.setIfInBounds i true).setIfInBounds j true)=[n]:=by kernel_rfl)
  (ho1:ops.toList[i]? = some o1:=by rfl) (ho2:ops.toList[j]? = some o2:=by rfl) (ho3:ops.toList[n]? = some o3:=by rfl) (hg1:o1.guard=none:=by rfl) (hg2:o2.guard=none:=by rfl) (hg3:o3.guard=none:=by rfl) (hd3:o3.dst=none:=by rfl)
  (he1:(execOp a.eval o1).run Tryz.prog W=.ok (.value (.slice (some ⟨W.heap.size,0,none⟩) L0.length L0.length)) (W.alloc (.cells ⟨L0.flatMap acL⟩ ACT)):=by go_simp; rfl) (ha1:a.put o1.dst (.slice (some ⟨W.heap.size,0,none⟩) L0.length L0.length)=a1:=by (try simp only [LAY]); rfl)
  (he2:∀ w,(execOp a1.eval o2).run Tryz.prog w=.ok (.enter 72 #[.agg ds.toArray,t,.slice (some ⟨W.heap.size,0,none⟩) L0.length L0.length]) w:=by intro w; go_simp)
  (hop:o3.op=.store BDT x y:=by rfl) (hx:∀ es,(a1.put o2.dst (.agg es)).eval x=.pointer (some ⟨w.heap.size,0,none⟩):=by intro es; rfl) (hy:∀ es,(a1.put o2.dst (.agg es)).eval y=.agg es:=by intro es; rfl):wpAnyH Tryz.prog md ops Q (fun _=>True) (fuel+1+1+1) L a W:=
 rTg 0 i j n L0 hH hn (fun _ h=>⟨_,h.ib.len,h.b0⟩) (fun _ _=>trivial) (fun W' es h' hI=>by
  obtain ⟨z,hz,hB⟩:=h'.1.b1;refine ⟨trivial,h _ es ⟨⟨h'.1.dp,setN_below (Nat.le_refl _) _ _ h'.1.bel,setN_all h'.1.b0 (by rw [hI.len,h'.1.ib.len]),⟨z,hz,hB.setN (by have:=h'.1.dp; omega) _ _⟩,hI.setI h'.1.b0 bd_not _ _⟩,hT2 _ _ h'.2 h'.1⟩⟩) hlo hT hl hr1 hr2 hr3 ho1 ho2 ho3 hg1 hg2 hg3 hd3 he1 ha1 he2 hop hx hy
end Go.Proofs.YtemicfjmidohfaaGreatDoor
