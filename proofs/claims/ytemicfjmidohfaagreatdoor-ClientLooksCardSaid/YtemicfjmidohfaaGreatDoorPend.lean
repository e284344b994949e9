import Derived.Lib.SliceRun
import Derived.Test.YtemicfjmidohfaaGreatDoorLPnd
set_option maxRecDepth 100000
set_option maxHeartbeats 12800000
namespace Go.Proofs.YtemicfjmidohfaaGreatDoor
open Go Go.Proofs Go.RowKit
theorem wp_append_cut {α:Type} {P:Program} (w:World) {o:Oper} {a:Act} {K:Act→World→Prop} {Q:Exit→Act→World→Prop} (s x:Operand) (t:TypeId)
  (ho:o.op=.call { callee:=.builtin .append,args := #[s,x],argTypes := #[t,t] })
  (e:TypeId) (i:TypeInfo) (z:Value) (size bytes:Nat) (ht:P.underlying t=some (.slice e)) (hi:P.info? e=some i) (hz:i.zero=some z) (hsize:i.size=size) (hby:i.bytes=bytes) (hzs:z.cells.size=size)
  {f:α→List Value} (hf:∀ x,(f x).length=size) (base:Option Addr) (n:Nat) (L:List α) (hn:n=L.length) (hs:a.eval s=.slice base n n) (hL:Sl e size f w (.slice base n n) L)
  (vl:Value) (l:List α) (hx:a.eval x=vl) (hsrc:Src P size t vl l.length (l.flatMap f) w)
  (h63:n+l.length≤maxLen) (hbytes:(n+l.length) * bytes≤140737488355328)
  (h:∀ v' w',Below w.heap.size w w'→Sl e size f w' v' (L++l)→(0<l.length→w'.ownsRow w.heap.size e size v' (L++l).length ((L++l).flatMap f))→(l.length=0→v'=.slice base n n)→K (a.put o.dst v') w'):o.wp P a w K Q:=by
 subst hsize hby;have key:∃ v' w',(Builtin.append_ #[t,t] o.type #[.slice base n n,vl]).run P w=.ok v' w'∧Below w.heap.size w w'∧Sl e i.size f w' v' (L++l)∧(0<l.length→w'.ownsRow w.heap.size e i.size v' (L++l).length ((L++l).flatMap f))∧(l.length=0→v'=.slice base n n):=by
  rcases Nat.eq_zero_or_pos l.length with h0 | h0
  ·have hl0:l=[]:=List.eq_nil_of_length_eq_zero h0
   subst hl0;refine ⟨_,_,run_append_nothing (P:=P) w t t o.type e i ht hi base n n (Nat.le_refl _) vl (by simpa using hsrc),Below.refl _ _,by simpa using hL,fun h=>absurd h (by simp),fun _=>rfl⟩
  ·have hold:(Builtin.firstCells i.size n (.slice base n n)).run P w.drew=.ok (L.flatMap f).toArray w.drew:=by
    rcases hL with ⟨h1,rfl⟩ | ⟨g,cap,cur,h1,hg,hc,hm,hh⟩
    ·simp only [Value.slice.injEq] at h1
     obtain ⟨rfl,rfl,_⟩:=h1;exact run_firstCells_none w.drew i.size 0 0 0
    ·simp only [Value.slice.injEq] at h1
     obtain ⟨rfl,_,rfl⟩:=h1;have hnw:=Sl.news hf (show Sl e i.size f w (.slice (some ⟨g,0,none⟩) L.length n) L from .inr ⟨g,n,cur,rfl,hg,hc,hm,hh⟩) 0 (Nat.zero_le _);rw [List.drop_zero,Nat.zero_mul] at hnw;exact run_firstCells_some w.drew i.size n ⟨g,0,none⟩ n n (L.flatMap f) (by rw [flat_len hf,hn]) (by simpa using hnw)
   have hrun:=run_append_grow_src (P:=P) w t t o.type e i z ht hi hz base n n (L.flatMap f) hold vl l.length (l.flatMap f) hsrc (by omega) (by unfold maxLen at h63; omega) (growslice_fits (by omega) hbytes);have hcells:((L.flatMap f++l.flatMap f).toArray++Builtin.zeroCells z.cells (grownCap w (n+l.length) n e-(n+l.length))).toList.take ((n+l.length) * i.size)=(L++l).flatMap f:=by
    rw [Array.toList_append];rw [List.take_append_of_le_length (by simp [flat_len hf,←hn,Nat.add_mul]),List.flatMap_append];exact List.take_of_length_le (by simp [flat_len hf,←hn,Nat.add_mul])
   have hcap:=grownCap_ge w (n+l.length) n e;refine ⟨_,_,hrun,(bdq).alloc (Nat.le_refl _) _,.inr ⟨w.heap.size,_,(L.flatMap f++l.flatMap f).toArray++Builtin.zeroCells z.cells (grownCap w (n+l.length) n e-(n+l.length)),by rw [List.length_append,←hn],World.alloc_heap_new w.drew _,?_,grownCap_le_maxLen w (n+l.length) n e h63,?_⟩,fun _=>⟨?_,.inr ⟨w.heap.size,_,(L.flatMap f++l.flatMap f).toArray++Builtin.zeroCells z.cells (grownCap w (n+l.length) n e-(n+l.length)),by rw [List.length_append,←hn],Nat.le_refl _,World.alloc_heap_new w.drew _,?_,grownCap_le_maxLen w (n+l.length) n e h63,?_,?_⟩⟩,fun h=>absurd h (by omega)⟩
   ·rw [List.length_append,←hn]; exact hcap
   ·rw [List.length_append,←hn]; exact hcells
   ·rw [flat_len hf]
   ·rw [List.length_append,←hn]; exact hcap
   ·rw [Array.size_append,List.size_toArray,List.length_append,flat_len hf,flat_len hf,size_zeroCells,hzs,←hn,←Nat.add_mul,←Nat.add_mul]
    congr 1
    omega
   ·rw [List.length_append,←hn]; exact hcells
 obtain ⟨v',w',hr,h2,h3,h4,h5⟩:=key;unfold Oper.wp execOp
 simp only [ho,resolve,invoke,builtin,Sem.run_bind,Sem.run_pure,Result.andThen_ok,List.map_toArray,List.map_cons,List.map_nil,hs,hx,hr]
 exact h v' w' h2 h3 h4 h5
theorem Sl.cut {α:Type} {t:TypeId} {m:Nat} {f:α→List Value} (hf:∀ x,(f x).length=m) {W:World} {a:Option Addr} {n cap:Nat} {L:List α} (h:Sl t m f W (.slice a n cap) L) (i:Nat) (hi:i≤L.length):Sl t m f W (.slice a i i) (L.take i):=by
 rcases h with ⟨h1,rfl⟩ | ⟨g,cap',cur,h1,hg,hc,hm,hh⟩
 ·simp only [Value.slice.injEq] at h1
  obtain ⟨rfl,rfl,rfl⟩:=h1;obtain rfl:i=0:=by simpa using hi
  exact .inl ⟨rfl,by simp⟩
 ·simp only [Value.slice.injEq] at h1
  obtain ⟨rfl,rfl,rfl⟩:=h1;refine .inr ⟨g,i,cur,by rw [List.length_take]; congr 1; omega,hg,by rw [List.length_take]; omega,by omega,?_⟩;rw [List.length_take,show min i L.length=i by omega,←flat_take hf L i hi,←hh,List.take_take]
  congr 1
  have:=Nat.mul_le_mul_right m hi;omega
theorem slice_cut {P:Program} {t e:TypeId} (ht:P.underlying t=some (.slice (P.elem t))) (he:(sizeOf (P.elem t)).run P=fun w=>.ok e w) (a:Option Addr) (n cap j:Nat) (h:j≤cap) (w:World):
  (Instr.slice t (.slice a n cap) none (some (.int .i64 (j:Int))) (some (.int .i64 (j:Int)))).run P w=.ok (.slice a j j) w:=by
 rw [run_slice_hm w t a n cap ht .i64 .i64 (j:Int) (j:Int) (by omega) (by omega) (by omega),he];simp only [Result.andThen,sliced,Int.toNat_natCast,Nat.sub_zero,Nat.zero_mul]
 congr 2
 split
 ·rfl
 ·cases a <;> simp [Addr.add]
def OutOf (v:Value) (b:Nat):Prop:=∀ g n c,v=.slice (some ⟨g,0,none⟩) n c→g≠b
def setN (W:World) (b:Nat):Nat→List Value→World
 | _,[]=>W
 | i,v::vs=>setN (W.setCell ⟨b,i,none⟩ v) b (i+1) vs
def putN (zs:List Value):Nat→List Value→List Value
 | _,[]=>zs
 | i,v::vs=>putN (zs.set i v) (i+1) vs
theorem setN_blk {b:Nat} {u:TypeId}:∀ (vs:List Value) (i:Nat) {W:World} {zs:List Value},Blk W b zs u→Blk (setN W b i vs) b (putN zs i vs) u
 | [],_,_,_,h=>h
 | v::vs,i,_,_,h=>setN_blk vs (i+1) (h.set i v)
theorem setN_other {b:Nat}:∀ (vs:List Value) (i:Nat) {W:World} {c:Nat},c≠b→(setN W b i vs).heap[c]? = W.heap[c]?
 | [],_,_,_,_=>rfl
 | _::vs,i,_,_,h=>(setN_other vs (i+1) h).trans (Below.heap_setCell _ _ _ _ h)
theorem setN_size {b:Nat}:∀ (vs:List Value) (i:Nat) {W:World},(setN W b i vs).heap.size=W.heap.size
 | [],_,_=>rfl
 | _::vs,i,_=>(setN_size vs (i+1)).trans (by simp)
theorem setN_below {b B:Nat} {W0:World} (hb:B≤b):∀ (vs:List Value) (i:Nat) {W:World},Below B W0 W→Below B W0 (setN W b i vs)
 | [],_,_,h=>h
 | v::vs,i,_,h=>setN_below hb vs (i+1) (h.setCell (p:=⟨b,i,none⟩) hb v)
theorem KT.setN {b:Nat} {u t:TypeId} (ht:u≠t):∀ (vs:List Value) (i:Nat) {W:World} {zs:List Value},Blk W b zs u→KT t W (setN W b i vs)
 | [],_,_,_,_=>fun _ _ h=>h
 | v::vs,i,_,_,h=>(KT.set h ht i v).trans (KT.setN ht vs (i+1) (h.set i v))
theorem Blk.setN {W:World} {b c:Nat} {us:List Value} {t:TypeId} (h:Blk W c us t) (hc:c≠b) (vs:List Value) (i:Nat):Blk (setN W b i vs) c us t:=by
 unfold Blk at h ⊢; rw [setN_other vs i hc]; exact h
theorem Sl.setOut {α:Type} {t:TypeId} {m:Nat} {f:α→List Value} {W:World} {b:Nat} {v:Value} {L:List α} (h:Sl t m f W v L) (ho:OutOf v b) (vs:List Value) (i:Nat):Sl t m f (setN W b i vs) v L:=by
 rcases h with h | ⟨g,cap,cur,rfl,hg,h⟩
 ·exact .inl h
 ·exact .inr ⟨g,cap,cur,rfl,by rw [setN_other vs i (ho g _ _ rfl)]; exact hg,h⟩
theorem Sl.outOf {α:Type} {t:TypeId} {m:Nat} {f:α→List Value} {W:World} {b:Nat} {v:Value} {L:List α} (h:Sl t m f W v L) (hb:W.heap.size≤b):OutOf v b:=by
 rcases h with ⟨rfl,_⟩ | ⟨g,cap,cur,rfl,hg,h⟩
 ·intro g n c e; cases e
 ·intro g' n c e
  cases e
  have:=(Array.getElem?_eq_some_iff.1 hg).1;omega
theorem own_out {W:World} {B size n:Nat} {e:TypeId} {v:Value} {xs:List Value} {b:Nat} (h:W.ownsRow B e size v n xs) (hb:b<B):OutOf v b:=by
 intro g n' c e'
 subst e';have:=own_ge h g rfl;omega
structure Rb7 (w:World) (s:Value) (l:List Value) (t:TypeId) (W:World):Prop where
 bel:Below w.heap.size w W
 bs:Blk W w.heap.size [s] 38
 bo:Blk W (w.heap.size+1) l t
theorem Rb7.next {w:World} {s:Value} {l:List Value} {t:TypeId} {W W':World} (h:Rb7 w s l t W) (hb:Below W.heap.size W W'):Rb7 w s l t W':=⟨h.bel.trans (hb.mono h.bel.size),h.bs.next hb,h.bo.next hb⟩
theorem Rb7.start (w:World) (s:Value) (l:List Value) (t:TypeId):Rb7 w s l t ((w.alloc (.cells #[s] 38)).alloc (.cells ⟨l⟩ t)):=
 ⟨(bA).alloc (by simp) _,(Blk.start w [s] _).alloc _,Blk.startAt (by simp)⟩
theorem Rb7.put {w:World} {s z:Value} {t:TypeId} {W:World} (h:Rb7 w s [z] t W) (x:Value):Rb7 w s [x] t (W.setCell ⟨w.heap.size+1,0,none⟩ x):=
 ⟨h.bel.setCell (p:=⟨w.heap.size+1,0,none⟩) (Nat.le_succ _) _,h.bs.other ⟨w.heap.size+1,0,none⟩ (by show w.heap.size≠w.heap.size+1; omega) _,h.bo.set 0 x⟩
theorem room_start (w:World) (s:Value):I7 w s (w.alloc (.cells #[s] 38)):=⟨bA,Blk.start w [s] _⟩
theorem infoP:(Tryz.prog.info? 73).map (fun i=>(i.zero,i.size,i.bytes))=some (some zOq,6,48):=by kernel_rfl
theorem nd_eq {α:Type} {p:α→Bool} {l:List α}:(decide (0≤fnd p l 0)=false)↔fnd p l 0<0:=by
 rw [decide_eq_false_iff_not]; omega
theorem plen_ok:PLenOk:=by
 intro l s w hl hS
 obtain ⟨a,cap,rfl,hc1,hc2⟩:=hS.form;have H0:=Lh (room_start w (.slice a l.length cap));clear hS
 go_enter Tryz.func234,Tryz.ntmps234
 go_wp2_with fail
 go_ret
 exact ⟨rfl,H0.out.bel⟩
theorem ahead_any (n:Nat) (a:Option Addr) (cap i:Nat) (w:World) (hi:i≤cap):
  Calls Tryz.prog 248 #[.agg #[.slice a n cap],.int .i64 (i:Int)] w (Rt (.slice a i i) w):=by
 have H0:=Lh (room_start w (.slice a n cap));have hsc:=fun W=>slice_cut (P:=Tryz.prog) (t:=36) (e:=6) Tryz.underlying36 (by kernel_rfl) a n cap i hi W
 go_enter Tryz.func248,Tryz.ntmps248
 go_wp2_with fail
 go_ret
 exact ⟨rfl,H0.out.bel⟩
theorem ptop_ok:PTopOk:=by
 intro l s w hl hS;have HL:=Lh hS;obtain ⟨a,cap,rfl,hc1,hc2⟩:=hS.form;have H0:=Lh (room_start w (.slice a l.length cap));clear hS;go_enter Tryz.func209,Tryz.ntmps209;go_wp2_with fail;go_loopg [3,5,9] l.length (fun g t3 t5 ti wr=>∃ k:Nat,k≤l.length∧g=l.length-k∧ti=.int .i64 (k:Int)∧t3=.int .i64 (topI (l.take k))∧Below w.heap.size w wr)
 case atStart=>exact ⟨0,Nat.zero_le _,rfl,rfl,rfl,H0.out.bel⟩
 case round=>
  obtain ⟨k,hk,rfl,rfl,rfl,hb⟩:=hrel;have HB:=Lh hb;clear hb H0;by_cases hlt:k<l.length
  ·obtain ⟨g,rfl,hg,hC⟩:=HL.out.at k hlt;have HT:=Lh (top_take hlt);generalize l[k]=x at *;obtain ⟨c0,c1,c2,c3,c4,c5⟩:=hC wr HB.out;clear hC;have HX:=Lh (Blk.start wr (oqL x) 73);have hx1:=HX.out.cell 1 rfl;have HBX:=Lh ((HB.out).alloc HB.out.size (.cells ⟨oqL x⟩ 73));generalize topI (l.take k)=t at *;by_cases hx:t<x.c;have HN:=Lh (show topI (l.take (k+1))=x.c by rw [HT.out,if_pos hx]);rotate_left;have HN:=Lh (show topI (l.take (k+1))=t by rw [HT.out,if_neg hx]);rotate_left
   all_goals
    go_wp2_with fail;go_roundg (l.length-(k+1))
    case measure=>omega
    case rel=>exact ⟨k+1,by omega,rfl,by go_num,by rw [HN.out]; congr 1; omega,HBX.out⟩
  ·obtain rfl:k=l.length:=by omega
   rw [List.take_length];go_wp2_with fail;go_ret;exact ⟨rfl,HB.out⟩
structure Ix7 (w:World) (o:Oq) (W:World):Prop where
 bel:Below w.heap.size w W
 bo:Blk W w.heap.size (oqL o) 73
theorem Ix7.next {w:World} {o:Oq} {W W':World} (h:Ix7 w o W) (hb:Below W.heap.size W W'):Ix7 w o W':=⟨h.bel.trans (hb.mono h.bel.size),h.bo.next hb⟩
theorem Ix7.start (w:World) (o:Oq):Ix7 w o (w.alloc (.cells o 73)):=⟨bA,Blk.start w (oqL o) _⟩
theorem index_any (l:List Oq) (o:Oq) (v:Value) (w:World) (hL:IsP7 w v l):
  Calls Tryz.prog 288 #[v,.agg o] w (Rt (.int .i64 (fnd (twB o) l 0)) w):=by
 have HA:=Lh (Ix7.start w o);have HL:=Lh hL;obtain ⟨a,cap,rfl,hc1,hc2⟩:=hL.form;clear hL
 go_enter Tryz.func288,Tryz.ntmps288
 go_wp2_with fail
 go_loopg [5,8] l.length (fun g t5 ti wr=>∃ k:Nat,k≤l.length∧g=l.length-k∧ti=.int .i64 (k:Int)∧fnd (twB o) (l.drop k) k=fnd (twB o) l 0∧Ix7 w o wr)
 case atStart=>exact ⟨0,Nat.zero_le _,rfl,rfl,rfl,HA.out⟩
 case round=>
  obtain ⟨k,hk,rfl,rfl,hf,hA⟩:=hrel;clear HA;have HA:=Lh hA;clear hA;by_cases hlt:k<l.length
  ·rw [List.drop_eq_getElem_cons hlt] at hf
   obtain ⟨g,rfl,hg,hC⟩:=HL.out.at k hlt;generalize l[k]=x at *
   have HC:=Lh (fun (W:World) (hb:Below w.heap.size w W)=>hC W hb);have HF:=Lh hf;clear hf hC;go_wp2_with fail
   by_cases hx:x=o
   ·have hx':=hx.symm
    subst hx';clear hx;refine rgH (fun W=>W.cell? ⟨g,k * 6,none⟩=some (.int .i64 o.k)∧W.cell? ⟨g,k * 6+1,none⟩=some (.int .i64 o.c)∧W.cell? ⟨g,k * 6+2,none⟩=some (.int .i64 o.s)∧W.cell? ⟨g,k * 6+3,none⟩=some (.int .i64 o.a)∧W.cell? ⟨g,k * 6+4,none⟩=some (.int .i64 o.n)∧W.cell? ⟨g,k * 6+5,none⟩=some (.int .i32 o.ch)∧Cc6 W w.heap.size o.k o.c o.s o.a o.n (.int .i32 o.ch) (Ix7 w o W)) (let h:=HA.out.next bdq; let c:=HC.out _ h.bel; ⟨c.1,c.2.1,c.2.2.1,c.2.2.2.1,c.2.2.2.2.1,c.2.2.2.2.2,h.bo.d6 h⟩) fun hHeld=>?_
    clear HA;refine ta 0 hHeld ?_;refine ta 1 hHeld ?_;refine ta 2 hHeld ?_;refine ta 3 hHeld ?_;refine ta 4 hHeld ?_;refine ta 5 hHeld ?_;refine dnH ?_;have HA:=Lh hHeld.2.2.2.2.2.2.2.2.2.2.2.2;clear hHeld;go_wp2_with fail
    go_ret
    have hf:=HF.out;rw [fnd_yes (show twB o o=true from sameB_iff.2 rfl)] at hf;exact ⟨by rw [←hf]; rfl,HA.out.bel⟩
   ·have HX:=Lh (show ¬ (o.k=x.k∧o.c=x.c∧o.s=x.s∧o.a=x.a∧o.n=x.n∧o.ch=x.ch) from fun ⟨h1,h2,h3,h4,h5,h6⟩=>hx (Oq.same h1.symm h2.symm h3.symm h4.symm h5.symm h6.symm))
    have HN:=Lh (tw_no hx);clear hx;refine rgH (fun W=>W.cell? ⟨g,k * 6,none⟩=some (.int .i64 x.k)∧W.cell? ⟨g,k * 6+1,none⟩=some (.int .i64 x.c)∧W.cell? ⟨g,k * 6+2,none⟩=some (.int .i64 x.s)∧W.cell? ⟨g,k * 6+3,none⟩=some (.int .i64 x.a)∧W.cell? ⟨g,k * 6+4,none⟩=some (.int .i64 x.n)∧W.cell? ⟨g,k * 6+5,none⟩=some (.int .i32 x.ch)∧Cc6 W w.heap.size o.k o.c o.s o.a o.n (.int .i32 o.ch) (Ix7 w o W)) (let h:=HA.out.next bdq; let c:=HC.out _ h.bel; ⟨c.1,c.2.1,c.2.2.1,c.2.2.2.1,c.2.2.2.2.1,c.2.2.2.2.2,h.bo.d6 h⟩) fun hHeld=>?_
    clear HA;refine ta 0 hHeld ?_;refine ta 1 hHeld ?_;refine ta 2 hHeld ?_;refine ta 3 hHeld ?_;refine ta 4 hHeld ?_;refine tk 5 (.bool false) hHeld (fun w hSw=>?_) ?_
    ·(go_simp; intro h1 h2 h3 h4 h5 h6; exact HX.out ⟨h1,h2,h3,h4,h5,h6⟩)
    try simp only [LAY]
    refine dnH ?_;have HA:=Lh hHeld.2.2.2.2.2.2.2.2.2.2.2.2;clear hHeld;go_wp2_with fail
    go_roundg (l.length-(k+1))
    case measure=>omega
    case rel=>exact ⟨k+1,by omega,rfl,by go_num,by rw [←HF.out,fnd_no HN.out],HA.out⟩
  ·obtain rfl:k=l.length:=by omega
   have HF:=Lh hf;clear hf;go_wp2_with fail
   go_ret
   exact ⟨by rw [←HF.out,List.drop_length]; rfl,HA.out.bel⟩
theorem contains_any (l:List Oq) (o:Oq) (v:Value) (w:World) (hL:IsP7 w v l):
  Calls Tryz.prog 270 #[v,.agg o] w (Rt (.bool (decide (0≤fnd (twB o) l 0))) w):=by
 have HA:=Lh (Ix7.start w o);have HI:=Lh (fun W (h:Below w.heap.size w W)=>index_any l o v W (hL.next h));clear hL;generalize fnd (twB o) l 0=z at *
 go_enter Tryz.func270,Tryz.ntmps270
 go_wp2_with fail;refine (HI.out _ HA.out.bel).mono ?_;rintro e w1 ⟨rfl,hb⟩
 have HB:=Lh (HA.out.next hb);clear HA hb;go_wp2_with fail
 go_ret
 exact ⟨rfl,HB.out.bel⟩
theorem clashes_any (l:List Oq) (o:Oq) (s:Value) (w:World) (hL:IsP7 w s l) (hT:fnd (twB o) l 0<0):
  Calls Tryz.prog 271 #[.agg #[s],.agg o] w (Rt (.bool (decide (0≤fnd (clB o) l 0))) w):=by
 have H0:=Lh (Rb7.start w s (oqL o) 73);have HL:=Lh hL;have HNO:=Lh (fnd_neg.1 hT);obtain ⟨a,cap,rfl,hc1,hc2⟩:=hL.form;clear hL hT;by_cases hk0:o.k=0
 rotate_left
 ·have HE:=Lh (show fnd (clB o) l 0<0 from fnd_neg.2 fun x _=>decide_eq_false fun h=>hk0 h.2.1)
  have he:(o.k != 0)=true:=by simpa using hk0
  have hb:=H0.out.bo.cell 0 rfl
  go_enter Tryz.func271,Tryz.ntmps271
  go_wp2_with fail
  go_ret
  exact ⟨by rw [nd_eq.2 HE.out]; rfl,H0.out.bel⟩
 have he:(o.k != 0)=false:=by simpa using hk0
 have HK:=Lh hk0;have hb:=H0.out.bo.cell 0 rfl;clear hk0
 go_enter Tryz.func271,Tryz.ntmps271
 go_wp2_with fail
 clear hb
 go_loopg [6,13] l.length (fun g t6 ti wr=>∃ k:Nat,k≤l.length∧g=l.length-k∧ti=.int .i64 (k:Int)∧fnd (clB o) (l.drop k) k=fnd (clB o) l 0∧Rb7 w (.slice a l.length cap) (oqL o) 73 wr)
 case atStart=>exact ⟨0,Nat.zero_le _,rfl,rfl,rfl,H0.out⟩
 case round=>
  obtain ⟨k,hk,rfl,rfl,hf,hA⟩:=hrel;clear H0;have HA:=Lh hA;clear hA;by_cases hlt:k<l.length
  ·have HXO:=Lh (show l[k]≠o from fun e=>by have:=HNO.out _ (List.getElem_mem hlt); rw [e] at this; rw [show twB o o=true from sameB_iff.2 rfl] at this; cases this)
   rw [List.drop_eq_getElem_cons hlt] at hf;obtain ⟨g,rfl,hg,hC⟩:=HL.out.at k hlt;generalize l[k]=x at *
   obtain ⟨c0,c1,c2,c3,c4,c5⟩:=hC wr HA.out.bel;have HF:=Lh hf;have hno:(clB o x=false→fnd (clB o) (l.drop (k+1)) (k+1)=fnd (clB o) l 0):=fun h=>by rw [←HF.out,fnd_no h]
   have HBX:=Lh ((Below.refl wr.heap.size wr).alloc (Nat.le_refl _) (.cells ⟨oqL x⟩ 73));have HX:=Lh (show Blk (wr.alloc (.cells x 73)) wr.heap.size (oqL x) 73 from Blk.start wr (oqL x) 73);have HA2:=Lh (show Rb7 w (.slice (some ⟨g,0,none⟩) l.length cap) (oqL o) 73 (wr.alloc (.cells x 73)) from HA.out.next HBX.out);have hx0 := HX.out.c6;have ho0 := HA2.out.bo.c6;clear hf hC;by_cases h0:x.k=0
   ·have he0:(x.k==0)=true:=by simpa using h0
    by_cases h2:x.c=o.c∧x.s=o.s
    ·have HY:=Lh (show clB o x=true from decide_eq_true ⟨h0,HK.out,h2.1,h2.2⟩)
     have HXX:=Lh (show ¬ (x.k=o.k∧x.c=o.c∧x.s=o.s∧x.a=o.a∧x.n=o.n∧x.ch=o.ch) from fun ⟨q1,q2,q3,q4,q5,q6⟩=>HXO.out (Oq.same q1 q2 q3 q4 q5 q6));obtain ⟨h2c,h2s⟩:=h2;have hec:(x.c==o.c)=true:=by simpa using h2c
     have hes:(x.s==o.s)=true:=by simpa using h2s
     have hdd:decide (x.c=o.c∧x.s=o.s)=true:=decide_eq_true ⟨h2c,h2s⟩;have hd6:decide (x.k=o.k∧x.c=o.c∧x.s=o.s∧x.a=o.a∧x.n=o.n∧x.ch=o.ch)=false:=decide_eq_false HXX.out;have HCE:=Lh (And.intro h2c h2s);have HFT:=Lh (show decide (0≤fnd (clB o) l 0)=true by rw [←HF.out,fnd_yes HY.out]; simp);clear h0 hno h2c h2s;go_wp2_with fail
     ·exact absurd ⟨by assumption,HCE.out.1,HCE.out.2,by assumption,by assumption,by assumption⟩ HXX.out
     all_goals (go_ret; exact ⟨by rw [HFT.out]; rfl,HA.out.bel.alloc HA.out.bel.size _⟩)
    ·have HN:=Lh (hno (decide_eq_false fun h=>h2 h.2.2))
     have hdd:decide (x.c=o.c∧x.s=o.s)=false:=decide_eq_false h2;clear h0 hno;go_wp2_with fail
     all_goals (go_roundg (l.length-(k+1)); (case measure=>omega); exact ⟨k+1,by omega,rfl,by go_num,HN.out,HA.out.next (bA)⟩)
   ·have he0:(x.k==0)=false:=by simpa using h0
    have HN:=Lh (hno (decide_eq_false fun h=>h0 h.1));clear h0 hno;go_wp2_with fail
    go_roundg (l.length-(k+1))
    case measure=>omega
    case rel=>exact ⟨k+1,by omega,rfl,by go_num,HN.out,HA2.out⟩
  ·obtain rfl:k=l.length:=by omega
   have HF:=Lh hf;clear hf;go_wp2_with fail
   go_ret
   exact ⟨by rw [←HF.out,List.drop_length]; rfl,HA.out.bel⟩
theorem check_any (l:List Oq) (o:Oq) (hl:l.length≤16) (s:Value) (w:World) (hL:IsP7 w s l):
  Calls Tryz.prog 247 #[.agg #[s],.agg o] w (Rt (.int .i64 (addE l o)) w):=by
 have H0:=Lh (Rb7.start w s (oqL o) 73);have HC:=Lh (fun W (h:Below w.heap.size w W)=>contains_any l o s W (hL.next h));have HLn:=Lh (fun W (h:Below w.heap.size w W)=>plen_ok l s W hl (hL.next h));have HOC:=Lh (fun W=>opcheck_any o.k o.c o.s o.a o.n o.ch W);have b0 := H0.out.bo.c6;by_cases hck:chkE o.k o.c o.s o.a o.n o.ch=0;rotate_left
 ·have HE:=Lh (add_chk (l:=l) hck);generalize chkE o.k o.c o.s o.a o.n o.ch=z at *;have hz:(z==0)=false:=by simpa using hck
  clear hck;go_enter Tryz.func247,Tryz.ntmps247;go_wp2_with (go_at_call 179; refine (HOC.out _).mono ?_; rintro e w1 ⟨rfl,hb⟩);go_ret;exact ⟨by rw [HE.out.1]; rfl,(H0.out.next hb).bel⟩
 have HCK:=Lh hck;rw [hck] at HOC;clear hck;by_cases htw:0≤fnd (twB o) l 0
 ·have HE:=Lh (add_tw HCK.out htw).1;rw [decide_eq_true htw] at HC;clear htw HLn;go_enter Tryz.func247,Tryz.ntmps247;go_wp2_with fail;refine (HOC.out _).mono ?_;rintro e w1 ⟨rfl,hb⟩;have H1:=Lh (H0.out.next hb);clear H0 hb b0;have b0 := H1.out.bo.c6;have s0:=H1.out.bs.cell 0 rfl;go_wp2_with fail;refine (HC.out _ H1.out.bel).mono ?_;rintro e w2 ⟨rfl,hb⟩;have H2:=Lh (H1.out.next hb);clear H1 hb;go_wp2_with fail;go_ret;exact ⟨by rw [HE.out]; rfl,H2.out.bel⟩
 have htw':fnd (twB o) l 0<0:=by omega
 have HCL:=Lh (fun W (h:Below w.heap.size w W)=>clashes_any l o s W (hL.next h) htw');rw [nd_eq.2 htw'] at HC;clear hL htw;by_cases hcl:0≤fnd (clB o) l 0
 ·have HE:=Lh (add_cl HCK.out htw' hcl).1;rw [decide_eq_true hcl] at HCL;clear hcl htw' HLn;go_enter Tryz.func247,Tryz.ntmps247;go_wp2_with fail;refine (HOC.out _).mono ?_;rintro e w1 ⟨rfl,hb⟩;have H1:=Lh (H0.out.next hb);clear H0 hb b0;have b0 := H1.out.bo.c6;have s0:=H1.out.bs.cell 0 rfl;go_wp2_with fail;refine (HC.out _ H1.out.bel).mono ?_;rintro e w2 ⟨rfl,hb⟩;have H2:=Lh (H1.out.next hb);clear H1 hb s0 b0;have b0 := H2.out.bo.c6;have s0:=H2.out.bs.cell 0 rfl;go_wp2_with fail;refine (HCL.out _ H2.out.bel).mono ?_;rintro e w3 ⟨rfl,hb⟩;have H3:=Lh (H2.out.next hb);clear H2 hb;go_wp2_with fail;go_ret;exact ⟨by rw [HE.out]; rfl,H3.out.bel⟩
 have hcl':fnd (clB o) l 0<0:=by omega
 rw [nd_eq.2 hcl'] at HCL;have HQ:=Lh (And.intro htw' hcl');clear hcl htw' hcl';have key:∀ b:Bool,b=decide (16≤l.length)→addE l o=(if b=true then 7 else 0):=by
  intro b hb;subst hb;by_cases h:16≤l.length
  ·rw [if_pos (decide_eq_true h)];exact (add_full HCK.out HQ.out.1 HQ.out.2 h).1
  ·rw [if_neg (by simpa using h)];exact (add_ok HCK.out HQ.out.1 HQ.out.2 (by omega)).1
 by_cases hful:16≤l.length;have HE:=Lh (key true (by simpa using hful));have hfi:(16:Int)≤(l.length:Int):=by omega
 rotate_left;have HE:=Lh (key false (by simpa using hful));have hfi:¬ (16:Int)≤(l.length:Int):=by omega
 rotate_left
 all_goals
  clear key hful;go_enter Tryz.func247,Tryz.ntmps247;go_wp2_with fail;refine (HOC.out _).mono ?_;rintro e w1 ⟨rfl,hb⟩;have H1:=Lh (H0.out.next hb);clear H0 hb b0;have b0 := H1.out.bo.c6;have s0:=H1.out.bs.cell 0 rfl;go_wp2_with fail;refine (HC.out _ H1.out.bel).mono ?_;rintro e w2 ⟨rfl,hb⟩;have H2:=Lh (H1.out.next hb);clear H1 hb s0 b0;have b0 := H2.out.bo.c6;have s0:=H2.out.bs.cell 0 rfl;go_wp2_with fail;refine (HCL.out _ H2.out.bel).mono ?_;rintro e w3 ⟨rfl,hb⟩;have H3:=Lh (H2.out.next hb);clear H2 hb s0 b0;have b0 := H3.out.bo.c6;have s0:=H3.out.bs.cell 0 rfl;go_wp2_with fail;refine (HLn.out _ H3.out.bel).mono ?_;rintro e w4 ⟨rfl,hb⟩;have H4:=Lh (H3.out.next hb);clear H3 hb;go_wp2_with fail;go_ret;exact ⟨by rw [HE.out]; rfl,H4.out.bel⟩
theorem canEnter_any (m:List Oq) (o:Oq) (p q:Option Addr) (T:Tr) (P:Pt) (w:World) (hm:m.length≤4095) (hk:OkO m) (hs:StO w m p q T P):
  Calls Tryz.prog 245 #[.agg #[.pointer p,.pointer q,.int .i64 (cnt P)],.agg o] w (Rt (.bool (nxB m o)) w):=by
 have H0:=Lh (CSt.start w p q (cnt P) (oqL o) 73);have HAp:=Lh (fun W (h:Below w.heap.size w W)=>apply_ok_all.one m o p q T P W hm hk (hs.next h));have HB:=Lh (show nxB m o=(wrongE m o != 6) from by unfold nxB; by_cases h:wrongE m o=6 <;> simp [h]);generalize wrongE m o=z at *
 generalize cnt P=N at *
 clear hs hk;have s0 := H0.out.bs.c3;have b0 := H0.out.ba.c6
 go_enter Tryz.func245,Tryz.ntmps245
 go_wp2_with fail;refine (HAp.out _ H0.out.bel).mono ?_;rintro e w1 ⟨hb,p',q',T',P',m',y,rfl,-,-⟩
 have H1:=Lh ((H0.out.bel.trans (hb.mono H0.out.bel.size)).alloc (Nat.le_trans H0.out.bel.size hb.size) (.cells #[.pointer p',.pointer q',.int .i64 (cnt P')] 35));clear H0 hb HAp s0 b0;generalize cnt P'=N' at *
 go_wp2_with fail
 go_ret
 exact ⟨by rw [HB.out]; rfl,H1.out⟩
structure Ra7 (w:World) (s:Value) (l:List Value) (z:Value) (W:World):Prop where
 bel:Below w.heap.size w W
 bs:Blk W w.heap.size [s] 38
 bo:Blk W (w.heap.size+1) l 73
 br:Blk W (w.heap.size+1+1) [z] 38
theorem Ra7.next {w:World} {s z:Value} {l:List Value} {W W':World} (h:Ra7 w s l z W) (hb:Below W.heap.size W W'):Ra7 w s l z W':=⟨h.bel.trans (hb.mono h.bel.size),h.bs.next hb,h.bo.next hb,h.br.next hb⟩
theorem Ra7.start (w:World) (s:Value) (l:List Value) (z:Value):Ra7 w s l z (((w.alloc (.cells #[s] 38)).alloc (.cells ⟨l⟩ 73)).alloc (.cells #[z] 38)):=
 ⟨((bA).alloc (by simp) _).alloc (by simp; omega) _,((Blk.start w [s] _).alloc _).alloc _,(Blk.startAt (by simp)).alloc _,Blk.startAt (by simp)⟩
theorem Ra7.put {w:World} {s z:Value} {l:List Value} {W:World} (h:Ra7 w s l z W) (x:Value):Ra7 w s l x (W.setCell ⟨w.heap.size+1+1,0,none⟩ x):=
 ⟨h.bel.setCell (p:=⟨w.heap.size+1+1,0,none⟩) (by show w.heap.size≤w.heap.size+1+1; omega) _,h.bs.other ⟨w.heap.size+1+1,0,none⟩ (by show w.heap.size≠w.heap.size+1+1; omega) _,h.bo.other ⟨w.heap.size+1+1,0,none⟩ (by show w.heap.size+1≠w.heap.size+1+1; omega) _,h.br.set 0 x⟩
theorem padd_ok:PAddOk:=by
 intro l o s w hl hS;have H0:=Lh (Ra7.start w s (oqL o) (.slice none 0 0));have HS:=Lh hS;have HCk:=Lh (fun W (h:Below w.heap.size w W)=>check_any l o hl s W (hS.next h));have HLn:=Lh (fun W (h:Below w.heap.size w W)=>plen_ok l s W hl (hS.next h));have b0 := H0.out.bo.c6;by_cases hck:addE l o=0;rotate_left
 ·have HE:=Lh (show addL l o=l by unfold addL; rw [if_neg hck]);generalize addE l o=z at *;have hz:(z==0)=false:=by simpa using hck
  clear hck hS HLn;go_enter Tryz.func220,Tryz.ntmps220;go_wp2_with fail;refine (HCk.out _ H0.out.bel).mono ?_;rintro e w1 ⟨rfl,hb⟩;have H1:=Lh (H0.out.next hb);have HS1:=Lh (HS.out.next H1.out.bel);clear H0 hb b0 HS HCk;have s0:=H1.out.bs.cell 0 rfl;have r0:=H1.out.br.cell 0 rfl;have f0:=H1.out.br.free 0;obtain ⟨a,cap,rfl,hc1,hc2⟩:=HS1.out.form;have H2:=Lh (And.intro (H1.out.put (.slice a l.length cap)) (Sl.set H1.out.br (by decide) 0 (.slice a l.length cap) HS1.out));have z0:=H2.out.1.br.cell 0 rfl;go_wp2_with fail;exact bodyPost_ret (v:=.tuple #[.agg #[.slice a l.length cap],z]) (by simp [results, Tryz.results220, go_sem, z0]) rfl ⟨H2.out.1.bel,_,rfl,by rw [HE.out]; exact H2.out.2⟩
 have HE:=Lh (show addE l o=0∧addL l o=l++[o] from ⟨hck,by unfold addL; rw [if_pos hck]⟩);have hlt:l.length<16:=by
  rcases Nat.lt_or_ge l.length 16 with h | h
  ·exact h
  ·exfalso;have h1:chkE o.k o.c o.s o.a o.n o.ch=0:=Decidable.byContradiction fun h1=>h1 ((add_chk (l:=l) h1).1.symm.trans hck)
   have h2:fnd (twB o) l 0<0:=by rcases Int.lt_or_le (fnd (twB o) l 0) 0 with h2 | h2; exact h2; have:=(add_tw h1 h2).1; omega
   have h3:fnd (clB o) l 0<0:=by rcases Int.lt_or_le (fnd (clB o) l 0) 0 with h3 | h3; exact h3; have:=(add_cl h1 h2 h3).1; omega
   have:=(add_full h1 h2 h3 h).1;omega
 rw [hck] at HCk;obtain ⟨a,cap,rfl,hc1,hc2⟩:=hS.form;obtain ⟨i0,hi0,hz0,hz1,hz2⟩:=info_parts infoP;clear hck hS;go_enter Tryz.func220,Tryz.ntmps220;go_wp2_with fail;refine (HCk.out _ H0.out.bel).mono ?_;rintro e w1 ⟨rfl,hb⟩;have hdum:=trivial;have HA8:=Lh ((H0.out.next hb).next bdq);have HS8:=Lh (HS.out.next HA8.out.bel);have HLn:=Lh (fun W (h:Below w.heap.size w W)=>HLn.out W h);clear H0 hb b0 HS HCk;go_wp2_with fail;generalize w1=W7 at *;refine rgH (fun W=>Ce W w.heap.size 0 (.slice a l.length cap)∧Cc6 W (w.heap.size+1) o.k o.c o.s o.a o.n (.int .i32 o.ch) (Below w.heap.size w W)) (let h:=HA8.out; ⟨h.bs.cell 0 rfl,h.bo.d6 h.bel⟩) fun hHeld=>?_
 clear hdum;generalize W7.drew=W8 at *;refine ta 0 hHeld ?_;refine ta 1 hHeld ?_;refine ta 4 hHeld ?_;refine wpAnyH_ready (rs:=[2,5]) (by kernel_rfl) (by simp) ?_;refine cons1 rfl (fun KK hK=>?_) (cons1 rfl (fun KK hK=>?_) AllReadyH.nil)
 focus
  go_simp;refine (HLn.out _ HA8.out.bel).mono ?_;rintro e' W9 ⟨rfl,hb⟩;go_wp2_with fail;refine hK.out _ _ ((let h:=HA8.out.next hb; ⟨h.bs.cell 0 rfl,h.bo.d6 h.bel⟩)) ?_;clear hK KK hHeld;intro hHeld;try simp only [LAY]
  have HA2:=Lh (HA8.out.next hb);have HS2:=Lh (HS8.out.next hb);clear hb HA8 HS8;have HA8:=HA2;have HS8:=HS2;clear HA2 HS2;refine wpAnyH_ready (rs:=[3,5]) (by kernel_rfl) (by simp) ?_;refine cons1 rfl (fun KK hK=>?_) (cons1 rfl (fun KK hK=>?_) AllReadyH.nil);go_simp;refine (ahead_any l.length a cap l.length _ hc1).mono ?_;rintro e' W10 ⟨rfl,hb⟩;go_wp2_with fail;refine hK.out _ _ ((let h:=HA8.out.next hb; ⟨h.bs.cell 0 rfl,h.bo.d6 h.bel⟩)) ?_;clear hK KK hHeld;intro hHeld;try simp only [LAY]
  have HA2:=Lh (HA8.out.next hb);have HS2:=Lh (HS8.out.next hb);clear hb HA8 HS8;have HA8:=HA2;have HS8:=HS2;clear HA2 HS2;refine rd1 5 (by kernel_rfl) rfl fun KK hK=>?_
  go_simp;go_wp2_with fail;refine hK.out _ _ ((let h:=HA8.out.next ((Below.refl W10.heap.size W10).alloc (Nat.le_refl _) (.cells ⟨oqL o⟩ 73)); ⟨h.bs.cell 0 rfl,h.bo.d6 h.bel⟩)) ?_;clear hK KK hHeld;intro hHeld;try simp only [LAY]
  have hYo:=own_new W10 (oqL o) 6 rfl 73;have HA2:=Lh (HA8.out.next ((Below.refl W10.heap.size W10).alloc (Nat.le_refl _) (.cells ⟨oqL o⟩ 73)));have HS2:=Lh (HS8.out.next ((Below.refl W10.heap.size W10).alloc (Nat.le_refl _) (.cells ⟨oqL o⟩ 73)));have hH2:(fun W=>Ce W w.heap.size 0 (.slice a l.length cap)∧Cc6 W (w.heap.size+1) o.k o.c o.s o.a o.n (.int .i32 o.ch) (Below w.heap.size w W)) (W10.alloc (.cells ⟨oqL o⟩ 73)):=hHeld;change wpAnyH _ _ _ _ _ _ _ _ (W10.alloc (.cells ⟨oqL o⟩ 73));clear hHeld HA8 HS8;have hHeld:=hH2;have HA8:=HA2;have HS8:=HS2;clear hH2 HA2 HS2;generalize (W10.alloc (.cells ⟨oqL o⟩ 73))=W11 at *;generalize W10.heap.size=Y at *;rotate_left;go_simp;go_wp2_with fail;refine hK.out _ _ ((let h:=HA8.out.next ((Below.refl W9.heap.size W9).alloc (Nat.le_refl _) (.cells ⟨oqL o⟩ 73)); ⟨h.bs.cell 0 rfl,h.bo.d6 h.bel⟩)) ?_;clear hK KK hHeld;intro hHeld;try simp only [LAY]
  have hYo:=own_new W9 (oqL o) 6 rfl 73;have HA2:=Lh (HA8.out.next ((Below.refl W9.heap.size W9).alloc (Nat.le_refl _) (.cells ⟨oqL o⟩ 73)));have HS2:=Lh (HS8.out.next ((Below.refl W9.heap.size W9).alloc (Nat.le_refl _) (.cells ⟨oqL o⟩ 73)));have hH2:(fun W=>Ce W w.heap.size 0 (.slice a l.length cap)∧Cc6 W (w.heap.size+1) o.k o.c o.s o.a o.n (.int .i32 o.ch) (Below w.heap.size w W)) (W9.alloc (.cells ⟨oqL o⟩ 73)):=hHeld;change wpAnyH _ _ _ _ _ _ _ _ (W9.alloc (.cells ⟨oqL o⟩ 73));clear hHeld HA8 HS8;have hHeld:=hH2;have HA8:=HA2;have HS8:=HS2;clear hH2 HA2 HS2;generalize (W9.alloc (.cells ⟨oqL o⟩ 73))=W10 at *;generalize W9.heap.size=Y at *;refine rc 3 (ahead_any l.length a cap l.length _ hc1) ?_;rintro e' W11 ⟨rfl,hb⟩;refine rp ((let h:=HA8.out.next hb; ⟨h.bs.cell 0 rfl,h.bo.d6 h.bel⟩)) ?_;clear hHeld;intro hHeld;have HA2:=Lh (HA8.out.next hb);have HS2:=Lh (HS8.out.next hb);have hY2:=ownsRow_next hYo hb;clear hb HA8 HS8 hYo;have HA8:=HA2;have HS8:=HS2;clear HA2 HS2;have hYo:=hY2;clear hY2;rotate_left
 rotate_left 2;go_simp;go_wp2_with fail;refine hK.out _ _ ((let h:=HA8.out.next ((Below.refl W8.heap.size W8).alloc (Nat.le_refl _) (.cells ⟨oqL o⟩ 73)); ⟨h.bs.cell 0 rfl,h.bo.d6 h.bel⟩)) ?_;clear hK KK hHeld;intro hHeld;try simp only [LAY]
 have hYo:=own_new W8 (oqL o) 6 rfl 73;have HA2:=Lh (HA8.out.next ((Below.refl W8.heap.size W8).alloc (Nat.le_refl _) (.cells ⟨oqL o⟩ 73)));have HS2:=Lh (HS8.out.next ((Below.refl W8.heap.size W8).alloc (Nat.le_refl _) (.cells ⟨oqL o⟩ 73)));have hH2:(fun W=>Ce W w.heap.size 0 (.slice a l.length cap)∧Cc6 W (w.heap.size+1) o.k o.c o.s o.a o.n (.int .i32 o.ch) (Below w.heap.size w W)) (W8.alloc (.cells ⟨oqL o⟩ 73)):=hHeld;change wpAnyH _ _ _ _ _ _ _ _ (W8.alloc (.cells ⟨oqL o⟩ 73));clear hHeld HA8 HS8;have hHeld:=hH2;have HA8:=HA2;have HS8:=HS2;clear hH2 HA2 HS2;generalize (W8.alloc (.cells ⟨oqL o⟩ 73))=W9 at *;generalize W8.heap.size=Y at *;refine rc 2 (HLn.out _ HA8.out.bel) ?_;rintro e' W10 ⟨rfl,hb⟩;refine rp ((let h:=HA8.out.next hb; ⟨h.bs.cell 0 rfl,h.bo.d6 h.bel⟩)) ?_;clear hHeld;intro hHeld;have HA2:=Lh (HA8.out.next hb);have HS2:=Lh (HS8.out.next hb);have hY2:=ownsRow_next hYo hb;clear hb HA8 HS8 hYo;have HA8:=HA2;have HS8:=HS2;clear HA2 HS2;have hYo:=hY2;clear hY2;refine rc 3 (ahead_any l.length a cap l.length _ hc1) ?_;rintro e' W11 ⟨rfl,hb⟩;refine rp ((let h:=HA8.out.next hb; ⟨h.bs.cell 0 rfl,h.bo.d6 h.bel⟩)) ?_;clear hHeld;intro hHeld;have HA2:=Lh (HA8.out.next hb);have HS2:=Lh (HS8.out.next hb);have hY2:=ownsRow_next hYo hb;clear hb HA8 HS8 hYo;have HA8:=HA2;have HS8:=HS2;clear HA2 HS2;have hYo:=hY2;clear hY2;rotate_left
 all_goals
  refine rd1 6 (by kernel_rfl) rfl fun KK hK=>?_
  rw [if_pos (by rfl)];refine wp_append_cut _ (.tmp 17) (.tmp 19) 36 rfl 73 i0 zOq 6 48 Tryz.underlying36 hi0 hz0 hz1 hz2 rfl oqL_len a l.length l rfl rfl (by have h:=Sl.cut oqL_len HS8.out l.length (Nat.le_refl _); rwa [List.take_length] at h) (.slice (some ⟨Y,0,none⟩) 1 1) [o] rfl (Src.ofSlice _ Tryz.underlying36 ⟨Y,0,none⟩ 1 1 _ rfl (hYo.cells rfl) (by simpa using oq_one o)) (by unfold maxLen; simp; omega) (by simp; omega) ?_;intro v2 W12 hb2 ho2 hown2 hv2;have hb3:=hb2;go_wp2_with fail;refine hK.out _ _ ((let h:=HA8.out.next hb3; ⟨h.bs.cell 0 rfl,h.bo.d6 h.bel⟩)) ?_;clear hK KK hHeld;intro hHeld;try simp only [LAY]
  have HA2:=Lh (HA8.out.next hb3);obtain ⟨a2,c2,rfl,hd1,hd2⟩:=ho2.form;generalize l++[o]=L2 at *;have HO2:=Lh ho2;clear HA8 ho2 hown2 hv2 hb2 hb3;have x0:=HA2.out.br.cell 0 rfl;have f0:=HA2.out.br.free 0;refine ta 7 hHeld ?_;refine rd1 8 (by kernel_rfl) rfl fun KK hK=>?_
  go_simp;go_wp2_with fail;refine hK.out _ _ ((let h:=HA2.out.put (.slice a2 L2.length c2); ⟨h.bs.cell 0 rfl,h.bo.d6 h.bel⟩)) ?_;clear hK KK hHeld;intro hHeld;try simp only [LAY]
  have HA3:=Lh (And.intro (HA2.out.put (.slice a2 L2.length c2)) (Sl.set HA2.out.br (by decide) 0 (.slice a2 L2.length c2) HO2.out));refine ta 9 hHeld ?_;refine dnH ?_;clear hHeld x0 f0;have z0:=HA3.out.1.br.cell 0 rfl;go_wp2_with fail;exact bodyPost_ret (v:=.tuple #[.agg #[.slice a2 L2.length c2],.int .i64 0]) (by simp [results, Tryz.results220, go_sem, z0]) rfl ⟨HA3.out.1.bel,_,by rw [HE.out.1],by rw [HE.out.2]; exact HA3.out.2⟩
theorem pwithout_any (l:List Oq) (i:Nat) (hi:i<l.length) (hl:l.length≤1000) (s:Value) (w:World) (hL:IsP7 w s l):
  Calls Tryz.prog 246 #[.agg #[s],.int .i64 (i:Int)] w fun e w'=>Below w.heap.size w w'∧∃ s',e=.returned (.agg #[s'])∧IsP7 w' s' (l.eraseIdx i)∧∀ b,b<w.heap.size→OutOf s b→OutOf s' b:=by
 obtain ⟨g,cap,rfl⟩:∃ g cap,s=.slice (some ⟨g,0,none⟩) l.length cap:=by
  rcases hL with ⟨_,rfl⟩ | ⟨g,cap,cur,rfl,_⟩
  ·simp at hi
  ·exact ⟨g,cap,rfl⟩
 obtain ⟨_,_,hf,hc1,hc2⟩:=hL.form
 cases hf
 obtain ⟨j,hj⟩:∃ j,j=i+1:=⟨_,rfl⟩
 have HER:=Lh (show l.eraseIdx i=l.take i++l.drop j by rw [hj,List.eraseIdx_eq_take_drop_succ]);have HW:=Lh (show IntKind.i64.wrap ((i:Int)+1)=(j:Int) by rw [IntWalk.i64_in _ (by omega)]; omega);obtain ⟨ad,had,hnw⟩:=tail_news oqL_len hL j (by omega);have hst:=fun W=>slice_tail (P:=Tryz.prog) (t:=36) (e:=6) Tryz.underlying36 (by kernel_rfl) (some ⟨g,0,none⟩) l.length cap j (by omega) W
 rw [had] at hst;have HNW:=Lh hnw;have HST:=Lh hst;have HS:=Lh hL;obtain ⟨i0,hi0,hz0,hz1,hz2⟩:=info_parts infoP;have HA8:=Lh ((Rb7.start w (.slice (some ⟨g,0,none⟩) l.length cap) [.slice none 0 0] 38).next bdq);have hdum:=trivial;have hij:i+1≤j:=by omega
 have hji:j≤i+1:=by omega
 clear had hnw hst hL hj
 go_enter Tryz.func246,Tryz.ntmps246
 go_wp2_with fail
 generalize World.alloc _ _=W7 at *
 refine rgH (fun W=>Ce W w.heap.size 0 (.slice (some ⟨g,0,none⟩) l.length cap)∧Below w.heap.size w W) (let h:=HA8.out; ⟨h.bs.cell 0 rfl,h.bel⟩) fun hHeld=>?_
 clear hdum;generalize W7.drew=W8 at *
 refine ta 0 hHeld ?_;refine ta 1 hHeld ?_;refine ta 3 hHeld ?_;refine ta 4 hHeld ?_;refine ta 5 hHeld ?_;refine tk 6 (.int .i64 (j:Int)) hHeld (fun w hSw=>?_) ?_
 ·(have hw:=HW.out; go_simp)
 try simp only [LAY]
 refine tk 7 (.slice (some ad) (l.length-j) (cap-j)) hHeld (fun w hSw=>?_) ?_
 ·(have hst:=HST.out; go_simp)
 try simp only [LAY]
 refine rc 2 (ahead_any l.length (some ⟨g,0,none⟩) cap i _ (by omega)) ?_
 rintro e' W9 ⟨rfl,hb⟩
 refine rp ((let h:=HA8.out.next hb; ⟨h.bs.cell 0 rfl,h.bel⟩)) ?_;clear hHeld;intro hHeld
 have HA9:=Lh (HA8.out.next hb);have HS9:=Lh (show IsP7 W9 (.slice (some ⟨g,0,none⟩) i i) (l.take i) from Sl.cut oqL_len (HS.out.next HA9.out.bel) i (by omega));clear hb HA8;refine rd1 8 (by kernel_rfl) rfl fun KK hK=>?_
 rw [if_pos (by rfl)];refine wp_append_cut _ (.tmp 7) (.tmp 12) 36 rfl 73 i0 zOq 6 48 Tryz.underlying36 hi0 hz0 hz1 hz2 rfl oqL_len (some ⟨g,0,none⟩) i (l.take i) (by rw [List.length_take]; omega) rfl HS9.out (.slice (some ad) (l.length-j) (cap-j)) (l.drop j) rfl (by rw [show (l.drop j).length=l.length-j by rw [List.length_drop]]; exact Src.ofSlice _ Tryz.underlying36 ad (l.length-j) (cap-j) _ (by rw [flat_len oqL_len,List.length_drop]) (HNW.out _ HA9.out.bel) (flat_one oq_one _)) (by unfold maxLen; rw [List.length_drop]; omega) (by rw [List.length_drop]; omega) ?_;intro v2 W10 hb2 ho2 hown2 hv2
 go_wp2_with fail
 refine hK.out _ _ ((let h:=HA9.out.next hb2; ⟨h.bs.cell 0 rfl,h.bel⟩)) ?_;clear hK KK hHeld;intro hHeld
 try simp only [LAY]
 have hout:∀ b,b<w.heap.size→OutOf (.slice (some ⟨g,0,none⟩) l.length cap) b→OutOf v2 b:=by
  intro b hb hob
  rcases Nat.eq_zero_or_pos (l.drop j).length with h0 | h0
  ·rw [hv2 h0]; intro g' n' c' e; cases e; exact hob _ _ _ rfl
  ·exact own_out (hown2 h0) (by have:=HA9.out.bs.lt; omega)
 have HA10:=Lh (HA9.out.next hb2);obtain ⟨a2,c2,rfl,hd1,hd2⟩:=ho2.form;generalize l.take i++l.drop j=L2 at *
 have HO2:=Lh (And.intro ho2 hout);clear HA9 ho2 hown2 hb2 hv2 hout;have x0:=HA10.out.bo.cell 0 rfl;have f0:=HA10.out.bo.free 0;refine ta 9 hHeld ?_;refine rd1 10 (by kernel_rfl) rfl fun KK hK=>?_
 go_simp
 go_wp2_with fail
 refine hK.out _ _ ((let h:=HA10.out.put (.slice a2 L2.length c2); ⟨h.bs.cell 0 rfl,h.bel⟩)) ?_;clear hK KK hHeld;intro hHeld
 try simp only [LAY]
 have HA3:=Lh (And.intro (HA10.out.put (.slice a2 L2.length c2)) (Sl.set HA10.out.bo (by decide) 0 (.slice a2 L2.length c2) HO2.out.1));refine dnH ?_;clear hHeld x0 f0;have z0:=HA3.out.1.bo.cell 0 rfl;go_wp2_with fail
 exact bodyPost_ret (by simp [results,Tryz.results246,go_sem,z0]) rfl ⟨HA3.out.1.bel,_,rfl,by rw [HER.out]; exact HA3.out.2,HO2.out.2⟩
structure Rn7 (w:World) (s:Value) (cs:List Value) (z:Value) (zo:List Value) (W:World):Prop where
 bel:Below w.heap.size w W
 bs:Blk W w.heap.size [s] 38
 bc:Blk W (w.heap.size+1) cs 35
 br:Blk W (w.heap.size+1+1) [z] 38
 bo:Blk W (w.heap.size+1+1+1) zo 73
theorem Rn7.next {w:World} {s z:Value} {cs zo:List Value} {W W':World} (h:Rn7 w s cs z zo W) (hb:Below W.heap.size W W'):Rn7 w s cs z zo W':=⟨h.bel.trans (hb.mono h.bel.size),h.bs.next hb,h.bc.next hb,h.br.next hb,h.bo.next hb⟩
def zop:List Value:=[.int .i64 0,.int .i64 0,.int .i64 0,.int .i64 0,.int .i64 0,.int .i32 0]
theorem Rn7.start (w:World) (s:Value) (cs:List Value) (z:Value):Rn7 w s cs z zop ((((w.alloc (.cells #[s] 38)).alloc (.cells ⟨cs⟩ 35)).alloc (.cells #[z] 38)).alloc (.cells #[.int .i64 0,.int .i64 0,.int .i64 0,.int .i64 0,.int .i64 0,.int .i32 0] 73)):=by
 refine ⟨(((bA).alloc (by simp) _).alloc (by simp; omega) _).alloc (by simp; omega) _,?_,?_,?_,?_⟩
 ·exact (((Blk.start w [s] _).alloc _).alloc _).alloc _
 ·exact ((Blk.startAt (b:=w.heap.size+1) (by simp)).alloc _).alloc _
 ·exact (Blk.startAt (b:=w.heap.size+1+1) (vs:=[z]) (by simp)).alloc _
 ·exact Blk.startAt (b:=w.heap.size+1+1+1) (vs:=zop) (by simp)
theorem Rn7.putR {w:World} {s z:Value} {cs zo:List Value} {W:World} (h:Rn7 w s cs z zo W) (x:Value):Rn7 w s cs x zo (W.setCell ⟨w.heap.size+1+1,0,none⟩ x):=
 ⟨h.bel.setCell (p:=⟨w.heap.size+1+1,0,none⟩) (by show w.heap.size≤w.heap.size+1+1; omega) _,h.bs.other ⟨w.heap.size+1+1,0,none⟩ (by show w.heap.size≠w.heap.size+1+1; omega) _,h.bc.other ⟨w.heap.size+1+1,0,none⟩ (by show w.heap.size+1≠w.heap.size+1+1; omega) _,h.br.set 0 x,h.bo.other ⟨w.heap.size+1+1,0,none⟩ (by show w.heap.size+1+1+1≠w.heap.size+1+1; omega) _⟩
theorem Rn7.putO {w:World} {s z:Value} {cs:List Value} {W:World} (h:Rn7 w s cs z zop W) (x:Oq):Rn7 w s cs z (oqL x) (setN W (w.heap.size+1+1+1) 0 (oqL x)):=
 ⟨setN_below (by omega) _ 0 h.bel,h.bs.setN (by omega) _ 0,h.bc.setN (by omega) _ 0,h.br.setN (by omega) _ 0,setN_blk (oqL x) 0 h.bo⟩
def PNextOut (N:Nat):Prop:=∀ (m l:List Oq) (s:Value) (p q:Option Addr) (T:Tr) (P:Pt) (w:World),m.length≤N→OkO m→StO w m p q T P→l.length≤16→IsP7 w s l →
 Calls Tryz.prog 219 #[.agg #[s],.agg #[.pointer p,.pointer q,.int .i64 (cnt P)]] w fun r w'=>Below w.heap.size w w'∧∃ (s':Value) (l':List Oq) (x:Oq),
  r=.returned (.tuple #[.agg #[s'],.agg x,.bool (decide (0≤nxI m l))])∧IsP7 w' s' l'∧(∀ b,b<w.heap.size→OutOf s b→OutOf s' b) ∧
  ((nxI m l<0∧l'=l∧x=zeroOq)∨∃ (i:Nat) (hi:i<l.length),nxI m l=(i:Int)∧x=l[i]∧l'=l.eraseIdx i)
theorem pnext_out:PNextOut 4095:=by
 intro m l s p q T P w hm hok hst hl hS
 have H0:=Lh (Rn7.start w s [.pointer p,.pointer q,.int .i64 (cnt P)] (.slice none 0 0));have HS:=Lh hS;have HCE:=Lh (fun (x:Oq) W (h:Below w.heap.size w W)=>canEnter_any m x p q T P W hm hok (hst.next h));have HWI:=Lh (fun (i:Nat) (hi:i<l.length) W (h:Below w.heap.size w W)=>pwithout_any l i hi (by omega) s W (hS.next h));have HOU:=Lh (Sl.outOf hS (b:=w.heap.size+1+1+1) (by omega));obtain ⟨a,cap,rfl,hc1,hc2⟩:=hS.form;generalize cnt P=N at *
 obtain ⟨cs,hcs⟩:∃ cs,cs=[Value.pointer p,.pointer q,.int .i64 N]:=⟨_,rfl⟩
 clear hS hst hok
 go_enter Tryz.func219,Tryz.ntmps219
 have s0:=H0.out.bs.cell 0 rfl;go_wp2_with fail
 clear s0;have HCS:=Lh hcs;clear hcs
 go_loopg [7,8,12] l.length (fun g t7 t8 ti wr=>∃ k:Nat,k≤l.length∧g=l.length-k∧ti=.int .i64 (k:Int)∧fnd (nxB m) (l.drop k) k=nxI m l∧Rn7 w (.slice a l.length cap) cs (.slice none 0 0) zop wr)
 case atStart=>exact ⟨0,Nat.zero_le _,rfl,rfl,rfl,by rw [HCS.out]; exact H0.out⟩
 case round=>
  obtain ⟨k,hk,rfl,rfl,hf,hA⟩:=hrel;clear H0;have HA:=Lh hA;clear hA;by_cases hlt:k<l.length
  ·rw [List.drop_eq_getElem_cons hlt] at hf
   obtain ⟨g,rfl,hg,hC⟩:=HS.out.at k hlt;obtain ⟨x,hx⟩:∃ x,x=l[k]:=⟨_,rfl⟩
   rw [←hx] at hf hC;have HXE:=Lh hx;obtain ⟨L2,hL2⟩:∃ L2,L2=l.eraseIdx k:=⟨_,rfl⟩
   have hWO:=fun W h=>HWI.out k hlt W h
   rw [←hL2] at hWO;have HWO:=Lh hWO;have HL2:=Lh hL2;clear hx hL2 hWO;obtain ⟨c0,c1,c2,c3,c4,c5⟩:=hC wr HA.out.bel;have HF:=Lh hf;have HBX:=Lh ((Below.refl wr.heap.size wr).alloc (Nat.le_refl _) (.cells ⟨oqL x⟩ 73));have HX:=Lh (show Blk (wr.alloc (.cells x 73)) wr.heap.size (oqL x) 73 from Blk.start wr (oqL x) 73);have HA2:=Lh (show Rn7 w (.slice (some ⟨g,0,none⟩) l.length cap) cs (.slice none 0 0) zop (wr.alloc (.cells x 73)) from HA.out.next HBX.out);have hD:w.heap.size+1+1+1<wr.heap.size:=HA.out.bo.lt;clear hf hC;have q0 := HX.out.c6;have hbc:=HA2.out.bc;rw [HCS.out] at hbc;have e0 := hbc.c3;clear hbc;have HCX:=Lh (fun W h=>HCE.out x W h);by_cases hn:nxB m x=true
   ·rw [hn] at HCX
    have HFT:=Lh (show nxI m l=(k:Int)∧decide (0≤nxI m l)=true from by
     have h1:nxI m l=(k:Int):=by rw [←HF.out,fnd_yes hn]
     exact ⟨h1,by rw [h1]; simp⟩)
    clear hn;go_wp2_with fail;refine (HCX.out _ HA2.out.bel).mono ?_;rintro e w1 ⟨rfl,hb⟩
    have hdum:=trivial;have HA8:=Lh (show Rn7 w (.slice (some ⟨g,0,none⟩) l.length cap) cs (.slice none 0 0) zop w1.drew∧Blk w1.drew wr.heap.size (oqL x) 73 from And.intro ((HA2.out.next hb).next bdq) ((HX.out.next hb).next bdq));clear hb HA HA2 HX HBX q0 e0 c0 c1 c2 c3 c4 c5 HCX;go_wp2_with fail
    generalize w1=W7 at *
    generalize wr.heap.size=D at *
    refine rgH (fun W=>Ce W w.heap.size 0 (.slice (some ⟨g,0,none⟩) l.length cap)∧Cc6 W D x.k x.c x.s x.a x.n (.int .i32 x.ch) (Below w.heap.size w W)) (let h:=HA8.out; ⟨h.1.bs.cell 0 rfl,h.2.d6 h.1.bel⟩) fun hHeld=>?_
    clear hdum;generalize W7.drew=W8 at *
    refine ta 0 hHeld ?_;refine ta 1 hHeld ?_;refine ta 3 hHeld ?_;refine rd1 2 (by kernel_rfl) rfl fun KK hK=>?_
    go_simp
    refine (HWO.out _ HA8.out.1.bel).mono ?_
    rintro e' W9 ⟨hb,s',rfl,hs',ho'⟩
    obtain ⟨a2,c2,rfl,hd1,hd2⟩:=hs'.form;go_wp2_with fail
    refine hK.out _ _ ((let h:=(And.intro (HA8.out.1.next hb) (HA8.out.2.next hb):Rn7 _ _ _ _ _ _∧Blk _ D (oqL x) 73); ⟨h.1.bs.cell 0 rfl,h.2.d6 h.1.bel⟩)) ?_;clear hK KK hHeld;intro hHeld
    try simp only [LAY]
    have HA9:=Lh (show Rn7 w (.slice (some ⟨g,0,none⟩) l.length cap) cs (.slice none 0 0) zop W9∧Blk W9 D (oqL x) 73 from And.intro (HA8.out.1.next hb) (HA8.out.2.next hb));have HOX:=Lh (fun b (hbb:b<w.heap.size) ho=>ho' b (Nat.lt_of_lt_of_le hbb HA8.out.1.bel.size) ho);have HO9:=Lh (And.intro hs' (ho' (w.heap.size+1+1+1) (by have:=HA8.out.1.bo.lt; omega) HOU.out));clear hb HA8 hs' ho';have x0:=HA9.out.1.br.cell 0 rfl;have f0:=HA9.out.1.br.free 0;refine rd1 4 (by kernel_rfl) rfl fun KK hK=>?_
    go_simp
    go_wp2_with fail
    refine hK.out _ _ ((let h:=(And.intro (HA9.out.1.putR (.slice a2 L2.length c2)) (HA9.out.2.other ⟨w.heap.size+1+1,0,none⟩ (by show D≠w.heap.size+1+1; omega) (.slice a2 L2.length c2)):Rn7 _ _ _ _ _ _∧Blk _ D (oqL x) 73); ⟨h.1.bs.cell 0 rfl,h.2.d6 h.1.bel⟩)) ?_;clear hK KK hHeld;intro hHeld
    try simp only [LAY]
    have HA10:=Lh (show Rn7 w (.slice (some ⟨g,0,none⟩) l.length cap) cs (.slice a2 L2.length c2) zop (W9.setCell ⟨w.heap.size+1+1,0,none⟩ (.slice a2 L2.length c2))∧Blk (W9.setCell ⟨w.heap.size+1+1,0,none⟩ (.slice a2 L2.length c2)) D (oqL x) 73 from And.intro (HA9.out.1.putR (.slice a2 L2.length c2)) (HA9.out.2.other ⟨w.heap.size+1+1,0,none⟩ (by show D≠w.heap.size+1+1; omega) (.slice a2 L2.length c2)));have HO10:=Lh (show IsP7 (W9.setCell ⟨w.heap.size+1+1,0,none⟩ (.slice a2 L2.length c2)) (.slice a2 L2.length c2) L2∧OutOf (.slice a2 L2.length c2) (w.heap.size+1+1+1) from And.intro (Sl.set HA9.out.1.br (by decide) 0 (.slice a2 L2.length c2) HO9.out.1) HO9.out.2);clear x0 f0 HA9 HO9
    change wpAnyH _ _ _ _ _ _ _ _ (W9.setCell ⟨w.heap.size+1+1,0,none⟩ (.slice a2 L2.length c2))
    generalize (W9.setCell ⟨w.heap.size+1+1,0,none⟩ (.slice a2 L2.length c2))=W10 at *
    obtain ⟨y0,y1,y2,y3,y4,y5⟩:=HA10.out.1.bo.c6;obtain ⟨fy0,fy1,fy2,fy3,fy4,fy5⟩:=HA10.out.1.bo.f6;refine rd1 5 (by kernel_rfl) rfl fun KK hK=>?_
    go_simp
    go_wp2_with fail
    refine hK.out _ _ ((let h:=(And.intro (HA10.out.1.putO x) (HA10.out.2.setN (by omega) (oqL x) 0):Rn7 _ _ _ _ _ _∧Blk _ D (oqL x) 73); ⟨h.1.bs.cell 0 rfl,h.2.d6 h.1.bel⟩)) ?_;clear hK KK hHeld;intro hHeld
    try simp only [LAY]
    have HA11:=Lh (show Rn7 w (.slice (some ⟨g,0,none⟩) l.length cap) cs (.slice a2 L2.length c2) (oqL x) ((((((W10.setCell ⟨w.heap.size+1+1+1,0,none⟩ x.k).setCell ⟨w.heap.size+1+1+1,1,none⟩ x.c).setCell ⟨w.heap.size+1+1+1,2,none⟩ x.s).setCell ⟨w.heap.size+1+1+1,3,none⟩ x.a).setCell ⟨w.heap.size+1+1+1,4,none⟩ x.n).setCell ⟨w.heap.size+1+1+1,5,none⟩ (.int .i32 x.ch)) from HA10.out.1.putO x);have HO11:=Lh (show IsP7 ((((((W10.setCell ⟨w.heap.size+1+1+1,0,none⟩ x.k).setCell ⟨w.heap.size+1+1+1,1,none⟩ x.c).setCell ⟨w.heap.size+1+1+1,2,none⟩ x.s).setCell ⟨w.heap.size+1+1+1,3,none⟩ x.a).setCell ⟨w.heap.size+1+1+1,4,none⟩ x.n).setCell ⟨w.heap.size+1+1+1,5,none⟩ (.int .i32 x.ch)) (.slice a2 L2.length c2) L2 from Sl.setOut HO10.out.1 HO10.out.2 (oqL x) 0);clear HA10 HO10 y0 fy0 y1 fy1 y2 fy2 y3 fy3 y4 fy4 y5 fy5
    change wpAnyH _ _ _ _ _ _ _ _ ((((((W10.setCell ⟨w.heap.size+1+1+1,0,none⟩ x.k).setCell ⟨w.heap.size+1+1+1,1,none⟩ x.c).setCell ⟨w.heap.size+1+1+1,2,none⟩ x.s).setCell ⟨w.heap.size+1+1+1,3,none⟩ x.a).setCell ⟨w.heap.size+1+1+1,4,none⟩ x.n).setCell ⟨w.heap.size+1+1+1,5,none⟩ (.int .i32 x.ch))
    generalize ((((((W10.setCell ⟨w.heap.size+1+1+1,0,none⟩ x.k).setCell ⟨w.heap.size+1+1+1,1,none⟩ x.c).setCell ⟨w.heap.size+1+1+1,2,none⟩ x.s).setCell ⟨w.heap.size+1+1+1,3,none⟩ x.a).setCell ⟨w.heap.size+1+1+1,4,none⟩ x.n).setCell ⟨w.heap.size+1+1+1,5,none⟩ (.int .i32 x.ch))=W11 at *
    refine ta 6 hHeld ?_;refine dnH ?_;clear hHeld;have z0:=HA11.out.br.cell 0 rfl;obtain ⟨y0,y1,y2,y3,y4,y5⟩:=HA11.out.bo.c6;go_wp2_with fail
    exact bodyPost_ret (v:=.tuple #[.agg #[.slice a2 L2.length c2],.agg x,.bool true]) (by simp [results, Tryz.results219, go_sem, z0, y0, y1, y2, y3, y4, y5]) rfl ⟨HA11.out.bel,.slice a2 L2.length c2,L2,x,by rw [HFT.out.2],HO11.out,HOX.out,.inr ⟨k,hlt,HFT.out.1,HXE.out,HL2.out⟩⟩
   ·have hn':nxB m x=false:=by simpa using hn
    rw [hn'] at HCX;have HNN:=Lh hn';clear hn hn';go_wp2_with fail;refine (HCX.out _ HA2.out.bel).mono ?_;rintro e w1 ⟨rfl,hb⟩
    have HA3:=Lh (HA2.out.next hb);clear hb HA HA2 HX HBX q0 e0 c0 c1 c2 c3 c4 c5 HCX;go_wp2_with fail
    go_roundg (l.length-(k+1))
    case measure=>omega
    case rel=>exact ⟨k+1,by omega,rfl,by go_num,by rw [←HF.out,fnd_no HNN.out],HA3.out⟩
  ·obtain rfl:k=l.length:=by omega
   have HFT:=Lh (show nxI m l<0∧decide (0≤nxI m l)=false from by
    have h1:nxI m l = -1:=by rw [←hf,List.drop_length]; rfl
    exact ⟨by omega,by rw [h1]; rfl⟩)
   clear hf;have s0:=HA.out.bs.cell 0 rfl;have x0:=HA.out.br.cell 0 rfl;have f0:=HA.out.br.free 0;have HP:=Lh (HA.out.putR (.slice a l.length cap));have y0:=HP.out.bo.cell 0 rfl;have fy0:=HP.out.bo.free 0;have y1:=HP.out.bo.cell 1 rfl;have fy1:=HP.out.bo.free 1;have y2:=HP.out.bo.cell 2 rfl;have fy2:=HP.out.bo.free 2;have y3:=HP.out.bo.cell 3 rfl;have fy3:=HP.out.bo.free 3;have y4:=HP.out.bo.cell 4 rfl;have fy4:=HP.out.bo.free 4;have y5:=HP.out.bo.cell 5 rfl;have fy5:=HP.out.bo.free 5;have HQ:=Lh (show Rn7 w (.slice a l.length cap) cs (.slice a l.length cap) (oqL zeroOq) (((((((wr.setCell ⟨w.heap.size+1+1,0,none⟩ (.slice a l.length cap)).setCell ⟨w.heap.size+1+1+1,0,none⟩ (.int .i64 0)).setCell ⟨w.heap.size+1+1+1,1,none⟩ (.int .i64 0)).setCell ⟨w.heap.size+1+1+1,2,none⟩ (.int .i64 0)).setCell ⟨w.heap.size+1+1+1,3,none⟩ (.int .i64 0)).setCell ⟨w.heap.size+1+1+1,4,none⟩ (.int .i64 0)).setCell ⟨w.heap.size+1+1+1,5,none⟩ (.int .i32 0)) from HP.out.putO zeroOq);have HO:=Lh (show IsP7 (((((((wr.setCell ⟨w.heap.size+1+1,0,none⟩ (.slice a l.length cap)).setCell ⟨w.heap.size+1+1+1,0,none⟩ (.int .i64 0)).setCell ⟨w.heap.size+1+1+1,1,none⟩ (.int .i64 0)).setCell ⟨w.heap.size+1+1+1,2,none⟩ (.int .i64 0)).setCell ⟨w.heap.size+1+1+1,3,none⟩ (.int .i64 0)).setCell ⟨w.heap.size+1+1+1,4,none⟩ (.int .i64 0)).setCell ⟨w.heap.size+1+1+1,5,none⟩ (.int .i32 0)) (.slice a l.length cap) l from Sl.setOut (Sl.set HA.out.br (by decide) 0 (.slice a l.length cap) (HS.out.next HA.out.bel)) HOU.out (oqL zeroOq) 0);have z0:=HQ.out.br.cell 0 rfl;have u0 := HQ.out.bo.c6;go_wp2_with fail
   exact bodyPost_ret (v:=.tuple #[.agg #[.slice a l.length cap],.agg #[.int .i64 0,.int .i64 0,.int .i64 0,.int .i64 0,.int .i64 0,.int .i32 0],.bool false]) (by simp [results, Tryz.results219, go_sem, z0, u0, zeroOq]) rfl ⟨HQ.out.bel,_,l,zeroOq,by rw [HFT.out.2]; rfl,HO.out,fun _ _ h=>h,.inl ⟨HFT.out.1,rfl,rfl⟩⟩
theorem pnext_all:PNextOk 4095:=fun m l s p q T P w hm hok hst hl hS=>(pnext_out m l s p q T P w hm hok hst hl hS).mono fun _ _ ⟨hb,s',l',x,e,h1,_,h2⟩=>⟨hb,s',l',x,e,h1,h2⟩
theorem pnext_ok:PNextOk 50:=fun m l s p q T P w hm=>pnext_all m l s p q T P w (by omega)
end Go.Proofs.YtemicfjmidohfaaGreatDoor
