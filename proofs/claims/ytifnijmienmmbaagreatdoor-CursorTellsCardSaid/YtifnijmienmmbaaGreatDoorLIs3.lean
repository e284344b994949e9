import Derived.Deep.DeepCutAuto
import Derived.Test.YtifnijmienmmbaaGreatDoorLRef
import Derived.Test.YtifnijmienmmbaaGreatDoorLText
set_option maxHeartbeats 12800000
namespace Go.Proofs.YtifnijmienmmbaaGreatDoor
open Go Go.Proofs Go.RowKit
theorem str_app (a b:List UInt8):(⟨a.toArray⟩:ByteArray)++⟨b.toArray⟩=⟨(a++b).toArray⟩:=by
 apply ByteArray.ext
 simp [ByteArray.data_append]
theorem str_len (a:List UInt8):(⟨a.toArray⟩:ByteArray).size=a.length:=by show a.toArray.size=_; simp
def txtS (l:List El):ByteArray:=⟨(txtL l).toArray⟩
theorem txtS_size (l:List El):(txtS l).size≤4 * l.length:=by unfold txtS; rw [str_len]; exact txtL_le l
theorem txtS_take {l:List El} {k:Nat} (h:k<l.length):txtS (l.take (k+1))=txtS (l.take k)++⟨(chL l[k]).toArray⟩:=by
 unfold txtS; rw [List.take_succ_eq_append_getElem h,txtL_snoc,str_app]
theorem alive_take {l:List El} {k:Nat} (h:k<l.length):((l.take (k+1)).map El.al).sum=((l.take k).map El.al).sum+l[k].al:=by
 rw [List.take_succ_eq_append_getElem h]; simp only [List.map_append,List.sum_append,List.map_cons,List.map_nil,List.sum_cons,List.sum_nil,Nat.add_zero]
theorem alive_le (l:List El):(l.map El.al).sum≤l.length:=by
 induction l with
 | nil=>simp
 | cons x l ih=>have:=x.al_le; simp only [List.map_cons,List.sum_cons,List.length_cons]; omega
theorem refText_any (L:List El) (v0:Value) (w:World) (hL:IsE w v0 L) (hl:L.length≤20000):
  Calls Tryz.prog 113 #[v0] w fun e w'=>e=.returned (.string (txtS L))∧Below w.heap.size w w':=by
 have HL:=Lh hL;obtain ⟨a,cap,rfl,hc1,hc2⟩:=Sl.form hL;clear hL
 go_enter Tryz.func113,Tryz.ntmps113
 go_wp2_with fail
 go_loopg [3,4] L.length (fun g ts ti wr=>∃ k:Nat,k≤L.length∧g=L.length-k∧ti=.int .i64 (k:Int)∧ts=.string (txtS (L.take k))∧Below w.heap.size w wr)
 case atStart=>exact ⟨0,Nat.zero_le _,rfl,rfl,rfl,Below.refl _ _⟩
 case round=>
  obtain ⟨k,hk,rfl,rfl,rfl,hB⟩:=hrel;by_cases hlt:k<L.length
  ·obtain ⟨g,rfl,hg,hC⟩:=HL.out.at k hlt
   have HT:=Lh (txtS_take hlt);have hch:L[k].d=false→chL L[k]=Lib.encodeRune L[k].ch:=fun h=>by unfold chL; rw [if_neg (by simp [h])]
   have hcd:L[k].d=true→chL L[k]=[]:=fun h=>by unfold chL; rw [if_pos h]
   have hsz:=txtS_size (L.take k);have hle:=Lib.runeCells_le L[k].ch;rw [Lib.runeCells_length] at hle;generalize L[k]=x at *
   have hll:(L.take k).length≤20000:=by rw [List.length_take]; omega
   generalize txtS (L.take k)=s at *
   have x2:=(hC wr hB).2.2.1;have x3:=(hC wr hB).2.2.2;have HC:=Lh (fun (W:World) (hb:Below w.heap.size w W)=>hC W hb);have HE:=Lh (And.intro hch hcd);have HB:=Lh hB;clear hC hch hcd hB
   cases hd:x.d with
   | true=>
    rw [hd] at x3;go_wp2_with fail
    go_roundg (L.length-(k+1))
    case measure=>omega
    case rel=>exact ⟨k+1,by omega,rfl,by go_num,by rw [HT.out,HE.out.2 hd]; congr 1; exact (ByteArray.append_empty).symm,HB.out⟩
   | false=>
    rw [hd] at x3;go_wp2_with (go_at_call 138; refine (refChar_any _ _).mono ?_; rintro e' w1 ⟨rfl,hb⟩)
    go_roundg (L.length-(k+1))
    case measure=>omega
    case rel=>exact ⟨k+1,by omega,rfl,by go_num,by rw [HT.out,HE.out.1 hd],HB.out.trans (hb.mono HB.out.size)⟩
  ·obtain rfl:k=L.length:=by omega
   rw [List.take_length];go_wp2_with fail
   go_ret
   exact ⟨rfl,hB⟩
theorem refRank_all (L:List El) (v0:Value) (w:World) (hL:IsE w v0 L) (hl:L.length≤20000):
  Calls Tryz.prog 23 #[v0,.int .i64 (L.length:Int)] w fun e w'=>e=.returned (.int .i64 ((L.map El.al).sum:Int))∧Below w.heap.size w w':=by
 have HL:=Lh hL;obtain ⟨a,cap,rfl,hc1,hc2⟩:=Sl.form hL;clear hL
 go_enter Tryz.func23,Tryz.ntmps23
 go_wp2_with fail
 go_loopg [5,6] L.length (fun g tn ti wr=>∃ k:Nat,k≤L.length∧g=L.length-k∧ti=.int .i64 (k:Int)∧tn=.int .i64 (((L.take k).map El.al).sum:Int)∧Below w.heap.size w wr)
 case atStart=>exact ⟨0,Nat.zero_le _,rfl,rfl,rfl,Below.refl _ _⟩
 case round=>
  obtain ⟨k,hk,rfl,rfl,rfl,hB⟩:=hrel;by_cases hlt:k<L.length
  ·obtain ⟨g,rfl,hg,hC⟩:=HL.out.at k hlt
   have HT:=Lh (alive_take hlt);have hsz:=alive_le (L.take k);generalize L[k]=x at *
   have hll:(L.take k).length≤20000:=by rw [List.length_take]; omega
   generalize ((L.take k).map El.al).sum=s at *
   have x3:=(hC wr hB).2.2.2;have HB:=Lh hB;clear hC hB
   cases hd:x.d with
   | true=>
    rw [hd] at x3;go_wp2_with fail
    go_roundg (L.length-(k+1))
    case measure=>omega
    case rel=>exact ⟨k+1,by omega,rfl,by go_num,by rw [HT.out]; simp [El.al,hd],HB.out⟩
   | false=>
    rw [hd] at x3;go_wp2_with fail
    go_roundg (L.length-(k+1))
    case measure=>omega
    case rel=>exact ⟨k+1,by omega,rfl,by go_num,by rw [HT.out]; simp [El.al,hd],HB.out⟩
  ·obtain rfl:k=L.length:=by omega
   rw [List.take_length];go_wp2_with fail
   go_ret
   exact ⟨rfl,hB⟩
def FlatOk (d n:Nat):Prop:=(n=0∧d=0)∨(0<n∧0<d∧2 ^ (d / 3)≤n+1)
theorem flat_ok {T:Tr} (h:Avl T):FlatOk T.depth T.size:=by
 cases T with
 | nil=>exact .inl ⟨rfl,rfl⟩
 | node l x r=>exact .inr ⟨by show 0<l.size+1+r.size; omega,by rw [node_depth]; omega,avl_third h⟩
theorem eqlF (p:Value) (w:World):(binOp .eql 153 (.func (.func 117) #[] #[p]) .nilFunc).run Tryz.prog w=.ok (.bool false) w:=by kernel_rfl
theorem At_no {p:Option Addr} {T:Tr} (i:Nat) (w:World) (h:Is w p T) (hi:T.size≤i):
  Calls Tryz.prog 45 #[.agg #[.pointer p],.int .i64 (i:Int)] w fun r w'=>r=.returned (.tuple #[.agg #[.int .i64 0,.int .i64 0,.int .i32 0,.bool false],.bool false])∧Below w.heap.size w w':=by
 have hb0:Below w.heap.size w ((w.alloc (.cells #[.pointer p] 28)).alloc (.cells #[.int .i64 0,.int .i64 0,.int .i32 0,.bool false] 109)):=(bA).alloc (by simp) _;have H0:=Lh (And.intro (show AtS w T p ((w.alloc (.cells #[.pointer p] 28)).alloc (.cells #[.int .i64 0,.int .i64 0,.int .i32 0,.bool false] 109)) from ⟨hb0,h.next hb0,Blk.startAt (by simp)⟩) (((Blk.start w [.pointer p] 28).alloc (.cells #[.int .i64 0,.int .i64 0,.int .i32 0,.bool false] 109))));clear h hb0;have hd1:decide ((i:Int)<0)=false:=by simp
 have hd2:decide (T.size≤i)=true:=by simpa using hi
 go_enter Tryz.func45,Tryz.ntmps45
 go_wp2_with (go_at_call 51; refine (len_any _ H0.out.1.tr).mono ?_; rintro e' w1 ⟨rfl,hb1⟩; refine Hid.out ?_)
 have H1:=Lh (H0.out.1.next hb1);clear H0 hb1;refine Lh ?_;have r0 := H1.out.br.c4;have f0 := H1.out.br.f4;have HW:=Lh ((((H1.out.br.set 0 (.int .i64 0)).set 1 (.int .i64 0)).set 2 (.int .i32 0)).set 3 (.bool false));have HQ:=Lh ((((H1.out.bel.setCell (p:=⟨w.heap.size+1,0,none⟩) (by show w.heap.size≤w.heap.size+1; omega) (.int .i64 0)).setCell (p:=⟨w.heap.size+1,1,none⟩) (by show w.heap.size≤w.heap.size+1; omega) (.int .i64 0)).setCell (p:=⟨w.heap.size+1,2,none⟩) (by show w.heap.size≤w.heap.size+1; omega) (.int .i32 0)).setCell (p:=⟨w.heap.size+1,3,none⟩) (by show w.heap.size≤w.heap.size+1; omega) (.bool false));go_wp2_with fail
 exact bodyPost_ret (v:=.tuple #[.agg #[.int .i64 0,.int .i64 0,.int .i32 0,.bool false],.bool false]) (by have a0:=HW.out.cell 0 rfl; have a1:=HW.out.cell 1 rfl; have a2:=HW.out.cell 2 rfl; have a3:=HW.out.cell 3 rfl; simp [results, Tryz.results45, go_sem, a0, a1, a2, a3]) rfl ⟨rfl,HQ.out⟩
theorem At_all {p:Option Addr} {T:Tr} (i:Nat) (w:World) (h:Is w p T) (hs:T.size≤20000):
  Calls Tryz.prog 45 #[.agg #[.pointer p],.int .i64 (i:Int)] w fun r w'=>∃ (e:El) (b:Bool),r=.returned (.tuple #[.agg #[e.c,e.s,.int .i32 e.ch,.bool e.d],.bool b])∧(∀ x,T.els[i]? = some x→e=x∧b=true)∧Below w.heap.size w w':=by
 have hl:=Tr.els_length T;by_cases hi:i<T.size
 ·have hx:T.els[i]? = some (T.els[i]'(by omega)):=List.getElem?_eq_getElem (by omega)
  refine (At_any i _ w h hs hi hx).mono ?_
  rintro r w' ⟨rfl,hb⟩
  exact ⟨_,true,rfl,fun x hx'=>by rw [hx] at hx'; exact ⟨Option.some.inj hx',rfl⟩,hb⟩
 ·refine (At_no i w h (by omega)).mono ?_
  rintro r w' ⟨rfl,hb⟩
  exact ⟨⟨0,0,0,false,by decide,by decide⟩,false,rfl,fun x hx'=>absurd ((List.getElem?_eq_none (show T.els.length≤i by omega)).symm.trans hx') (by simp),hb⟩
structure IsB3 (w:World) (p:Option Addr) (v:Value) (T:Tr) (W:World):Prop where
 bel:Below w.heap.size w W
 bt:Blk W w.heap.size [.pointer p] 28
 bl:Blk W (w.heap.size+1) [v] 79
 br:∃ u,Blk W (w.heap.size+1+1) [u] 4
 tr:Is W p T
 ls:IsE W v T.els
theorem IsB3.next {w:World} {p:Option Addr} {v:Value} {T:Tr} {W W':World} (h:IsB3 w p v T W) (hb:Below W.heap.size W W'):IsB3 w p v T W':=
 ⟨h.bel.trans (hb.mono h.bel.size),h.bt.next hb,h.bl.next hb,let ⟨u,hu⟩:=h.br; ⟨u,hu.next hb⟩,h.tr.next hb,h.ls.next hb⟩
theorem IsB3.start {w:World} {p:Option Addr} {v:Value} {T:Tr} (h1:Is w p T) (h2:IsE w v T.els):IsB3 w p v T (((w.alloc (.cells #[.pointer p] 28)).alloc (.cells #[v] 79)).alloc (.cells #[.bool false] 4)):=by
 have hb:Below w.heap.size w (((w.alloc (.cells #[.pointer p] 28)).alloc (.cells #[v] 79)).alloc (.cells #[.bool false] 4)):=((bA).alloc (by simp) _).alloc (by simp; omega) _;exact ⟨hb,((Blk.start w _ _).alloc _).alloc _,(Blk.startAt (by simp)).alloc _,⟨_,Blk.startAt (by simp)⟩,h1.next hb,h2.next hb⟩
theorem refRank_T {T:Tr} {a:Option Addr} {cap:Nat} (w:World) (hL:IsE w (.slice a T.size cap) T.els) (hs:T.size≤20000):
  Calls Tryz.prog 23 #[.slice a T.size cap,.int .i64 (T.size:Int)] w fun e w'=>e=.returned (.int .i64 (T.alive:Int))∧Below w.heap.size w w':=by
 have:=refRank_all T.els _ w hL (by rw [Tr.els_length]; exact hs);rw [Tr.els_length,←alive_els] at this;exact this
theorem idx_get:∀ (l:List El) (k n:Nat),(idx k l)[n]? = (l[n]?).map fun x=>(k+n,x)
 | [],k,n=>by simp [idx]
 | x::l,k,0=>by simp [idx]
 | x::l,k,n+1=>by
  simp only [idx,List.getElem?_cons_succ,idx_get l (k+1) n]
  cases l[n]? with
  | none=>rfl
  | some y=>simp only [Option.map_some]; rw [show k+1+n=k+(n+1) by omega]
theorem idx_no {l:List El} {pre:List (Nat×El)} {x:Nat×El} (hk:pre.length<l.length) (hne:x≠(pre.length,l[pre.length])):¬ (pre++[x]) <+: idx 0 l:=by
 rintro ⟨t,ht⟩
 have h1:(pre++[x]++t)[pre.length]? = some x:=by rw [List.getElem?_append_left (by simp),List.getElem?_append_right (Nat.le_refl _)]; simp
 rw [ht,idx_get,List.getElem?_eq_getElem hk] at h1;have h2:=Option.some.inj h1;rw [Nat.zero_add] at h2;exact hne h2.symm
structure OfB3 (w:World) (e:El) (vs:List Value) (W:World):Prop where
 bel:Below w.heap.size w W
 be:Blk W w.heap.size (elL e) 109
 br:Blk W (w.heap.size+1) vs 83
theorem OfB3.next {w:World} {e:El} {vs:List Value} {W W':World} (h:OfB3 w e vs W) (hb:Below W.heap.size W W'):OfB3 w e vs W':=
 ⟨h.bel.trans (hb.mono h.bel.size),h.be.next hb,h.br.next hb⟩
theorem OfB3.put {w:World} {e:El} {vs:List Value} {W:World} (h:OfB3 w e vs W) (hl:vs.length=4):
  OfB3 w e (elL e) ((((W.setCell ⟨w.heap.size+1,0,none⟩ e.c).setCell ⟨w.heap.size+1,1,none⟩ e.s).setCell ⟨w.heap.size+1,2,none⟩ (.int .i32 e.ch)).setCell ⟨w.heap.size+1,3,none⟩ (.bool e.d)):=by
 have n0:w.heap.size≠w.heap.size+1:=by omega
 have hle:w.heap.size≤w.heap.size+1:=by omega
 refine ⟨(((h.bel.setCell (p:=⟨w.heap.size+1,0,none⟩) hle _).setCell (p:=⟨w.heap.size+1,1,none⟩) hle _).setCell (p:=⟨w.heap.size+1,2,none⟩) hle _).setCell (p:=⟨w.heap.size+1,3,none⟩) hle _,(((h.be.other _ n0 _).other _ n0 _).other _ n0 _).other _ n0 _,?_⟩;have hs:=(((h.br.set 0 e.c).set 1 e.s).set 2 (.int .i32 e.ch)).set 3 (.bool e.d)
 match vs,hl,hs with
 | [_,_,_,_],_,hs=>exact hs
structure Rd3 (w:World) (p:Option Addr) (v:Value) (T:Tr) (N k Be Bx:Nat) (e ea:El) (X:World):Prop where
 base:IsB3 w p v T X
 bn:Go.Boxed X N 3 (.int .i64 (k:Int))
 be:Blk X Be (elL e) 109
 bx:Blk X Bx (elL ea) 109
theorem Boxed.nextX {W W':World} {B:Nat} {t:TypeId} {v:Value} (h:Go.Boxed W B t v) (hb:Below W.heap.size W W'):Go.Boxed W' B t v:=(hb.block B h.lt).trans h
theorem Rd3.next {w:World} {p:Option Addr} {v:Value} {T:Tr} {N k Be Bx:Nat} {e ea:El} {X X':World} (h:Rd3 w p v T N k Be Bx e ea X) (hb:Below X.heap.size X X'):Rd3 w p v T N k Be Bx e ea X':=
 ⟨h.base.next hb,Boxed.nextX h.bn hb,h.be.next hb,h.bx.next hb⟩
theorem keeps_belowX {W W':World} (hb:Below W.heap.size W W'):KeepsOthers W W':=⟨hb.size,fun k o hk _=>by rw [hb.block k (Array.getElem?_eq_some_iff.1 hk).1]; exact hk⟩
theorem Blk.putO {W:World} {b D:Nat} {vs:List Value} {t:TypeId} (h:Blk W b vs t) (hne:b≠D) (o:Obj):Blk (W.putObj D o) b vs t:=(World.putObj_heap_other hne).trans h
structure IsF3 (w:World) (p:Option Addr) (v:Value) (T:Tr) (N D:Nat) (X:World):Prop where
 base:IsB3 w p v T X
 bn:Go.Boxed X N 3 (.int .i64 (T.size:Int))
 dk:X.heap[D]? = some (.deferred (some []))
theorem IsF3.next {w:World} {p:Option Addr} {v:Value} {T:Tr} {N D:Nat} {X X':World} (h:IsF3 w p v T N D X) (hb:Below X.heap.size X X'):IsF3 w p v T N D X':=
 ⟨h.base.next hb,Boxed.nextX h.bn hb,(hb.block D (Array.getElem?_eq_some_iff.1 h.dk).1).trans h.dk⟩
theorem El.same {x y:El} (h1:x.c=y.c) (h2:x.s=y.s) (h3:x.ch=y.ch) (h4:x.d=y.d):x=y:=by
 cases x; cases y; simp only at h1 h2 h3 h4; subst h1 h2 h3 h4; rfl
theorem IsF3.put {w:World} {p:Option Addr} {v:Value} {T:Tr} {N D:Nat} {X:World} (h:IsF3 w p v T N D X) (hN:w.heap.size+1+1<N) (z:Bool):
  IsF3 w p v T N D (X.setCell ⟨w.heap.size+1+1,0,none⟩ (.bool z))∧Blk (X.setCell ⟨w.heap.size+1+1,0,none⟩ (.bool z)) (w.heap.size+1+1) [.bool z] 4:=by
 obtain ⟨u,hu⟩:=h.base.br;have n0:w.heap.size≠w.heap.size+1+1:=by omega
 have n1:w.heap.size+1≠w.heap.size+1+1:=by omega
 have hD:D≠w.heap.size+1+1:=by rintro rfl; have:=h.dk; unfold Blk at hu; rw [hu] at this; cases this
 exact ⟨⟨⟨h.base.bel.setCell (p:=⟨w.heap.size+1+1,0,none⟩) (by show w.heap.size≤w.heap.size+1+1; omega) _,h.base.bt.other _ n0 _,h.base.bl.other _ n1 _,⟨_,hu.set 0 _⟩,Is.set hu (by decide) _ h.base.tr,Sl.set hu (by decide) 0 _ h.base.ls⟩,h.bn.other (by omega) _,(Below.heap_setCell _ _ _ _ hD).trans h.dk⟩,hu.set 0 _⟩
end Go.Proofs.YtifnijmienmmbaaGreatDoor
