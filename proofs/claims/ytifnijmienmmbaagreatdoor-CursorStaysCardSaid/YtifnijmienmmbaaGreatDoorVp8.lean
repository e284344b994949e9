import Derived.Test.YtifnijmienmmbaaGreatDoorDx8
namespace Go.Proofs.YtifnijmienmmbaaGreatDoor
open Go Go.Proofs Go.RowKit
structure Act8 where
 kd:Int
 o:Oq
 st:Int
 at_:Int
 ch:Int
 k0:0≤kd
 k1:kd≤255
 a0 : -9223372036854775808≤at_
 a1:at_≤9223372036854775807
 lo : -2147483648≤ch
 hi:ch≤2147483647
def actL (x:Act8):List Value:=[.int .u8 x.kd,.int .i64 x.o.k,.int .i64 x.o.c,.int .i64 x.o.s,.int .i64 x.o.a,.int .i64 x.o.n,.int .i32 x.o.ch,.int .i64 x.st,.int .i64 x.at_,.int .i32 x.ch]
structure VAll:Prop where
 rm:VRemoteOk
 ins:VInsertOk
 del:VDeleteOk
 txt:VTextOk
 len:VLenOk
 seq:VSeqOk
 wait:VWaitOk
 tal:VTallyOk
 bef:VBeforeOk
 nam:VNamedOk
theorem do8_any (H:VAll) (m l:List Oq) (n:Nat) (hV:VOk m l n) (hn:n≤45) (x:Act8) (c0 c1 c2 c3 c4 c5 c6 c7 vm vl:Value) (w:World) (hS:IsV w m l [c0,c1,c2,c3,c4,c5,c6,c7]) (hM:IsO w vm m) (hL:IsO w vl l) (hp:Pows w) (ht:Tabs w):
  Calls Tryz.prog 20 #[.agg #[c0,c1,c2,c3,c4,c5,c6,c7],.agg #[vm,vl],.agg #[.int .u8 x.kd,x.o.k,x.o.c,x.o.s,x.o.a,x.o.n,.int .i32 x.o.ch,x.st,x.at_,.int .i32 x.ch]] w fun e w'=>Below w.heap.size w w'∧∃ d0 d1 d2 d3 d4 d5 d6 d7 vm' vl' m' l',e=.returned (.tuple #[.agg #[d0,d1,d2,d3,d4,d5,d6,d7],.agg #[vm',vl'],.bool true])∧(VOk m' l' (n+1)∧(Qt m l→Qt m' l'))∧IsV w' m' l' [d0,d1,d2,d3,d4,d5,d6,d7]∧IsO w' vm' m'∧IsO w' vl' l':=by
 obtain ⟨kd,o,st,at_,ch,k0,k1,a0,a1,lo,hi⟩:=x;by_cases h0:kd=0
 ·subst h0; exact do8_0 H.rm H.txt H.len H.seq H.wait H.tal m l n hV hn o st at_ ch c0 c1 c2 c3 c4 c5 c6 c7 vm vl w hS hM hL hp ht
 by_cases h1:kd=1
 ·subst h1; exact do8_1 H.ins H.txt H.len H.seq H.wait H.tal m l n hV hn o st at_ ch a0 a1 lo hi c0 c1 c2 c3 c4 c5 c6 c7 vm vl w hS hM hL hp ht
 by_cases h2:kd=2
 ·subst h2; exact do8_2 H.del H.txt H.len H.seq H.wait H.tal m l n hV hn o st at_ ch a0 a1 c0 c1 c2 c3 c4 c5 c6 c7 vm vl w hS hM hL hp ht
 exact do8_x m l n hV kd h0 h1 h2 o st at_ ch c0 c1 c2 c3 c4 c5 c6 c7 vm vl w hS hM hL
theorem isv_nil (w:World):IsV w [] [] [.pointer none,.pointer none,.int .i64 0,.slice none 0 0,.int .i64 0,.int .i64 0,.complex .f64 0 0,.complex .f64 0 0]:=
 ⟨none,none,.nil,.nil,.slice none 0 0,StO.nil w,.inl ⟨rfl,rfl⟩,by
  have h:fl 0=0:=fl_zero;have hc:cnt .nil=0:=cnt_nil;have e:idsO []=[]:=rfl;rw [hc,e]
  show ([.pointer none,.pointer none,.int .i64 0,.slice none 0 0,.int .i64 0,.int .i64 0,.complex .f64 0 0,.complex .f64 0 0]:List Value)=[.pointer none,.pointer none,.int .i64 0,.slice none 0 0,.int .i64 0,.int .i64 0,.complex .f64 (fl 0) (fl 0),.complex .f64 (fl 0) (fl 0)]
  rw [h]⟩
def LiesA (w:World) (b off:Nat) (l:List Act8):Prop:=∀ j (hj:j<l.length),∀ i,i<10→w.cell? ⟨b,off+j * 10+i,none⟩=(actL l[j])[i]?
structure P8 (w:World) (a b:Int) (cs:List Value) (vm vl:Value) (m l:List Oq) (W:World):Prop where
 bel:Below w.heap.size w W
 ba:Blk W (w.heap.size) [a,b] 24
 bv:Blk W (w.heap.size+1) cs 41
 bm:Blk W (w.heap.size+1+1) [vm,vl] 44
 iv:IsV W m l cs
 io:IsO W vm m
 il:IsO W vl l
theorem P8.next {w:World} {a b:Int} {cs:List Value} {vm vl:Value} {m l:List Oq} {W W':World} (h:P8 w a b cs vm vl m l W) (hb:Below W.heap.size W W'):P8 w a b cs vm vl m l W':=
 ⟨h.bel.trans (hb.mono h.bel.size),h.ba.next hb,h.bv.next hb,h.bm.next hb,h.iv.next hb,h.io.next hb,h.il.next hb⟩
theorem P8.setV {w:World} {a b:Int} {c0 c1 c2 c3 c4 c5 c6 c7 d0 d1 d2 d3 d4 d5 d6 d7 vm vl u v:Value} {m l m2 l2:List Oq} {W:World} (h:P8 w a b [c0,c1,c2,c3,c4,c5,c6,c7] vm vl m l W) (h1:IsV W m2 l2 [d0,d1,d2,d3,d4,d5,d6,d7]) (h2:IsO W u m2) (h3:IsO W v l2):
  (Below w.heap.size w (setN W (w.heap.size+1) 0 [d0,d1,d2,d3,d4,d5,d6,d7])∧Blk (setN W (w.heap.size+1) 0 [d0,d1,d2,d3,d4,d5,d6,d7]) (w.heap.size) [a,b] 24∧Blk (setN W (w.heap.size+1) 0 [d0,d1,d2,d3,d4,d5,d6,d7]) (w.heap.size+1) [d0,d1,d2,d3,d4,d5,d6,d7] 41∧Blk (setN W (w.heap.size+1) 0 [d0,d1,d2,d3,d4,d5,d6,d7]) (w.heap.size+1+1) [vm,vl] 44) ∧
   IsV (setN W (w.heap.size+1) 0 [d0,d1,d2,d3,d4,d5,d6,d7]) m2 l2 [d0,d1,d2,d3,d4,d5,d6,d7]∧IsO (setN W (w.heap.size+1) 0 [d0,d1,d2,d3,d4,d5,d6,d7]) u m2∧IsO (setN W (w.heap.size+1) 0 [d0,d1,d2,d3,d4,d5,d6,d7]) v l2:=by
 have k:∀ t,41≠t→KT t W (setN W (w.heap.size+1) 0 [d0,d1,d2,d3,d4,d5,d6,d7]):=fun t ht=>KT.setN ht _ 0 h.bv
 exact ⟨⟨setN_below (by omega) _ 0 h.bel,k _ (by decide) _ _ h.ba,setN_blk [d0,d1,d2,d3,d4,d5,d6,d7] 0 h.bv,k _ (by decide) _ _ h.bm⟩,h1.kt (k _ (by decide)) (k _ (by decide)) (k _ (by decide)) (Nat.le_of_eq (setN_size _ 0).symm),Sl.kt (k _ (by decide)) h2,Sl.kt (k _ (by decide)) h3⟩
theorem P8.setM {w:World} {a b:Int} {cs:List Value} {vm vl u v:Value} {m2 l2:List Oq} {W:World} (h:(Below w.heap.size w W∧Blk W (w.heap.size) [a,b] 24∧Blk W (w.heap.size+1) cs 41∧Blk W (w.heap.size+1+1) [vm,vl] 44)∧IsV W m2 l2 cs∧IsO W u m2∧IsO W v l2):
  P8 w a b cs u v m2 l2 (setN W (w.heap.size+1+1) 0 [u,v]):=by
 obtain ⟨⟨g1,g2,g3,g4⟩,h1,h2,h3⟩:=h;have k:∀ t,44≠t→KT t W (setN W (w.heap.size+1+1) 0 [u,v]):=fun t ht=>KT.setN ht _ 0 g4
 exact ⟨setN_below (by omega) _ 0 g1,k _ (by decide) _ _ g2,k _ (by decide) _ _ g3,setN_blk [u,v] 0 g4,h1.kt (k _ (by decide)) (k _ (by decide)) (k _ (by decide)) (Nat.le_of_eq (setN_size _ 0).symm),Sl.kt (k _ (by decide)) h2,Sl.kt (k _ (by decide)) h3⟩
def Awake8Ok:Prop:=∀ w:World,Pows w→Tabs w→Calls Tryz.prog 19 #[] w fun e w'=>e=.returned (.bool true)∧Below w.heap.size w w'
structure T8 (w:World) (bB bW:Nat) (nc ns:Int) (ve:Value) (L:List El) (W:World):Prop where
 bel:Below w.heap.size w W
 bb:Blk W bB [nc,ns] 24
 bw:Blk W bW [nc,ns] 52
 ie:IsE W ve L
theorem T8.next {w:World} {bB bW:Nat} {nc ns:Int} {ve:Value} {L:List El} {W W':World} (h:T8 w bB bW nc ns ve L W) (hb:Below W.heap.size W W'):T8 w bB bW nc ns ve L W':=⟨h.bel.trans (hb.mono h.bel.size),h.bb.next hb,h.bw.next hb,h.ie.next hb⟩
end Go.Proofs.YtifnijmienmmbaaGreatDoor
