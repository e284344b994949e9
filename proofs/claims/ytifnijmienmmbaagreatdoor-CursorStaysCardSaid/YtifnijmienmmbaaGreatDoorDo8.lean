import Derived.Test.YtifnijmienmmbaaGreatDoorIs8
import Derived.Test.YtifnijmienmmbaaGreatDoorPend
import Derived.Test.YtifnijmienmmbaaGreatDoorEd8
set_option maxRecDepth 100000
set_option maxHeartbeats 12800000
namespace Go.Proofs.YtifnijmienmmbaaGreatDoor
open Go Go.Proofs Go.RowKit
theorem Sl.kt {α:Type} {t:TypeId} {m:Nat} {f:α→List Value} {W W':World} (hk:KT t W W') {v:Value} {L:List α} (h:Sl t m f W v L):Sl t m f W' v L:=by
 rcases h with h | ⟨g,cap,cur,rfl,hg,h⟩
 ·exact .inl h
 ·exact .inr ⟨g,cap,cur,rfl,hk g cur.toList hg,h⟩
theorem IsV.kt {W W':World} {m l:List Oq} {cs:List Value} (h:IsV W m l cs) (h1:KT 149 W W') (h2:KT 161 W W') (h3:KT 68 W W') (hs:W.heap.size≤W'.heap.size):IsV W' m l cs:=by
 obtain ⟨p,q,T,P,s,a,b,c⟩:=h.ex;exact ⟨p,q,T,P,s,a.kt h1 h2 hs,Sl.kt h3 b,c⟩
structure D8 (w:World) (cs:List Value) (vm vl:Value) (act nx nn:List Value) (xo xx:Oq) (W:World):Prop where
 bel:Below w.heap.size w W
 bv:Blk W (w.heap.size) cs 41
 bm:Blk W (w.heap.size+1) [vm,vl] 44
 ba:Blk W (w.heap.size+1+1) act 75
 r1:Blk W (w.heap.size+1+1+1) [.pointer none,.pointer none,.int .i64 0,.slice none 0 0,.int .i64 0,.int .i64 0,.complex .f64 0 0,.complex .f64 0 0] 41
 r2:Blk W (w.heap.size+1+1+1+1) [.slice none 0 0,.slice none 0 0] 44
 nb:Blk W (w.heap.size+1+1+1+1+1) nx 41
 mb:Blk W (w.heap.size+1+1+1+1+1+1) nn 44
 ob:Blk W (w.heap.size+1+1+1+1+1+1+1) (oqL xo) 68
 xb:Blk W (w.heap.size+1+1+1+1+1+1+1+1) (oqL xx) 95
theorem D8.next {w:World} {cs:List Value} {vm vl:Value} {act nx nn:List Value} {xo xx:Oq} {W W':World} (h:D8 w cs vm vl act nx nn xo xx W) (hb:Below W.heap.size W W'):D8 w cs vm vl act nx nn xo xx W':=
 ⟨h.bel.trans (hb.mono h.bel.size),h.bv.next hb,h.bm.next hb,h.ba.next hb,h.r1.next hb,h.r2.next hb,h.nb.next hb,h.mb.next hb,h.ob.next hb,h.xb.next hb⟩
theorem D8.start (w:World) (c0 c1 c2 c3 c4 c5 c6 c7 vm vl:Value) (kd:Int) (o:Oq) (site at_ ch:Int):D8 w [c0,c1,c2,c3,c4,c5,c6,c7] vm vl [.int .u8 kd,o.k,o.c,o.s,o.a,o.n,.int .i32 o.ch,site,at_,.int .i32 ch] [.pointer none,.pointer none,.int .i64 0,.slice none 0 0,.int .i64 0,.int .i64 0,.complex .f64 0 0,.complex .f64 0 0] [.slice none 0 0,.slice none 0 0] zeroO zeroO (((((((((w.alloc (.cells #[c0,c1,c2,c3,c4,c5,c6,c7] 41)).alloc (.cells #[vm,vl] 44)).alloc (.cells #[.int .u8 kd,o.k,o.c,o.s,o.a,o.n,.int .i32 o.ch,site,at_,.int .i32 ch] 75)).alloc (.cells #[.pointer none,.pointer none,.int .i64 0,.slice none 0 0,.int .i64 0,.int .i64 0,.complex .f64 0 0,.complex .f64 0 0] 41)).alloc (.cells #[.slice none 0 0,.slice none 0 0] 44)).alloc (.cells #[.pointer none,.pointer none,.int .i64 0,.slice none 0 0,.int .i64 0,.int .i64 0,.complex .f64 0 0,.complex .f64 0 0] 41)).alloc (.cells #[.slice none 0 0,.slice none 0 0] 44)).alloc (.cells #[.int .i64 0,.int .i64 0,.int .i64 0,.int .i64 0,.int .i64 0,.int .i32 0] 68)).alloc (.cells #[.int .i64 0,.int .i64 0,.int .i64 0,.int .i64 0,.int .i64 0,.int .i32 0] 95)):=by
 refine ⟨((((((((((Below.refl _ _).alloc (by first | exact Nat.le_refl _ | (simp; try omega)) _).alloc (by first | exact Nat.le_refl _ | (simp; try omega)) _).alloc (by first | exact Nat.le_refl _ | (simp; try omega)) _).alloc (by first | exact Nat.le_refl _ | (simp; try omega)) _).alloc (by first | exact Nat.le_refl _ | (simp; try omega)) _).alloc (by first | exact Nat.le_refl _ | (simp; try omega)) _).alloc (by first | exact Nat.le_refl _ | (simp; try omega)) _).alloc (by first | exact Nat.le_refl _ | (simp; try omega)) _).alloc (by first | exact Nat.le_refl _ | (simp; try omega)) _),?_,?_,?_,?_,?_,?_,?_,?_,?_⟩
 ·exact (((((((((Blk.startAt (b:=w.heap.size) (by first | rfl | (simp; try omega))).alloc _).alloc _).alloc _).alloc _).alloc _).alloc _).alloc _).alloc _)
 ·exact ((((((((Blk.startAt (b:=w.heap.size+1) (by first | rfl | (simp; try omega))).alloc _).alloc _).alloc _).alloc _).alloc _).alloc _).alloc _)
 ·exact (((((((Blk.startAt (b:=w.heap.size+1+1) (by first | rfl | (simp; try omega))).alloc _).alloc _).alloc _).alloc _).alloc _).alloc _)
 ·exact ((((((Blk.startAt (b:=w.heap.size+1+1+1) (by first | rfl | (simp; try omega))).alloc _).alloc _).alloc _).alloc _).alloc _)
 ·exact (((((Blk.startAt (b:=w.heap.size+1+1+1+1) (by first | rfl | (simp; try omega))).alloc _).alloc _).alloc _).alloc _)
 ·exact ((((Blk.startAt (b:=w.heap.size+1+1+1+1+1) (by first | rfl | (simp; try omega))).alloc _).alloc _).alloc _)
 ·exact (((Blk.startAt (b:=w.heap.size+1+1+1+1+1+1) (by first | rfl | (simp; try omega))).alloc _).alloc _)
 ·exact ((Blk.startAt (b:=w.heap.size+1+1+1+1+1+1+1) (by first | rfl | (simp; try omega))).alloc _)
 ·exact (Blk.startAt (b:=w.heap.size+1+1+1+1+1+1+1+1) (by first | rfl | (simp; try omega)))
structure E8 (w:World) (ds:List Value) (vm vl lc vc:Value) (x:Oq) (m l:List Oq) (a:List Chg) (z1 z2:List Value) (W:World):Prop where
 bel:Below w.heap.size w W
 r1:Blk W (w.heap.size+1+1+1) z1 41
 r2:Blk W (w.heap.size+1+1+1+1) z2 44
 nb:Blk W (w.heap.size+1+1+1+1+1) ds 41
 mb:Blk W (w.heap.size+1+1+1+1+1+1) [vm,vl] 44
 ob:Blk W (w.heap.size+1+1+1+1+1+1+1) (oqL x) 68
 xb:Blk W (w.heap.size+1+1+1+1+1+1+1+1) (oqL x) 95
 iv:IsV W m l ds
 io:IsO W vm m
 il:IsO W vl l
 ic:IsVC W lc a
 rc:IsC W vc a
theorem E8.next {w:World} {ds:List Value} {vm vl lc vc:Value} {x:Oq} {m l:List Oq} {a:List Chg} {z1 z2:List Value} {W W':World} (h:E8 w ds vm vl lc vc x m l a z1 z2 W) (hb:Below W.heap.size W W'):E8 w ds vm vl lc vc x m l a z1 z2 W':=
 ⟨h.bel.trans (hb.mono h.bel.size),h.r1.next hb,h.r2.next hb,h.nb.next hb,h.mb.next hb,h.ob.next hb,h.xb.next hb,h.iv.next hb,h.io.next hb,h.il.next hb,h.ic.next hb,h.rc.next hb⟩
theorem D8.setNb {w:World} {cs:List Value} {vm vl:Value} {act nn:List Value} {xo xx:Oq} {W:World} (h:D8 w cs vm vl act [.pointer none,.pointer none,.int .i64 0,.slice none 0 0,.int .i64 0,.int .i64 0,.complex .f64 0 0,.complex .f64 0 0] nn xo xx W) (d0 d1 d2 d3 d4 d5 d6 d7:Value):D8 w cs vm vl act [d0,d1,d2,d3,d4,d5,d6,d7] nn xo xx (setN W (w.heap.size+1+1+1+1+1) 0 [d0,d1,d2,d3,d4,d5,d6,d7]):=by
 have k:∀ t,41≠t→KT t W (setN W (w.heap.size+1+1+1+1+1) 0 [d0,d1,d2,d3,d4,d5,d6,d7]):=fun t ht=>KT.setN ht _ 0 h.nb
 exact ⟨setN_below (by omega) _ 0 h.bel,h.bv.setN (by omega) _ 0,k _ (by decide) _ _ h.bm,k _ (by decide) _ _ h.ba,h.r1.setN (by omega) _ 0,k _ (by decide) _ _ h.r2,setN_blk [d0,d1,d2,d3,d4,d5,d6,d7] 0 h.nb,k _ (by decide) _ _ h.mb,k _ (by decide) _ _ h.ob,k _ (by decide) _ _ h.xb⟩
theorem D8.ktNb {w:World} {cs:List Value} {vm vl:Value} {act nx nn:List Value} {xo xx:Oq} {W:World} (h:D8 w cs vm vl act nx nn xo xx W) (vs:List Value) {t:TypeId} (ht:41≠t):KT t W (setN W (w.heap.size+1+1+1+1+1) 0 vs):=KT.setN ht _ 0 h.nb
theorem D8.setMb {w:World} {cs:List Value} {vm vl:Value} {act nx:List Value} {xo xx:Oq} {W:World} (h:D8 w cs vm vl act nx [.slice none 0 0,.slice none 0 0] xo xx W) (x y:Value):D8 w cs vm vl act nx [x,y] xo xx (setN W (w.heap.size+1+1+1+1+1+1) 0 [x,y]):=by
 have k:∀ t,44≠t→KT t W (setN W (w.heap.size+1+1+1+1+1+1) 0 [x,y]):=fun t ht=>KT.setN ht _ 0 h.mb
 exact ⟨setN_below (by omega) _ 0 h.bel,k _ (by decide) _ _ h.bv,h.bm.setN (by omega) _ 0,k _ (by decide) _ _ h.ba,k _ (by decide) _ _ h.r1,h.r2.setN (by omega) _ 0,k _ (by decide) _ _ h.nb,setN_blk [x,y] 0 h.mb,k _ (by decide) _ _ h.ob,k _ (by decide) _ _ h.xb⟩
theorem D8.ktMb {w:World} {cs:List Value} {vm vl:Value} {act nx nn:List Value} {xo xx:Oq} {W:World} (h:D8 w cs vm vl act nx nn xo xx W) (vs:List Value) {t:TypeId} (ht:44≠t):KT t W (setN W (w.heap.size+1+1+1+1+1+1) 0 vs):=KT.setN ht _ 0 h.mb
theorem D8.setOb {w:World} {cs:List Value} {vm vl:Value} {act nx nn:List Value} {xx:Oq} {W:World} (h:D8 w cs vm vl act nx nn zeroO xx W) (x:Oq):D8 w cs vm vl act nx nn x xx (setN W (w.heap.size+1+1+1+1+1+1+1) 0 (oqL x)):=by
 have k:∀ t,68≠t→KT t W (setN W (w.heap.size+1+1+1+1+1+1+1) 0 (oqL x)):=fun t ht=>KT.setN ht _ 0 h.ob
 exact ⟨setN_below (by omega) _ 0 h.bel,k _ (by decide) _ _ h.bv,k _ (by decide) _ _ h.bm,k _ (by decide) _ _ h.ba,k _ (by decide) _ _ h.r1,k _ (by decide) _ _ h.r2,k _ (by decide) _ _ h.nb,k _ (by decide) _ _ h.mb,setN_blk (oqL x) 0 h.ob,k _ (by decide) _ _ h.xb⟩
theorem D8.setXb {w:World} {cs:List Value} {vm vl:Value} {act nx nn:List Value} {xo:Oq} {W:World} (h:D8 w cs vm vl act nx nn xo zeroO W) (x:Oq):D8 w cs vm vl act nx nn xo x (setN W (w.heap.size+1+1+1+1+1+1+1+1) 0 (oqL x)):=by
 have k:∀ t,95≠t→KT t W (setN W (w.heap.size+1+1+1+1+1+1+1+1) 0 (oqL x)):=fun t ht=>KT.setN ht _ 0 h.xb
 exact ⟨setN_below (by omega) _ 0 h.bel,k _ (by decide) _ _ h.bv,k _ (by decide) _ _ h.bm,k _ (by decide) _ _ h.ba,k _ (by decide) _ _ h.r1,k _ (by decide) _ _ h.r2,k _ (by decide) _ _ h.nb,k _ (by decide) _ _ h.mb,k _ (by decide) _ _ h.ob,setN_blk (oqL x) 0 h.xb⟩
theorem Sl.setZ {t:TypeId} {W:World} {b:Nat} (hB:Blk W b (oqL zeroO) t) {v:Value} {L:List Oq} (h:Sl t 6 oqL W v L) (hr:RmO L) (x:Oq):Sl t 6 oqL (setN W b 0 (oqL x)) v L:=by
 rcases h with h | ⟨g,cap,cur,rfl,hg,h1,h2,h3⟩
 ·exact .inl h
 ·by_cases hgb:g=b
  ·subst hgb
   cases L with
   | nil=>exact .inr ⟨g,cap,_,rfl,setN_blk (oqL x) 0 hB,h1,h2,rfl⟩
   | cons y L=>
    exfalso
    have hy:=hr y (List.mem_cons_self ..);unfold Blk at hB
    rw [hB] at hg;simp only [Option.some.injEq,Obj.cells.injEq] at hg
    obtain ⟨hg,_⟩:=hg;rw [←hg] at h3;have h5:(oqL zeroO).take ((y::L).length * 6)=oqL zeroO:=List.take_of_length_le (by rw [oqL_len,List.length_cons]; omega);have h6:oqL zeroO=(y::L).flatMap oqL:=h5.symm.trans h3;have h4:=congrArg (fun l:List Value=>l[1]?) h6;simp [oqL,zeroO] at h4
    rw [mayB] at hy;simp at hy
    omega
  ·exact .inr ⟨g,cap,cur,rfl,by rw [setN_other (oqL x) 0 hgb]; exact hg,h1,h2,h3⟩
theorem IsV.setO {W:World} {b:Nat} {m l:List Oq} {cs:List Value} (hB:Blk W b (oqL zeroO) 68) (h:IsV W m l cs) (hr:RmO l) (x:Oq):IsV (setN W b 0 (oqL x)) m l cs:=by
 obtain ⟨p,q,T,P,s,h1,h2,h3⟩:=h.ex;exact ⟨p,q,T,P,s,h1.kt (KT.setN (by decide) _ 0 hB) (KT.setN (by decide) _ 0 hB) (Nat.le_of_eq (setN_size _ 0).symm),Sl.setZ hB h2 hr x,h3⟩
theorem E8.set1 {w:World} {d0 d1 d2 d3 d4 d5 d6 d7 vm vl lc vc:Value} {x:Oq} {m l:List Oq} {a:List Chg} {z2:List Value} {W:World} (h:E8 w [d0,d1,d2,d3,d4,d5,d6,d7] vm vl lc vc x m l a [.pointer none,.pointer none,.int .i64 0,.slice none 0 0,.int .i64 0,.int .i64 0,.complex .f64 0 0,.complex .f64 0 0] z2 W):
  E8 w [d0,d1,d2,d3,d4,d5,d6,d7] vm vl lc vc x m l a [d0,d1,d2,d3,d4,d5,d6,d7] z2 ((((((((W.setCell ⟨w.heap.size+1+1+1,0,none⟩ (d0)).setCell ⟨w.heap.size+1+1+1,1,none⟩ (d1)).setCell ⟨w.heap.size+1+1+1,2,none⟩ (d2)).setCell ⟨w.heap.size+1+1+1,3,none⟩ (d3)).setCell ⟨w.heap.size+1+1+1,4,none⟩ (d4)).setCell ⟨w.heap.size+1+1+1,5,none⟩ (d5)).setCell ⟨w.heap.size+1+1+1,6,none⟩ (d6)).setCell ⟨w.heap.size+1+1+1,7,none⟩ (d7)):=by
 have k:∀ t,41≠t→KT t W (setN W (w.heap.size+1+1+1) 0 [d0,d1,d2,d3,d4,d5,d6,d7]):=fun t ht=>KT.setN ht _ 0 h.r1
 show E8 w [d0,d1,d2,d3,d4,d5,d6,d7] vm vl lc vc x m l a [d0,d1,d2,d3,d4,d5,d6,d7] z2 (setN W (w.heap.size+1+1+1) 0 [d0,d1,d2,d3,d4,d5,d6,d7])
 exact ⟨setN_below (by omega) _ 0 h.bel,setN_blk [d0,d1,d2,d3,d4,d5,d6,d7] 0 h.r1,k _ (by decide) _ _ h.r2,h.nb.setN (by omega) _ 0,k _ (by decide) _ _ h.mb,k _ (by decide) _ _ h.ob,k _ (by decide) _ _ h.xb,h.iv.kt (k _ (by decide)) (k _ (by decide)) (k _ (by decide)) (Nat.le_of_eq (setN_size _ 0).symm),
  Sl.kt (k _ (by decide)) h.io,Sl.kt (k _ (by decide)) h.il,Sl.kt (k _ (by decide)) h.ic,Sl.kt (k _ (by decide)) h.rc⟩
theorem E8.set2 {w:World} {ds:List Value} {vm vl lc vc:Value} {x:Oq} {m l:List Oq} {a:List Chg} {z1:List Value} {W:World} (h:E8 w ds vm vl lc vc x m l a z1 [.slice none 0 0,.slice none 0 0] W):
  E8 w ds vm vl lc vc x m l a z1 [vm,vl] ((W.setCell ⟨w.heap.size+1+1+1+1,0,none⟩ vm).setCell ⟨w.heap.size+1+1+1+1,1,none⟩ vl):=by
 have k:∀ t,44≠t→KT t W (setN W (w.heap.size+1+1+1+1) 0 [vm,vl]):=fun t ht=>KT.setN ht _ 0 h.r2
 show E8 w ds vm vl lc vc x m l a z1 [vm,vl] (setN W (w.heap.size+1+1+1+1) 0 [vm,vl])
 exact ⟨setN_below (by omega) _ 0 h.bel,k _ (by decide) _ _ h.r1,setN_blk [vm,vl] 0 h.r2,k _ (by decide) _ _ h.nb,h.mb.setN (by omega) _ 0,k _ (by decide) _ _ h.ob,k _ (by decide) _ _ h.xb,h.iv.kt (k _ (by decide)) (k _ (by decide)) (k _ (by decide)) (Nat.le_of_eq (setN_size _ 0).symm),
  Sl.kt (k _ (by decide)) h.io,Sl.kt (k _ (by decide)) h.il,Sl.kt (k _ (by decide)) h.ic,Sl.kt (k _ (by decide)) h.rc⟩
theorem do8_0 (hRm:VRemoteOk) (hTx:VTextOk) (hLn:VLenOk) (hSq:VSeqOk) (hWt:VWaitOk) (hTy:VTallyOk) (m l:List Oq) (n:Nat) (hV:VOk m l n) (hn:n≤45) (o:Oq) (site at_ ch:Int) (c0 c1 c2 c3 c4 c5 c6 c7 vm vl:Value) (w:World) (hS:IsV w m l [c0,c1,c2,c3,c4,c5,c6,c7]) (hM:IsO w vm m) (hL:IsO w vl l) (hp:Pows w) (ht:Tabs w):
  Calls Tryz.prog 20 #[.agg #[c0,c1,c2,c3,c4,c5,c6,c7],.agg #[vm,vl],.agg #[.int .u8 0,o.k,o.c,o.s,o.a,o.n,.int .i32 o.ch,site,at_,.int .i32 ch]] w fun e w'=>Below w.heap.size w w'∧∃ d0 d1 d2 d3 d4 d5 d6 d7 vm' vl' m' l',e=.returned (.tuple #[.agg #[d0,d1,d2,d3,d4,d5,d6,d7],.agg #[vm',vl'],.bool true])∧(VOk m' l' (n+1)∧(Qt m l→Qt m' l'))∧IsV w' m' l' [d0,d1,d2,d3,d4,d5,d6,d7]∧IsO w' vm' m'∧IsO w' vl' l':=by
 have HM:=Lh hM;have HL:=Lh hL;have HS:=Lh hS;have HV:=Lh hV;have HPT:=Lh (And.intro hp ht);have hlen:=hV.len;have HRM:=Lh (fun W (h:Below w.heap.size w W)=>hRm m l n o c0 c1 c2 c3 c4 c5 c6 c7 W hV (by omega) (hS.next h));have HRR:=Lh (fun W (h:Below w.heap.size w W)=>refRemote_any m l o hV.ok hV.l16 (by omega) vm vl W (hM.next h) (hL.next h));have HVN:=Lh (And.intro (hV.rem o) (fun h:Qt m l=>qt_rem h o));have HIS:=Lh (fun m' l' (h:VOk m' l' (n+1)) d0 d1 d2 d3 d4 d5 d6 d7 u v W h1 h2 h3 h4 h5=>is8_any hTx hLn hSq hWt hTy m' l' (n+1) h (by omega) d0 d1 d2 d3 d4 d5 d6 d7 u v W h1 h2 h3 h4 h5);obtain ⟨⟨m2,l2,h2⟩,hT⟩:∃ T,T=remT m l o:=⟨_,rfl⟩
 obtain ⟨E,hE⟩:∃ E,E=remE m l o:=⟨_,rfl⟩
 rw [←hT,←hE] at HRM HRR;rw [←hT] at HVN
 dsimp only at HRM HRR HVN
 have H0:=Lh (D8.start w c0 c1 c2 c3 c4 c5 c6 c7 vm vl 0 o site at_ ch);clear hM hL hS hV hp ht hRm hTx hLn hSq hWt hTy hT hE
 go_enter Tryz.func20,Tryz.ntmps20
 generalize hW0:((((((((w.alloc (.cells #[c0,c1,c2,c3,c4,c5,c6,c7] 41)).alloc (.cells #[vm,vl] 44)).alloc (.cells #[.int .u8 0,o.k,o.c,o.s,o.a,o.n,.int .i32 o.ch,site,at_,.int .i32 ch] 75)).alloc (.cells #[.pointer none,.pointer none,.int .i64 0,.slice none 0 0,.int .i64 0,.int .i64 0,.complex .f64 0 0,.complex .f64 0 0] 41)).alloc (.cells #[.slice none 0 0,.slice none 0 0] 44)).alloc (.cells #[.pointer none,.pointer none,.int .i64 0,.slice none 0 0,.int .i64 0,.int .i64 0,.complex .f64 0 0,.complex .f64 0 0] 41)).alloc (.cells #[.slice none 0 0,.slice none 0 0] 44)).alloc (.cells #[.int .i64 0,.int .i64 0,.int .i64 0,.int .i64 0,.int .i64 0,.int .i32 0] 68)).alloc (.cells #[.int .i64 0,.int .i64 0,.int .i64 0,.int .i64 0,.int .i64 0,.int .i32 0] 95)=w0 at *
 have v0 := H0.out.bv.c8;have a0 := H0.out.ba.c10;go_wp2_with (go_at_call 37; refine (HRM.out _ H0.out.bel).mono ?_; rintro e w1 ⟨hb,d0,d1,d2,d3,d4,d5,d6,d7,lc,rfl,hiv,hic⟩; obtain ⟨al,pl,rfl,hd1,hd2⟩:=hic.form; refine Hid.out ?_)
 have HQ:=Lh (H0.out.next hb);have HI:=Lh (And.intro hiv hic);clear H0 hb hiv hic hW0 HRM v0 a0;have hon:=HI.out.1.one;have sd0:=fun (W:World) (a:Addr) (md:Mode)=>run_store Tryz.prog W a d0 md (hon d0 (by simp))
 have sd1:=fun (W:World) (a:Addr) (md:Mode)=>run_store Tryz.prog W a d1 md (hon d1 (by simp))
 have sd2:=fun (W:World) (a:Addr) (md:Mode)=>run_store Tryz.prog W a d2 md (hon d2 (by simp))
 have sd3:=fun (W:World) (a:Addr) (md:Mode)=>run_store Tryz.prog W a d3 md (hon d3 (by simp))
 have sd4:=fun (W:World) (a:Addr) (md:Mode)=>run_store Tryz.prog W a d4 md (hon d4 (by simp))
 have sd5:=fun (W:World) (a:Addr) (md:Mode)=>run_store Tryz.prog W a d5 md (hon d5 (by simp))
 have sd6:=fun (W:World) (a:Addr) (md:Mode)=>run_store Tryz.prog W a d6 md (hon d6 (by simp))
 have sd7:=fun (W:World) (a:Addr) (md:Mode)=>run_store Tryz.prog W a d7 md (hon d7 (by simp))
 have n0:=HQ.out.nb.cell 0 rfl;have fn0:=HQ.out.nb.free 0;have n1:=HQ.out.nb.cell 1 rfl;have fn1:=HQ.out.nb.free 1;have n2:=HQ.out.nb.cell 2 rfl;have fn2:=HQ.out.nb.free 2;have n3:=HQ.out.nb.cell 3 rfl;have fn3:=HQ.out.nb.free 3;have n4:=HQ.out.nb.cell 4 rfl;have fn4:=HQ.out.nb.free 4;have n5:=HQ.out.nb.cell 5 rfl;have fn5:=HQ.out.nb.free 5;have n6:=HQ.out.nb.cell 6 rfl;have fn6:=HQ.out.nb.free 6;have n7:=HQ.out.nb.cell 7 rfl;have fn7:=HQ.out.nb.free 7;clear hon;have HQ2:=Lh (HQ.out.setNb d0 d1 d2 d3 d4 d5 d6 d7);have HI2:=Lh (And.intro (HI.out.1.kt (HQ.out.ktNb [d0,d1,d2,d3,d4,d5,d6,d7] (by decide)) (HQ.out.ktNb [d0,d1,d2,d3,d4,d5,d6,d7] (by decide)) (HQ.out.ktNb [d0,d1,d2,d3,d4,d5,d6,d7] (by decide)) (Nat.le_of_eq (setN_size _ 0).symm)) (Sl.kt (HQ.out.ktNb [d0,d1,d2,d3,d4,d5,d6,d7] (by decide)) HI.out.2))
 change Hid (D8 _ _ _ _ _ _ _ _ _ ((((((((w1.setCell ⟨w.heap.size+1+1+1+1+1,0,none⟩ (d0)).setCell ⟨w.heap.size+1+1+1+1+1,1,none⟩ (d1)).setCell ⟨w.heap.size+1+1+1+1+1,2,none⟩ (d2)).setCell ⟨w.heap.size+1+1+1+1+1,3,none⟩ (d3)).setCell ⟨w.heap.size+1+1+1+1+1,4,none⟩ (d4)).setCell ⟨w.heap.size+1+1+1+1+1,5,none⟩ (d5)).setCell ⟨w.heap.size+1+1+1+1+1,6,none⟩ (d6)).setCell ⟨w.heap.size+1+1+1+1+1,7,none⟩ (d7))) at HQ2
 change Hid (IsV ((((((((w1.setCell ⟨w.heap.size+1+1+1+1+1,0,none⟩ (d0)).setCell ⟨w.heap.size+1+1+1+1+1,1,none⟩ (d1)).setCell ⟨w.heap.size+1+1+1+1+1,2,none⟩ (d2)).setCell ⟨w.heap.size+1+1+1+1+1,3,none⟩ (d3)).setCell ⟨w.heap.size+1+1+1+1+1,4,none⟩ (d4)).setCell ⟨w.heap.size+1+1+1+1+1,5,none⟩ (d5)).setCell ⟨w.heap.size+1+1+1+1+1,6,none⟩ (d6)).setCell ⟨w.heap.size+1+1+1+1+1,7,none⟩ (d7)) _ _ _∧IsVC ((((((((w1.setCell ⟨w.heap.size+1+1+1+1+1,0,none⟩ (d0)).setCell ⟨w.heap.size+1+1+1+1+1,1,none⟩ (d1)).setCell ⟨w.heap.size+1+1+1+1+1,2,none⟩ (d2)).setCell ⟨w.heap.size+1+1+1+1+1,3,none⟩ (d3)).setCell ⟨w.heap.size+1+1+1+1+1,4,none⟩ (d4)).setCell ⟨w.heap.size+1+1+1+1+1,5,none⟩ (d5)).setCell ⟨w.heap.size+1+1+1+1+1,6,none⟩ (d6)).setCell ⟨w.heap.size+1+1+1+1+1,7,none⟩ (d7)) _ _) at HI2
 generalize hWN:(((((((w1.setCell ⟨w.heap.size+1+1+1+1+1,0,none⟩ (d0)).setCell ⟨w.heap.size+1+1+1+1+1,1,none⟩ (d1)).setCell ⟨w.heap.size+1+1+1+1+1,2,none⟩ (d2)).setCell ⟨w.heap.size+1+1+1+1+1,3,none⟩ (d3)).setCell ⟨w.heap.size+1+1+1+1+1,4,none⟩ (d4)).setCell ⟨w.heap.size+1+1+1+1+1,5,none⟩ (d5)).setCell ⟨w.heap.size+1+1+1+1+1,6,none⟩ (d6)).setCell ⟨w.heap.size+1+1+1+1+1,7,none⟩ (d7)=w2 at *
 refine Lh ?_;go_wp2_with fail
 have HK3:=Lh (And.intro (HQ2.out.next bdq) (And.intro (HI2.out.1.next bdq) (HI2.out.2.next bdq)));have hdum:=trivial;clear HQ HI HQ2 HI2 hWN n0 fn0 n1 fn1 n2 fn2 n3 fn3 n4 fn4 n5 fn5 n6 fn6 n7 fn7;refine rgH (fun W=>Cc2 W (w.heap.size+1) vm vl (Ce W (w.heap.size+1+1) 1 o.k∧Ce W (w.heap.size+1+1) 2 o.c∧Ce W (w.heap.size+1+1) 3 o.s∧Ce W (w.heap.size+1+1) 4 o.a∧Ce W (w.heap.size+1+1) 5 o.n∧Ce W (w.heap.size+1+1) 6 (.int .i32 o.ch))) (let h:=HK3.out.1; (h.bm.d2 ⟨h.ba.cell 1 rfl,h.ba.cell 2 rfl,h.ba.cell 3 rfl,h.ba.cell 4 rfl,h.ba.cell 5 rfl,h.ba.cell 6 rfl⟩)) fun hHeld=>?_
 clear hdum;generalize w2.drew=w3 at *
 refine tq 0 (.agg #[vm,vl]) hHeld ?_;refine tq 1 (.pointer (some ⟨w.heap.size+1+1,1,none⟩)) hHeld ?_;refine tq 2 (.agg #[o.k,o.c,o.s,o.a,o.n,.int .i32 o.ch]) hHeld ?_;refine rd1 3 (by kernel_rfl) rfl fun KK hK=>?_
 go_simp
 refine (of5_any o.k o.c o.s o.a o.n o.ch _).mono ?_
 rintro e' w4 ⟨rfl,hb⟩
 go_wp2_with fail
 refine hK.out _ _ ((let h:=HK3.out.1.next hb; (h.bm.d2 ⟨h.ba.cell 1 rfl,h.ba.cell 2 rfl,h.ba.cell 3 rfl,h.ba.cell 4 rfl,h.ba.cell 5 rfl,h.ba.cell 6 rfl⟩))) ?_;clear hK KK hHeld;intro hHeld
 try simp only [LAY]
 have HK4:=Lh (And.intro (HK3.out.1.next hb) (And.intro (HK3.out.2.1.next hb) (HK3.out.2.2.next hb)));clear HK3 hb;refine rd1 4 (by kernel_rfl) rfl fun KK hK=>?_
 go_simp
 refine (HRR.out _ HK4.out.1.bel).mono ?_
 rintro e' w5 ⟨u1,u2,u3,rfl,g1,g2,g3,hb⟩
 obtain ⟨b1,p1,rfl,e1,e2⟩:=g1.form;obtain ⟨b2,p2,rfl,e3,e4⟩:=g2.form;obtain ⟨b3,p3,rfl,e5,e6⟩:=g3.form;go_wp2_with fail
 refine hK.out _ _ ((let h:=HK4.out.1.next hb; (h.bm.d2 ⟨h.ba.cell 1 rfl,h.ba.cell 2 rfl,h.ba.cell 3 rfl,h.ba.cell 4 rfl,h.ba.cell 5 rfl,h.ba.cell 6 rfl⟩))) ?_;clear hK KK hHeld;intro hHeld
 try simp only [LAY]
 have HK5:=Lh (And.intro (HK4.out.1.next hb) (And.intro (HK4.out.2.1.next hb) (HK4.out.2.2.next hb)));have HG:=Lh (And.intro g1 (And.intro g2 g3));clear HK4 hb g1 g2 g3;have z0 := HK5.out.1.mb.c2;have fz0 := HK5.out.1.mb.f2;refine tq 5 (.tuple #[.agg #[.slice b1 m2.length p1,.slice b2 l2.length p2],.slice b3 h2.length p3,E]) hHeld ?_;refine tq 6 (.agg #[.slice b1 m2.length p1,.slice b2 l2.length p2]) hHeld ?_;refine tq 7 (.slice b3 h2.length p3) hHeld ?_;refine tq 8 E hHeld ?_;refine rd1 9 (by kernel_rfl) rfl fun KK hK=>?_
 go_simp
 go_wp2_with fail
 refine hK.out _ _ ((let h:=(HK5.out.1.setMb (.slice b1 m2.length p1) (.slice b2 l2.length p2)); (h.bm.d2 ⟨h.ba.cell 1 rfl,h.ba.cell 2 rfl,h.ba.cell 3 rfl,h.ba.cell 4 rfl,h.ba.cell 5 rfl,h.ba.cell 6 rfl⟩))) ?_;clear hK KK hHeld z0 fz0;intro hHeld
 try simp only [LAY]
 have HE8:=Lh (show E8 w [d0,d1,d2,d3,d4,d5,d6,d7] (.slice b1 m2.length p1) (.slice b2 l2.length p2) (.slice al h2.length pl) (.slice b3 h2.length p3) zeroO m2 l2 h2 [.pointer none,.pointer none,.int .i64 0,.slice none 0 0,.int .i64 0,.int .i64 0,.complex .f64 0 0,.complex .f64 0 0] [.slice none 0 0,.slice none 0 0] (setN w5 (w.heap.size+1+1+1+1+1+1) 0 [.slice b1 m2.length p1,.slice b2 l2.length p2]) from (let h:=HK5.out.1.setMb (.slice b1 m2.length p1) (.slice b2 l2.length p2); ⟨h.bel,h.r1,h.r2,h.nb,h.mb,h.ob,h.xb,HK5.out.2.1.kt (HK5.out.1.ktMb [.slice b1 m2.length p1,.slice b2 l2.length p2] (by decide)) (HK5.out.1.ktMb [.slice b1 m2.length p1,.slice b2 l2.length p2] (by decide)) (HK5.out.1.ktMb [.slice b1 m2.length p1,.slice b2 l2.length p2] (by decide)) (Nat.le_of_eq (setN_size _ 0).symm),Sl.kt (HK5.out.1.ktMb [.slice b1 m2.length p1,.slice b2 l2.length p2] (by decide)) HG.out.1,Sl.kt (HK5.out.1.ktMb [.slice b1 m2.length p1,.slice b2 l2.length p2] (by decide)) HG.out.2.1,Sl.kt (HK5.out.1.ktMb [.slice b1 m2.length p1,.slice b2 l2.length p2] (by decide)) HK5.out.2.2,Sl.kt (HK5.out.1.ktMb [.slice b1 m2.length p1,.slice b2 l2.length p2] (by decide)) HG.out.2.2⟩));have hH2:(fun W=>Cc2 W (w.heap.size+1) vm vl (Ce W (w.heap.size+1+1) 1 o.k∧Ce W (w.heap.size+1+1) 2 o.c∧Ce W (w.heap.size+1+1) 3 o.s∧Ce W (w.heap.size+1+1) 4 o.a∧Ce W (w.heap.size+1+1) 5 o.n∧Ce W (w.heap.size+1+1) 6 (.int .i32 o.ch))) ((w5.setCell ⟨w.heap.size+1+1+1+1+1+1,0,none⟩ (.slice b1 m2.length p1)).setCell ⟨w.heap.size+1+1+1+1+1+1,1,none⟩ (.slice b2 l2.length p2)):=hHeld
 change Hid (E8 _ _ _ _ _ _ _ _ _ _ _ _ ((w5.setCell ⟨w.heap.size+1+1+1+1+1+1,0,none⟩ (.slice b1 m2.length p1)).setCell ⟨w.heap.size+1+1+1+1+1+1,1,none⟩ (.slice b2 l2.length p2))) at HE8
 clear HK5 HG;generalize (w5.setCell ⟨w.heap.size+1+1+1+1+1+1,0,none⟩ (.slice b1 m2.length p1)).setCell ⟨w.heap.size+1+1+1+1+1+1,1,none⟩ (.slice b2 l2.length p2)=w6 at *
 clear hH2;refine tq 10 (.slice b3 h2.length p3) hHeld ?_;refine tq 11 E hHeld ?_;refine dnH ?_;clear hHeld;go_wp2_with fail
 have hdum:=trivial;have HE9:=Lh (HE8.out.next bdq);refine rgH (fun W=>Cc8 W (w.heap.size+1+1+1+1+1) d0 d1 d2 d3 d4 d5 d6 d7 (Cc2 W (w.heap.size+1+1+1+1+1+1) (.slice b1 m2.length p1) (.slice b2 l2.length p2) (Cc6 W (w.heap.size+1+1+1+1+1+1+1) (.int .i64 0) (.int .i64 0) (.int .i64 0) (.int .i64 0) (.int .i64 0) (.int .i32 0) (Cz6 W (w.heap.size+1+1+1+1+1+1+1+1) (.int .i64 0) (.int .i64 0) (.int .i64 0) (.int .i64 0) (.int .i64 0) (.int .i32 0))))) (let h:=HE9.out; (h.nb.d8 (h.mb.d2 (h.ob.d6 h.xb.c6)))) fun hHeld=>?_
 clear hdum HE8;generalize w6.drew=x1 at *
 refine tq 0 (.agg #[d0,d1,d2,d3,d4,d5,d6,d7]) hHeld ?_;refine tq 1 (.agg #[.slice b1 m2.length p1,.slice b2 l2.length p2]) hHeld ?_;refine tq 2 E hHeld ?_;refine tq 3 E hHeld ?_;refine tq 4 (.bool true) hHeld ?_;refine tq 5 (.bool true) hHeld ?_;refine tq 6 (.agg #[.int .i64 0,.int .i64 0,.int .i64 0,.int .i64 0,.int .i64 0,.int .i32 0]) hHeld ?_;refine tq 8 (.agg #[.int .i64 0,.int .i64 0,.int .i64 0,.int .i64 0,.int .i64 0,.int .i32 0]) hHeld ?_;refine rd1 7 (by kernel_rfl) rfl fun KK hK=>?_
 go_simp
 refine (of5_any 0 0 0 0 0 0 _).mono ?_
 rintro e' x2 ⟨rfl,hb⟩
 go_wp2_with fail
 refine hK.out _ _ ((let h:=HE9.out.next hb; (h.nb.d8 (h.mb.d2 (h.ob.d6 h.xb.c6))))) ?_;clear hK KK hHeld;intro hHeld
 try simp only [LAY]
 have HE10:=Lh (HE9.out.next hb);clear HE9 hb;refine tq 9 (.bool true) hHeld ?_;refine tq 10 (.bool true) hHeld ?_;refine tq 11 (.bool true) hHeld ?_;refine tq 12 (.slice al h2.length pl) hHeld ?_;refine tq 13 (.slice b3 h2.length p3) hHeld ?_;refine rd1 14 (by kernel_rfl) rfl fun KK hK=>?_
 go_simp
 refine (changes_any h2 _ _ _ HE10.out.ic HE10.out.rc).mono ?_
 rintro e' x3 ⟨rfl,hb⟩
 go_wp2_with fail
 refine hK.out _ _ ((let h:=HE10.out.next hb; (h.nb.d8 (h.mb.d2 (h.ob.d6 h.xb.c6))))) ?_;clear hK KK hHeld;intro hHeld
 try simp only [LAY]
 have HE11:=Lh (HE10.out.next hb);clear HE10 hb;refine tq 15 (.bool true) hHeld ?_;refine tq 16 (.bool true) hHeld ?_;refine tq 17 (.agg #[d0,d1,d2,d3,d4,d5,d6,d7]) hHeld ?_;refine tq 18 (.agg #[.slice b1 m2.length p1,.slice b2 l2.length p2]) hHeld ?_;refine rd1 19 (by kernel_rfl) rfl fun KK hK=>?_
 go_simp
 refine (HIS.out m2 l2 HVN.out.1 _ _ _ _ _ _ _ _ _ _ _ HE11.out.iv HE11.out.io HE11.out.il (HPT.out.1.next HE11.out.bel) (HPT.out.2.next HE11.out.bel)).mono ?_
 rintro e' x4 ⟨rfl,hb⟩
 go_wp2_with fail
 refine hK.out _ _ ((let h:=HE11.out.next hb; (h.nb.d8 (h.mb.d2 (h.ob.d6 h.xb.c6))))) ?_;clear hK KK hHeld;intro hHeld
 try simp only [LAY]
 have HE12:=Lh (HE11.out.next hb);clear HE11 hb;obtain ⟨r0,r1,r2,r3,r4,r5,r6,r7⟩:=HE12.out.r1.c8;have fr0 := HE12.out.r1.f8;refine tq 20 (.bool true) hHeld ?_;refine rd1 21 (by kernel_rfl) rfl fun KK hK=>?_
 go_simp
 go_wp2_with fail
 refine hK.out _ _ ((let h:=HE12.out.set1; (h.nb.d8 (h.mb.d2 (h.ob.d6 h.xb.c6))))) ?_;clear hK KK hHeld;intro hHeld
 try simp only [LAY]
 have HE13:=Lh HE12.out.set1;clear HE12 r0 fr0 r1 r2 r3 r4 r5 r6 r7;generalize (((((((x4.setCell ⟨w.heap.size+1+1+1,0,none⟩ (d0)).setCell ⟨w.heap.size+1+1+1,1,none⟩ (d1)).setCell ⟨w.heap.size+1+1+1,2,none⟩ (d2)).setCell ⟨w.heap.size+1+1+1,3,none⟩ (d3)).setCell ⟨w.heap.size+1+1+1,4,none⟩ (d4)).setCell ⟨w.heap.size+1+1+1,5,none⟩ (d5)).setCell ⟨w.heap.size+1+1+1,6,none⟩ (d6)).setCell ⟨w.heap.size+1+1+1,7,none⟩ (d7)=x5 at *
 have s0 := HE13.out.r2.c2;have fs0 := HE13.out.r2.f2;refine rd1 22 (by kernel_rfl) rfl fun KK hK=>?_
 go_simp
 go_wp2_with fail
 refine hK.out _ _ ((let h:=HE13.out.set2; (h.nb.d8 (h.mb.d2 (h.ob.d6 h.xb.c6))))) ?_;clear hK KK hHeld;intro hHeld
 try simp only [LAY]
 have HE14:=Lh HE13.out.set2;clear HE13 s0 fs0;generalize (x5.setCell ⟨w.heap.size+1+1+1+1,0,none⟩ (.slice b1 m2.length p1)).setCell ⟨w.heap.size+1+1+1+1,1,none⟩ (.slice b2 l2.length p2)=x6 at *
 refine tq 23 (.bool true) hHeld ?_;refine dnH ?_;clear hHeld;obtain ⟨r0,r1,r2,r3,r4,r5,r6,r7⟩:=HE14.out.r1.c8;have s0 := HE14.out.r2.c2;go_wp2_with fail
 refine bodyPost_ret (v:=.tuple #[.agg #[d0,d1,d2,d3,d4,d5,d6,d7],.agg #[.slice b1 m2.length p1,.slice b2 l2.length p2],.bool true]) (by simp [results, Tryz.results20, go_sem, s0, r0, r1, r2, r3, r4, r5, r6, r7]) rfl ?_;exact ⟨HE14.out.bel,_,_,_,_,_,_,_,_,_,_,m2,l2,rfl,HVN.out,HE14.out.iv,HE14.out.io,HE14.out.il⟩
theorem do8_1 (hRm:VInsertOk) (hTx:VTextOk) (hLn:VLenOk) (hSq:VSeqOk) (hWt:VWaitOk) (hTy:VTallyOk) (m l:List Oq) (n:Nat) (hV:VOk m l n) (hn:n≤45) (o:Oq) (site at_ ch:Int) (hk0 : -9223372036854775808≤at_) (hk1:at_≤9223372036854775807) (lo : -2147483648≤ch) (hi:ch≤2147483647) (c0 c1 c2 c3 c4 c5 c6 c7 vm vl:Value) (w:World) (hS:IsV w m l [c0,c1,c2,c3,c4,c5,c6,c7]) (hM:IsO w vm m) (hL:IsO w vl l) (hp:Pows w) (ht:Tabs w):
  Calls Tryz.prog 20 #[.agg #[c0,c1,c2,c3,c4,c5,c6,c7],.agg #[vm,vl],.agg #[.int .u8 1,o.k,o.c,o.s,o.a,o.n,.int .i32 o.ch,site,at_,.int .i32 ch]] w fun e w'=>Below w.heap.size w w'∧∃ d0 d1 d2 d3 d4 d5 d6 d7 vm' vl' m' l',e=.returned (.tuple #[.agg #[d0,d1,d2,d3,d4,d5,d6,d7],.agg #[vm',vl'],.bool true])∧(VOk m' l' (n+1)∧(Qt m l→Qt m' l'))∧IsV w' m' l' [d0,d1,d2,d3,d4,d5,d6,d7]∧IsO w' vm' m'∧IsO w' vl' l':=by
 have HPT:=Lh (And.intro hp ht);have hlen:=hV.len;have HRM:=Lh (fun W (h:Below w.heap.size w W)=>hRm m l n site at_ ch lo hi c0 c1 c2 c3 c4 c5 c6 c7 W hV (by omega) hk0 hk1 (hS.next h));have HRR:=Lh (fun W (h:Below w.heap.size w W)=>refInsert_any m l n hV (by omega) site at_ ch hk0 hk1 lo hi vm vl W (hM.next h) (hL.next h));have HVN:=Lh (And.intro (hV.ins site at_ ch lo hi) (fun h:Qt m l=>qt_ins h site at_ ch lo hi));have HIS:=Lh (fun m' l' (h:VOk m' l' (n+1)) d0 d1 d2 d3 d4 d5 d6 d7 u v W h1 h2 h3 h4 h5=>is8_any hTx hLn hSq hWt hTy m' l' (n+1) h (by omega) d0 d1 d2 d3 d4 d5 d6 d7 u v W h1 h2 h3 h4 h5);obtain ⟨⟨m2,l2,h2⟩,hT⟩:∃ T,T=inT8 m l site at_ ch lo hi:=⟨_,rfl⟩
 obtain ⟨P,hP⟩:∃ P,P=opP (inE8 m l site at_ ch lo hi) (inV8 m l site at_ ch lo hi):=⟨_,rfl⟩
 obtain ⟨E,hE⟩:∃ E,E=inE8 m l site at_ ch lo hi:=⟨_,rfl⟩
 rw [←hT,←hP,←hE] at HRM HRR;rw [←hT] at HVN
 dsimp only at HRM HRR HVN
 have H0:=Lh (D8.start w c0 c1 c2 c3 c4 c5 c6 c7 vm vl 1 o site at_ ch);clear hM hL hS hV hp ht hRm hTx hLn hSq hWt hTy hT hE hP
 go_enter Tryz.func20,Tryz.ntmps20
 generalize hW0:((((((((w.alloc (.cells #[c0,c1,c2,c3,c4,c5,c6,c7] 41)).alloc (.cells #[vm,vl] 44)).alloc (.cells #[.int .u8 1,o.k,o.c,o.s,o.a,o.n,.int .i32 o.ch,site,at_,.int .i32 ch] 75)).alloc (.cells #[.pointer none,.pointer none,.int .i64 0,.slice none 0 0,.int .i64 0,.int .i64 0,.complex .f64 0 0,.complex .f64 0 0] 41)).alloc (.cells #[.slice none 0 0,.slice none 0 0] 44)).alloc (.cells #[.pointer none,.pointer none,.int .i64 0,.slice none 0 0,.int .i64 0,.int .i64 0,.complex .f64 0 0,.complex .f64 0 0] 41)).alloc (.cells #[.slice none 0 0,.slice none 0 0] 44)).alloc (.cells #[.int .i64 0,.int .i64 0,.int .i64 0,.int .i64 0,.int .i64 0,.int .i32 0] 68)).alloc (.cells #[.int .i64 0,.int .i64 0,.int .i64 0,.int .i64 0,.int .i64 0,.int .i32 0] 95)=w0 at *
 have v0 := H0.out.bv.c8;obtain ⟨a0,a1,a2,a3,a4,a5,a6,a7,a8,a9⟩:=H0.out.ba.c10;go_wp2_with (go_at_call 17; refine (HRM.out _ H0.out.bel).mono ?_; rintro e w1 ⟨hb,d0,d1,d2,d3,d4,d5,d6,d7,lc,x,hx,rfl,hiv,hic⟩; obtain ⟨al,pl,rfl,hd1,hd2⟩:=hic.form; refine Hid.out ?_)
 subst hx;have HQ:=Lh (H0.out.next hb);have HI:=Lh (And.intro hiv hic);clear H0 hb hiv hic hW0 HRM v0 a0 a1 a2 a3 a4 a5 a6 a7 a8 a9;have hon:=HI.out.1.one;have sd0:=fun (W:World) (a:Addr) (md:Mode)=>run_store Tryz.prog W a d0 md (hon d0 (by simp))
 have sd1:=fun (W:World) (a:Addr) (md:Mode)=>run_store Tryz.prog W a d1 md (hon d1 (by simp))
 have sd2:=fun (W:World) (a:Addr) (md:Mode)=>run_store Tryz.prog W a d2 md (hon d2 (by simp))
 have sd3:=fun (W:World) (a:Addr) (md:Mode)=>run_store Tryz.prog W a d3 md (hon d3 (by simp))
 have sd4:=fun (W:World) (a:Addr) (md:Mode)=>run_store Tryz.prog W a d4 md (hon d4 (by simp))
 have sd5:=fun (W:World) (a:Addr) (md:Mode)=>run_store Tryz.prog W a d5 md (hon d5 (by simp))
 have sd6:=fun (W:World) (a:Addr) (md:Mode)=>run_store Tryz.prog W a d6 md (hon d6 (by simp))
 have sd7:=fun (W:World) (a:Addr) (md:Mode)=>run_store Tryz.prog W a d7 md (hon d7 (by simp))
 have n0:=HQ.out.nb.cell 0 rfl;have fn0:=HQ.out.nb.free 0;have n1:=HQ.out.nb.cell 1 rfl;have fn1:=HQ.out.nb.free 1;have n2:=HQ.out.nb.cell 2 rfl;have fn2:=HQ.out.nb.free 2;have n3:=HQ.out.nb.cell 3 rfl;have fn3:=HQ.out.nb.free 3;have n4:=HQ.out.nb.cell 4 rfl;have fn4:=HQ.out.nb.free 4;have n5:=HQ.out.nb.cell 5 rfl;have fn5:=HQ.out.nb.free 5;have n6:=HQ.out.nb.cell 6 rfl;have fn6:=HQ.out.nb.free 6;have n7:=HQ.out.nb.cell 7 rfl;have fn7:=HQ.out.nb.free 7;clear hon;have HQ2:=Lh (HQ.out.setNb d0 d1 d2 d3 d4 d5 d6 d7);have HI2:=Lh (And.intro (HI.out.1.kt (HQ.out.ktNb [d0,d1,d2,d3,d4,d5,d6,d7] (by decide)) (HQ.out.ktNb [d0,d1,d2,d3,d4,d5,d6,d7] (by decide)) (HQ.out.ktNb [d0,d1,d2,d3,d4,d5,d6,d7] (by decide)) (Nat.le_of_eq (setN_size _ 0).symm)) (Sl.kt (HQ.out.ktNb [d0,d1,d2,d3,d4,d5,d6,d7] (by decide)) HI.out.2))
 change Hid (D8 _ _ _ _ _ _ _ _ _ ((((((((w1.setCell ⟨w.heap.size+1+1+1+1+1,0,none⟩ (d0)).setCell ⟨w.heap.size+1+1+1+1+1,1,none⟩ (d1)).setCell ⟨w.heap.size+1+1+1+1+1,2,none⟩ (d2)).setCell ⟨w.heap.size+1+1+1+1+1,3,none⟩ (d3)).setCell ⟨w.heap.size+1+1+1+1+1,4,none⟩ (d4)).setCell ⟨w.heap.size+1+1+1+1+1,5,none⟩ (d5)).setCell ⟨w.heap.size+1+1+1+1+1,6,none⟩ (d6)).setCell ⟨w.heap.size+1+1+1+1+1,7,none⟩ (d7))) at HQ2
 change Hid (IsV ((((((((w1.setCell ⟨w.heap.size+1+1+1+1+1,0,none⟩ (d0)).setCell ⟨w.heap.size+1+1+1+1+1,1,none⟩ (d1)).setCell ⟨w.heap.size+1+1+1+1+1,2,none⟩ (d2)).setCell ⟨w.heap.size+1+1+1+1+1,3,none⟩ (d3)).setCell ⟨w.heap.size+1+1+1+1+1,4,none⟩ (d4)).setCell ⟨w.heap.size+1+1+1+1+1,5,none⟩ (d5)).setCell ⟨w.heap.size+1+1+1+1+1,6,none⟩ (d6)).setCell ⟨w.heap.size+1+1+1+1+1,7,none⟩ (d7)) _ _ _∧IsVC ((((((((w1.setCell ⟨w.heap.size+1+1+1+1+1,0,none⟩ (d0)).setCell ⟨w.heap.size+1+1+1+1+1,1,none⟩ (d1)).setCell ⟨w.heap.size+1+1+1+1+1,2,none⟩ (d2)).setCell ⟨w.heap.size+1+1+1+1+1,3,none⟩ (d3)).setCell ⟨w.heap.size+1+1+1+1+1,4,none⟩ (d4)).setCell ⟨w.heap.size+1+1+1+1+1,5,none⟩ (d5)).setCell ⟨w.heap.size+1+1+1+1+1,6,none⟩ (d6)).setCell ⟨w.heap.size+1+1+1+1+1,7,none⟩ (d7)) _ _) at HI2
 generalize hWN:(((((((w1.setCell ⟨w.heap.size+1+1+1+1+1,0,none⟩ (d0)).setCell ⟨w.heap.size+1+1+1+1+1,1,none⟩ (d1)).setCell ⟨w.heap.size+1+1+1+1+1,2,none⟩ (d2)).setCell ⟨w.heap.size+1+1+1+1+1,3,none⟩ (d3)).setCell ⟨w.heap.size+1+1+1+1+1,4,none⟩ (d4)).setCell ⟨w.heap.size+1+1+1+1+1,5,none⟩ (d5)).setCell ⟨w.heap.size+1+1+1+1+1,6,none⟩ (d6)).setCell ⟨w.heap.size+1+1+1+1+1,7,none⟩ (d7)=w2 at *
 have o0 := HQ2.out.ob.c6;have fo0 := HQ2.out.ob.f6;have HQ3:=Lh (HQ2.out.setOb x);have HI3:=Lh (And.intro (IsV.setO HQ2.out.ob HI2.out.1 HVN.out.1.rl x) (Sl.kt (KT.setN (by decide) (oqL x) 0 HQ2.out.ob) HI2.out.2))
 change Hid (D8 _ _ _ _ _ _ _ _ _ ((((((w2.setCell ⟨w.heap.size+1+1+1+1+1+1+1,0,none⟩ x.k).setCell ⟨w.heap.size+1+1+1+1+1+1+1,1,none⟩ x.c).setCell ⟨w.heap.size+1+1+1+1+1+1+1,2,none⟩ x.s).setCell ⟨w.heap.size+1+1+1+1+1+1+1,3,none⟩ x.a).setCell ⟨w.heap.size+1+1+1+1+1+1+1,4,none⟩ x.n).setCell ⟨w.heap.size+1+1+1+1+1+1+1,5,none⟩ (.int .i32 x.ch))) at HQ3
 change Hid (IsV ((((((w2.setCell ⟨w.heap.size+1+1+1+1+1+1+1,0,none⟩ x.k).setCell ⟨w.heap.size+1+1+1+1+1+1+1,1,none⟩ x.c).setCell ⟨w.heap.size+1+1+1+1+1+1+1,2,none⟩ x.s).setCell ⟨w.heap.size+1+1+1+1+1+1+1,3,none⟩ x.a).setCell ⟨w.heap.size+1+1+1+1+1+1+1,4,none⟩ x.n).setCell ⟨w.heap.size+1+1+1+1+1+1+1,5,none⟩ (.int .i32 x.ch)) _ _ _∧Sl _ _ _ ((((((w2.setCell ⟨w.heap.size+1+1+1+1+1+1+1,0,none⟩ x.k).setCell ⟨w.heap.size+1+1+1+1+1+1+1,1,none⟩ x.c).setCell ⟨w.heap.size+1+1+1+1+1+1+1,2,none⟩ x.s).setCell ⟨w.heap.size+1+1+1+1+1+1+1,3,none⟩ x.a).setCell ⟨w.heap.size+1+1+1+1+1+1+1,4,none⟩ x.n).setCell ⟨w.heap.size+1+1+1+1+1+1+1,5,none⟩ (.int .i32 x.ch)) _ _) at HI3
 generalize hWO:(((((w2.setCell ⟨w.heap.size+1+1+1+1+1+1+1,0,none⟩ x.k).setCell ⟨w.heap.size+1+1+1+1+1+1+1,1,none⟩ x.c).setCell ⟨w.heap.size+1+1+1+1+1+1+1,2,none⟩ x.s).setCell ⟨w.heap.size+1+1+1+1+1+1+1,3,none⟩ x.a).setCell ⟨w.heap.size+1+1+1+1+1+1+1,4,none⟩ x.n).setCell ⟨w.heap.size+1+1+1+1+1+1+1,5,none⟩ (.int .i32 x.ch)=w3 at *
 have y0 := HQ3.out.bm.c2;have a7:=HQ3.out.ba.cell 7 rfl;have a8:=HQ3.out.ba.cell 8 rfl;have a9:=HQ3.out.ba.cell 9 rfl;refine Lh ?_;go_wp2_with (go_at_call 40; refine (HRR.out _ HQ3.out.bel).mono ?_; rintro e w4 ⟨u1,u2,u3,rfl,g1,g2,g3,hb⟩; obtain ⟨b1,p1,rfl,e1,e2⟩:=g1.form; obtain ⟨b2,p2,rfl,e3,e4⟩:=g2.form; obtain ⟨b3,p3,rfl,e5,e6⟩:=g3.form; refine Hid.out ?_)
 have HQ4:=Lh (HQ3.out.next hb);have HI4:=Lh (And.intro (HI3.out.1.next hb) (And.intro (Sl.next HI3.out.2 hb) (And.intro g1 (And.intro g2 g3))));clear HQ HI HQ2 HI2 HQ3 HI3 g1 g2 g3 hb HRR hWN hWO y0 a7 a8 a9 n0 fn0 n1 fn1 n2 fn2 n3 fn3 n4 fn4 n5 fn5 n6 fn6 n7 fn7 o0 fo0;have z0 := HQ4.out.mb.c2;have fz0 := HQ4.out.mb.f2;have HQ5:=Lh (HQ4.out.setMb (.slice b1 m2.length p1) (.slice b2 l2.length p2));have HI5:=Lh (And.intro (HI4.out.1.kt (HQ4.out.ktMb [.slice b1 m2.length p1,.slice b2 l2.length p2] (by decide)) (HQ4.out.ktMb [.slice b1 m2.length p1,.slice b2 l2.length p2] (by decide)) (HQ4.out.ktMb [.slice b1 m2.length p1,.slice b2 l2.length p2] (by decide)) (Nat.le_of_eq (setN_size _ 0).symm)) (And.intro (Sl.kt (HQ4.out.ktMb [.slice b1 m2.length p1,.slice b2 l2.length p2] (by decide)) HI4.out.2.1) (And.intro (Sl.kt (HQ4.out.ktMb [.slice b1 m2.length p1,.slice b2 l2.length p2] (by decide)) HI4.out.2.2.1) (And.intro (Sl.kt (HQ4.out.ktMb [.slice b1 m2.length p1,.slice b2 l2.length p2] (by decide)) HI4.out.2.2.2.1) (Sl.kt (HQ4.out.ktMb [.slice b1 m2.length p1,.slice b2 l2.length p2] (by decide)) HI4.out.2.2.2.2)))))
 change Hid (D8 _ _ _ _ _ _ _ _ _ ((w4.setCell ⟨w.heap.size+1+1+1+1+1+1,0,none⟩ (.slice b1 m2.length p1)).setCell ⟨w.heap.size+1+1+1+1+1+1,1,none⟩ (.slice b2 l2.length p2))) at HQ5
 change Hid (IsV ((w4.setCell ⟨w.heap.size+1+1+1+1+1+1,0,none⟩ (.slice b1 m2.length p1)).setCell ⟨w.heap.size+1+1+1+1+1+1,1,none⟩ (.slice b2 l2.length p2)) _ _ _∧Sl _ _ _ ((w4.setCell ⟨w.heap.size+1+1+1+1+1+1,0,none⟩ (.slice b1 m2.length p1)).setCell ⟨w.heap.size+1+1+1+1+1+1,1,none⟩ (.slice b2 l2.length p2)) _ _∧Sl _ _ _ ((w4.setCell ⟨w.heap.size+1+1+1+1+1+1,0,none⟩ (.slice b1 m2.length p1)).setCell ⟨w.heap.size+1+1+1+1+1+1,1,none⟩ (.slice b2 l2.length p2)) _ _∧Sl _ _ _ ((w4.setCell ⟨w.heap.size+1+1+1+1+1+1,0,none⟩ (.slice b1 m2.length p1)).setCell ⟨w.heap.size+1+1+1+1+1+1,1,none⟩ (.slice b2 l2.length p2)) _ _∧Sl _ _ _ ((w4.setCell ⟨w.heap.size+1+1+1+1+1+1,0,none⟩ (.slice b1 m2.length p1)).setCell ⟨w.heap.size+1+1+1+1+1+1,1,none⟩ (.slice b2 l2.length p2)) _ _) at HI5
 generalize hWP:(w4.setCell ⟨w.heap.size+1+1+1+1+1+1,0,none⟩ (.slice b1 m2.length p1)).setCell ⟨w.heap.size+1+1+1+1+1+1,1,none⟩ (.slice b2 l2.length p2)=w5 at *
 have q0 := HQ5.out.xb.c6;have fq0 := HQ5.out.xb.f6;have HE8:=Lh (show E8 w [d0,d1,d2,d3,d4,d5,d6,d7] (.slice b1 m2.length p1) (.slice b2 l2.length p2) (.slice al h2.length pl) (.slice b3 h2.length p3) x m2 l2 h2 [.pointer none,.pointer none,.int .i64 0,.slice none 0 0,.int .i64 0,.int .i64 0,.complex .f64 0 0,.complex .f64 0 0] [.slice none 0 0,.slice none 0 0] (setN w5 (w.heap.size+1+1+1+1+1+1+1+1) 0 (oqL x)) from (let h:=HQ5.out.setXb x; ⟨h.bel,h.r1,h.r2,h.nb,h.mb,h.ob,h.xb,HI5.out.1.kt (KT.setN (by decide) (oqL x) 0 HQ5.out.xb) (KT.setN (by decide) (oqL x) 0 HQ5.out.xb) (KT.setN (by decide) (oqL x) 0 HQ5.out.xb) (Nat.le_of_eq (setN_size _ 0).symm),Sl.setZ HQ5.out.xb HI5.out.2.2.1 HVN.out.1.rm x,Sl.setZ HQ5.out.xb HI5.out.2.2.2.1 HVN.out.1.rl x,Sl.kt (KT.setN (by decide) (oqL x) 0 HQ5.out.xb) HI5.out.2.1,Sl.kt (KT.setN (by decide) (oqL x) 0 HQ5.out.xb) HI5.out.2.2.2.2⟩))
 change Hid (E8 _ _ _ _ _ _ _ _ _ _ _ _ ((((((w5.setCell ⟨w.heap.size+1+1+1+1+1+1+1+1,0,none⟩ x.k).setCell ⟨w.heap.size+1+1+1+1+1+1+1+1,1,none⟩ x.c).setCell ⟨w.heap.size+1+1+1+1+1+1+1+1,2,none⟩ x.s).setCell ⟨w.heap.size+1+1+1+1+1+1+1+1,3,none⟩ x.a).setCell ⟨w.heap.size+1+1+1+1+1+1+1+1,4,none⟩ x.n).setCell ⟨w.heap.size+1+1+1+1+1+1+1+1,5,none⟩ (.int .i32 x.ch))) at HE8
 generalize hWX:(((((w5.setCell ⟨w.heap.size+1+1+1+1+1+1+1+1,0,none⟩ x.k).setCell ⟨w.heap.size+1+1+1+1+1+1+1+1,1,none⟩ x.c).setCell ⟨w.heap.size+1+1+1+1+1+1+1+1,2,none⟩ x.s).setCell ⟨w.heap.size+1+1+1+1+1+1+1+1,3,none⟩ x.a).setCell ⟨w.heap.size+1+1+1+1+1+1+1+1,4,none⟩ x.n).setCell ⟨w.heap.size+1+1+1+1+1+1+1+1,5,none⟩ (.int .i32 x.ch)=w6 at *
 refine Lh ?_;go_wp2_with fail
 clear HQ4 HI4 HQ5 HI5 hWP hWX z0 fz0 q0 fq0;have hdum:=trivial;have HE9:=Lh (HE8.out.next bdq);refine rgH (fun W=>Cc8 W (w.heap.size+1+1+1+1+1) d0 d1 d2 d3 d4 d5 d6 d7 (Cc2 W (w.heap.size+1+1+1+1+1+1) (.slice b1 m2.length p1) (.slice b2 l2.length p2) (Cc6 W (w.heap.size+1+1+1+1+1+1+1) x.k x.c x.s x.a x.n (.int .i32 x.ch) (Cz6 W (w.heap.size+1+1+1+1+1+1+1+1) x.k x.c x.s x.a x.n (.int .i32 x.ch))))) (let h:=HE9.out; (h.nb.d8 (h.mb.d2 (h.ob.d6 h.xb.c6)))) fun hHeld=>?_
 clear hdum HE8;generalize w6.drew=x1 at *
 refine tq 0 (.agg #[d0,d1,d2,d3,d4,d5,d6,d7]) hHeld ?_;refine tq 1 (.agg #[.slice b1 m2.length p1,.slice b2 l2.length p2]) hHeld ?_;refine tq 2 E hHeld ?_;refine tq 3 E hHeld ?_;refine tq 4 (.bool true) hHeld ?_;refine tq 5 (.bool true) hHeld ?_;refine tq 6 (.agg #[x.k,x.c,x.s,x.a,x.n,.int .i32 x.ch]) hHeld ?_;refine tq 8 (.agg #[x.k,x.c,x.s,x.a,x.n,.int .i32 x.ch]) hHeld ?_;refine rd1 7 (by kernel_rfl) rfl fun KK hK=>?_
 go_simp
 refine (of5_any x.k x.c x.s x.a x.n x.ch _).mono ?_
 rintro e' x2 ⟨rfl,hb⟩
 go_wp2_with fail
 refine hK.out _ _ ((let h:=HE9.out.next hb; (h.nb.d8 (h.mb.d2 (h.ob.d6 h.xb.c6))))) ?_;clear hK KK hHeld;intro hHeld
 try simp only [LAY]
 have HE10:=Lh (HE9.out.next hb);clear HE9 hb;refine tq 9 (.bool true) hHeld ?_;refine tq 10 (.bool true) hHeld ?_;refine tq 11 (.bool true) hHeld ?_;refine tq 12 (.slice al h2.length pl) hHeld ?_;refine tq 13 (.slice b3 h2.length p3) hHeld ?_;refine rd1 14 (by kernel_rfl) rfl fun KK hK=>?_
 go_simp
 refine (changes_any h2 _ _ _ HE10.out.ic HE10.out.rc).mono ?_
 rintro e' x3 ⟨rfl,hb⟩
 go_wp2_with fail
 refine hK.out _ _ ((let h:=HE10.out.next hb; (h.nb.d8 (h.mb.d2 (h.ob.d6 h.xb.c6))))) ?_;clear hK KK hHeld;intro hHeld
 try simp only [LAY]
 have HE11:=Lh (HE10.out.next hb);clear HE10 hb;refine tq 15 (.bool true) hHeld ?_;refine tq 16 (.bool true) hHeld ?_;refine tq 17 (.agg #[d0,d1,d2,d3,d4,d5,d6,d7]) hHeld ?_;refine tq 18 (.agg #[.slice b1 m2.length p1,.slice b2 l2.length p2]) hHeld ?_;refine rd1 19 (by kernel_rfl) rfl fun KK hK=>?_
 go_simp
 refine (HIS.out m2 l2 HVN.out.1 _ _ _ _ _ _ _ _ _ _ _ HE11.out.iv HE11.out.io HE11.out.il (HPT.out.1.next HE11.out.bel) (HPT.out.2.next HE11.out.bel)).mono ?_
 rintro e' x4 ⟨rfl,hb⟩
 go_wp2_with fail
 refine hK.out _ _ ((let h:=HE11.out.next hb; (h.nb.d8 (h.mb.d2 (h.ob.d6 h.xb.c6))))) ?_;clear hK KK hHeld;intro hHeld
 try simp only [LAY]
 have HE12:=Lh (HE11.out.next hb);clear HE11 hb;obtain ⟨r0,r1,r2,r3,r4,r5,r6,r7⟩:=HE12.out.r1.c8;have fr0 := HE12.out.r1.f8;refine tq 20 (.bool true) hHeld ?_;refine rd1 21 (by kernel_rfl) rfl fun KK hK=>?_
 go_simp
 go_wp2_with fail
 refine hK.out _ _ ((let h:=HE12.out.set1; (h.nb.d8 (h.mb.d2 (h.ob.d6 h.xb.c6))))) ?_;clear hK KK hHeld;intro hHeld
 try simp only [LAY]
 have HE13:=Lh HE12.out.set1;clear HE12 r0 fr0 r1 r2 r3 r4 r5 r6 r7;generalize (((((((x4.setCell ⟨w.heap.size+1+1+1,0,none⟩ (d0)).setCell ⟨w.heap.size+1+1+1,1,none⟩ (d1)).setCell ⟨w.heap.size+1+1+1,2,none⟩ (d2)).setCell ⟨w.heap.size+1+1+1,3,none⟩ (d3)).setCell ⟨w.heap.size+1+1+1,4,none⟩ (d4)).setCell ⟨w.heap.size+1+1+1,5,none⟩ (d5)).setCell ⟨w.heap.size+1+1+1,6,none⟩ (d6)).setCell ⟨w.heap.size+1+1+1,7,none⟩ (d7)=x5 at *
 have s0 := HE13.out.r2.c2;have fs0 := HE13.out.r2.f2;refine rd1 22 (by kernel_rfl) rfl fun KK hK=>?_
 go_simp
 go_wp2_with fail
 refine hK.out _ _ ((let h:=HE13.out.set2; (h.nb.d8 (h.mb.d2 (h.ob.d6 h.xb.c6))))) ?_;clear hK KK hHeld;intro hHeld
 try simp only [LAY]
 have HE14:=Lh HE13.out.set2;clear HE13 s0 fs0;generalize (x5.setCell ⟨w.heap.size+1+1+1+1,0,none⟩ (.slice b1 m2.length p1)).setCell ⟨w.heap.size+1+1+1+1,1,none⟩ (.slice b2 l2.length p2)=x6 at *
 refine tq 23 (.bool true) hHeld ?_;refine dnH ?_;clear hHeld;obtain ⟨r0,r1,r2,r3,r4,r5,r6,r7⟩:=HE14.out.r1.c8;have s0 := HE14.out.r2.c2;go_wp2_with fail
 refine bodyPost_ret (v:=.tuple #[.agg #[d0,d1,d2,d3,d4,d5,d6,d7],.agg #[.slice b1 m2.length p1,.slice b2 l2.length p2],.bool true]) (by simp [results, Tryz.results20, go_sem, s0, r0, r1, r2, r3, r4, r5, r6, r7]) rfl ?_;exact ⟨HE14.out.bel,_,_,_,_,_,_,_,_,_,_,m2,l2,rfl,HVN.out,HE14.out.iv,HE14.out.io,HE14.out.il⟩
theorem do8_2 (hRm:VDeleteOk) (hTx:VTextOk) (hLn:VLenOk) (hSq:VSeqOk) (hWt:VWaitOk) (hTy:VTallyOk) (m l:List Oq) (n:Nat) (hV:VOk m l n) (hn:n≤45) (o:Oq) (site at_ ch:Int) (hk0 : -9223372036854775808≤at_) (hk1:at_≤9223372036854775807) (c0 c1 c2 c3 c4 c5 c6 c7 vm vl:Value) (w:World) (hS:IsV w m l [c0,c1,c2,c3,c4,c5,c6,c7]) (hM:IsO w vm m) (hL:IsO w vl l) (hp:Pows w) (ht:Tabs w):
  Calls Tryz.prog 20 #[.agg #[c0,c1,c2,c3,c4,c5,c6,c7],.agg #[vm,vl],.agg #[.int .u8 2,o.k,o.c,o.s,o.a,o.n,.int .i32 o.ch,site,at_,.int .i32 ch]] w fun e w'=>Below w.heap.size w w'∧∃ d0 d1 d2 d3 d4 d5 d6 d7 vm' vl' m' l',e=.returned (.tuple #[.agg #[d0,d1,d2,d3,d4,d5,d6,d7],.agg #[vm',vl'],.bool true])∧(VOk m' l' (n+1)∧(Qt m l→Qt m' l'))∧IsV w' m' l' [d0,d1,d2,d3,d4,d5,d6,d7]∧IsO w' vm' m'∧IsO w' vl' l':=by
 have HPT:=Lh (And.intro hp ht);have hlen:=hV.len;have HRM:=Lh (fun W (h:Below w.heap.size w W)=>hRm m l n at_ c0 c1 c2 c3 c4 c5 c6 c7 W hV (by omega) hk0 hk1 (hS.next h));have HRR:=Lh (fun W (h:Below w.heap.size w W)=>refDelete_any m l n hV (by omega) at_ hk0 hk1 vm vl W (hM.next h) (hL.next h));have HVN:=Lh (And.intro (hV.del at_) (fun h:Qt m l=>qt_dl h at_));have HIS:=Lh (fun m' l' (h:VOk m' l' (n+1)) d0 d1 d2 d3 d4 d5 d6 d7 u v W h1 h2 h3 h4 h5=>is8_any hTx hLn hSq hWt hTy m' l' (n+1) h (by omega) d0 d1 d2 d3 d4 d5 d6 d7 u v W h1 h2 h3 h4 h5);obtain ⟨⟨m2,l2,h2⟩,hT⟩:∃ T,T=deT8 m l at_:=⟨_,rfl⟩
 obtain ⟨P,hP⟩:∃ P,P=opP (deE8 m l at_) (deV8 m at_):=⟨_,rfl⟩
 obtain ⟨E,hE⟩:∃ E,E=deE8 m l at_:=⟨_,rfl⟩
 rw [←hT,←hP,←hE] at HRM HRR;rw [←hT] at HVN
 dsimp only at HRM HRR HVN
 have H0:=Lh (D8.start w c0 c1 c2 c3 c4 c5 c6 c7 vm vl 2 o site at_ ch);clear hM hL hS hV hp ht hRm hTx hLn hSq hWt hTy hT hE hP
 go_enter Tryz.func20,Tryz.ntmps20
 generalize hW0:((((((((w.alloc (.cells #[c0,c1,c2,c3,c4,c5,c6,c7] 41)).alloc (.cells #[vm,vl] 44)).alloc (.cells #[.int .u8 2,o.k,o.c,o.s,o.a,o.n,.int .i32 o.ch,site,at_,.int .i32 ch] 75)).alloc (.cells #[.pointer none,.pointer none,.int .i64 0,.slice none 0 0,.int .i64 0,.int .i64 0,.complex .f64 0 0,.complex .f64 0 0] 41)).alloc (.cells #[.slice none 0 0,.slice none 0 0] 44)).alloc (.cells #[.pointer none,.pointer none,.int .i64 0,.slice none 0 0,.int .i64 0,.int .i64 0,.complex .f64 0 0,.complex .f64 0 0] 41)).alloc (.cells #[.slice none 0 0,.slice none 0 0] 44)).alloc (.cells #[.int .i64 0,.int .i64 0,.int .i64 0,.int .i64 0,.int .i64 0,.int .i32 0] 68)).alloc (.cells #[.int .i64 0,.int .i64 0,.int .i64 0,.int .i64 0,.int .i64 0,.int .i32 0] 95)=w0 at *
 have v0 := H0.out.bv.c8;obtain ⟨a0,a1,a2,a3,a4,a5,a6,a7,a8,a9⟩:=H0.out.ba.c10;go_wp2_with (go_at_call 18; refine (HRM.out _ H0.out.bel).mono ?_; rintro e w1 ⟨hb,d0,d1,d2,d3,d4,d5,d6,d7,lc,x,hx,rfl,hiv,hic⟩; obtain ⟨al,pl,rfl,hd1,hd2⟩:=hic.form; refine Hid.out ?_)
 subst hx;have HQ:=Lh (H0.out.next hb);have HI:=Lh (And.intro hiv hic);clear H0 hb hiv hic hW0 HRM v0 a0 a1 a2 a3 a4 a5 a6 a7 a8 a9;have hon:=HI.out.1.one;have sd0:=fun (W:World) (a:Addr) (md:Mode)=>run_store Tryz.prog W a d0 md (hon d0 (by simp))
 have sd1:=fun (W:World) (a:Addr) (md:Mode)=>run_store Tryz.prog W a d1 md (hon d1 (by simp))
 have sd2:=fun (W:World) (a:Addr) (md:Mode)=>run_store Tryz.prog W a d2 md (hon d2 (by simp))
 have sd3:=fun (W:World) (a:Addr) (md:Mode)=>run_store Tryz.prog W a d3 md (hon d3 (by simp))
 have sd4:=fun (W:World) (a:Addr) (md:Mode)=>run_store Tryz.prog W a d4 md (hon d4 (by simp))
 have sd5:=fun (W:World) (a:Addr) (md:Mode)=>run_store Tryz.prog W a d5 md (hon d5 (by simp))
 have sd6:=fun (W:World) (a:Addr) (md:Mode)=>run_store Tryz.prog W a d6 md (hon d6 (by simp))
 have sd7:=fun (W:World) (a:Addr) (md:Mode)=>run_store Tryz.prog W a d7 md (hon d7 (by simp))
 have n0:=HQ.out.nb.cell 0 rfl;have fn0:=HQ.out.nb.free 0;have n1:=HQ.out.nb.cell 1 rfl;have fn1:=HQ.out.nb.free 1;have n2:=HQ.out.nb.cell 2 rfl;have fn2:=HQ.out.nb.free 2;have n3:=HQ.out.nb.cell 3 rfl;have fn3:=HQ.out.nb.free 3;have n4:=HQ.out.nb.cell 4 rfl;have fn4:=HQ.out.nb.free 4;have n5:=HQ.out.nb.cell 5 rfl;have fn5:=HQ.out.nb.free 5;have n6:=HQ.out.nb.cell 6 rfl;have fn6:=HQ.out.nb.free 6;have n7:=HQ.out.nb.cell 7 rfl;have fn7:=HQ.out.nb.free 7;clear hon;have HQ2:=Lh (HQ.out.setNb d0 d1 d2 d3 d4 d5 d6 d7);have HI2:=Lh (And.intro (HI.out.1.kt (HQ.out.ktNb [d0,d1,d2,d3,d4,d5,d6,d7] (by decide)) (HQ.out.ktNb [d0,d1,d2,d3,d4,d5,d6,d7] (by decide)) (HQ.out.ktNb [d0,d1,d2,d3,d4,d5,d6,d7] (by decide)) (Nat.le_of_eq (setN_size _ 0).symm)) (Sl.kt (HQ.out.ktNb [d0,d1,d2,d3,d4,d5,d6,d7] (by decide)) HI.out.2))
 change Hid (D8 _ _ _ _ _ _ _ _ _ ((((((((w1.setCell ⟨w.heap.size+1+1+1+1+1,0,none⟩ (d0)).setCell ⟨w.heap.size+1+1+1+1+1,1,none⟩ (d1)).setCell ⟨w.heap.size+1+1+1+1+1,2,none⟩ (d2)).setCell ⟨w.heap.size+1+1+1+1+1,3,none⟩ (d3)).setCell ⟨w.heap.size+1+1+1+1+1,4,none⟩ (d4)).setCell ⟨w.heap.size+1+1+1+1+1,5,none⟩ (d5)).setCell ⟨w.heap.size+1+1+1+1+1,6,none⟩ (d6)).setCell ⟨w.heap.size+1+1+1+1+1,7,none⟩ (d7))) at HQ2
 change Hid (IsV ((((((((w1.setCell ⟨w.heap.size+1+1+1+1+1,0,none⟩ (d0)).setCell ⟨w.heap.size+1+1+1+1+1,1,none⟩ (d1)).setCell ⟨w.heap.size+1+1+1+1+1,2,none⟩ (d2)).setCell ⟨w.heap.size+1+1+1+1+1,3,none⟩ (d3)).setCell ⟨w.heap.size+1+1+1+1+1,4,none⟩ (d4)).setCell ⟨w.heap.size+1+1+1+1+1,5,none⟩ (d5)).setCell ⟨w.heap.size+1+1+1+1+1,6,none⟩ (d6)).setCell ⟨w.heap.size+1+1+1+1+1,7,none⟩ (d7)) _ _ _∧IsVC ((((((((w1.setCell ⟨w.heap.size+1+1+1+1+1,0,none⟩ (d0)).setCell ⟨w.heap.size+1+1+1+1+1,1,none⟩ (d1)).setCell ⟨w.heap.size+1+1+1+1+1,2,none⟩ (d2)).setCell ⟨w.heap.size+1+1+1+1+1,3,none⟩ (d3)).setCell ⟨w.heap.size+1+1+1+1+1,4,none⟩ (d4)).setCell ⟨w.heap.size+1+1+1+1+1,5,none⟩ (d5)).setCell ⟨w.heap.size+1+1+1+1+1,6,none⟩ (d6)).setCell ⟨w.heap.size+1+1+1+1+1,7,none⟩ (d7)) _ _) at HI2
 generalize hWN:(((((((w1.setCell ⟨w.heap.size+1+1+1+1+1,0,none⟩ (d0)).setCell ⟨w.heap.size+1+1+1+1+1,1,none⟩ (d1)).setCell ⟨w.heap.size+1+1+1+1+1,2,none⟩ (d2)).setCell ⟨w.heap.size+1+1+1+1+1,3,none⟩ (d3)).setCell ⟨w.heap.size+1+1+1+1+1,4,none⟩ (d4)).setCell ⟨w.heap.size+1+1+1+1+1,5,none⟩ (d5)).setCell ⟨w.heap.size+1+1+1+1+1,6,none⟩ (d6)).setCell ⟨w.heap.size+1+1+1+1+1,7,none⟩ (d7)=w2 at *
 have o0 := HQ2.out.ob.c6;have fo0 := HQ2.out.ob.f6;have HQ3:=Lh (HQ2.out.setOb x);have HI3:=Lh (And.intro (IsV.setO HQ2.out.ob HI2.out.1 HVN.out.1.rl x) (Sl.kt (KT.setN (by decide) (oqL x) 0 HQ2.out.ob) HI2.out.2))
 change Hid (D8 _ _ _ _ _ _ _ _ _ ((((((w2.setCell ⟨w.heap.size+1+1+1+1+1+1+1,0,none⟩ x.k).setCell ⟨w.heap.size+1+1+1+1+1+1+1,1,none⟩ x.c).setCell ⟨w.heap.size+1+1+1+1+1+1+1,2,none⟩ x.s).setCell ⟨w.heap.size+1+1+1+1+1+1+1,3,none⟩ x.a).setCell ⟨w.heap.size+1+1+1+1+1+1+1,4,none⟩ x.n).setCell ⟨w.heap.size+1+1+1+1+1+1+1,5,none⟩ (.int .i32 x.ch))) at HQ3
 change Hid (IsV ((((((w2.setCell ⟨w.heap.size+1+1+1+1+1+1+1,0,none⟩ x.k).setCell ⟨w.heap.size+1+1+1+1+1+1+1,1,none⟩ x.c).setCell ⟨w.heap.size+1+1+1+1+1+1+1,2,none⟩ x.s).setCell ⟨w.heap.size+1+1+1+1+1+1+1,3,none⟩ x.a).setCell ⟨w.heap.size+1+1+1+1+1+1+1,4,none⟩ x.n).setCell ⟨w.heap.size+1+1+1+1+1+1+1,5,none⟩ (.int .i32 x.ch)) _ _ _∧Sl _ _ _ ((((((w2.setCell ⟨w.heap.size+1+1+1+1+1+1+1,0,none⟩ x.k).setCell ⟨w.heap.size+1+1+1+1+1+1+1,1,none⟩ x.c).setCell ⟨w.heap.size+1+1+1+1+1+1+1,2,none⟩ x.s).setCell ⟨w.heap.size+1+1+1+1+1+1+1,3,none⟩ x.a).setCell ⟨w.heap.size+1+1+1+1+1+1+1,4,none⟩ x.n).setCell ⟨w.heap.size+1+1+1+1+1+1+1,5,none⟩ (.int .i32 x.ch)) _ _) at HI3
 generalize hWO:(((((w2.setCell ⟨w.heap.size+1+1+1+1+1+1+1,0,none⟩ x.k).setCell ⟨w.heap.size+1+1+1+1+1+1+1,1,none⟩ x.c).setCell ⟨w.heap.size+1+1+1+1+1+1+1,2,none⟩ x.s).setCell ⟨w.heap.size+1+1+1+1+1+1+1,3,none⟩ x.a).setCell ⟨w.heap.size+1+1+1+1+1+1+1,4,none⟩ x.n).setCell ⟨w.heap.size+1+1+1+1+1+1+1,5,none⟩ (.int .i32 x.ch)=w3 at *
 have y0 := HQ3.out.bm.c2;have a7:=HQ3.out.ba.cell 7 rfl;have a8:=HQ3.out.ba.cell 8 rfl;have a9:=HQ3.out.ba.cell 9 rfl;refine Lh ?_;go_wp2_with (go_at_call 41; refine (HRR.out _ HQ3.out.bel).mono ?_; rintro e w4 ⟨u1,u2,u3,rfl,g1,g2,g3,hb⟩; obtain ⟨b1,p1,rfl,e1,e2⟩:=g1.form; obtain ⟨b2,p2,rfl,e3,e4⟩:=g2.form; obtain ⟨b3,p3,rfl,e5,e6⟩:=g3.form; refine Hid.out ?_)
 have HQ4:=Lh (HQ3.out.next hb);have HI4:=Lh (And.intro (HI3.out.1.next hb) (And.intro (Sl.next HI3.out.2 hb) (And.intro g1 (And.intro g2 g3))));clear HQ HI HQ2 HI2 HQ3 HI3 g1 g2 g3 hb HRR hWN hWO y0 a7 a8 a9 n0 fn0 n1 fn1 n2 fn2 n3 fn3 n4 fn4 n5 fn5 n6 fn6 n7 fn7 o0 fo0;have z0 := HQ4.out.mb.c2;have fz0 := HQ4.out.mb.f2;have HQ5:=Lh (HQ4.out.setMb (.slice b1 m2.length p1) (.slice b2 l2.length p2));have HI5:=Lh (And.intro (HI4.out.1.kt (HQ4.out.ktMb [.slice b1 m2.length p1,.slice b2 l2.length p2] (by decide)) (HQ4.out.ktMb [.slice b1 m2.length p1,.slice b2 l2.length p2] (by decide)) (HQ4.out.ktMb [.slice b1 m2.length p1,.slice b2 l2.length p2] (by decide)) (Nat.le_of_eq (setN_size _ 0).symm)) (And.intro (Sl.kt (HQ4.out.ktMb [.slice b1 m2.length p1,.slice b2 l2.length p2] (by decide)) HI4.out.2.1) (And.intro (Sl.kt (HQ4.out.ktMb [.slice b1 m2.length p1,.slice b2 l2.length p2] (by decide)) HI4.out.2.2.1) (And.intro (Sl.kt (HQ4.out.ktMb [.slice b1 m2.length p1,.slice b2 l2.length p2] (by decide)) HI4.out.2.2.2.1) (Sl.kt (HQ4.out.ktMb [.slice b1 m2.length p1,.slice b2 l2.length p2] (by decide)) HI4.out.2.2.2.2)))))
 change Hid (D8 _ _ _ _ _ _ _ _ _ ((w4.setCell ⟨w.heap.size+1+1+1+1+1+1,0,none⟩ (.slice b1 m2.length p1)).setCell ⟨w.heap.size+1+1+1+1+1+1,1,none⟩ (.slice b2 l2.length p2))) at HQ5
 change Hid (IsV ((w4.setCell ⟨w.heap.size+1+1+1+1+1+1,0,none⟩ (.slice b1 m2.length p1)).setCell ⟨w.heap.size+1+1+1+1+1+1,1,none⟩ (.slice b2 l2.length p2)) _ _ _∧Sl _ _ _ ((w4.setCell ⟨w.heap.size+1+1+1+1+1+1,0,none⟩ (.slice b1 m2.length p1)).setCell ⟨w.heap.size+1+1+1+1+1+1,1,none⟩ (.slice b2 l2.length p2)) _ _∧Sl _ _ _ ((w4.setCell ⟨w.heap.size+1+1+1+1+1+1,0,none⟩ (.slice b1 m2.length p1)).setCell ⟨w.heap.size+1+1+1+1+1+1,1,none⟩ (.slice b2 l2.length p2)) _ _∧Sl _ _ _ ((w4.setCell ⟨w.heap.size+1+1+1+1+1+1,0,none⟩ (.slice b1 m2.length p1)).setCell ⟨w.heap.size+1+1+1+1+1+1,1,none⟩ (.slice b2 l2.length p2)) _ _∧Sl _ _ _ ((w4.setCell ⟨w.heap.size+1+1+1+1+1+1,0,none⟩ (.slice b1 m2.length p1)).setCell ⟨w.heap.size+1+1+1+1+1+1,1,none⟩ (.slice b2 l2.length p2)) _ _) at HI5
 generalize hWP:(w4.setCell ⟨w.heap.size+1+1+1+1+1+1,0,none⟩ (.slice b1 m2.length p1)).setCell ⟨w.heap.size+1+1+1+1+1+1,1,none⟩ (.slice b2 l2.length p2)=w5 at *
 have q0 := HQ5.out.xb.c6;have fq0 := HQ5.out.xb.f6;have HE8:=Lh (show E8 w [d0,d1,d2,d3,d4,d5,d6,d7] (.slice b1 m2.length p1) (.slice b2 l2.length p2) (.slice al h2.length pl) (.slice b3 h2.length p3) x m2 l2 h2 [.pointer none,.pointer none,.int .i64 0,.slice none 0 0,.int .i64 0,.int .i64 0,.complex .f64 0 0,.complex .f64 0 0] [.slice none 0 0,.slice none 0 0] (setN w5 (w.heap.size+1+1+1+1+1+1+1+1) 0 (oqL x)) from (let h:=HQ5.out.setXb x; ⟨h.bel,h.r1,h.r2,h.nb,h.mb,h.ob,h.xb,HI5.out.1.kt (KT.setN (by decide) (oqL x) 0 HQ5.out.xb) (KT.setN (by decide) (oqL x) 0 HQ5.out.xb) (KT.setN (by decide) (oqL x) 0 HQ5.out.xb) (Nat.le_of_eq (setN_size _ 0).symm),Sl.setZ HQ5.out.xb HI5.out.2.2.1 HVN.out.1.rm x,Sl.setZ HQ5.out.xb HI5.out.2.2.2.1 HVN.out.1.rl x,Sl.kt (KT.setN (by decide) (oqL x) 0 HQ5.out.xb) HI5.out.2.1,Sl.kt (KT.setN (by decide) (oqL x) 0 HQ5.out.xb) HI5.out.2.2.2.2⟩))
 change Hid (E8 _ _ _ _ _ _ _ _ _ _ _ _ ((((((w5.setCell ⟨w.heap.size+1+1+1+1+1+1+1+1,0,none⟩ x.k).setCell ⟨w.heap.size+1+1+1+1+1+1+1+1,1,none⟩ x.c).setCell ⟨w.heap.size+1+1+1+1+1+1+1+1,2,none⟩ x.s).setCell ⟨w.heap.size+1+1+1+1+1+1+1+1,3,none⟩ x.a).setCell ⟨w.heap.size+1+1+1+1+1+1+1+1,4,none⟩ x.n).setCell ⟨w.heap.size+1+1+1+1+1+1+1+1,5,none⟩ (.int .i32 x.ch))) at HE8
 generalize hWX:(((((w5.setCell ⟨w.heap.size+1+1+1+1+1+1+1+1,0,none⟩ x.k).setCell ⟨w.heap.size+1+1+1+1+1+1+1+1,1,none⟩ x.c).setCell ⟨w.heap.size+1+1+1+1+1+1+1+1,2,none⟩ x.s).setCell ⟨w.heap.size+1+1+1+1+1+1+1+1,3,none⟩ x.a).setCell ⟨w.heap.size+1+1+1+1+1+1+1+1,4,none⟩ x.n).setCell ⟨w.heap.size+1+1+1+1+1+1+1+1,5,none⟩ (.int .i32 x.ch)=w6 at *
 refine Lh ?_;go_wp2_with fail
 clear HQ4 HI4 HQ5 HI5 hWP hWX z0 fz0 q0 fq0;have hdum:=trivial;have HE9:=Lh (HE8.out.next bdq);refine rgH (fun W=>Cc8 W (w.heap.size+1+1+1+1+1) d0 d1 d2 d3 d4 d5 d6 d7 (Cc2 W (w.heap.size+1+1+1+1+1+1) (.slice b1 m2.length p1) (.slice b2 l2.length p2) (Cc6 W (w.heap.size+1+1+1+1+1+1+1) x.k x.c x.s x.a x.n (.int .i32 x.ch) (Cz6 W (w.heap.size+1+1+1+1+1+1+1+1) x.k x.c x.s x.a x.n (.int .i32 x.ch))))) (let h:=HE9.out; (h.nb.d8 (h.mb.d2 (h.ob.d6 h.xb.c6)))) fun hHeld=>?_
 clear hdum HE8;generalize w6.drew=x1 at *
 refine tq 0 (.agg #[d0,d1,d2,d3,d4,d5,d6,d7]) hHeld ?_;refine tq 1 (.agg #[.slice b1 m2.length p1,.slice b2 l2.length p2]) hHeld ?_;refine tq 2 E hHeld ?_;refine tq 3 E hHeld ?_;refine tq 4 (.bool true) hHeld ?_;refine tq 5 (.bool true) hHeld ?_;refine tq 6 (.agg #[x.k,x.c,x.s,x.a,x.n,.int .i32 x.ch]) hHeld ?_;refine tq 8 (.agg #[x.k,x.c,x.s,x.a,x.n,.int .i32 x.ch]) hHeld ?_;refine rd1 7 (by kernel_rfl) rfl fun KK hK=>?_
 go_simp
 refine (of5_any x.k x.c x.s x.a x.n x.ch _).mono ?_
 rintro e' x2 ⟨rfl,hb⟩
 go_wp2_with fail
 refine hK.out _ _ ((let h:=HE9.out.next hb; (h.nb.d8 (h.mb.d2 (h.ob.d6 h.xb.c6))))) ?_;clear hK KK hHeld;intro hHeld
 try simp only [LAY]
 have HE10:=Lh (HE9.out.next hb);clear HE9 hb;refine tq 9 (.bool true) hHeld ?_;refine tq 10 (.bool true) hHeld ?_;refine tq 11 (.bool true) hHeld ?_;refine tq 12 (.slice al h2.length pl) hHeld ?_;refine tq 13 (.slice b3 h2.length p3) hHeld ?_;refine rd1 14 (by kernel_rfl) rfl fun KK hK=>?_
 go_simp
 refine (changes_any h2 _ _ _ HE10.out.ic HE10.out.rc).mono ?_
 rintro e' x3 ⟨rfl,hb⟩
 go_wp2_with fail
 refine hK.out _ _ ((let h:=HE10.out.next hb; (h.nb.d8 (h.mb.d2 (h.ob.d6 h.xb.c6))))) ?_;clear hK KK hHeld;intro hHeld
 try simp only [LAY]
 have HE11:=Lh (HE10.out.next hb);clear HE10 hb;refine tq 15 (.bool true) hHeld ?_;refine tq 16 (.bool true) hHeld ?_;refine tq 17 (.agg #[d0,d1,d2,d3,d4,d5,d6,d7]) hHeld ?_;refine tq 18 (.agg #[.slice b1 m2.length p1,.slice b2 l2.length p2]) hHeld ?_;refine rd1 19 (by kernel_rfl) rfl fun KK hK=>?_
 go_simp
 refine (HIS.out m2 l2 HVN.out.1 _ _ _ _ _ _ _ _ _ _ _ HE11.out.iv HE11.out.io HE11.out.il (HPT.out.1.next HE11.out.bel) (HPT.out.2.next HE11.out.bel)).mono ?_
 rintro e' x4 ⟨rfl,hb⟩
 go_wp2_with fail
 refine hK.out _ _ ((let h:=HE11.out.next hb; (h.nb.d8 (h.mb.d2 (h.ob.d6 h.xb.c6))))) ?_;clear hK KK hHeld;intro hHeld
 try simp only [LAY]
 have HE12:=Lh (HE11.out.next hb);clear HE11 hb;obtain ⟨r0,r1,r2,r3,r4,r5,r6,r7⟩:=HE12.out.r1.c8;have fr0 := HE12.out.r1.f8;refine tq 20 (.bool true) hHeld ?_;refine rd1 21 (by kernel_rfl) rfl fun KK hK=>?_
 go_simp
 go_wp2_with fail
 refine hK.out _ _ ((let h:=HE12.out.set1; (h.nb.d8 (h.mb.d2 (h.ob.d6 h.xb.c6))))) ?_;clear hK KK hHeld;intro hHeld
 try simp only [LAY]
 have HE13:=Lh HE12.out.set1;clear HE12 r0 fr0 r1 r2 r3 r4 r5 r6 r7;generalize (((((((x4.setCell ⟨w.heap.size+1+1+1,0,none⟩ (d0)).setCell ⟨w.heap.size+1+1+1,1,none⟩ (d1)).setCell ⟨w.heap.size+1+1+1,2,none⟩ (d2)).setCell ⟨w.heap.size+1+1+1,3,none⟩ (d3)).setCell ⟨w.heap.size+1+1+1,4,none⟩ (d4)).setCell ⟨w.heap.size+1+1+1,5,none⟩ (d5)).setCell ⟨w.heap.size+1+1+1,6,none⟩ (d6)).setCell ⟨w.heap.size+1+1+1,7,none⟩ (d7)=x5 at *
 have s0 := HE13.out.r2.c2;have fs0 := HE13.out.r2.f2;refine rd1 22 (by kernel_rfl) rfl fun KK hK=>?_
 go_simp
 go_wp2_with fail
 refine hK.out _ _ ((let h:=HE13.out.set2; (h.nb.d8 (h.mb.d2 (h.ob.d6 h.xb.c6))))) ?_;clear hK KK hHeld;intro hHeld
 try simp only [LAY]
 have HE14:=Lh HE13.out.set2;clear HE13 s0 fs0;generalize (x5.setCell ⟨w.heap.size+1+1+1+1,0,none⟩ (.slice b1 m2.length p1)).setCell ⟨w.heap.size+1+1+1+1,1,none⟩ (.slice b2 l2.length p2)=x6 at *
 refine tq 23 (.bool true) hHeld ?_;refine dnH ?_;clear hHeld;obtain ⟨r0,r1,r2,r3,r4,r5,r6,r7⟩:=HE14.out.r1.c8;have s0 := HE14.out.r2.c2;go_wp2_with fail
 refine bodyPost_ret (v:=.tuple #[.agg #[d0,d1,d2,d3,d4,d5,d6,d7],.agg #[.slice b1 m2.length p1,.slice b2 l2.length p2],.bool true]) (by simp [results, Tryz.results20, go_sem, s0, r0, r1, r2, r3, r4, r5, r6, r7]) rfl ?_;exact ⟨HE14.out.bel,_,_,_,_,_,_,_,_,_,_,m2,l2,rfl,HVN.out,HE14.out.iv,HE14.out.io,HE14.out.il⟩
end Go.Proofs.YtifnijmienmmbaaGreatDoor
