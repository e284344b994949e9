import Derived.Test.YtemicfjmidohfaaGreatDoorMi14
import Derived.Test.YtemicfjmidohfaaGreatDoorCur
import Derived.Test.YtemicfjmidohfaaGreatDoorDc
import Derived.Deep.MidRow
set_option maxRecDepth 100000
set_option maxHeartbeats 12800000
namespace Go.Proofs.YtemicfjmidohfaaGreatDoor
open Go Go.Proofs Go.RowKit
def ansV (e n:Int) (t:ByteArray):Ans:=if e=0 then ⟨0,n,t⟩ else badA e
theorem run_enter {P:Program} {f:FuncId} {fn:Func} {c:Code} (hf:P.funcs[f]? = some fn) (hname:(fn.name == "runtime.NumGoroutine")=false) (hb:fn.body=some c) (args:Array Value) (w:World):(callFunc f args).run P w=.ok (.enter f args) w:=by
 have h1:fn.name ≠ "runtime.NumGoroutine" := by simpa using hname
 simp [callFunc,hf,h1,hb]
structure Bx3 (w:World) (L0 L1 L2:List Value) (t0 t1 t2:TypeId) (W:World):Prop where
 bel:Below w.heap.size w W
 b0:Blk W w.heap.size L0 t0
 b1:Blk W (w.heap.size+1) L1 t1
 b2:Blk W (w.heap.size+1+1) L2 t2
structure Bx4 (w:World) (L0 L1 L2 L3:List Value) (t0 t1 t2 t3:TypeId) (W:World):Prop extends Bx3 w L0 L1 L2 t0 t1 t2 W where
 b3:Blk W (w.heap.size+1+1+1) L3 t3
section
variable {w W:World} {L0 L1 L2 L3:List Value} {t0 t1 t2 t3:TypeId}
theorem Bx3.next {W':World} (h:Bx3 w L0 L1 L2 t0 t1 t2 W) (hb:Below W.heap.size W W'):Bx3 w L0 L1 L2 t0 t1 t2 W':=⟨h.bel.trans (hb.mono h.bel.size),h.b0.next hb,h.b1.next hb,h.b2.next hb⟩
theorem Bx4.next {W':World} (h:Bx4 w L0 L1 L2 L3 t0 t1 t2 t3 W) (hb:Below W.heap.size W W'):Bx4 w L0 L1 L2 L3 t0 t1 t2 t3 W':=⟨h.toBx3.next hb,h.b3.next hb⟩
theorem Bx3.start:Bx3 w L0 L1 L2 t0 t1 t2 (((w.alloc (.cells ⟨L0⟩ t0)).alloc (.cells ⟨L1⟩ t1)).alloc (.cells ⟨L2⟩ t2)):=
 ⟨((bA).alloc (by simp) _).alloc (by simp; omega) _,((Blk.startAt rfl).alloc _).alloc _,(Blk.startAt (by simp)).alloc _,Blk.startAt (by simp)⟩
theorem Bx4.start:Bx4 w L0 L1 L2 L3 t0 t1 t2 t3 ((((w.alloc (.cells ⟨L0⟩ t0)).alloc (.cells ⟨L1⟩ t1)).alloc (.cells ⟨L2⟩ t2)).alloc (.cells ⟨L3⟩ t3)):=
 ⟨Bx3.start.next (bA),Blk.startAt (by simp)⟩
theorem Bx3.p2 (h:Bx3 w L0 L1 L2 t0 t1 t2 W) (vs:List Value) (i:Nat):Bx3 w L0 L1 (putN L2 i vs) t0 t1 t2 (setN W (w.heap.size+1+1) i vs):=
 ⟨setN_below (by omega) _ _ h.bel,h.b0.setN (by omega) _ _,h.b1.setN (by omega) _ _,setN_blk _ _ h.b2⟩
theorem Bx4.p0 (h:Bx4 w L0 L1 L2 L3 t0 t1 t2 t3 W) (vs:List Value) (i:Nat):Bx4 w (putN L0 i vs) L1 L2 L3 t0 t1 t2 t3 (setN W w.heap.size i vs):=
 ⟨⟨setN_below (Nat.le_refl _) _ _ h.bel,setN_blk _ _ h.b0,h.b1.setN (by omega) _ _,h.b2.setN (by omega) _ _⟩,h.b3.setN (by omega) _ _⟩
theorem Bx4.p2 (h:Bx4 w L0 L1 L2 L3 t0 t1 t2 t3 W) (vs:List Value) (i:Nat):Bx4 w L0 L1 (putN L2 i vs) L3 t0 t1 t2 t3 (setN W (w.heap.size+1+1) i vs):=⟨h.toBx3.p2 vs i,h.b3.setN (by omega) _ _⟩
theorem Bx4.p3 (h:Bx4 w L0 L1 L2 L3 t0 t1 t2 t3 W) (vs:List Value) (i:Nat):Bx4 w L0 L1 L2 (putN L3 i vs) t0 t1 t2 t3 (setN W (w.heap.size+1+1+1) i vs):=
 ⟨⟨setN_below (by omega) _ _ h.bel,h.b0.setN (by omega) _ _,h.b1.setN (by omega) _ _,h.b2.setN (by omega) _ _⟩,setN_blk _ _ h.b3⟩
end
theorem setC_N (b:Nat):∀ (us:List Value) (i:Nat) (W:World),W.setCells b i us=setN W b i us
 | [],_,_=>rfl
 | _::us,i,_=>setC_N b us (i+1) _
theorem stN {P:Program} {md:Region.Mode} {ops:Array Oper} {Q:Exit→Act→World→Prop} {S:World→Prop} {fuel:Nat} {listed:Array Bool} {a:Act} {w:World} (i:Nat) {o:Oper} {ty:TypeId} {x y:Operand} {b:Nat} {zs:List Value} {t:TypeId}
  (hB:Blk w b zs t) (us:List Value) (h1:∀ u∈us,u.oneCell'=true) (hS:S (setN w b 0 us)) (h:S (setN w b 0 us)→wpAnyH P md ops Q S fuel (listed.setIfInBounds i true) a (setN w b 0 us))
  (hr:Region.ready md ops listed=[i]:=by kernel_rfl) (ho:ops.toList[i]? = some o:=by rfl) (hg:o.guard=none:=by rfl) (hd:o.dst=none:=by rfl) (hop:o.op=.store ty x y:=by rfl) (hx:a.eval x=.pointer (some ⟨b,0,none⟩):=by rfl) (hy:a.eval y=.agg us.toArray:=by rfl) (hl:zs.length=us.length:=by rfl) (hi:(P.info? ty).map (·.size)=some us.length:=by kernel_rfl):
  wpAnyH P md ops Q S (fuel+1) listed a w:=by
 refine rd1 i hr ho fun K hK=>?_
 have hw:Region.wanted o (yielded ops a.tmps)=true:=by simp [Region.wanted,hg]
 rw [if_pos hw];refine wp_store_mid ty x y hop b 0 us.toArray hx hy (fun j hj=>?_) (by simpa using hi) (all_oneCell_toArray h1) ?_
 ·rw [Nat.zero_add]; exact ⟨by rw [hB.cell j (List.getElem?_eq_getElem (by simpa [hl] using hj))]; rfl,hB.free j⟩
 ·rw [hd,List.toList_toArray,setC_N]; exact hK.out _ _ hS h
theorem IsV.setB {W:World} {m l:List Oq} {cs zs:List Value} {b:Nat} {t:TypeId} (h:IsV W m l cs) (hB:Blk W b zs t) (h1:t≠363) (h2:t≠353) (h3:t≠73) (us:List Value) (i:Nat):IsV (setN W b i us) m l cs:=
 h.kt (KT.setN h1 _ i hB) (KT.setN h2 _ i hB) (KT.setN h3 _ i hB) (Nat.le_of_eq (setN_size _ i).symm)
theorem opstr12 (x:Oq) (W:World) (h:Tabs W):Calls Tryz.prog 120 #[.agg x] W (Rt (.string (oT x)) W):=opstr_any x.k x.c x.s x.a x.n x.ch W h
theorem tallyStr_any (m l:List Oq) (n:Nat) (hV:VOk m l n) (hn:n≤130) (U:World) (hp:Pows U) (ht:Tabs U):Calls Tryz.prog 137 #[.agg #[.int .i64 (nL (idsO m)),.complex .f64 (fl (cL (idsO m))) (fl (sL (idsO m))),.complex .f64 (fl (rL (idsO m))) (fl (iL (idsO m)))]] U (Rt (.string (sumT m)) U):=by
 have hlen:=hV.len;have hil:(idsO m).length≤900:=by have:=ids_len m; omega
 have hSU:=sums_L (ids_may hV.rm) (by omega);have hn0:nL (idsO m)=((idsO m).length:Int):=rfl;exact string_any (N:=nL (idsO m)) (by omega) (by omega) hSU.1 hSU.2.1 hSU.2.2.1 hSU.2.2.2 U hp ht.1
theorem put_10 {W w:World} {b B:Nat} {z0 z1 z2 z3 z4 z5 z6 z7 z8 z9:Value} {t:TypeId} (h:Blk W b [z0,z1,z2,z3,z4,z5,z6,z7,z8,z9] t) (hb:Below B w W) (hB:B≤b) (d0 d1 d2 d3 d4 d5 d6 d7 d8 d9:Value):Blk (setN W b 0 [d0,d1,d2,d3,d4,d5,d6,d7,d8,d9]) b [d0,d1,d2,d3,d4,d5,d6,d7,d8,d9] t∧Below B w (setN W b 0 [d0,d1,d2,d3,d4,d5,d6,d7,d8,d9]):=⟨setN_blk [d0,d1,d2,d3,d4,d5,d6,d7,d8,d9] 0 h,setN_below hB [d0,d1,d2,d3,d4,d5,d6,d7,d8,d9] 0 hb⟩
theorem put_8 {W w:World} {b B:Nat} {z0 z1 z2 z3 z4 z5 z6 z7:Value} {t:TypeId} (h:Blk W b [z0,z1,z2,z3,z4,z5,z6,z7] t) (hb:Below B w W) (hB:B≤b) (d0 d1 d2 d3 d4 d5 d6 d7:Value):Blk (setN W b 0 [d0,d1,d2,d3,d4,d5,d6,d7]) b [d0,d1,d2,d3,d4,d5,d6,d7] t∧Below B w (setN W b 0 [d0,d1,d2,d3,d4,d5,d6,d7]):=⟨setN_blk [d0,d1,d2,d3,d4,d5,d6,d7] 0 h,setN_below hB [d0,d1,d2,d3,d4,d5,d6,d7] 0 hb⟩
theorem put_3 {W w:World} {b B:Nat} {z0 z1 z2:Value} {t:TypeId} (h:Blk W b [z0,z1,z2] t) (hb:Below B w W) (hB:B≤b) (d0 d1 d2:Value):Blk (setN W b 0 [d0,d1,d2]) b [d0,d1,d2] t∧Below B w (setN W b 0 [d0,d1,d2]):=⟨setN_blk [d0,d1,d2] 0 h,setN_below hB [d0,d1,d2] 0 hb⟩
theorem answer_any (n e:Int) (t:ByteArray) (w:World):Calls Tryz.prog 118 #[n,.string t,e] w (Rt (.agg #[.int .i64 (ansV e n t).e,.int .i64 (ansV e n t).n,.string (ansV e n t).t]) w):=by
 have H0:=Lh (And.intro (bl1 w [.int .i64 0,.int .i64 0,.string ⟨#[]⟩] 88) (Blk.start w [.int .i64 0,.int .i64 0,.string ⟨#[]⟩] 88));by_cases he:e=0
 ·have HX:=Lh (show ansV e n t=⟨0,n,t⟩ from if_pos he)
  generalize ansV e n t=x at *
  subst he
  go_enter Tryz.func118,Tryz.ntmps118
  go_upto_region 1 with fail
  generalize World.alloc _ _=X0 at *
  have q0 := H0.out.2.c3;have fq0 := H0.out.2.f3;have HP:=Lh (put_3 H0.out.2 H0.out.1 (Nat.le_refl _) (.int .i64 0) n (.string t));simp only [setN, Nat.zero_add, Nat.reduceAdd] at HP
  go_wp2_with fail
  have t0 := HP.out.1.c3;exact bodyPost_ret (v:=.agg #[.int .i64 0,n,.string t]) (by simp [results, Tryz.results118, go_sem, t0]) rfl ⟨by rw [HX.out] <;> rfl,HP.out.2⟩
 ·have HX:=Lh (show ansV e n t=badA e from if_neg he)
  generalize ansV e n t=x at *
  have he':(e==0)=false:=by simpa using he
  clear he
  go_enter Tryz.func118,Tryz.ntmps118
  go_upto_region 1 with fail
  generalize World.alloc _ _=X0 at *
  have q0 := H0.out.2.c3;have fq0 := H0.out.2.f3;have HP:=Lh (put_3 H0.out.2 H0.out.1 (Nat.le_refl _) e (.int .i64 0) (.string ⟨#[]⟩));simp only [setN, Nat.zero_add, Nat.reduceAdd] at HP
  go_wp2_with fail
  have t0 := HP.out.1.c3;exact bodyPost_ret (v:=.agg #[e,.int .i64 0,.string ⟨#[]⟩]) (by simp [results, Tryz.results118, go_sem, t0]) rfl ⟨by rw [HX.out] <;> rfl,HP.out.2⟩
theorem rnew_ok:PNewOk:=by
 intro s w
 have sc := @st_complex;have H0:=Lh (And.intro (bl1 w [.int .i64 0,.bool false,.pointer none,.pointer none,.int .i64 0,.slice none 0 0,.int .i64 0,.int .i64 0,.complex .f64 0 0,.complex .f64 0 0] 45) (Blk.start w [.int .i64 0,.bool false,.pointer none,.pointer none,.int .i64 0,.slice none 0 0,.int .i64 0,.int .i64 0,.complex .f64 0 0,.complex .f64 0 0] 45));have HNE:=Lh (show newE s=if s<1∨1000<s then 2 else 0 from rfl);have HNR:=Lh (show newR s=if s<1∨1000<s then ⟨0,[],[],false⟩ else ⟨s,[],[],false⟩ from rfl);generalize newE s=E at *
 generalize newR s=R at *
 go_enter Tryz.func33,Tryz.ntmps33
 go_upto_region 1 with fail
 generalize World.alloc _ _=X0 at *
 have n0 := H0.out.2.c10;have fn0 := H0.out.2.f10;by_cases h1:s<1
 ·skip
  have HE:=Lh (And.intro (HNE.out.trans (if_pos (by omega))) (HNR.out.trans (if_pos (by omega))));clear HNE HNR;have HP:=Lh (put_10 H0.out.2 H0.out.1 (Nat.le_refl _) (.int .i64 0) (.bool false) (.pointer none) (.pointer none) (.int .i64 0) (.slice none 0 0) (.int .i64 0) (.int .i64 0) (.complex .f64 0 0) (.complex .f64 0 0));simp only [setN, Nat.zero_add, Nat.reduceAdd] at HP
  go_wp2_with fail
  have p0 := HP.out.1.c10;exact bodyPost_ret (v:=.tuple #[.agg #[.int .i64 0,.bool false,.pointer none,.pointer none,.int .i64 0,.slice none 0 0,.int .i64 0,.int .i64 0,.complex .f64 0 0,.complex .f64 0 0],.int .i64 2]) (by simp [results, Tryz.results33, go_sem, p0]) rfl ⟨HP.out.2,_,_,_,_,_,_,_,_,_,_,by rw [HE.out.1],by rw [HE.out.2]; exact ⟨_,_,_,_,_,_,_,_,isv_nil _,rfl⟩⟩
 by_cases h2:1000<s
 ·skip
  have HE:=Lh (And.intro (HNE.out.trans (if_pos (by omega))) (HNR.out.trans (if_pos (by omega))));clear HNE HNR;have HP:=Lh (put_10 H0.out.2 H0.out.1 (Nat.le_refl _) (.int .i64 0) (.bool false) (.pointer none) (.pointer none) (.int .i64 0) (.slice none 0 0) (.int .i64 0) (.int .i64 0) (.complex .f64 0 0) (.complex .f64 0 0));simp only [setN, Nat.zero_add, Nat.reduceAdd] at HP
  go_wp2_with fail
  have p0 := HP.out.1.c10;exact bodyPost_ret (v:=.tuple #[.agg #[.int .i64 0,.bool false,.pointer none,.pointer none,.int .i64 0,.slice none 0 0,.int .i64 0,.int .i64 0,.complex .f64 0 0,.complex .f64 0 0],.int .i64 2]) (by simp [results, Tryz.results33, go_sem, p0]) rfl ⟨HP.out.2,_,_,_,_,_,_,_,_,_,_,by rw [HE.out.1],by rw [HE.out.2]; exact ⟨_,_,_,_,_,_,_,_,isv_nil _,rfl⟩⟩
 have HE:=Lh (And.intro (HNE.out.trans (if_neg (by omega))) (HNR.out.trans (if_neg (by omega))));have HS:=Lh (show (!shutB ⟨s,[],[],false⟩)=true by simp [shutB]; omega);clear HNE HNR;have HP:=Lh (put_10 H0.out.2 H0.out.1 (Nat.le_refl _) s (.bool true) (.pointer none) (.pointer none) (.int .i64 0) (.slice none 0 0) (.int .i64 0) (.int .i64 0) (.complex .f64 0 0) (.complex .f64 0 0));simp only [setN, Nat.zero_add, Nat.reduceAdd] at HP
 go_wp2_with fail
 have p0 := HP.out.1.c10;exact bodyPost_ret (v:=.tuple #[.agg #[s,.bool true,.pointer none,.pointer none,.int .i64 0,.slice none 0 0,.int .i64 0,.int .i64 0,.complex .f64 0 0,.complex .f64 0 0],.int .i64 0]) (by simp [results, Tryz.results33, go_sem, p0]) rfl ⟨HP.out.2,_,_,_,_,_,_,_,_,_,_,by rw [HE.out.1],by rw [HE.out.2]; exact ⟨_,_,_,_,_,_,_,_,isv_nil _,by rw [HS.out]⟩⟩
theorem rcl_any (s:Int) (o:Bool) (v0 v1 v2 v3 v4 v5 v6 v7:Value) (w:World):Calls Tryz.prog 150 #[.agg #[s,.bool (!o),v0,v1,v2,v3,v4,v5,v6,v7]] w (Rt (.bool o) w):=by
 cases o;have H0:=Lh (And.intro (bl1 w [s,.bool true,v0,v1,v2,v3,v4,v5,v6,v7] 45) (Blk.start w [s,.bool true,v0,v1,v2,v3,v4,v5,v6,v7] 45));rotate_left;have H0:=Lh (And.intro (bl1 w [s,.bool false,v0,v1,v2,v3,v4,v5,v6,v7] 45) (Blk.start w [s,.bool false,v0,v1,v2,v3,v4,v5,v6,v7] 45));rotate_left
 all_goals
  go_enter Tryz.func150,Tryz.ntmps150;go_upto_region 1 with fail;generalize World.alloc _ _=X0 at *;have x0 := H0.out.2.c10;go_wp2_with fail;go_ret;exact ⟨rfl,H0.out.1⟩
theorem rshut_ok:PShutOk:=by
 intro r n c0 c1 c2 c3 c4 c5 c6 c7 c8 c9 w hR hn hS
 obtain ⟨v0,v1,v2,v3,v4,v5,v6,v7,hV,hcs⟩:=hS.ex;simp only [List.cons.injEq,and_true] at hcs
 obtain ⟨rfl,rfl,rfl,rfl,rfl,rfl,rfl,rfl,rfl,rfl⟩:=hcs;exact rcl_any r.s (shutB r) c2 c3 c4 c5 c6 c7 c8 c9 w
end Go.Proofs.YtemicfjmidohfaaGreatDoor
set_option maxRecDepth 100000
set_option maxHeartbeats 12800000
namespace Go.Proofs.YtemicfjmidohfaaGreatDoor
open Go Go.Proofs Go.RowKit
def WPost (w:World) (T:List Oq×List Oq×List Chg) (x:Ans):Ending→World→Prop:=fun e w'=>Below w.heap.size w w'∧∃ d0 d1 d2 d3 d4 d5 d6 d7 lc,e=.returned (.tuple #[.agg #[d0,d1,d2,d3,d4,d5,d6,d7],.agg #[x.e,x.n,.string x.t],lc])∧IsV w' T.1 T.2.1 [d0,d1,d2,d3,d4,d5,d6,d7]∧IsVC w' lc T.2.2
def LPost (w:World) (x:Ans):Ending→World→Prop:=fun e w'=>e=.returned (.agg #[x.e,x.n,.string x.t])∧Below w.heap.size w w'
structure G13 (w:World) (bV:Nat) (L0 L1 L2 L3 us:List Value) (tm tl:List Oq) (tc:List Chg) (lc:Value) (W:World):Prop extends Bx4 w L0 L1 L2 L3 45 75 43 88 W where
 bv:Blk W bV us 43
 iv:IsV W tm tl us
 ic:IsVC W lc tc
 lt:w.heap.size+1+1+1<bV
section
variable {w W:World} {bV:Nat} {L0 L1 L2 L3 us:List Value} {tm tl:List Oq} {tc:List Chg} {lc:Value}
theorem G13.next {W':World} (h:G13 w bV L0 L1 L2 L3 us tm tl tc lc W) (hb:Below W.heap.size W W'):G13 w bV L0 L1 L2 L3 us tm tl tc lc W':=⟨h.toBx4.next hb,h.bv.next hb,h.iv.next hb,h.ic.next hb,h.lt⟩
theorem G13.p2 (h:G13 w bV L0 L1 L2 L3 us tm tl tc lc W) (vs:List Value):G13 w bV L0 L1 (putN L2 0 vs) L3 us tm tl tc lc (setN W (w.heap.size+1+1) 0 vs):=
 ⟨h.toBx4.p2 vs 0,h.bv.setN (by have:=h.lt; omega) _ _,h.iv.setB h.b2 (by decide) (by decide) (by decide) _ _,Sl.kt (KT.setN (by decide) _ _ h.b2) h.ic,h.lt⟩
theorem G13.p3 (h:G13 w bV L0 L1 L2 L3 us tm tl tc lc W) (vs:List Value):G13 w bV L0 L1 L2 (putN L3 0 vs) us tm tl tc lc (setN W (w.heap.size+1+1+1) 0 vs):=
 ⟨h.toBx4.p3 vs 0,h.bv.setN (by have:=h.lt; omega) _ _,h.iv.setB h.b3 (by decide) (by decide) (by decide) _ _,Sl.kt (KT.setN (by decide) _ _ h.b3) h.ic,h.lt⟩
def GX (w:World) (bV:Nat) (L0 L1 us:List Value) (tm tl:List Oq) (tc:List Chg) (lc:Value) (W:World):Prop:=∃ a0 a1 a2 a3 a4 a5 a6 a7 b0 b1 b2,G13 w bV L0 L1 [a0,a1,a2,a3,a4,a5,a6,a7] [b0,b1,b2] us tm tl tc lc W
theorem GX.of {a0 a1 a2 a3 a4 a5 a6 a7 b0 b1 b2:Value} (h:G13 w bV L0 L1 [a0,a1,a2,a3,a4,a5,a6,a7] [b0,b1,b2] us tm tl tc lc W):GX w bV L0 L1 us tm tl tc lc W:=⟨_,_,_,_,_,_,_,_,_,_,_,h⟩
theorem GX.next {W':World} (h:GX w bV L0 L1 us tm tl tc lc W) (hb:Below W.heap.size W W'):GX w bV L0 L1 us tm tl tc lc W':=by
 obtain ⟨_,_,_,_,_,_,_,_,_,_,_,h⟩:=h; exact .of (h.next hb)
theorem GX.v (h:GX w bV L0 L1 us tm tl tc lc W):Blk W bV us 43:=by obtain ⟨_,_,_,_,_,_,_,_,_,_,_,h⟩:=h; exact h.bv
theorem GX.i (h:GX w bV L0 L1 us tm tl tc lc W):IsV W tm tl us:=by obtain ⟨_,_,_,_,_,_,_,_,_,_,_,h⟩:=h; exact h.iv
theorem GX.e (h:GX w bV L0 L1 us tm tl tc lc W):Below w.heap.size w W:=by obtain ⟨_,_,_,_,_,_,_,_,_,_,_,h⟩:=h; exact h.bel
end
theorem dd1_ok (HV:VAll) (m l:List Oq) (n:Nat) (hV:VOk m l n) (hn:n≤120) (c:Cal) (s:Int) (hV2:VOk (inT8 m l s c.p c.ch c.lo c.hi).1 (inT8 m l s c.p c.ch c.lo c.hi).2.1 (n+1)) (ob:Bool) (v0 v1 v2 v3 v4 v5 v6 v7:Value) (w:World) (hS:IsV w m l [v0,v1,v2,v3,v4,v5,v6,v7]) (ht:Tabs w):
  Calls Tryz.prog 116 #[.agg #[s,.bool ob,v0,v1,v2,v3,v4,v5,v6,v7],.agg c] w (WPost w (inT8 m l s c.p c.ch c.lo c.hi) (ansV (inE8 m l s c.p c.ch c.lo c.hi) ((inT8 m l s c.p c.ch c.lo c.hi).1.length:Int) (oT (opP (inE8 m l s c.p c.ch c.lo c.hi) (inV8 m l s c.p c.ch c.lo c.hi))))):=by
 obtain ⟨sd0,sd1,sd2,sd3,sd4,sd5,sd6,sd7⟩:=st8 hS.one;have H0:=Lh (Bx4.start:Bx4 w [s,.bool ob,v0,v1,v2,v3,v4,v5,v6,v7] c [.pointer none,.pointer none,.int .i64 0,.slice none 0 0,.int .i64 0,.int .i64 0,.complex .f64 0 0,.complex .f64 0 0] [.int .i64 0,.int .i64 0,.string ⟨#[]⟩] 45 75 43 88 ((((w.alloc (.cells #[s,.bool ob,v0,v1,v2,v3,v4,v5,v6,v7] 45)).alloc (.cells c 75)).alloc (.cells #[.pointer none,.pointer none,.int .i64 0,.slice none 0 0,.int .i64 0,.int .i64 0,.complex .f64 0 0,.complex .f64 0 0] 43)).alloc (.cells #[.int .i64 0,.int .i64 0,.string ⟨#[]⟩] 88)));have HS:=Lh hS;have HTT:=Lh ht;have HC:=Lh (fun U (h:IsV U m l [v0,v1,v2,v3,v4,v5,v6,v7])=>HV.ins m l n s c.p c.ch c.lo c.hi v0 v1 v2 v3 v4 v5 v6 v7 U hV (by omega) c.p0 c.p1 h);generalize inE8 m l s c.p c.ch c.lo c.hi=E at *
 generalize inT8 m l s c.p c.ch c.lo c.hi=tt at *
 generalize opP E (inV8 m l s c.p c.ch c.lo c.hi)=x at *
 obtain ⟨tm,tl,tc⟩:=tt
 dsimp only at hV2 HC ⊢
 have HSQ:=Lh (fun U u0 u1 u2 u3 u4 u5 u6 u7 (h:IsV U tm tl [u0,u1,u2,u3,u4,u5,u6,u7])=>HV.seq tm tl (n+1) u0 u1 u2 u3 u4 u5 u6 u7 U hV2 (by omega) h);have HST:=Lh (fun U (h:Tabs U)=>opstr12 x U h);generalize oT x=tx at *
 have HAN:=Lh (fun U=>answer_any (tm.length:Int) E tx U);generalize ansV E (tm.length:Int) tx=an at *
 clear HV hV hn hV2 hS ht
 go_enter Tryz.func116,Tryz.ntmps116
 go_upto_region 1 with fail
 generalize World.alloc _ _=X0 at *
 have x0 := H0.out.b0.c10;have y0 := H0.out.b1.c11;go_wp2_with fail;refine (HC.out _ (HS.out.next H0.out.bel)).mono ?_;rintro e w1 ⟨hb,u0,u1,u2,u3,u4,u5,u6,u7,lc,y,rfl,rfl,hiv,hic⟩
 have HON:=Lh hiv.one;obtain ⟨se0,se1,se2,se3,se4,se5,se6,se7⟩:=st8 hiv.one;have hA:=bl2 w1 [u0,u1,u2,u3,u4,u5,u6,u7] y 43 73;have hF:=H0.out.next hb;have H2:=Lh (show G13 w w1.heap.size [s,.bool ob,v0,v1,v2,v3,v4,v5,v6,v7] c [.pointer none,.pointer none,.int .i64 0,.slice none 0 0,.int .i64 0,.int .i64 0,.complex .f64 0 0,.complex .f64 0 0] [.int .i64 0,.int .i64 0,.string ⟨#[]⟩] [u0,u1,u2,u3,u4,u5,u6,u7] tm tl tc (lc) ((w1.alloc (.cells #[u0,u1,u2,u3,u4,u5,u6,u7] 43)).alloc (.cells y 73))∧Blk ((w1.alloc (.cells #[u0,u1,u2,u3,u4,u5,u6,u7] 43)).alloc (.cells y 73)) (w1.heap.size+1) y 73 from ⟨⟨hF.next hA,(Blk.start w1 _ _).alloc _,hiv.next hA,hic.next hA,hF.b3.lt⟩,Blk.startAt (by simp)⟩);clear H0 hF hA hb hiv hic HC x0 y0 sd0 sd1 sd2 sd3 sd4 sd5 sd6 sd7
 go_upto_region 2 with fail
 generalize World.alloc _ _=W2 at *
 generalize w1.heap.size=bV at *
 refine rgH (fun W=>(GX w bV [s,.bool ob,v0,v1,v2,v3,v4,v5,v6,v7] c [u0,u1,u2,u3,u4,u5,u6,u7] tm tl tc (lc) W∧Blk W (bV+1) y 73)∧Cz8 W bV u0 u1 u2 u3 u4 u5 u6 u7∧Cz6 W (bV+1) y.k y.c y.s y.a y.n (.int .i32 y.ch)) (let h:=And.intro (GX.of (H2.out.1.next bdq)) (H2.out.2.next bdq); ⟨h,h.1.v.c8,h.2.c6⟩) fun hH=>?_
 clear H2;generalize hX9:World.drew _=X9 at *
 clear hX9;refine ta 0 hH ?_;refine ta 1 hH ?_;refine ta 3 hH ?_;refine ta 5 hH ?_;refine ta 7 hH ?_;refine rc 2 (HSQ.out _ _ _ _ _ _ _ _ _ hH.1.1.i) ?_
 rintro e ua ⟨rfl,hb⟩
 refine rp (let h:=And.intro (hH.1.1.next hb) (hH.1.2.next hb); ⟨h,h.1.v.c8,h.2.c6⟩) ?_;clear hH;intro hH
 clear hb;refine rc 4 (HST.out _ (HTT.out.next hH.1.1.e)) ?_
 rintro e ub ⟨rfl,hb⟩
 refine rp (let h:=And.intro (hH.1.1.next hb) (hH.1.2.next hb); ⟨h,h.1.v.c8,h.2.c6⟩) ?_;clear hH;intro hH
 clear hb;refine rc 6 (HAN.out _) ?_
 rintro e uc ⟨rfl,hb⟩
 refine rp (let h:=And.intro (hH.1.1.next hb) (hH.1.2.next hb); ⟨h,h.1.v.c8,h.2.c6⟩) ?_;clear hH;intro hH
 clear hb;obtain ⟨⟨a0,a1,a2,a3,a4,a5,a6,a7,g0,g1,g2,hg⟩,ho⟩:=hH.1;have h2:=hg.p2 [u0,u1,u2,u3,u4,u5,u6,u7]
 replace ho:=ho.setN (b:=w.heap.size+1+1) (by have:=hg.lt; omega) [u0,u1,u2,u3,u4,u5,u6,u7] 0
 refine stN 8 hg.b2 [u0,u1,u2,u3,u4,u5,u6,u7] (HON.out) (let h:=And.intro (GX.of h2) ho; ⟨h,h.1.v.c8,h.2.c6⟩) (fun hH=>?_);generalize setN uc (w.heap.size+1+1) 0 [u0,u1,u2,u3,u4,u5,u6,u7]=wz at *
 have h3:=h2.p3 [an.e,an.n,.string an.t]
 replace ho:=ho.setN (b:=w.heap.size+1+1+1) (by have:=h2.lt; omega) [an.e,an.n,.string an.t] 0
 refine stN 9 h2.b3 [an.e,an.n,.string an.t] (by simp [Value.oneCell']) (let h:=And.intro (GX.of h3) ho; ⟨h,h.1.v.c8,h.2.c6⟩) (fun hH=>?_);generalize setN wz (w.heap.size+1+1+1) 0 [an.e,an.n,.string an.t]=wy at *
 refine ta 10 hH ?_;refine dnH ?_;clear hH;obtain ⟨p0,p1,p2,p3,p4,p5,p6,p7⟩:=h3.b2.c8;have t0 := h3.b3.c3
 replace h3:=Lh h3
 clear h2 hg;go_wp2_with fail
 exact bodyPost_ret (by simp [results, Tryz.results116, go_sem, p0, p1, p2, p3, p4, p5, p6, p7, t0]) rfl ⟨h3.out.bel,_,_,_,_,_,_,_,_,_,rfl,h3.out.iv,h3.out.ic⟩
theorem dd2_ok (HV:VAll) (m l:List Oq) (n:Nat) (hV:VOk m l n) (hn:n≤120) (c:Cal) (s:Int) (hV2:VOk (deT8 m l c.p).1 (deT8 m l c.p).2.1 (n+1)) (ob:Bool) (v0 v1 v2 v3 v4 v5 v6 v7:Value) (w:World) (hS:IsV w m l [v0,v1,v2,v3,v4,v5,v6,v7]) (ht:Tabs w):
  Calls Tryz.prog 121 #[.agg #[s,.bool ob,v0,v1,v2,v3,v4,v5,v6,v7],.agg c] w (WPost w (deT8 m l c.p) (ansV (deE8 m l c.p) ((deT8 m l c.p).1.length:Int) (oT (opP (deE8 m l c.p) (deV8 m c.p))))):=by
 obtain ⟨sd0,sd1,sd2,sd3,sd4,sd5,sd6,sd7⟩:=st8 hS.one;have H0:=Lh (Bx4.start:Bx4 w [s,.bool ob,v0,v1,v2,v3,v4,v5,v6,v7] c [.pointer none,.pointer none,.int .i64 0,.slice none 0 0,.int .i64 0,.int .i64 0,.complex .f64 0 0,.complex .f64 0 0] [.int .i64 0,.int .i64 0,.string ⟨#[]⟩] 45 75 43 88 ((((w.alloc (.cells #[s,.bool ob,v0,v1,v2,v3,v4,v5,v6,v7] 45)).alloc (.cells c 75)).alloc (.cells #[.pointer none,.pointer none,.int .i64 0,.slice none 0 0,.int .i64 0,.int .i64 0,.complex .f64 0 0,.complex .f64 0 0] 43)).alloc (.cells #[.int .i64 0,.int .i64 0,.string ⟨#[]⟩] 88)));have HS:=Lh hS;have HTT:=Lh ht;have HC:=Lh (fun U (h:IsV U m l [v0,v1,v2,v3,v4,v5,v6,v7])=>HV.del m l n c.p v0 v1 v2 v3 v4 v5 v6 v7 U hV (by omega) c.p0 c.p1 h);generalize deE8 m l c.p=E at *
 generalize deT8 m l c.p=tt at *
 generalize opP E (deV8 m c.p)=x at *
 obtain ⟨tm,tl,tc⟩:=tt
 dsimp only at hV2 HC ⊢
 have HSQ:=Lh (fun U u0 u1 u2 u3 u4 u5 u6 u7 (h:IsV U tm tl [u0,u1,u2,u3,u4,u5,u6,u7])=>HV.seq tm tl (n+1) u0 u1 u2 u3 u4 u5 u6 u7 U hV2 (by omega) h);have HST:=Lh (fun U (h:Tabs U)=>opstr12 x U h);generalize oT x=tx at *
 have HAN:=Lh (fun U=>answer_any (tm.length:Int) E tx U);generalize ansV E (tm.length:Int) tx=an at *
 clear HV hV hn hV2 hS ht
 go_enter Tryz.func121,Tryz.ntmps121
 go_upto_region 1 with fail
 generalize World.alloc _ _=X0 at *
 have x0 := H0.out.b0.c10;have y0 := H0.out.b1.c11;go_wp2_with fail;refine (HC.out _ (HS.out.next H0.out.bel)).mono ?_;rintro e w1 ⟨hb,u0,u1,u2,u3,u4,u5,u6,u7,lc,y,rfl,rfl,hiv,hic⟩
 have HON:=Lh hiv.one;obtain ⟨se0,se1,se2,se3,se4,se5,se6,se7⟩:=st8 hiv.one;have hA:=bl2 w1 [u0,u1,u2,u3,u4,u5,u6,u7] y 43 73;have hF:=H0.out.next hb;have H2:=Lh (show G13 w w1.heap.size [s,.bool ob,v0,v1,v2,v3,v4,v5,v6,v7] c [.pointer none,.pointer none,.int .i64 0,.slice none 0 0,.int .i64 0,.int .i64 0,.complex .f64 0 0,.complex .f64 0 0] [.int .i64 0,.int .i64 0,.string ⟨#[]⟩] [u0,u1,u2,u3,u4,u5,u6,u7] tm tl tc (lc) ((w1.alloc (.cells #[u0,u1,u2,u3,u4,u5,u6,u7] 43)).alloc (.cells y 73))∧Blk ((w1.alloc (.cells #[u0,u1,u2,u3,u4,u5,u6,u7] 43)).alloc (.cells y 73)) (w1.heap.size+1) y 73 from ⟨⟨hF.next hA,(Blk.start w1 _ _).alloc _,hiv.next hA,hic.next hA,hF.b3.lt⟩,Blk.startAt (by simp)⟩);clear H0 hF hA hb hiv hic HC x0 y0 sd0 sd1 sd2 sd3 sd4 sd5 sd6 sd7
 go_upto_region 2 with fail
 generalize World.alloc _ _=W2 at *
 generalize w1.heap.size=bV at *
 refine rgH (fun W=>(GX w bV [s,.bool ob,v0,v1,v2,v3,v4,v5,v6,v7] c [u0,u1,u2,u3,u4,u5,u6,u7] tm tl tc (lc) W∧Blk W (bV+1) y 73)∧Cz8 W bV u0 u1 u2 u3 u4 u5 u6 u7∧Cz6 W (bV+1) y.k y.c y.s y.a y.n (.int .i32 y.ch)) (let h:=And.intro (GX.of (H2.out.1.next bdq)) (H2.out.2.next bdq); ⟨h,h.1.v.c8,h.2.c6⟩) fun hH=>?_
 clear H2;generalize hX9:World.drew _=X9 at *
 clear hX9;refine ta 0 hH ?_;refine ta 1 hH ?_;refine ta 3 hH ?_;refine ta 5 hH ?_;refine ta 7 hH ?_;refine rc 2 (HSQ.out _ _ _ _ _ _ _ _ _ hH.1.1.i) ?_
 rintro e ua ⟨rfl,hb⟩
 refine rp (let h:=And.intro (hH.1.1.next hb) (hH.1.2.next hb); ⟨h,h.1.v.c8,h.2.c6⟩) ?_;clear hH;intro hH
 clear hb;refine rc 4 (HST.out _ (HTT.out.next hH.1.1.e)) ?_
 rintro e ub ⟨rfl,hb⟩
 refine rp (let h:=And.intro (hH.1.1.next hb) (hH.1.2.next hb); ⟨h,h.1.v.c8,h.2.c6⟩) ?_;clear hH;intro hH
 clear hb;refine rc 6 (HAN.out _) ?_
 rintro e uc ⟨rfl,hb⟩
 refine rp (let h:=And.intro (hH.1.1.next hb) (hH.1.2.next hb); ⟨h,h.1.v.c8,h.2.c6⟩) ?_;clear hH;intro hH
 clear hb;obtain ⟨⟨a0,a1,a2,a3,a4,a5,a6,a7,g0,g1,g2,hg⟩,ho⟩:=hH.1;have h2:=hg.p2 [u0,u1,u2,u3,u4,u5,u6,u7]
 replace ho:=ho.setN (b:=w.heap.size+1+1) (by have:=hg.lt; omega) [u0,u1,u2,u3,u4,u5,u6,u7] 0
 refine stN 8 hg.b2 [u0,u1,u2,u3,u4,u5,u6,u7] (HON.out) (let h:=And.intro (GX.of h2) ho; ⟨h,h.1.v.c8,h.2.c6⟩) (fun hH=>?_);generalize setN uc (w.heap.size+1+1) 0 [u0,u1,u2,u3,u4,u5,u6,u7]=wz at *
 have h3:=h2.p3 [an.e,an.n,.string an.t]
 replace ho:=ho.setN (b:=w.heap.size+1+1+1) (by have:=h2.lt; omega) [an.e,an.n,.string an.t] 0
 refine stN 9 h2.b3 [an.e,an.n,.string an.t] (by simp [Value.oneCell']) (let h:=And.intro (GX.of h3) ho; ⟨h,h.1.v.c8,h.2.c6⟩) (fun hH=>?_);generalize setN wz (w.heap.size+1+1+1) 0 [an.e,an.n,.string an.t]=wy at *
 refine ta 10 hH ?_;refine dnH ?_;clear hH;obtain ⟨p0,p1,p2,p3,p4,p5,p6,p7⟩:=h3.b2.c8;have t0 := h3.b3.c3
 replace h3:=Lh h3
 clear h2 hg;go_wp2_with fail
 exact bodyPost_ret (by simp [results, Tryz.results121, go_sem, p0, p1, p2, p3, p4, p5, p6, p7, t0]) rfl ⟨h3.out.bel,_,_,_,_,_,_,_,_,_,rfl,h3.out.iv,h3.out.ic⟩
theorem dd3_ok (HV:VAll) (m l:List Oq) (n:Nat) (hV:VOk m l n) (hn:n≤120) (c:Cal) (s:Int) (ob:Bool) (v0 v1 v2 v3 v4 v5 v6 v7:Value) (w:World) (hS:IsV w m l [v0,v1,v2,v3,v4,v5,v6,v7]) (ht:Tabs w):
  Calls Tryz.prog 123 #[.agg #[s,.bool ob,v0,v1,v2,v3,v4,v5,v6,v7],.agg c] w (WPost w (remT m l c.o) (ansV (remE m l c.o) ((remT m l c.o).2.2.length:Int) ⟨#[]⟩)):=by
 obtain ⟨sd0,sd1,sd2,sd3,sd4,sd5,sd6,sd7⟩:=st8 hS.one;have H0:=Lh (Bx4.start:Bx4 w [s,.bool ob,v0,v1,v2,v3,v4,v5,v6,v7] c [.pointer none,.pointer none,.int .i64 0,.slice none 0 0,.int .i64 0,.int .i64 0,.complex .f64 0 0,.complex .f64 0 0] [.int .i64 0,.int .i64 0,.string ⟨#[]⟩] 45 75 43 88 ((((w.alloc (.cells #[s,.bool ob,v0,v1,v2,v3,v4,v5,v6,v7] 45)).alloc (.cells c 75)).alloc (.cells #[.pointer none,.pointer none,.int .i64 0,.slice none 0 0,.int .i64 0,.int .i64 0,.complex .f64 0 0,.complex .f64 0 0] 43)).alloc (.cells #[.int .i64 0,.int .i64 0,.string ⟨#[]⟩] 88)));have HS:=Lh hS;have HTT:=Lh ht;have HC:=Lh (fun U (h:IsV U m l [v0,v1,v2,v3,v4,v5,v6,v7])=>HV.rm m l n c.o v0 v1 v2 v3 v4 v5 v6 v7 U hV (by omega) h);generalize remE m l c.o=E at *
 generalize remT m l c.o=tt at *
 obtain ⟨tm,tl,tc⟩:=tt
 dsimp only at HC ⊢
 have HAN:=Lh (fun U=>answer_any (tc.length:Int) E ⟨#[]⟩ U);generalize ansV E (tc.length:Int) ⟨#[]⟩=an at *
 clear HV hV hn hS ht
 go_enter Tryz.func123,Tryz.ntmps123
 go_upto_region 1 with fail
 generalize World.alloc _ _=X0 at *
 have x0 := H0.out.b0.c10;have y0 := H0.out.b1.c11;go_wp2_with fail;refine (HC.out _ (HS.out.next H0.out.bel)).mono ?_;rintro e w1 ⟨hb,u0,u1,u2,u3,u4,u5,u6,u7,lc,rfl,hiv,hic⟩
 have HON:=Lh hiv.one;obtain ⟨se0,se1,se2,se3,se4,se5,se6,se7⟩:=st8 hiv.one;obtain ⟨al,pl,rfl,-,-⟩:=hic.form
 change IsVC w1 (.slice al tc.length pl) tc at hic
 have hA:=bl1 w1 [u0,u1,u2,u3,u4,u5,u6,u7] 43;have hF:=H0.out.next hb;have H2:=Lh (show G13 w w1.heap.size [s,.bool ob,v0,v1,v2,v3,v4,v5,v6,v7] c [.pointer none,.pointer none,.int .i64 0,.slice none 0 0,.int .i64 0,.int .i64 0,.complex .f64 0 0,.complex .f64 0 0] [.int .i64 0,.int .i64 0,.string ⟨#[]⟩] [u0,u1,u2,u3,u4,u5,u6,u7] tm tl tc (.slice al tc.length pl) (w1.alloc (.cells #[u0,u1,u2,u3,u4,u5,u6,u7] 43))∧True from ⟨⟨hF.next hA,Blk.start w1 _ _,hiv.next hA,hic.next hA,hF.b3.lt⟩,trivial⟩);clear H0 hF hA hb hiv hic HC x0 y0 sd0 sd1 sd2 sd3 sd4 sd5 sd6 sd7
 go_upto_region 2 with fail
 generalize World.alloc _ _=W2 at *
 generalize w1.heap.size=bV at *
 refine rgH (fun W=>(GX w bV [s,.bool ob,v0,v1,v2,v3,v4,v5,v6,v7] c [u0,u1,u2,u3,u4,u5,u6,u7] tm tl tc (.slice al tc.length pl) W∧True)∧Cz8 W bV u0 u1 u2 u3 u4 u5 u6 u7) (let h:=And.intro (GX.of (H2.out.1.next bdq)) trivial; ⟨h,h.1.v.c8⟩) fun hH=>?_
 clear H2;generalize hX9:World.drew _=X9 at *
 clear hX9;refine ta 0 hH ?_;refine ta 1 hH ?_;refine ta 2 hH ?_;refine ta 3 hH ?_;refine ta 5 hH ?_;refine rc 4 (HAN.out _) ?_
 rintro e uc ⟨rfl,hb⟩
 refine rp (let h:=And.intro (hH.1.1.next hb) trivial; ⟨h,h.1.v.c8⟩) ?_;clear hH;intro hH
 clear hb;obtain ⟨⟨a0,a1,a2,a3,a4,a5,a6,a7,g0,g1,g2,hg⟩,ho⟩:=hH.1;have h2:=hg.p2 [u0,u1,u2,u3,u4,u5,u6,u7];refine stN 6 hg.b2 [u0,u1,u2,u3,u4,u5,u6,u7] (HON.out) (let h:=And.intro (GX.of h2) ho; ⟨h,h.1.v.c8⟩) (fun hH=>?_);generalize setN uc (w.heap.size+1+1) 0 [u0,u1,u2,u3,u4,u5,u6,u7]=wz at *
 have h3:=h2.p3 [an.e,an.n,.string an.t];refine stN 7 h2.b3 [an.e,an.n,.string an.t] (by simp [Value.oneCell']) (let h:=And.intro (GX.of h3) ho; ⟨h,h.1.v.c8⟩) (fun hH=>?_);generalize setN wz (w.heap.size+1+1+1) 0 [an.e,an.n,.string an.t]=wy at *
 refine ta 8 hH ?_;refine dnH ?_;clear hH;obtain ⟨p0,p1,p2,p3,p4,p5,p6,p7⟩:=h3.b2.c8;have t0 := h3.b3.c3
 replace h3:=Lh h3
 clear h2 hg;go_wp2_with fail
 exact bodyPost_ret (by simp [results, Tryz.results123, go_sem, p0, p1, p2, p3, p4, p5, p6, p7, t0]) rfl ⟨h3.out.bel,_,_,_,_,_,_,_,_,_,rfl,h3.out.iv,h3.out.ic⟩
theorem dd4_ok (H:VAll) (m l:List Oq) (n:Nat) (hV:VOk m l n) (hn:n≤120) (c:Cal) (v0 v1 v2 v3 v4 v5 v6 v7:Value) (w:World) (hS:IsV w m l [v0,v1,v2,v3,v4,v5,v6,v7]) (hp:Pows w) (ht:Tabs w):
  Calls Tryz.prog 126 #[.agg #[v0,v1,v2,v3,v4,v5,v6,v7],.agg c] w (LPost w ⟨0,0,txtS (docR m)⟩):=by
 obtain ⟨sd0,sd1,sd2,sd3,sd4,sd5,sd6,sd7⟩:=st8 hS.one;have H0:=Lh (Bx3.start:Bx3 w [v0,v1,v2,v3,v4,v5,v6,v7] c [.int .i64 0,.int .i64 0,.string ⟨#[]⟩] 43 75 88 (((w.alloc (.cells #[v0,v1,v2,v3,v4,v5,v6,v7] 43)).alloc (.cells c 75)).alloc (.cells #[.int .i64 0,.int .i64 0,.string ⟨#[]⟩] 88)));have HS:=Lh hS;have HPT:=Lh (And.intro hp ht);have HC:=Lh (fun U (h:IsV U m l [v0,v1,v2,v3,v4,v5,v6,v7]) (ht:Tabs U)=>H.txt m l n v0 v1 v2 v3 v4 v5 v6 v7 U hV (by omega) h ht);generalize txtS (docR m)=tx at *
 clear H hV hn hS hp ht
 go_enter Tryz.func126,Tryz.ntmps126
 go_upto_region 1 with fail
 generalize World.alloc _ _=X0 at *
 have x0 := H0.out.b0.c8;have y0 := H0.out.b1.c11;go_wp2_with fail;refine (HC.out _ (HS.out.next H0.out.bel) (HPT.out.2.next H0.out.bel)).mono ?_;rintro e w1 ⟨rfl,hb⟩
 have H1:=Lh (H0.out.next hb);clear H0 hb HC x0 y0;have q0 := H1.out.b2.c3;have fq0 := H1.out.b2.f3;have HP:=Lh (H1.out.p2 [.int .i64 0,.int .i64 0,.string tx] 0);simp only [setN, Nat.zero_add, Nat.reduceAdd] at HP
 go_wp2_with fail
 have t0 := HP.out.b2.c3;exact bodyPost_ret (by simp [results, Tryz.results126, go_sem, t0]) rfl ⟨rfl,HP.out.bel⟩
theorem dd5_ok (H:VAll) (m l:List Oq) (n:Nat) (hV:VOk m l n) (hn:n≤120) (c:Cal) (v0 v1 v2 v3 v4 v5 v6 v7:Value) (w:World) (hS:IsV w m l [v0,v1,v2,v3,v4,v5,v6,v7]) (hp:Pows w) (ht:Tabs w):
  Calls Tryz.prog 128 #[.agg #[v0,v1,v2,v3,v4,v5,v6,v7],.agg c] w (LPost w ⟨0,aliN (docR m),⟨#[]⟩⟩):=by
 obtain ⟨sd0,sd1,sd2,sd3,sd4,sd5,sd6,sd7⟩:=st8 hS.one;have H0:=Lh (Bx3.start:Bx3 w [v0,v1,v2,v3,v4,v5,v6,v7] c [.int .i64 0,.int .i64 0,.string ⟨#[]⟩] 43 75 88 (((w.alloc (.cells #[v0,v1,v2,v3,v4,v5,v6,v7] 43)).alloc (.cells c 75)).alloc (.cells #[.int .i64 0,.int .i64 0,.string ⟨#[]⟩] 88)));have HS:=Lh hS;have HPT:=Lh (And.intro hp ht);have HC:=Lh (fun U (h:IsV U m l [v0,v1,v2,v3,v4,v5,v6,v7])=>show Calls Tryz.prog 129 #[.agg #[v0,v1,v2,v3,v4,v5,v6,v7]] U (Rt (.int .i64 (aliN (docR m))) U) from H.len m l n v0 v1 v2 v3 v4 v5 v6 v7 U hV (by omega) h);generalize aliN (docR m)=N at *
 clear H hV hn hS hp ht
 go_enter Tryz.func128,Tryz.ntmps128
 go_upto_region 1 with fail
 generalize World.alloc _ _=X0 at *
 have x0 := H0.out.b0.c8;have y0 := H0.out.b1.c11;go_wp2_with fail;refine (HC.out _ (HS.out.next H0.out.bel)).mono ?_;rintro e w1 ⟨rfl,hb⟩
 have H1:=Lh (H0.out.next hb);clear H0 hb HC x0 y0;have q0 := H1.out.b2.c3;have fq0 := H1.out.b2.f3;have HP:=Lh (H1.out.p2 [.int .i64 0,N,.string ⟨#[]⟩] 0);simp only [setN, Nat.zero_add, Nat.reduceAdd] at HP
 go_wp2_with fail
 have t0 := HP.out.b2.c3;exact bodyPost_ret (by simp [results, Tryz.results128, go_sem, t0]) rfl ⟨rfl,HP.out.bel⟩
theorem dd6_ok (H:CAll) (m l:List Oq) (n:Nat) (hV:VOk m l n) (hn:n≤120) (c:Cal) (v0 v1 v2 v3 v4 v5 v6 v7:Value) (w:World) (hS:IsV w m l [v0,v1,v2,v3,v4,v5,v6,v7]) (hp:Pows w) (ht:Tabs w):
  Calls Tryz.prog 130 #[.agg #[v0,v1,v2,v3,v4,v5,v6,v7],.agg c] w (LPost w (ansV (cuE (docR m) c.p) 0 (ancT (namC (docR m) c.p).1 (namC (docR m) c.p).2))):=by
 obtain ⟨sd0,sd1,sd2,sd3,sd4,sd5,sd6,sd7⟩:=st8 hS.one;have H0:=Lh (Bx3.start:Bx3 w [v0,v1,v2,v3,v4,v5,v6,v7] c [.int .i64 0,.int .i64 0,.string ⟨#[]⟩] 43 75 88 (((w.alloc (.cells #[v0,v1,v2,v3,v4,v5,v6,v7] 43)).alloc (.cells c 75)).alloc (.cells #[.int .i64 0,.int .i64 0,.string ⟨#[]⟩] 88)));have HS:=Lh hS;have HPT:=Lh (And.intro hp ht);have HC:=Lh (fun U (h:IsV U m l [v0,v1,v2,v3,v4,v5,v6,v7])=>H.at_ m l n c.p v0 v1 v2 v3 v4 v5 v6 v7 U hV (by omega) c.p0 c.p1 h);have HST:=Lh (fun U (h:Tabs U)=>ancStr_any (namC (docR m) c.p).1 (namC (docR m) c.p).2 U (nam_may hV.ok c.p) h);generalize namC (docR m) c.p=q at *
 generalize cuE (docR m) c.p=E at *
 generalize ancT q.1 q.2=tx at *
 have HAN:=Lh (fun U=>answer_any 0 E tx U);generalize ansV E 0 tx=an at *
 clear H hV hn hS hp ht
 go_enter Tryz.func130,Tryz.ntmps130
 go_upto_region 1 with fail
 generalize World.alloc _ _=X0 at *
 have x0 := H0.out.b0.c8;have y0 := H0.out.b1.c11;go_wp2_with fail;refine (HC.out _ (HS.out.next H0.out.bel)).mono ?_;rintro e w1 ⟨rfl,hb⟩
 have hA:=bl1 w1 [q.1,q.2] 230;have H1:=Lh (And.intro ((H0.out.next hb).next hA) (Blk.start w1 [q.1,q.2] 230));clear H0 hb HC x0 y0 hA
 go_upto_region 2 with fail
 generalize w1.alloc (.cells #[q.1,q.2] 230)=W1 at *
 generalize w1.heap.size=bA at *
 have g0 := H1.out.2.c2;go_wp2_with fail;refine (HST.out _ (HPT.out.2.next H1.out.1.bel)).mono ?_;rintro e w2 ⟨rfl,hb⟩
 have H2:=Lh (H1.out.1.next hb);clear H1 hb HST g0;go_wp2_with fail;refine (HAN.out _).mono ?_;rintro e w3 ⟨rfl,hb⟩
 have H3:=Lh (H2.out.next hb);clear H2 hb HAN;have q0 := H3.out.b2.c3;have fq0 := H3.out.b2.f3;have HP:=Lh (H3.out.p2 [an.e,an.n,.string an.t] 0);simp only [setN, Nat.zero_add, Nat.reduceAdd] at HP
 go_wp2_with fail
 have t0 := HP.out.b2.c3;exact bodyPost_ret (by simp [results, Tryz.results130, go_sem, t0]) rfl ⟨rfl,HP.out.bel⟩
theorem dd7_ok (H:CAll) (m l:List Oq) (n:Nat) (hV:VOk m l n) (hn:n≤120) (c:Cal) (v0 v1 v2 v3 v4 v5 v6 v7:Value) (w:World) (hS:IsV w m l [v0,v1,v2,v3,v4,v5,v6,v7]) (hp:Pows w) (ht:Tabs w):
  Calls Tryz.prog 133 #[.agg #[v0,v1,v2,v3,v4,v5,v6,v7],.agg c] w (LPost w (ansV (reE (docR m) c.a c.b) (reN (docR m) c.a c.b) ⟨#[]⟩)):=by
 obtain ⟨sd0,sd1,sd2,sd3,sd4,sd5,sd6,sd7⟩:=st8 hS.one;have H0:=Lh (Bx3.start:Bx3 w [v0,v1,v2,v3,v4,v5,v6,v7] c [.int .i64 0,.int .i64 0,.string ⟨#[]⟩] 43 75 88 (((w.alloc (.cells #[v0,v1,v2,v3,v4,v5,v6,v7] 43)).alloc (.cells c 75)).alloc (.cells #[.int .i64 0,.int .i64 0,.string ⟨#[]⟩] 88)));have HS:=Lh hS;have HPT:=Lh (And.intro hp ht);have HC:=Lh (fun U (h:IsV U m l [v0,v1,v2,v3,v4,v5,v6,v7])=>H.re m l n c.a c.b v0 v1 v2 v3 v4 v5 v6 v7 U hV (by omega) h);generalize reE (docR m) c.a c.b=E at *
 generalize reN (docR m) c.a c.b=N at *
 have HAN:=Lh (fun U=>answer_any N E ⟨#[]⟩ U);generalize ansV E N ⟨#[]⟩=an at *
 clear H hV hn hS hp ht
 go_enter Tryz.func133,Tryz.ntmps133
 go_upto_region 1 with fail
 generalize World.alloc _ _=X0 at *
 have x0 := H0.out.b0.c8;have y0 := H0.out.b1.c11;go_wp2_with fail;refine (HC.out _ (HS.out.next H0.out.bel)).mono ?_;rintro e w1 ⟨rfl,hb⟩
 have H1:=Lh (H0.out.next hb);clear H0 hb HC x0 y0;go_wp2_with fail;refine (HAN.out _).mono ?_;rintro e w3 ⟨rfl,hb⟩
 have H3:=Lh (H1.out.next hb);clear H1 hb HAN;have q0 := H3.out.b2.c3;have fq0 := H3.out.b2.f3;have HP:=Lh (H3.out.p2 [an.e,an.n,.string an.t] 0);simp only [setN, Nat.zero_add, Nat.reduceAdd] at HP
 go_wp2_with fail
 have t0 := HP.out.b2.c3;exact bodyPost_ret (by simp [results, Tryz.results133, go_sem, t0]) rfl ⟨rfl,HP.out.bel⟩
theorem dd8_ok (H:VAll) (m l:List Oq) (n:Nat) (hV:VOk m l n) (hn:n≤120) (c:Cal) (v0 v1 v2 v3 v4 v5 v6 v7:Value) (w:World) (hS:IsV w m l [v0,v1,v2,v3,v4,v5,v6,v7]) (hp:Pows w) (ht:Tabs w):
  Calls Tryz.prog 135 #[.agg #[v0,v1,v2,v3,v4,v5,v6,v7],.agg c] w (LPost w ⟨0,(m.length:Int),sumT m⟩):=by
 obtain ⟨sd0,sd1,sd2,sd3,sd4,sd5,sd6,sd7⟩:=st8 hS.one;have H0:=Lh (Bx3.start:Bx3 w [v0,v1,v2,v3,v4,v5,v6,v7] c [.int .i64 0,.int .i64 0,.string ⟨#[]⟩] 43 75 88 (((w.alloc (.cells #[v0,v1,v2,v3,v4,v5,v6,v7] 43)).alloc (.cells c 75)).alloc (.cells #[.int .i64 0,.int .i64 0,.string ⟨#[]⟩] 88)));have HS:=Lh hS;have HPT:=Lh (And.intro hp ht);have HSQ:=Lh (fun U (h:IsV U m l [v0,v1,v2,v3,v4,v5,v6,v7])=>H.seq m l n v0 v1 v2 v3 v4 v5 v6 v7 U hV (by omega) h);have HTY:=Lh (fun U (h:IsV U m l [v0,v1,v2,v3,v4,v5,v6,v7])=>H.tal m l n v0 v1 v2 v3 v4 v5 v6 v7 U hV (by omega) h);have HST:=Lh (fun U (hp:Pows U) (ht:Tabs U)=>tallyStr_any m l n hV (by omega) U hp ht);generalize sumT m=tx at *
 generalize nL (idsO m)=n1 at *
 generalize fl (cL (idsO m))=n2 at *
 generalize fl (sL (idsO m))=n3 at *
 generalize fl (rL (idsO m))=n4 at *
 generalize fl (iL (idsO m))=n5 at *
 clear H hV hn hS hp ht
 go_enter Tryz.func135,Tryz.ntmps135
 go_upto_region 1 with fail
 generalize World.alloc _ _=X0 at *
 refine rgH (fun W=>(∃ a0 a1 a2:Value,Bx3 w [v0,v1,v2,v3,v4,v5,v6,v7] c [a0,a1,a2] 43 75 88 W)∧Cz8 W w.heap.size v0 v1 v2 v3 v4 v5 v6 v7) (let h:=H0.out.next bdq; ⟨⟨_,_,_,h⟩,h.b0.c8⟩) fun hH=>?_
 clear H0;generalize X0.drew=X9 at *
 refine ta 0 hH ?_;refine ta 2 hH ?_;obtain ⟨a0,a1,a2,hf⟩:=hH.1;refine rc 1 (HSQ.out _ (HS.out.next hf.bel)) ?_
 rintro e ua ⟨rfl,hb⟩
 refine rp (let h:=hf.next hb; ⟨⟨_,_,_,h⟩,h.b0.c8⟩) ?_;clear hH;intro hH
 clear hb hf;obtain ⟨a0,a1,a2,hf⟩:=hH.1;refine rc 3 (HTY.out _ (HS.out.next hf.bel)) ?_
 rintro e ub ⟨rfl,hb⟩
 refine rp (let h:=hf.next hb; ⟨⟨_,_,_,h⟩,h.b0.c8⟩) ?_;clear hH;intro hH
 clear hb hf;obtain ⟨a0,a1,a2,hf⟩:=hH.1;refine rc 4 (HST.out _ (HPT.out.1.next hf.bel) (HPT.out.2.next hf.bel)) ?_
 rintro e uc ⟨rfl,hb⟩
 refine rp (let h:=hf.next hb; ⟨⟨_,_,_,h⟩,h.b0.c8⟩) ?_;clear hH;intro hH
 clear hb hf;refine ta 5 hH ?_;obtain ⟨b0,b1,b2,hg⟩:=hH.1;have q0 := hg.b2.c3;have fq0 := hg.b2.f3;obtain ⟨wz,hwz⟩:∃ z,z=setN uc (w.heap.size+1+1) 0 [.int .i64 0,.int .i64 (m.length:Int),.string tx]:=⟨_,rfl⟩
 have wzH:=Lh (show Bx3 w [v0,v1,v2,v3,v4,v5,v6,v7] c [.int .i64 0,.int .i64 (m.length:Int),.string tx] 43 75 88 wz from hwz▸hg.p2 [.int .i64 0,.int .i64 (m.length:Int),.string tx] 0);simp only [setN, Nat.zero_add, Nat.reduceAdd] at hwz
 have HWZ:=Lh hwz;clear hwz;refine rd1 6 (by kernel_rfl) rfl fun K hK=>?_
 go_simp
 go_wp2_with fail
 rw [←HWZ.out];refine hK.out _ _ (let h:=wzH.out; ⟨⟨_,_,_,h⟩,h.b0.c8⟩) ?_;clear hK K hH;intro hH
 try simp only [LAY]
 refine dnH ?_;clear hH HWZ q0 fq0;have t0 := wzH.out.b2.c3;go_wp2_with fail
 exact bodyPost_ret (by simp [results, Tryz.results135, go_sem, t0]) rfl ⟨rfl,wzH.out.bel⟩
end Go.Proofs.YtemicfjmidohfaaGreatDoor
