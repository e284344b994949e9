import Derived.Test.YtpbhaieclkoggaaGreatDoorCur
import Derived.Test.YtpbhaieclkoggaaGreatDoorDe
import Derived.Maps.OwnSet
import Derived.Maps.Views
import Derived.Carry
import Derived.Deep.MidRow
set_option maxRecDepth 100000
set_option maxHeartbeats 12800000
namespace Go.Proofs.YtpbhaieclkoggaaGreatDoor
open Go Go.Proofs Go.RowKit
def ansV (e n:Int) (t:ByteArray):Ans:=if e=0 then ⟨0,n,t⟩ else badA e
def heldR (v:Value):Option (DataW Value×List MemPlace):=some (.held v,[])
def MapI (P:Program) (kt:TypeId) (b n:Nat) (z:Value) (F:Int→Value) (K:Int→Bool) (W:World):Prop:=∃ D,W.ownsMap P kt heldR b n D∧∀ i,D.atKey (Lit.int .i64 i) (.held z)=.held (F i)∧Maps.has D (Lit.int .i64 i)=K i
theorem MapI.start {P:Program} {kt:TypeId} {z:Value} (W:World):MapI P kt W.heap.size 0 z (fun _=>z) (fun _=>false) (W.alloc (.map #[] 0)):=⟨_,World.ownsMap_made W P kt heldR,fun _=>⟨rfl,rfl⟩⟩
theorem MapI.next {P:Program} {kt:TypeId} {b n:Nat} {z:Value} {F:Int→Value} {K:Int→Bool} {W W':World} (h:MapI P kt b n z F K W) (hb:Below W.heap.size W W'):MapI P kt b n z F K W':=by
 obtain ⟨D,h,ha⟩:=h;have hlt:=h.lt;obtain ⟨es,clock,hb',r⟩:=h;exact ⟨D,⟨es,clock,(hb.block b hlt).trans hb',r⟩,ha⟩
theorem keyI {P:Program} {kt:TypeId} (hk:P.underlying kt=some (.int .i64)) {i:Int} (hi:(Lit.int .i64 i).wf=true):keyOf P kt i=some (.int .i64 i):=by
 simp [keyOf,mapKey,hk,hi]
theorem MapI.look {P:Program} {kt t e:TypeId} {b n:Nat} {z:Value} {F:Int→Value} {K:Int→Bool} {W:World} (h:MapI P kt b n z F K W) (hk:P.underlying kt=some (.int .i64)) (ht:P.underlying t=some (.map kt e)) (hz:(zeroValue e).run P W=.ok z W) {i:Int} (hi:(Lit.int .i64 i).wf=true):
  (Instr.lookup t (.map (some b)) i false).run P W=.ok (F i) W∧(Instr.lookup t (.map (some b)) i true).run P W=.ok (.tuple #[F i,.bool (K i)]) W:=by
 obtain ⟨D,h,ha⟩:=h;obtain ⟨v,ps,hr,hv⟩:=h.lookup (zd:=.held z) (zp:=[]) (Maps.int_keyed hk) ht hz rfl (keyI hk hi);obtain ⟨u,qs,hr2,hu⟩:=h.look_ok (zd:=.held z) (zp:=[]) (Maps.int_keyed hk) ht hz rfl (keyI hk hi);rw [(ha i).1] at hv hu;simp only [heldR,Option.some.injEq,Prod.mk.injEq,DataW.held.injEq] at hv hu
 rw [←(ha i).2,←hv.1];exact ⟨hr,by rw [hv.1,←hu.1]; exact hr2⟩
theorem MapI.put {P:Program} {kt t e:TypeId} {b n:Nat} {z:Value} {F:Int→Value} {K:Int→Bool} {W:World} (h:MapI P kt b n z F K W) (hk:P.underlying kt=some (.int .i64)) (ht:P.underlying t=some (.map kt e)) (hn:n≤1000000) {i:Int} (hi:(Lit.int .i64 i).wf=true) (v:Value):
  ∃ W',(Instr.mapUpdate t (.map (some b)) i v).run P W=.ok () W'∧MapI P kt b (n+1) z (fun j=>if j=i then v else F j) (fun j=>if j=i then true else K j) W'∧W.grownBy W' (some b):=by
 obtain ⟨D,h,ha⟩:=h;obtain ⟨W',hr,ho,hg⟩:=h.update (d:=.held v) (ps:=[]) (Maps.int_keyed hk) ht (by unfold maxLen; omega) (keyI hk hi) rfl;have hK:=(Maps.int_keyed hk).key (keyI hk hi);refine ⟨W',hr,⟨_,ho,fun j=>?_⟩,hg⟩
 show _=DataW.held (if j=i then v else F j)∧_=(if j=i then true else K j)
 by_cases e:j=i
 ·subst e; rw [if_pos rfl,if_pos rfl]; exact ⟨Maps.atKey_put_same h.isMap hK _ _,Maps.has_put_same h.isMap hK _⟩
 ·have hne:Lit.int .i64 j≠Lit.int .i64 i:=by simpa using e
  rw [if_neg e,if_neg e,Maps.atKey_put_other hne,Maps.has_put_other hne]; exact ha j
theorem run_enter {P:Program} {f:FuncId} {fn:Func} {c:Code} (hf:P.funcs[f]? = some fn) (hname:(fn.name == "runtime.NumGoroutine")=false) (hb:fn.body=some c) (args:Array Value) (w:World):(callFunc f args).run P w=.ok (.enter f args) w:=by
 have h1:fn.name ≠ "runtime.NumGoroutine" := by simpa using hname
 simp [callFunc,hf,h1,hb]
structure Bx3 (w:World) (L0 L1 L2:List Value) (t0 t1 t2:TypeId) (W:World):Prop where
 bel:Below w.heap.size w W
 b0:Blk W w.heap.size L0 t0
 b1:Blk W (w.heap.size+1) L1 t1
 b2:Blk W (w.heap.size+1+1) L2 t2
structure Bx4 (w:World) (L0 L1 L2 L3:List Value) (t0 t1 t2 t3:TypeId) (W:World):Prop extends Bx3 w L0 L1 L2 t0 t1 t2 W where
 b3:Blk W (w.heap.size+1+1+1) L3 t3
section
variable {w W:World} {L0 L1 L2 L3:List Value} {t0 t1 t2 t3:TypeId}
theorem Bx3.next {W':World} (h:Bx3 w L0 L1 L2 t0 t1 t2 W) (hb:Below W.heap.size W W'):Bx3 w L0 L1 L2 t0 t1 t2 W':=⟨h.bel.trans (hb.mono h.bel.size),h.b0.next hb,h.b1.next hb,h.b2.next hb⟩
theorem Bx4.next {W':World} (h:Bx4 w L0 L1 L2 L3 t0 t1 t2 t3 W) (hb:Below W.heap.size W W'):Bx4 w L0 L1 L2 L3 t0 t1 t2 t3 W':=⟨h.toBx3.next hb,h.b3.next hb⟩
theorem Bx3.start:Bx3 w L0 L1 L2 t0 t1 t2 (((w.alloc (.cells ⟨L0⟩ t0)).alloc (.cells ⟨L1⟩ t1)).alloc (.cells ⟨L2⟩ t2)):=
 ⟨((bA).alloc (by simp) _).alloc (by simp; omega) _,((Blk.startAt rfl).alloc _).alloc _,(Blk.startAt (by simp)).alloc _,Blk.startAt (by simp)⟩
theorem Bx4.start:Bx4 w L0 L1 L2 L3 t0 t1 t2 t3 ((((w.alloc (.cells ⟨L0⟩ t0)).alloc (.cells ⟨L1⟩ t1)).alloc (.cells ⟨L2⟩ t2)).alloc (.cells ⟨L3⟩ t3)):=
 ⟨Bx3.start.next (bA),Blk.startAt (by simp)⟩
theorem Bx3.p2 (h:Bx3 w L0 L1 L2 t0 t1 t2 W) (vs:List Value) (i:Nat):Bx3 w L0 L1 (putN L2 i vs) t0 t1 t2 (setN W (w.heap.size+1+1) i vs):=
 ⟨setN_below (by omega) _ _ h.bel,h.b0.setN (by omega) _ _,h.b1.setN (by omega) _ _,setN_blk _ _ h.b2⟩
theorem Bx4.p0 (h:Bx4 w L0 L1 L2 L3 t0 t1 t2 t3 W) (vs:List Value) (i:Nat):Bx4 w (putN L0 i vs) L1 L2 L3 t0 t1 t2 t3 (setN W w.heap.size i vs):=
 ⟨⟨setN_below (Nat.le_refl _) _ _ h.bel,setN_blk _ _ h.b0,h.b1.setN (by omega) _ _,h.b2.setN (by omega) _ _⟩,h.b3.setN (by omega) _ _⟩
theorem Bx4.p2 (h:Bx4 w L0 L1 L2 L3 t0 t1 t2 t3 W) (vs:List Value) (i:Nat):Bx4 w L0 L1 (putN L2 i vs) L3 t0 t1 t2 t3 (setN W (w.heap.size+1+1) i vs):=⟨h.toBx3.p2 vs i,h.b3.setN (by omega) _ _⟩
theorem Bx4.p3 (h:Bx4 w L0 L1 L2 L3 t0 t1 t2 t3 W) (vs:List Value) (i:Nat):Bx4 w L0 L1 L2 (putN L3 i vs) t0 t1 t2 t3 (setN W (w.heap.size+1+1+1) i vs):=
 ⟨⟨setN_below (by omega) _ _ h.bel,h.b0.setN (by omega) _ _,h.b1.setN (by omega) _ _,h.b2.setN (by omega) _ _⟩,setN_blk _ _ h.b3⟩
end
theorem setC_N (b:Nat):∀ (us:List Value) (i:Nat) (W:World),W.setCells b i us=setN W b i us
 | [],_,_=>rfl
 | _::us,i,_=>setC_N b us (i+1) _
theorem stN {P:Program} {md:Region.Mode} {ops:Array Oper} {Q:Exit→Act→World→Prop} {S:World→Prop} {fuel:Nat} {listed:Array Bool} {a:Act} {w:World} (i:Nat) {o:Oper} {ty:TypeId} {x y:Operand} {b:Nat} {zs:List Value} {t:TypeId}
  (hB:Blk w b zs t) (us:List Value) (h1:∀ u∈us,u.oneCell'=true) (hS:S (setN w b 0 us)) (h:S (setN w b 0 us)→wpAnyH P md ops Q S fuel (listed.setIfInBounds i true) a (setN w b 0 us))
  (hr:Region.ready md ops listed=[i]:=by kernel_rfl) (ho:ops.toList[i]? = some o:=by rfl) (hg:o.guard=none:=by rfl) (hd:o.dst=none:=by rfl) (hop:o.op=.store ty x y:=by rfl) (hx:a.eval x=.pointer (some ⟨b,0,none⟩):=by rfl) (hy:a.eval y=.agg us.toArray:=by rfl) (hl:zs.length=us.length:=by rfl) (hi:(P.info? ty).map (·.size)=some us.length:=by kernel_rfl):
  wpAnyH P md ops Q S (fuel+1) listed a w:=by
 refine rd1 i hr ho fun K hK=>?_
 have hw:Region.wanted o (yielded ops a.tmps)=true:=by simp [Region.wanted,hg]
 rw [if_pos hw];refine wp_store_mid ty x y hop b 0 us.toArray hx hy (fun j hj=>?_) (by simpa using hi) (all_oneCell_toArray h1) ?_
 ·rw [Nat.zero_add]; exact ⟨by rw [hB.cell j (List.getElem?_eq_getElem (by simpa [hl] using hj))]; rfl,hB.free j⟩
 ·rw [hd,List.toList_toArray,setC_N]; exact hK.out _ _ hS h
theorem IsV.setB {W:World} {m l:List Oq} {cs zs:List Value} {b:Nat} {t:TypeId} (h:IsV W m l cs) (hB:Blk W b zs t) (h1:t≠217) (h2:t≠223) (h3:t≠55) (us:List Value) (i:Nat):IsV (setN W b i us) m l cs:=
 h.kt (KT.setN h1 _ i hB) (KT.setN h2 _ i hB) (KT.setN h3 _ i hB) (Nat.le_of_eq (setN_size _ i).symm)
theorem opstr12 (x:Oq) (W:World) (h:Tabs W):Calls Tryz.prog 51 #[.agg #[x.k,x.c,x.s,x.a,x.n,.int .i32 x.ch]] W fun e w'=>e=.returned (.string (oT x))∧Below W.heap.size W w':=opstr_any x.k x.c x.s x.a x.n x.ch W h
theorem tallyStr_any (m l:List Oq) (n:Nat) (hV:VOk m l n) (hn:n≤50) (U:World) (hp:Pows U) (ht:Tabs U):Calls Tryz.prog 41 #[.agg #[.int .i64 (nL (idsO m)),.complex .f64 (fl (cL (idsO m))) (fl (sL (idsO m))),.complex .f64 (fl (rL (idsO m))) (fl (iL (idsO m)))]] U fun e w'=>e=.returned (.string (sumT m))∧Below U.heap.size U w':=by
 have hlen:=hV.len;have hil:(idsO m).length≤900:=by have:=ids_len m; omega
 have hSU:=sums_L (ids_may hV.rm) (by omega);have hn0:nL (idsO m)=((idsO m).length:Int):=rfl;exact string_any (N:=nL (idsO m)) (by omega) (by omega) hSU.1 hSU.2.1 hSU.2.2.1 hSU.2.2.2 U hp ht.1
theorem put_10 {W w:World} {b B:Nat} {z0 z1 z2 z3 z4 z5 z6 z7 z8 z9:Value} {t:TypeId} (h:Blk W b [z0,z1,z2,z3,z4,z5,z6,z7,z8,z9] t) (hb:Below B w W) (hB:B≤b) (d0 d1 d2 d3 d4 d5 d6 d7 d8 d9:Value):Blk (setN W b 0 [d0,d1,d2,d3,d4,d5,d6,d7,d8,d9]) b [d0,d1,d2,d3,d4,d5,d6,d7,d8,d9] t∧Below B w (setN W b 0 [d0,d1,d2,d3,d4,d5,d6,d7,d8,d9]):=⟨setN_blk [d0,d1,d2,d3,d4,d5,d6,d7,d8,d9] 0 h,setN_below hB [d0,d1,d2,d3,d4,d5,d6,d7,d8,d9] 0 hb⟩
theorem put_8 {W w:World} {b B:Nat} {z0 z1 z2 z3 z4 z5 z6 z7:Value} {t:TypeId} (h:Blk W b [z0,z1,z2,z3,z4,z5,z6,z7] t) (hb:Below B w W) (hB:B≤b) (d0 d1 d2 d3 d4 d5 d6 d7:Value):Blk (setN W b 0 [d0,d1,d2,d3,d4,d5,d6,d7]) b [d0,d1,d2,d3,d4,d5,d6,d7] t∧Below B w (setN W b 0 [d0,d1,d2,d3,d4,d5,d6,d7]):=⟨setN_blk [d0,d1,d2,d3,d4,d5,d6,d7] 0 h,setN_below hB [d0,d1,d2,d3,d4,d5,d6,d7] 0 hb⟩
theorem put_3 {W w:World} {b B:Nat} {z0 z1 z2:Value} {t:TypeId} (h:Blk W b [z0,z1,z2] t) (hb:Below B w W) (hB:B≤b) (d0 d1 d2:Value):Blk (setN W b 0 [d0,d1,d2]) b [d0,d1,d2] t∧Below B w (setN W b 0 [d0,d1,d2]):=⟨setN_blk [d0,d1,d2] 0 h,setN_below hB [d0,d1,d2] 0 hb⟩
theorem answer_any (n e:Int) (t:ByteArray) (w:World):Calls Tryz.prog 50 #[n,.string t,e] w fun r w'=>r=.returned (.agg #[.int .i64 (ansV e n t).e,.int .i64 (ansV e n t).n,.string (ansV e n t).t])∧Below w.heap.size w w':=by
 have H0:=Lh (And.intro (bl1 w [.int .i64 0,.int .i64 0,.string ⟨#[]⟩] 59) (Blk.start w [.int .i64 0,.int .i64 0,.string ⟨#[]⟩] 59));by_cases he:e=0
 ·have HX:=Lh (show ansV e n t=⟨0,n,t⟩ from if_pos he)
  generalize ansV e n t=x at *
  subst he
  go_enter Tryz.func50,Tryz.ntmps50
  go_upto_region 1 with fail
  generalize w.alloc (.cells #[.int .i64 0,.int .i64 0,.string ⟨#[]⟩] 59)=X0 at *
  have q0 := H0.out.2.c3;have fq0 := H0.out.2.f3;have HP:=Lh (put_3 H0.out.2 H0.out.1 (Nat.le_refl _) (.int .i64 0) n (.string t));simp only [setN, Nat.zero_add, Nat.reduceAdd] at HP
  go_wp2_with fail
  have t0 := HP.out.1.c3;exact bodyPost_ret (v:=.agg #[.int .i64 0,n,.string t]) (by simp [results, Tryz.results50, go_sem, t0]) rfl ⟨by rw [HX.out] <;> rfl,HP.out.2⟩
 ·have HX:=Lh (show ansV e n t=badA e from if_neg he)
  generalize ansV e n t=x at *
  have he':(e==0)=false:=by simpa using he
  clear he
  go_enter Tryz.func50,Tryz.ntmps50
  go_upto_region 1 with fail
  generalize w.alloc (.cells #[.int .i64 0,.int .i64 0,.string ⟨#[]⟩] 59)=X0 at *
  have q0 := H0.out.2.c3;have fq0 := H0.out.2.f3;have HP:=Lh (put_3 H0.out.2 H0.out.1 (Nat.le_refl _) e (.int .i64 0) (.string ⟨#[]⟩));simp only [setN, Nat.zero_add, Nat.reduceAdd] at HP
  go_wp2_with fail
  have t0 := HP.out.1.c3;exact bodyPost_ret (v:=.agg #[e,.int .i64 0,.string ⟨#[]⟩]) (by simp [results, Tryz.results50, go_sem, t0]) rfl ⟨by rw [HX.out] <;> rfl,HP.out.2⟩
theorem rnew_ok:PNewOk:=by
 intro s w
 have sc := @st_complex;have H0:=Lh (And.intro (bl1 w [.int .i64 0,.bool false,.pointer none,.pointer none,.int .i64 0,.slice none 0 0,.int .i64 0,.int .i64 0,.complex .f64 0 0,.complex .f64 0 0] 41) (Blk.start w [.int .i64 0,.bool false,.pointer none,.pointer none,.int .i64 0,.slice none 0 0,.int .i64 0,.int .i64 0,.complex .f64 0 0,.complex .f64 0 0] 41));have HNE:=Lh (show newE s=if s<1∨1000<s then 2 else 0 from rfl);have HNR:=Lh (show newR s=if s<1∨1000<s then ⟨0,[],[],false⟩ else ⟨s,[],[],false⟩ from rfl);generalize newE s=E at *
 generalize newR s=R at *
 go_enter Tryz.func6,Tryz.ntmps6
 go_upto_region 1 with fail
 generalize w.alloc (.cells #[.int .i64 0,.bool false,.pointer none,.pointer none,.int .i64 0,.slice none 0 0,.int .i64 0,.int .i64 0,.complex .f64 0 0,.complex .f64 0 0] 41)=X0 at *
 have n0 := H0.out.2.c10;have fn0 := H0.out.2.f10;by_cases h1:s<1
 ·skip
  have HE:=Lh (And.intro (HNE.out.trans (if_pos (by omega))) (HNR.out.trans (if_pos (by omega))));clear HNE HNR;have HP:=Lh (put_10 H0.out.2 H0.out.1 (Nat.le_refl _) (.int .i64 0) (.bool false) (.pointer none) (.pointer none) (.int .i64 0) (.slice none 0 0) (.int .i64 0) (.int .i64 0) (.complex .f64 0 0) (.complex .f64 0 0));simp only [setN, Nat.zero_add, Nat.reduceAdd] at HP
  go_wp2_with fail
  have p0 := HP.out.1.c10;exact bodyPost_ret (v:=.tuple #[.agg #[.int .i64 0,.bool false,.pointer none,.pointer none,.int .i64 0,.slice none 0 0,.int .i64 0,.int .i64 0,.complex .f64 0 0,.complex .f64 0 0],.int .i64 2]) (by simp [results, Tryz.results6, go_sem, p0]) rfl ⟨HP.out.2,_,_,_,_,_,_,_,_,_,_,by rw [HE.out.1],by rw [HE.out.2]; exact ⟨_,_,_,_,_,_,_,_,isv_nil _,rfl⟩⟩
 by_cases h2:1000<s
 ·skip
  have HE:=Lh (And.intro (HNE.out.trans (if_pos (by omega))) (HNR.out.trans (if_pos (by omega))));clear HNE HNR;have HP:=Lh (put_10 H0.out.2 H0.out.1 (Nat.le_refl _) (.int .i64 0) (.bool false) (.pointer none) (.pointer none) (.int .i64 0) (.slice none 0 0) (.int .i64 0) (.int .i64 0) (.complex .f64 0 0) (.complex .f64 0 0));simp only [setN, Nat.zero_add, Nat.reduceAdd] at HP
  go_wp2_with fail
  have p0 := HP.out.1.c10;exact bodyPost_ret (v:=.tuple #[.agg #[.int .i64 0,.bool false,.pointer none,.pointer none,.int .i64 0,.slice none 0 0,.int .i64 0,.int .i64 0,.complex .f64 0 0,.complex .f64 0 0],.int .i64 2]) (by simp [results, Tryz.results6, go_sem, p0]) rfl ⟨HP.out.2,_,_,_,_,_,_,_,_,_,_,by rw [HE.out.1],by rw [HE.out.2]; exact ⟨_,_,_,_,_,_,_,_,isv_nil _,rfl⟩⟩
 have HE:=Lh (And.intro (HNE.out.trans (if_neg (by omega))) (HNR.out.trans (if_neg (by omega))));have HS:=Lh (show (!shutB ⟨s,[],[],false⟩)=true by simp [shutB]; omega);clear HNE HNR;have HP:=Lh (put_10 H0.out.2 H0.out.1 (Nat.le_refl _) s (.bool true) (.pointer none) (.pointer none) (.int .i64 0) (.slice none 0 0) (.int .i64 0) (.int .i64 0) (.complex .f64 0 0) (.complex .f64 0 0));simp only [setN, Nat.zero_add, Nat.reduceAdd] at HP
 go_wp2_with fail
 have p0 := HP.out.1.c10;exact bodyPost_ret (v:=.tuple #[.agg #[s,.bool true,.pointer none,.pointer none,.int .i64 0,.slice none 0 0,.int .i64 0,.int .i64 0,.complex .f64 0 0,.complex .f64 0 0],.int .i64 0]) (by simp [results, Tryz.results6, go_sem, p0]) rfl ⟨HP.out.2,_,_,_,_,_,_,_,_,_,_,by rw [HE.out.1],by rw [HE.out.2]; exact ⟨_,_,_,_,_,_,_,_,isv_nil _,by rw [HS.out]⟩⟩
theorem rver_ok:PVerOk:=by
 intro r n c0 c1 c2 c3 c4 c5 c6 c7 c8 c9 w hR hn hS
 obtain ⟨v0,v1,v2,v3,v4,v5,v6,v7,hV,hcs⟩:=hS.ex;simp only [List.cons.injEq, and_true] at hcs
 obtain ⟨rfl,rfl,rfl,rfl,rfl,rfl,rfl,rfl,rfl,rfl⟩:=hcs;obtain ⟨sd0,sd1,sd2,sd3,sd4,sd5,sd6,sd7⟩:=st8 hV.one;have H0:=Lh (And.intro (bl2 w [r.s,.bool (!shutB r),c2,c3,c4,c5,c6,c7,c8,c9] [.pointer none,.pointer none,.int .i64 0,.slice none 0 0,.int .i64 0,.int .i64 0,.complex .f64 0 0,.complex .f64 0 0] 41 39) (And.intro (show Blk ((w.alloc (.cells #[r.s,.bool (!shutB r),c2,c3,c4,c5,c6,c7,c8,c9] 41)).alloc (.cells #[.pointer none,.pointer none,.int .i64 0,.slice none 0 0,.int .i64 0,.int .i64 0,.complex .f64 0 0,.complex .f64 0 0] 39)) (w.heap.size+1) [.pointer none,.pointer none,.int .i64 0,.slice none 0 0,.int .i64 0,.int .i64 0,.complex .f64 0 0,.complex .f64 0 0] 39 from Blk.startAt (by simp)) (show Blk ((w.alloc (.cells #[r.s,.bool (!shutB r),c2,c3,c4,c5,c6,c7,c8,c9] 41)).alloc (.cells #[.pointer none,.pointer none,.int .i64 0,.slice none 0 0,.int .i64 0,.int .i64 0,.complex .f64 0 0,.complex .f64 0 0] 39)) w.heap.size [r.s,.bool (!shutB r),c2,c3,c4,c5,c6,c7,c8,c9] 41 from (Blk.start w _ _).alloc _)));have HV:=Lh hV;generalize (!shutB r)=ob at *
 clear hS hV hR hn
 go_enter Tryz.func15,Tryz.ntmps15
 go_upto_region 1 with fail
 generalize ((w.alloc (.cells #[r.s,.bool ob,c2,c3,c4,c5,c6,c7,c8,c9] 41)).alloc (.cells #[.pointer none,.pointer none,.int .i64 0,.slice none 0 0,.int .i64 0,.int .i64 0,.complex .f64 0 0,.complex .f64 0 0] 39))=X0 at *
 have x0 := H0.out.2.2.c10;have n0 := H0.out.2.1.c8;have fn0 := H0.out.2.1.f8;have HP:=Lh (put_8 H0.out.2.1 H0.out.1 (by omega) c2 c3 c4 c5 c6 c7 c8 c9);simp only [setN, Nat.zero_add, Nat.reduceAdd] at HP
 go_wp2_with fail
 have p0 := HP.out.1.c8;exact bodyPost_ret (v:=.agg #[c2,c3,c4,c5,c6,c7,c8,c9]) (by simp [results, Tryz.results15, go_sem, p0]) rfl ⟨HP.out.2,_,_,_,_,_,_,_,_,rfl,HV.out.next HP.out.2⟩
theorem rcl_any (s:Int) (o:Bool) (v0 v1 v2 v3 v4 v5 v6 v7:Value) (w:World):Calls Tryz.prog 16 #[.agg #[s,.bool (!o),v0,v1,v2,v3,v4,v5,v6,v7]] w fun e w'=>e=.returned (.bool o)∧Below w.heap.size w w':=by
 cases o
 ·have H0:=Lh (And.intro (bl1 w [s,.bool true,v0,v1,v2,v3,v4,v5,v6,v7] 41) (Blk.start w [s,.bool true,v0,v1,v2,v3,v4,v5,v6,v7] 41))
  go_enter Tryz.func16,Tryz.ntmps16
  go_upto_region 1 with fail
  generalize w.alloc (.cells #[s,.bool true,v0,v1,v2,v3,v4,v5,v6,v7] 41)=X0 at *
  have x0 := H0.out.2.c10;go_wp2_with fail
  go_ret
  exact ⟨rfl,H0.out.1⟩
 ·have H0:=Lh (And.intro (bl1 w [s,.bool false,v0,v1,v2,v3,v4,v5,v6,v7] 41) (Blk.start w [s,.bool false,v0,v1,v2,v3,v4,v5,v6,v7] 41))
  go_enter Tryz.func16,Tryz.ntmps16
  go_upto_region 1 with fail
  generalize w.alloc (.cells #[s,.bool false,v0,v1,v2,v3,v4,v5,v6,v7] 41)=X0 at *
  have x0 := H0.out.2.c10;go_wp2_with fail
  go_ret
  exact ⟨rfl,H0.out.1⟩
theorem rshut_ok:PShutOk:=by
 intro r n c0 c1 c2 c3 c4 c5 c6 c7 c8 c9 w hR hn hS
 obtain ⟨v0,v1,v2,v3,v4,v5,v6,v7,hV,hcs⟩:=hS.ex;simp only [List.cons.injEq,and_true] at hcs
 obtain ⟨rfl,rfl,rfl,rfl,rfl,rfl,rfl,rfl,rfl,rfl⟩:=hcs;exact rcl_any r.s (shutB r) c2 c3 c4 c5 c6 c7 c8 c9 w
theorem rstr_ok:PStrOk:=by
 intro k w h0 h1 hw
 have HB:=Lh (Below.refl w.heap.size w);by_cases hlo:k<0
 ·have HW:=Lh (show wordA k=⟨#[110,111,110,101]⟩ by unfold wordA; rw [if_neg (by omega),if_neg (by omega),if_neg (by omega),if_neg (by omega),if_neg (by omega),if_neg (by omega),if_neg (by omega),if_neg (by omega),if_neg (by omega)])
  clear h0 h1 hw;generalize wordA k=tx at *
  go_enter Tryz.func17,Tryz.ntmps17
  go_wp2_with fail
  go_ret
  exact ⟨by rw [HW.out]; rfl,HB.out⟩
 by_cases hhi:8<k
 ·have HW:=Lh (show wordA k=⟨#[110,111,110,101]⟩ by unfold wordA; rw [if_neg (by omega),if_neg (by omega),if_neg (by omega),if_neg (by omega),if_neg (by omega),if_neg (by omega),if_neg (by omega),if_neg (by omega),if_neg (by omega)])
  clear h0 h1 hw;generalize wordA k=tx at *
  go_enter Tryz.func17,Tryz.ntmps17
  go_wp2_with fail
  go_ret
  exact ⟨by rw [HW.out]; rfl,HB.out⟩
 have hq:∃ i:Nat,i<9∧(i:Int)=k:=⟨k.toNat,by omega,by omega⟩
 obtain ⟨i,hi,rfl⟩:=hq;have c:=hw i hi;generalize wordA (i:Int)=tx at *
 clear hw hlo h0 h1 hhi
 go_enter Tryz.func17,Tryz.ntmps17
 go_wp2_with fail
 go_ret
 exact ⟨rfl,HB.out⟩
end Go.Proofs.YtpbhaieclkoggaaGreatDoor
set_option maxRecDepth 100000
set_option maxHeartbeats 12800000
namespace Go.Proofs.YtpbhaieclkoggaaGreatDoor
open Go Go.Proofs Go.RowKit
def WPost (w:World) (T:List Oq×List Oq×List Chg) (x:Ans):Ending→World→Prop:=fun e w'=>Below w.heap.size w w'∧∃ d0 d1 d2 d3 d4 d5 d6 d7 lc,e=.returned (.tuple #[.agg #[d0,d1,d2,d3,d4,d5,d6,d7],.agg #[x.e,x.n,.string x.t],lc])∧IsV w' T.1 T.2.1 [d0,d1,d2,d3,d4,d5,d6,d7]∧IsVC w' lc T.2.2
def LPost (w:World) (x:Ans):Ending→World→Prop:=fun e w'=>e=.returned (.agg #[x.e,x.n,.string x.t])∧Below w.heap.size w w'
structure G13 (w:World) (bV:Nat) (L0 L1 L2 L3 us:List Value) (tm tl:List Oq) (tc:List Chg) (lc:Value) (W:World):Prop extends Bx4 w L0 L1 L2 L3 41 57 39 59 W where
 bv:Blk W bV us 39
 iv:IsV W tm tl us
 ic:IsVC W lc tc
 lt:w.heap.size+1+1+1<bV
section
variable {w W:World} {bV:Nat} {L0 L1 L2 L3 us:List Value} {tm tl:List Oq} {tc:List Chg} {lc:Value}
theorem G13.next {W':World} (h:G13 w bV L0 L1 L2 L3 us tm tl tc lc W) (hb:Below W.heap.size W W'):G13 w bV L0 L1 L2 L3 us tm tl tc lc W':=⟨h.toBx4.next hb,h.bv.next hb,h.iv.next hb,h.ic.next hb,h.lt⟩
theorem G13.p2 (h:G13 w bV L0 L1 L2 L3 us tm tl tc lc W) (vs:List Value):G13 w bV L0 L1 (putN L2 0 vs) L3 us tm tl tc lc (setN W (w.heap.size+1+1) 0 vs):=
 ⟨h.toBx4.p2 vs 0,h.bv.setN (by have:=h.lt; omega) _ _,h.iv.setB h.b2 (by decide) (by decide) (by decide) _ _,Sl.kt (KT.setN (by decide) _ _ h.b2) h.ic,h.lt⟩
theorem G13.p3 (h:G13 w bV L0 L1 L2 L3 us tm tl tc lc W) (vs:List Value):G13 w bV L0 L1 L2 (putN L3 0 vs) us tm tl tc lc (setN W (w.heap.size+1+1+1) 0 vs):=
 ⟨h.toBx4.p3 vs 0,h.bv.setN (by have:=h.lt; omega) _ _,h.iv.setB h.b3 (by decide) (by decide) (by decide) _ _,Sl.kt (KT.setN (by decide) _ _ h.b3) h.ic,h.lt⟩
def GX (w:World) (bV:Nat) (L0 L1 us:List Value) (tm tl:List Oq) (tc:List Chg) (lc:Value) (W:World):Prop:=∃ a0 a1 a2 a3 a4 a5 a6 a7 b0 b1 b2,G13 w bV L0 L1 [a0,a1,a2,a3,a4,a5,a6,a7] [b0,b1,b2] us tm tl tc lc W
theorem GX.of {a0 a1 a2 a3 a4 a5 a6 a7 b0 b1 b2:Value} (h:G13 w bV L0 L1 [a0,a1,a2,a3,a4,a5,a6,a7] [b0,b1,b2] us tm tl tc lc W):GX w bV L0 L1 us tm tl tc lc W:=⟨_,_,_,_,_,_,_,_,_,_,_,h⟩
theorem GX.next {W':World} (h:GX w bV L0 L1 us tm tl tc lc W) (hb:Below W.heap.size W W'):GX w bV L0 L1 us tm tl tc lc W':=by
 obtain ⟨_,_,_,_,_,_,_,_,_,_,_,h⟩:=h; exact .of (h.next hb)
theorem GX.v (h:GX w bV L0 L1 us tm tl tc lc W):Blk W bV us 39:=by obtain ⟨_,_,_,_,_,_,_,_,_,_,_,h⟩:=h; exact h.bv
theorem GX.i (h:GX w bV L0 L1 us tm tl tc lc W):IsV W tm tl us:=by obtain ⟨_,_,_,_,_,_,_,_,_,_,_,h⟩:=h; exact h.iv
theorem GX.e (h:GX w bV L0 L1 us tm tl tc lc W):Below w.heap.size w W:=by obtain ⟨_,_,_,_,_,_,_,_,_,_,_,h⟩:=h; exact h.bel
end
theorem dd1_ok (HV:VAll) (m l:List Oq) (n:Nat) (hV:VOk m l n) (hn:n≤45) (c:Cal) (s:Int) (hV2:VOk (inT8 m l s c.p c.ch c.lo c.hi).1 (inT8 m l s c.p c.ch c.lo c.hi).2.1 (n+1)) (ob:Bool) (v0 v1 v2 v3 v4 v5 v6 v7:Value) (w:World) (hS:IsV w m l [v0,v1,v2,v3,v4,v5,v6,v7]) (ht:Tabs w):
  Calls Tryz.prog 49 #[.agg #[s,.bool ob,v0,v1,v2,v3,v4,v5,v6,v7],.agg #[c.k,c.p,.int .i32 c.ch,c.o.k,c.o.c,c.o.s,c.o.a,c.o.n,.int .i32 c.o.ch,c.a,c.b]] w (WPost w (inT8 m l s c.p c.ch c.lo c.hi) (ansV (inE8 m l s c.p c.ch c.lo c.hi) ((inT8 m l s c.p c.ch c.lo c.hi).1.length:Int) (oT (opP (inE8 m l s c.p c.ch c.lo c.hi) (inV8 m l s c.p c.ch c.lo c.hi))))):=by
 obtain ⟨sd0,sd1,sd2,sd3,sd4,sd5,sd6,sd7⟩:=st8 hS.one;have H0:=Lh (Bx4.start:Bx4 w [s,.bool ob,v0,v1,v2,v3,v4,v5,v6,v7] [c.k,c.p,.int .i32 c.ch,c.o.k,c.o.c,c.o.s,c.o.a,c.o.n,.int .i32 c.o.ch,c.a,c.b] [.pointer none,.pointer none,.int .i64 0,.slice none 0 0,.int .i64 0,.int .i64 0,.complex .f64 0 0,.complex .f64 0 0] [.int .i64 0,.int .i64 0,.string ⟨#[]⟩] 41 57 39 59 ((((w.alloc (.cells #[s,.bool ob,v0,v1,v2,v3,v4,v5,v6,v7] 41)).alloc (.cells #[c.k,c.p,.int .i32 c.ch,c.o.k,c.o.c,c.o.s,c.o.a,c.o.n,.int .i32 c.o.ch,c.a,c.b] 57)).alloc (.cells #[.pointer none,.pointer none,.int .i64 0,.slice none 0 0,.int .i64 0,.int .i64 0,.complex .f64 0 0,.complex .f64 0 0] 39)).alloc (.cells #[.int .i64 0,.int .i64 0,.string ⟨#[]⟩] 59)));have HS:=Lh hS;have HTT:=Lh ht;have HC:=Lh (fun U (h:IsV U m l [v0,v1,v2,v3,v4,v5,v6,v7])=>HV.ins m l n s c.p c.ch c.lo c.hi v0 v1 v2 v3 v4 v5 v6 v7 U hV (by omega) c.p0 c.p1 h);generalize inE8 m l s c.p c.ch c.lo c.hi=E at *
 generalize inT8 m l s c.p c.ch c.lo c.hi=tt at *
 generalize opP E (inV8 m l s c.p c.ch c.lo c.hi)=x at *
 obtain ⟨tm,tl,tc⟩:=tt
 dsimp only at hV2 HC ⊢
 have HSQ:=Lh (fun U u0 u1 u2 u3 u4 u5 u6 u7 (h:IsV U tm tl [u0,u1,u2,u3,u4,u5,u6,u7])=>HV.seq tm tl (n+1) u0 u1 u2 u3 u4 u5 u6 u7 U hV2 (by omega) h);have HST:=Lh (fun U (h:Tabs U)=>opstr12 x U h);generalize oT x=tx at *
 have HAN:=Lh (fun U=>answer_any (tm.length:Int) E tx U);generalize ansV E (tm.length:Int) tx=an at *
 clear HV hV hn hV2 hS ht
 go_enter Tryz.func49,Tryz.ntmps49
 go_upto_region 1 with fail
 generalize ((((w.alloc (.cells #[s,.bool ob,v0,v1,v2,v3,v4,v5,v6,v7] 41)).alloc (.cells #[c.k,c.p,.int .i32 c.ch,c.o.k,c.o.c,c.o.s,c.o.a,c.o.n,.int .i32 c.o.ch,c.a,c.b] 57)).alloc (.cells #[.pointer none,.pointer none,.int .i64 0,.slice none 0 0,.int .i64 0,.int .i64 0,.complex .f64 0 0,.complex .f64 0 0] 39)).alloc (.cells #[.int .i64 0,.int .i64 0,.string ⟨#[]⟩] 59))=X0 at *
 have x0 := H0.out.b0.c10;have y0 := H0.out.b1.c11;go_wp2_with (go_at_call 43; refine (HC.out _ (HS.out.next H0.out.bel)).mono ?_; rintro e w1 ⟨hb,u0,u1,u2,u3,u4,u5,u6,u7,lc,y,rfl,rfl,hiv,hic⟩; refine Hid.out ?_)
 have HON:=Lh hiv.one;obtain ⟨se0,se1,se2,se3,se4,se5,se6,se7⟩:=st8 hiv.one;have hA:=bl2 w1 [u0,u1,u2,u3,u4,u5,u6,u7] [y.k,y.c,y.s,y.a,y.n,.int .i32 y.ch] 39 55;have hF:=H0.out.next hb;have H2:=Lh (show G13 w w1.heap.size [s,.bool ob,v0,v1,v2,v3,v4,v5,v6,v7] [c.k,c.p,.int .i32 c.ch,c.o.k,c.o.c,c.o.s,c.o.a,c.o.n,.int .i32 c.o.ch,c.a,c.b] [.pointer none,.pointer none,.int .i64 0,.slice none 0 0,.int .i64 0,.int .i64 0,.complex .f64 0 0,.complex .f64 0 0] [.int .i64 0,.int .i64 0,.string ⟨#[]⟩] [u0,u1,u2,u3,u4,u5,u6,u7] tm tl tc (lc) ((w1.alloc (.cells #[u0,u1,u2,u3,u4,u5,u6,u7] 39)).alloc (.cells #[y.k,y.c,y.s,y.a,y.n,.int .i32 y.ch] 55))∧Blk ((w1.alloc (.cells #[u0,u1,u2,u3,u4,u5,u6,u7] 39)).alloc (.cells #[y.k,y.c,y.s,y.a,y.n,.int .i32 y.ch] 55)) (w1.heap.size+1) [y.k,y.c,y.s,y.a,y.n,.int .i32 y.ch] 55 from ⟨⟨hF.next hA,(Blk.start w1 _ _).alloc _,hiv.next hA,hic.next hA,hF.b3.lt⟩,Blk.startAt (by simp)⟩);clear H0 hF hA hb hiv hic HC x0 y0 sd0 sd1 sd2 sd3 sd4 sd5 sd6 sd7;refine Lh ?_
 go_upto_region 2 with fail
 generalize (w1.alloc (.cells #[u0,u1,u2,u3,u4,u5,u6,u7] 39)).alloc (.cells #[y.k,y.c,y.s,y.a,y.n,.int .i32 y.ch] 55)=W2 at *
 generalize w1.heap.size=bV at *
 refine rgH (fun W=>(GX w bV [s,.bool ob,v0,v1,v2,v3,v4,v5,v6,v7] [c.k,c.p,.int .i32 c.ch,c.o.k,c.o.c,c.o.s,c.o.a,c.o.n,.int .i32 c.o.ch,c.a,c.b] [u0,u1,u2,u3,u4,u5,u6,u7] tm tl tc (lc) W∧Blk W (bV+1) [y.k,y.c,y.s,y.a,y.n,.int .i32 y.ch] 55)∧Cz8 W bV u0 u1 u2 u3 u4 u5 u6 u7∧Cz6 W (bV+1) y.k y.c y.s y.a y.n (.int .i32 y.ch)) (let h:=And.intro (GX.of (H2.out.1.next bdq)) (H2.out.2.next bdq); ⟨h,h.1.v.c8,h.2.c6⟩) fun hH=>?_
 clear H2;generalize hX9:World.drew _=X9 at *
 clear hX9;refine tq 0 (.agg #[u0,u1,u2,u3,u4,u5,u6,u7]) hH ?_;refine tq 1 (.agg #[u0,u1,u2,u3,u4,u5,u6,u7]) hH ?_;refine tq 3 (.agg #[y.k,y.c,y.s,y.a,y.n,.int .i32 y.ch]) hH ?_;refine tq 5 E hH ?_;refine tq 7 (lc) hH ?_;refine rd1 2 (by kernel_rfl) rfl fun K hK=>?_
 go_simp
 refine (HSQ.out _ _ _ _ _ _ _ _ _ hH.1.1.i).mono ?_
 rintro e ua ⟨rfl,hb⟩
 go_wp2_with fail
 refine hK.out _ _ (let h:=And.intro (hH.1.1.next hb) (hH.1.2.next hb); ⟨h,h.1.v.c8,h.2.c6⟩) ?_;clear hK K hH;intro hH
 try simp only [LAY]
 clear hb;refine rd1 4 (by kernel_rfl) rfl fun K hK=>?_
 go_simp
 refine (HST.out _ (HTT.out.next hH.1.1.e)).mono ?_
 rintro e ub ⟨rfl,hb⟩
 go_wp2_with fail
 refine hK.out _ _ (let h:=And.intro (hH.1.1.next hb) (hH.1.2.next hb); ⟨h,h.1.v.c8,h.2.c6⟩) ?_;clear hK K hH;intro hH
 try simp only [LAY]
 clear hb;refine rd1 6 (by kernel_rfl) rfl fun K hK=>?_
 go_simp
 refine (HAN.out _).mono ?_
 rintro e uc ⟨rfl,hb⟩
 go_wp2_with fail
 refine hK.out _ _ (let h:=And.intro (hH.1.1.next hb) (hH.1.2.next hb); ⟨h,h.1.v.c8,h.2.c6⟩) ?_;clear hK K hH;intro hH
 try simp only [LAY]
 clear hb;obtain ⟨⟨a0,a1,a2,a3,a4,a5,a6,a7,g0,g1,g2,hg⟩,ho⟩:=hH.1;have h2:=hg.p2 [u0,u1,u2,u3,u4,u5,u6,u7]
 replace ho:=ho.setN (b:=w.heap.size+1+1) (by have:=hg.lt; omega) [u0,u1,u2,u3,u4,u5,u6,u7] 0
 refine stN 8 hg.b2 [u0,u1,u2,u3,u4,u5,u6,u7] (HON.out) (let h:=And.intro (GX.of h2) ho; ⟨h,h.1.v.c8,h.2.c6⟩) (fun hH=>?_);generalize setN uc (w.heap.size+1+1) 0 [u0,u1,u2,u3,u4,u5,u6,u7]=wz at *
 have h3:=h2.p3 [an.e,an.n,.string an.t]
 replace ho:=ho.setN (b:=w.heap.size+1+1+1) (by have:=h2.lt; omega) [an.e,an.n,.string an.t] 0
 refine stN 9 h2.b3 [an.e,an.n,.string an.t] (by simp [Value.oneCell']) (let h:=And.intro (GX.of h3) ho; ⟨h,h.1.v.c8,h.2.c6⟩) (fun hH=>?_);generalize setN wz (w.heap.size+1+1+1) 0 [an.e,an.n,.string an.t]=wy at *
 refine tq 10 (lc) hH ?_;refine dnH ?_;clear hH;obtain ⟨p0,p1,p2,p3,p4,p5,p6,p7⟩:=h3.b2.c8;have t0 := h3.b3.c3
 replace h3:=Lh h3
 clear h2 hg;go_wp2_with fail
 exact bodyPost_ret (v:=.tuple #[.agg #[u0,u1,u2,u3,u4,u5,u6,u7],.agg #[an.e,an.n,.string an.t],lc]) (by simp [results, Tryz.results49, go_sem, p0, p1, p2, p3, p4, p5, p6, p7, t0]) rfl ⟨h3.out.bel,_,_,_,_,_,_,_,_,_,rfl,h3.out.iv,h3.out.ic⟩
theorem dd2_ok (HV:VAll) (m l:List Oq) (n:Nat) (hV:VOk m l n) (hn:n≤45) (c:Cal) (s:Int) (hV2:VOk (deT8 m l c.p).1 (deT8 m l c.p).2.1 (n+1)) (ob:Bool) (v0 v1 v2 v3 v4 v5 v6 v7:Value) (w:World) (hS:IsV w m l [v0,v1,v2,v3,v4,v5,v6,v7]) (ht:Tabs w):
  Calls Tryz.prog 52 #[.agg #[s,.bool ob,v0,v1,v2,v3,v4,v5,v6,v7],.agg #[c.k,c.p,.int .i32 c.ch,c.o.k,c.o.c,c.o.s,c.o.a,c.o.n,.int .i32 c.o.ch,c.a,c.b]] w (WPost w (deT8 m l c.p) (ansV (deE8 m l c.p) ((deT8 m l c.p).1.length:Int) (oT (opP (deE8 m l c.p) (deV8 m c.p))))):=by
 obtain ⟨sd0,sd1,sd2,sd3,sd4,sd5,sd6,sd7⟩:=st8 hS.one;have H0:=Lh (Bx4.start:Bx4 w [s,.bool ob,v0,v1,v2,v3,v4,v5,v6,v7] [c.k,c.p,.int .i32 c.ch,c.o.k,c.o.c,c.o.s,c.o.a,c.o.n,.int .i32 c.o.ch,c.a,c.b] [.pointer none,.pointer none,.int .i64 0,.slice none 0 0,.int .i64 0,.int .i64 0,.complex .f64 0 0,.complex .f64 0 0] [.int .i64 0,.int .i64 0,.string ⟨#[]⟩] 41 57 39 59 ((((w.alloc (.cells #[s,.bool ob,v0,v1,v2,v3,v4,v5,v6,v7] 41)).alloc (.cells #[c.k,c.p,.int .i32 c.ch,c.o.k,c.o.c,c.o.s,c.o.a,c.o.n,.int .i32 c.o.ch,c.a,c.b] 57)).alloc (.cells #[.pointer none,.pointer none,.int .i64 0,.slice none 0 0,.int .i64 0,.int .i64 0,.complex .f64 0 0,.complex .f64 0 0] 39)).alloc (.cells #[.int .i64 0,.int .i64 0,.string ⟨#[]⟩] 59)));have HS:=Lh hS;have HTT:=Lh ht;have HC:=Lh (fun U (h:IsV U m l [v0,v1,v2,v3,v4,v5,v6,v7])=>HV.del m l n c.p v0 v1 v2 v3 v4 v5 v6 v7 U hV (by omega) c.p0 c.p1 h);generalize deE8 m l c.p=E at *
 generalize deT8 m l c.p=tt at *
 generalize opP E (deV8 m c.p)=x at *
 obtain ⟨tm,tl,tc⟩:=tt
 dsimp only at hV2 HC ⊢
 have HSQ:=Lh (fun U u0 u1 u2 u3 u4 u5 u6 u7 (h:IsV U tm tl [u0,u1,u2,u3,u4,u5,u6,u7])=>HV.seq tm tl (n+1) u0 u1 u2 u3 u4 u5 u6 u7 U hV2 (by omega) h);have HST:=Lh (fun U (h:Tabs U)=>opstr12 x U h);generalize oT x=tx at *
 have HAN:=Lh (fun U=>answer_any (tm.length:Int) E tx U);generalize ansV E (tm.length:Int) tx=an at *
 clear HV hV hn hV2 hS ht
 go_enter Tryz.func52,Tryz.ntmps52
 go_upto_region 1 with fail
 generalize ((((w.alloc (.cells #[s,.bool ob,v0,v1,v2,v3,v4,v5,v6,v7] 41)).alloc (.cells #[c.k,c.p,.int .i32 c.ch,c.o.k,c.o.c,c.o.s,c.o.a,c.o.n,.int .i32 c.o.ch,c.a,c.b] 57)).alloc (.cells #[.pointer none,.pointer none,.int .i64 0,.slice none 0 0,.int .i64 0,.int .i64 0,.complex .f64 0 0,.complex .f64 0 0] 39)).alloc (.cells #[.int .i64 0,.int .i64 0,.string ⟨#[]⟩] 59))=X0 at *
 have x0 := H0.out.b0.c10;have y0 := H0.out.b1.c11;go_wp2_with (go_at_call 45; refine (HC.out _ (HS.out.next H0.out.bel)).mono ?_; rintro e w1 ⟨hb,u0,u1,u2,u3,u4,u5,u6,u7,lc,y,rfl,rfl,hiv,hic⟩; refine Hid.out ?_)
 have HON:=Lh hiv.one;obtain ⟨se0,se1,se2,se3,se4,se5,se6,se7⟩:=st8 hiv.one;have hA:=bl2 w1 [u0,u1,u2,u3,u4,u5,u6,u7] [y.k,y.c,y.s,y.a,y.n,.int .i32 y.ch] 39 55;have hF:=H0.out.next hb;have H2:=Lh (show G13 w w1.heap.size [s,.bool ob,v0,v1,v2,v3,v4,v5,v6,v7] [c.k,c.p,.int .i32 c.ch,c.o.k,c.o.c,c.o.s,c.o.a,c.o.n,.int .i32 c.o.ch,c.a,c.b] [.pointer none,.pointer none,.int .i64 0,.slice none 0 0,.int .i64 0,.int .i64 0,.complex .f64 0 0,.complex .f64 0 0] [.int .i64 0,.int .i64 0,.string ⟨#[]⟩] [u0,u1,u2,u3,u4,u5,u6,u7] tm tl tc (lc) ((w1.alloc (.cells #[u0,u1,u2,u3,u4,u5,u6,u7] 39)).alloc (.cells #[y.k,y.c,y.s,y.a,y.n,.int .i32 y.ch] 55))∧Blk ((w1.alloc (.cells #[u0,u1,u2,u3,u4,u5,u6,u7] 39)).alloc (.cells #[y.k,y.c,y.s,y.a,y.n,.int .i32 y.ch] 55)) (w1.heap.size+1) [y.k,y.c,y.s,y.a,y.n,.int .i32 y.ch] 55 from ⟨⟨hF.next hA,(Blk.start w1 _ _).alloc _,hiv.next hA,hic.next hA,hF.b3.lt⟩,Blk.startAt (by simp)⟩);clear H0 hF hA hb hiv hic HC x0 y0 sd0 sd1 sd2 sd3 sd4 sd5 sd6 sd7;refine Lh ?_
 go_upto_region 2 with fail
 generalize (w1.alloc (.cells #[u0,u1,u2,u3,u4,u5,u6,u7] 39)).alloc (.cells #[y.k,y.c,y.s,y.a,y.n,.int .i32 y.ch] 55)=W2 at *
 generalize w1.heap.size=bV at *
 refine rgH (fun W=>(GX w bV [s,.bool ob,v0,v1,v2,v3,v4,v5,v6,v7] [c.k,c.p,.int .i32 c.ch,c.o.k,c.o.c,c.o.s,c.o.a,c.o.n,.int .i32 c.o.ch,c.a,c.b] [u0,u1,u2,u3,u4,u5,u6,u7] tm tl tc (lc) W∧Blk W (bV+1) [y.k,y.c,y.s,y.a,y.n,.int .i32 y.ch] 55)∧Cz8 W bV u0 u1 u2 u3 u4 u5 u6 u7∧Cz6 W (bV+1) y.k y.c y.s y.a y.n (.int .i32 y.ch)) (let h:=And.intro (GX.of (H2.out.1.next bdq)) (H2.out.2.next bdq); ⟨h,h.1.v.c8,h.2.c6⟩) fun hH=>?_
 clear H2;generalize hX9:World.drew _=X9 at *
 clear hX9;refine tq 0 (.agg #[u0,u1,u2,u3,u4,u5,u6,u7]) hH ?_;refine tq 1 (.agg #[u0,u1,u2,u3,u4,u5,u6,u7]) hH ?_;refine tq 3 (.agg #[y.k,y.c,y.s,y.a,y.n,.int .i32 y.ch]) hH ?_;refine tq 5 E hH ?_;refine tq 7 (lc) hH ?_;refine rd1 2 (by kernel_rfl) rfl fun K hK=>?_
 go_simp
 refine (HSQ.out _ _ _ _ _ _ _ _ _ hH.1.1.i).mono ?_
 rintro e ua ⟨rfl,hb⟩
 go_wp2_with fail
 refine hK.out _ _ (let h:=And.intro (hH.1.1.next hb) (hH.1.2.next hb); ⟨h,h.1.v.c8,h.2.c6⟩) ?_;clear hK K hH;intro hH
 try simp only [LAY]
 clear hb;refine rd1 4 (by kernel_rfl) rfl fun K hK=>?_
 go_simp
 refine (HST.out _ (HTT.out.next hH.1.1.e)).mono ?_
 rintro e ub ⟨rfl,hb⟩
 go_wp2_with fail
 refine hK.out _ _ (let h:=And.intro (hH.1.1.next hb) (hH.1.2.next hb); ⟨h,h.1.v.c8,h.2.c6⟩) ?_;clear hK K hH;intro hH
 try simp only [LAY]
 clear hb;refine rd1 6 (by kernel_rfl) rfl fun K hK=>?_
 go_simp
 refine (HAN.out _).mono ?_
 rintro e uc ⟨rfl,hb⟩
 go_wp2_with fail
 refine hK.out _ _ (let h:=And.intro (hH.1.1.next hb) (hH.1.2.next hb); ⟨h,h.1.v.c8,h.2.c6⟩) ?_;clear hK K hH;intro hH
 try simp only [LAY]
 clear hb;obtain ⟨⟨a0,a1,a2,a3,a4,a5,a6,a7,g0,g1,g2,hg⟩,ho⟩:=hH.1;have h2:=hg.p2 [u0,u1,u2,u3,u4,u5,u6,u7]
 replace ho:=ho.setN (b:=w.heap.size+1+1) (by have:=hg.lt; omega) [u0,u1,u2,u3,u4,u5,u6,u7] 0
 refine stN 8 hg.b2 [u0,u1,u2,u3,u4,u5,u6,u7] (HON.out) (let h:=And.intro (GX.of h2) ho; ⟨h,h.1.v.c8,h.2.c6⟩) (fun hH=>?_);generalize setN uc (w.heap.size+1+1) 0 [u0,u1,u2,u3,u4,u5,u6,u7]=wz at *
 have h3:=h2.p3 [an.e,an.n,.string an.t]
 replace ho:=ho.setN (b:=w.heap.size+1+1+1) (by have:=h2.lt; omega) [an.e,an.n,.string an.t] 0
 refine stN 9 h2.b3 [an.e,an.n,.string an.t] (by simp [Value.oneCell']) (let h:=And.intro (GX.of h3) ho; ⟨h,h.1.v.c8,h.2.c6⟩) (fun hH=>?_);generalize setN wz (w.heap.size+1+1+1) 0 [an.e,an.n,.string an.t]=wy at *
 refine tq 10 (lc) hH ?_;refine dnH ?_;clear hH;obtain ⟨p0,p1,p2,p3,p4,p5,p6,p7⟩:=h3.b2.c8;have t0 := h3.b3.c3
 replace h3:=Lh h3
 clear h2 hg;go_wp2_with fail
 exact bodyPost_ret (v:=.tuple #[.agg #[u0,u1,u2,u3,u4,u5,u6,u7],.agg #[an.e,an.n,.string an.t],lc]) (by simp [results, Tryz.results52, go_sem, p0, p1, p2, p3, p4, p5, p6, p7, t0]) rfl ⟨h3.out.bel,_,_,_,_,_,_,_,_,_,rfl,h3.out.iv,h3.out.ic⟩
theorem dd3_ok (HV:VAll) (m l:List Oq) (n:Nat) (hV:VOk m l n) (hn:n≤45) (c:Cal) (s:Int) (ob:Bool) (v0 v1 v2 v3 v4 v5 v6 v7:Value) (w:World) (hS:IsV w m l [v0,v1,v2,v3,v4,v5,v6,v7]) (ht:Tabs w):
  Calls Tryz.prog 53 #[.agg #[s,.bool ob,v0,v1,v2,v3,v4,v5,v6,v7],.agg #[c.k,c.p,.int .i32 c.ch,c.o.k,c.o.c,c.o.s,c.o.a,c.o.n,.int .i32 c.o.ch,c.a,c.b]] w (WPost w (remT m l c.o) (ansV (remE m l c.o) ((remT m l c.o).2.2.length:Int) ⟨#[]⟩)):=by
 obtain ⟨sd0,sd1,sd2,sd3,sd4,sd5,sd6,sd7⟩:=st8 hS.one;have H0:=Lh (Bx4.start:Bx4 w [s,.bool ob,v0,v1,v2,v3,v4,v5,v6,v7] [c.k,c.p,.int .i32 c.ch,c.o.k,c.o.c,c.o.s,c.o.a,c.o.n,.int .i32 c.o.ch,c.a,c.b] [.pointer none,.pointer none,.int .i64 0,.slice none 0 0,.int .i64 0,.int .i64 0,.complex .f64 0 0,.complex .f64 0 0] [.int .i64 0,.int .i64 0,.string ⟨#[]⟩] 41 57 39 59 ((((w.alloc (.cells #[s,.bool ob,v0,v1,v2,v3,v4,v5,v6,v7] 41)).alloc (.cells #[c.k,c.p,.int .i32 c.ch,c.o.k,c.o.c,c.o.s,c.o.a,c.o.n,.int .i32 c.o.ch,c.a,c.b] 57)).alloc (.cells #[.pointer none,.pointer none,.int .i64 0,.slice none 0 0,.int .i64 0,.int .i64 0,.complex .f64 0 0,.complex .f64 0 0] 39)).alloc (.cells #[.int .i64 0,.int .i64 0,.string ⟨#[]⟩] 59)));have HS:=Lh hS;have HTT:=Lh ht;have HC:=Lh (fun U (h:IsV U m l [v0,v1,v2,v3,v4,v5,v6,v7])=>HV.rm m l n c.o v0 v1 v2 v3 v4 v5 v6 v7 U hV (by omega) h);generalize remE m l c.o=E at *
 generalize remT m l c.o=tt at *
 obtain ⟨tm,tl,tc⟩:=tt
 dsimp only at HC ⊢
 have HAN:=Lh (fun U=>answer_any (tc.length:Int) E ⟨#[]⟩ U);generalize ansV E (tc.length:Int) ⟨#[]⟩=an at *
 clear HV hV hn hS ht
 go_enter Tryz.func53,Tryz.ntmps53
 go_upto_region 1 with fail
 generalize ((((w.alloc (.cells #[s,.bool ob,v0,v1,v2,v3,v4,v5,v6,v7] 41)).alloc (.cells #[c.k,c.p,.int .i32 c.ch,c.o.k,c.o.c,c.o.s,c.o.a,c.o.n,.int .i32 c.o.ch,c.a,c.b] 57)).alloc (.cells #[.pointer none,.pointer none,.int .i64 0,.slice none 0 0,.int .i64 0,.int .i64 0,.complex .f64 0 0,.complex .f64 0 0] 39)).alloc (.cells #[.int .i64 0,.int .i64 0,.string ⟨#[]⟩] 59))=X0 at *
 have x0 := H0.out.b0.c10;have y0 := H0.out.b1.c11;go_wp2_with (go_at_call 54; refine (HC.out _ (HS.out.next H0.out.bel)).mono ?_; rintro e w1 ⟨hb,u0,u1,u2,u3,u4,u5,u6,u7,lc,rfl,hiv,hic⟩; refine Hid.out ?_)
 have HON:=Lh hiv.one;obtain ⟨se0,se1,se2,se3,se4,se5,se6,se7⟩:=st8 hiv.one;obtain ⟨al,pl,rfl,-,-⟩:=hic.form
 change IsVC w1 (.slice al tc.length pl) tc at hic
 have hA:=bl1 w1 [u0,u1,u2,u3,u4,u5,u6,u7] 39;have hF:=H0.out.next hb;have H2:=Lh (show G13 w w1.heap.size [s,.bool ob,v0,v1,v2,v3,v4,v5,v6,v7] [c.k,c.p,.int .i32 c.ch,c.o.k,c.o.c,c.o.s,c.o.a,c.o.n,.int .i32 c.o.ch,c.a,c.b] [.pointer none,.pointer none,.int .i64 0,.slice none 0 0,.int .i64 0,.int .i64 0,.complex .f64 0 0,.complex .f64 0 0] [.int .i64 0,.int .i64 0,.string ⟨#[]⟩] [u0,u1,u2,u3,u4,u5,u6,u7] tm tl tc (.slice al tc.length pl) (w1.alloc (.cells #[u0,u1,u2,u3,u4,u5,u6,u7] 39))∧True from ⟨⟨hF.next hA,Blk.start w1 _ _,hiv.next hA,hic.next hA,hF.b3.lt⟩,trivial⟩);clear H0 hF hA hb hiv hic HC x0 y0 sd0 sd1 sd2 sd3 sd4 sd5 sd6 sd7;refine Lh ?_
 go_upto_region 2 with fail
 generalize w1.alloc (.cells #[u0,u1,u2,u3,u4,u5,u6,u7] 39)=W2 at *
 generalize w1.heap.size=bV at *
 refine rgH (fun W=>(GX w bV [s,.bool ob,v0,v1,v2,v3,v4,v5,v6,v7] [c.k,c.p,.int .i32 c.ch,c.o.k,c.o.c,c.o.s,c.o.a,c.o.n,.int .i32 c.o.ch,c.a,c.b] [u0,u1,u2,u3,u4,u5,u6,u7] tm tl tc (.slice al tc.length pl) W∧True)∧Cz8 W bV u0 u1 u2 u3 u4 u5 u6 u7) (let h:=And.intro (GX.of (H2.out.1.next bdq)) trivial; ⟨h,h.1.v.c8⟩) fun hH=>?_
 clear H2;generalize hX9:World.drew _=X9 at *
 clear hX9;refine tq 0 (.agg #[u0,u1,u2,u3,u4,u5,u6,u7]) hH ?_;refine tq 1 (.slice al tc.length pl) hH ?_;refine tq 2 (.int .i64 (tc.length:Int)) hH ?_;refine tq 3 E hH ?_;refine tq 5 (.slice al tc.length pl) hH ?_;refine rd1 4 (by kernel_rfl) rfl fun K hK=>?_
 go_simp
 refine (HAN.out _).mono ?_
 rintro e uc ⟨rfl,hb⟩
 go_wp2_with fail
 refine hK.out _ _ (let h:=And.intro (hH.1.1.next hb) trivial; ⟨h,h.1.v.c8⟩) ?_;clear hK K hH;intro hH
 try simp only [LAY]
 clear hb;obtain ⟨⟨a0,a1,a2,a3,a4,a5,a6,a7,g0,g1,g2,hg⟩,ho⟩:=hH.1;have h2:=hg.p2 [u0,u1,u2,u3,u4,u5,u6,u7];refine stN 6 hg.b2 [u0,u1,u2,u3,u4,u5,u6,u7] (HON.out) (let h:=And.intro (GX.of h2) ho; ⟨h,h.1.v.c8⟩) (fun hH=>?_);generalize setN uc (w.heap.size+1+1) 0 [u0,u1,u2,u3,u4,u5,u6,u7]=wz at *
 have h3:=h2.p3 [an.e,an.n,.string an.t];refine stN 7 h2.b3 [an.e,an.n,.string an.t] (by simp [Value.oneCell']) (let h:=And.intro (GX.of h3) ho; ⟨h,h.1.v.c8⟩) (fun hH=>?_);generalize setN wz (w.heap.size+1+1+1) 0 [an.e,an.n,.string an.t]=wy at *
 refine tq 8 (.slice al tc.length pl) hH ?_;refine dnH ?_;clear hH;obtain ⟨p0,p1,p2,p3,p4,p5,p6,p7⟩:=h3.b2.c8;have t0 := h3.b3.c3
 replace h3:=Lh h3
 clear h2 hg;go_wp2_with fail
 exact bodyPost_ret (v:=.tuple #[.agg #[u0,u1,u2,u3,u4,u5,u6,u7],.agg #[an.e,an.n,.string an.t],.slice al tc.length pl]) (by simp [results, Tryz.results53, go_sem, p0, p1, p2, p3, p4, p5, p6, p7, t0]) rfl ⟨h3.out.bel,_,_,_,_,_,_,_,_,_,rfl,h3.out.iv,h3.out.ic⟩
theorem dd4_ok (H:VAll) (m l:List Oq) (n:Nat) (hV:VOk m l n) (hn:n≤45) (c:Cal) (v0 v1 v2 v3 v4 v5 v6 v7:Value) (w:World) (hS:IsV w m l [v0,v1,v2,v3,v4,v5,v6,v7]) (hp:Pows w) (ht:Tabs w):
  Calls Tryz.prog 56 #[.agg #[v0,v1,v2,v3,v4,v5,v6,v7],.agg #[c.k,c.p,.int .i32 c.ch,c.o.k,c.o.c,c.o.s,c.o.a,c.o.n,.int .i32 c.o.ch,c.a,c.b]] w (LPost w ⟨0,0,txtS (docR m)⟩):=by
 obtain ⟨sd0,sd1,sd2,sd3,sd4,sd5,sd6,sd7⟩:=st8 hS.one;have H0:=Lh (Bx3.start:Bx3 w [v0,v1,v2,v3,v4,v5,v6,v7] [c.k,c.p,.int .i32 c.ch,c.o.k,c.o.c,c.o.s,c.o.a,c.o.n,.int .i32 c.o.ch,c.a,c.b] [.int .i64 0,.int .i64 0,.string ⟨#[]⟩] 39 57 59 (((w.alloc (.cells #[v0,v1,v2,v3,v4,v5,v6,v7] 39)).alloc (.cells #[c.k,c.p,.int .i32 c.ch,c.o.k,c.o.c,c.o.s,c.o.a,c.o.n,.int .i32 c.o.ch,c.a,c.b] 57)).alloc (.cells #[.int .i64 0,.int .i64 0,.string ⟨#[]⟩] 59)));have HS:=Lh hS;have HPT:=Lh (And.intro hp ht);have HC:=Lh (fun U (h:IsV U m l [v0,v1,v2,v3,v4,v5,v6,v7]) (ht:Tabs U)=>H.txt m l n v0 v1 v2 v3 v4 v5 v6 v7 U hV (by omega) h ht);generalize txtS (docR m)=tx at *
 clear H hV hn hS hp ht
 go_enter Tryz.func56,Tryz.ntmps56
 go_upto_region 1 with fail
 generalize (((w.alloc (.cells #[v0,v1,v2,v3,v4,v5,v6,v7] 39)).alloc (.cells #[c.k,c.p,.int .i32 c.ch,c.o.k,c.o.c,c.o.s,c.o.a,c.o.n,.int .i32 c.o.ch,c.a,c.b] 57)).alloc (.cells #[.int .i64 0,.int .i64 0,.string ⟨#[]⟩] 59))=X0 at *
 have x0 := H0.out.b0.c8;have y0 := H0.out.b1.c11;go_wp2_with (go_at_call 37; refine (HC.out _ (HS.out.next H0.out.bel) (HPT.out.2.next H0.out.bel)).mono ?_; rintro e w1 ⟨rfl,hb⟩; refine Hid.out ?_)
 have H1:=Lh (H0.out.next hb);clear H0 hb HC x0 y0;refine Lh ?_;have q0 := H1.out.b2.c3;have fq0 := H1.out.b2.f3;have HP:=Lh (H1.out.p2 [.int .i64 0,.int .i64 0,.string tx] 0);simp only [setN, Nat.zero_add, Nat.reduceAdd] at HP
 go_wp2_with fail
 have t0 := HP.out.b2.c3;exact bodyPost_ret (v:=.agg #[.int .i64 0,.int .i64 0,.string tx]) (by simp [results, Tryz.results56, go_sem, t0]) rfl ⟨rfl,HP.out.bel⟩
theorem dd5_ok (H:VAll) (m l:List Oq) (n:Nat) (hV:VOk m l n) (hn:n≤45) (c:Cal) (v0 v1 v2 v3 v4 v5 v6 v7:Value) (w:World) (hS:IsV w m l [v0,v1,v2,v3,v4,v5,v6,v7]) (hp:Pows w) (ht:Tabs w):
  Calls Tryz.prog 57 #[.agg #[v0,v1,v2,v3,v4,v5,v6,v7],.agg #[c.k,c.p,.int .i32 c.ch,c.o.k,c.o.c,c.o.s,c.o.a,c.o.n,.int .i32 c.o.ch,c.a,c.b]] w (LPost w ⟨0,aliN (docR m),⟨#[]⟩⟩):=by
 obtain ⟨sd0,sd1,sd2,sd3,sd4,sd5,sd6,sd7⟩:=st8 hS.one;have H0:=Lh (Bx3.start:Bx3 w [v0,v1,v2,v3,v4,v5,v6,v7] [c.k,c.p,.int .i32 c.ch,c.o.k,c.o.c,c.o.s,c.o.a,c.o.n,.int .i32 c.o.ch,c.a,c.b] [.int .i64 0,.int .i64 0,.string ⟨#[]⟩] 39 57 59 (((w.alloc (.cells #[v0,v1,v2,v3,v4,v5,v6,v7] 39)).alloc (.cells #[c.k,c.p,.int .i32 c.ch,c.o.k,c.o.c,c.o.s,c.o.a,c.o.n,.int .i32 c.o.ch,c.a,c.b] 57)).alloc (.cells #[.int .i64 0,.int .i64 0,.string ⟨#[]⟩] 59)));have HS:=Lh hS;have HPT:=Lh (And.intro hp ht);have HC:=Lh (fun U (h:IsV U m l [v0,v1,v2,v3,v4,v5,v6,v7])=>show Calls Tryz.prog 38 #[.agg #[v0,v1,v2,v3,v4,v5,v6,v7]] U fun r w'=>r=.returned (.int .i64 (aliN (docR m)))∧Below U.heap.size U w' from H.len m l n v0 v1 v2 v3 v4 v5 v6 v7 U hV (by omega) h);generalize aliN (docR m)=N at *
 clear H hV hn hS hp ht
 go_enter Tryz.func57,Tryz.ntmps57
 go_upto_region 1 with fail
 generalize (((w.alloc (.cells #[v0,v1,v2,v3,v4,v5,v6,v7] 39)).alloc (.cells #[c.k,c.p,.int .i32 c.ch,c.o.k,c.o.c,c.o.s,c.o.a,c.o.n,.int .i32 c.o.ch,c.a,c.b] 57)).alloc (.cells #[.int .i64 0,.int .i64 0,.string ⟨#[]⟩] 59))=X0 at *
 have x0 := H0.out.b0.c8;have y0 := H0.out.b1.c11;go_wp2_with (go_at_call 38; refine (HC.out _ (HS.out.next H0.out.bel)).mono ?_; rintro e w1 ⟨rfl,hb⟩; refine Hid.out ?_)
 have H1:=Lh (H0.out.next hb);clear H0 hb HC x0 y0;refine Lh ?_;have q0 := H1.out.b2.c3;have fq0 := H1.out.b2.f3;have HP:=Lh (H1.out.p2 [.int .i64 0,N,.string ⟨#[]⟩] 0);simp only [setN, Nat.zero_add, Nat.reduceAdd] at HP
 go_wp2_with fail
 have t0 := HP.out.b2.c3;exact bodyPost_ret (v:=.agg #[.int .i64 0,N,.string ⟨#[]⟩]) (by simp [results, Tryz.results57, go_sem, t0]) rfl ⟨rfl,HP.out.bel⟩
theorem dd6_ok (H:CAll) (m l:List Oq) (n:Nat) (hV:VOk m l n) (hn:n≤45) (c:Cal) (v0 v1 v2 v3 v4 v5 v6 v7:Value) (w:World) (hS:IsV w m l [v0,v1,v2,v3,v4,v5,v6,v7]) (hp:Pows w) (ht:Tabs w):
  Calls Tryz.prog 58 #[.agg #[v0,v1,v2,v3,v4,v5,v6,v7],.agg #[c.k,c.p,.int .i32 c.ch,c.o.k,c.o.c,c.o.s,c.o.a,c.o.n,.int .i32 c.o.ch,c.a,c.b]] w (LPost w (ansV (cuE (docR m) c.p) 0 (ancT (namC (docR m) c.p).1 (namC (docR m) c.p).2))):=by
 obtain ⟨sd0,sd1,sd2,sd3,sd4,sd5,sd6,sd7⟩:=st8 hS.one;have H0:=Lh (Bx3.start:Bx3 w [v0,v1,v2,v3,v4,v5,v6,v7] [c.k,c.p,.int .i32 c.ch,c.o.k,c.o.c,c.o.s,c.o.a,c.o.n,.int .i32 c.o.ch,c.a,c.b] [.int .i64 0,.int .i64 0,.string ⟨#[]⟩] 39 57 59 (((w.alloc (.cells #[v0,v1,v2,v3,v4,v5,v6,v7] 39)).alloc (.cells #[c.k,c.p,.int .i32 c.ch,c.o.k,c.o.c,c.o.s,c.o.a,c.o.n,.int .i32 c.o.ch,c.a,c.b] 57)).alloc (.cells #[.int .i64 0,.int .i64 0,.string ⟨#[]⟩] 59)));have HS:=Lh hS;have HPT:=Lh (And.intro hp ht);have HC:=Lh (fun U (h:IsV U m l [v0,v1,v2,v3,v4,v5,v6,v7])=>H.at_ m l n c.p v0 v1 v2 v3 v4 v5 v6 v7 U hV (by omega) c.p0 c.p1 h);have HST:=Lh (fun U (h:Tabs U)=>ancStr_any (namC (docR m) c.p).1 (namC (docR m) c.p).2 U (nam_may hV.ok c.p) h);generalize namC (docR m) c.p=q at *
 generalize cuE (docR m) c.p=E at *
 generalize ancT q.1 q.2=tx at *
 have HAN:=Lh (fun U=>answer_any 0 E tx U);generalize ansV E 0 tx=an at *
 clear H hV hn hS hp ht
 go_enter Tryz.func58,Tryz.ntmps58
 go_upto_region 1 with fail
 generalize (((w.alloc (.cells #[v0,v1,v2,v3,v4,v5,v6,v7] 39)).alloc (.cells #[c.k,c.p,.int .i32 c.ch,c.o.k,c.o.c,c.o.s,c.o.a,c.o.n,.int .i32 c.o.ch,c.a,c.b] 57)).alloc (.cells #[.int .i64 0,.int .i64 0,.string ⟨#[]⟩] 59))=X0 at *
 have x0 := H0.out.b0.c8;have y0 := H0.out.b1.c11;go_wp2_with (go_at_call 44; refine (HC.out _ (HS.out.next H0.out.bel)).mono ?_; rintro e w1 ⟨rfl,hb⟩; refine Hid.out ?_)
 have hA:=bl1 w1 [q.1,q.2] 126;have H1:=Lh (And.intro ((H0.out.next hb).next hA) (Blk.start w1 [q.1,q.2] 126));clear H0 hb HC x0 y0 hA;refine Lh ?_
 go_upto_region 2 with fail
 generalize w1.alloc (.cells #[q.1,q.2] 126)=W1 at *
 generalize w1.heap.size=bA at *
 have g0 := H1.out.2.c2;go_wp2_with (go_at_call 59; refine (HST.out _ (HPT.out.2.next H1.out.1.bel)).mono ?_; rintro e w2 ⟨rfl,hb⟩; refine Hid.out ?_)
 have H2:=Lh (H1.out.1.next hb);clear H1 hb HST g0;refine Lh ?_;go_wp2_with (go_at_call 50; refine (HAN.out _).mono ?_; rintro e w3 ⟨rfl,hb⟩; refine Hid.out ?_)
 have H3:=Lh (H2.out.next hb);clear H2 hb HAN;refine Lh ?_;have q0 := H3.out.b2.c3;have fq0 := H3.out.b2.f3;have HP:=Lh (H3.out.p2 [an.e,an.n,.string an.t] 0);simp only [setN, Nat.zero_add, Nat.reduceAdd] at HP
 go_wp2_with fail
 have t0 := HP.out.b2.c3;exact bodyPost_ret (v:=.agg #[an.e,an.n,.string an.t]) (by simp [results, Tryz.results58, go_sem, t0]) rfl ⟨rfl,HP.out.bel⟩
theorem dd7_ok (H:CAll) (m l:List Oq) (n:Nat) (hV:VOk m l n) (hn:n≤45) (c:Cal) (v0 v1 v2 v3 v4 v5 v6 v7:Value) (w:World) (hS:IsV w m l [v0,v1,v2,v3,v4,v5,v6,v7]) (hp:Pows w) (ht:Tabs w):
  Calls Tryz.prog 60 #[.agg #[v0,v1,v2,v3,v4,v5,v6,v7],.agg #[c.k,c.p,.int .i32 c.ch,c.o.k,c.o.c,c.o.s,c.o.a,c.o.n,.int .i32 c.o.ch,c.a,c.b]] w (LPost w (ansV (reE (docR m) c.a c.b) (reN (docR m) c.a c.b) ⟨#[]⟩)):=by
 obtain ⟨sd0,sd1,sd2,sd3,sd4,sd5,sd6,sd7⟩:=st8 hS.one;have H0:=Lh (Bx3.start:Bx3 w [v0,v1,v2,v3,v4,v5,v6,v7] [c.k,c.p,.int .i32 c.ch,c.o.k,c.o.c,c.o.s,c.o.a,c.o.n,.int .i32 c.o.ch,c.a,c.b] [.int .i64 0,.int .i64 0,.string ⟨#[]⟩] 39 57 59 (((w.alloc (.cells #[v0,v1,v2,v3,v4,v5,v6,v7] 39)).alloc (.cells #[c.k,c.p,.int .i32 c.ch,c.o.k,c.o.c,c.o.s,c.o.a,c.o.n,.int .i32 c.o.ch,c.a,c.b] 57)).alloc (.cells #[.int .i64 0,.int .i64 0,.string ⟨#[]⟩] 59)));have HS:=Lh hS;have HPT:=Lh (And.intro hp ht);have HC:=Lh (fun U (h:IsV U m l [v0,v1,v2,v3,v4,v5,v6,v7])=>H.re m l n c.a c.b v0 v1 v2 v3 v4 v5 v6 v7 U hV (by omega) h);generalize reE (docR m) c.a c.b=E at *
 generalize reN (docR m) c.a c.b=N at *
 have HAN:=Lh (fun U=>answer_any N E ⟨#[]⟩ U);generalize ansV E N ⟨#[]⟩=an at *
 clear H hV hn hS hp ht
 go_enter Tryz.func60,Tryz.ntmps60
 go_upto_region 1 with fail
 generalize (((w.alloc (.cells #[v0,v1,v2,v3,v4,v5,v6,v7] 39)).alloc (.cells #[c.k,c.p,.int .i32 c.ch,c.o.k,c.o.c,c.o.s,c.o.a,c.o.n,.int .i32 c.o.ch,c.a,c.b] 57)).alloc (.cells #[.int .i64 0,.int .i64 0,.string ⟨#[]⟩] 59))=X0 at *
 have x0 := H0.out.b0.c8;have y0 := H0.out.b1.c11;go_wp2_with (go_at_call 46; refine (HC.out _ (HS.out.next H0.out.bel)).mono ?_; rintro e w1 ⟨rfl,hb⟩; refine Hid.out ?_)
 have H1:=Lh (H0.out.next hb);clear H0 hb HC x0 y0;refine Lh ?_;go_wp2_with (go_at_call 50; refine (HAN.out _).mono ?_; rintro e w3 ⟨rfl,hb⟩; refine Hid.out ?_)
 have H3:=Lh (H1.out.next hb);clear H1 hb HAN;refine Lh ?_;have q0 := H3.out.b2.c3;have fq0 := H3.out.b2.f3;have HP:=Lh (H3.out.p2 [an.e,an.n,.string an.t] 0);simp only [setN, Nat.zero_add, Nat.reduceAdd] at HP
 go_wp2_with fail
 have t0 := HP.out.b2.c3;exact bodyPost_ret (v:=.agg #[an.e,an.n,.string an.t]) (by simp [results, Tryz.results60, go_sem, t0]) rfl ⟨rfl,HP.out.bel⟩
theorem dd8_ok (H:VAll) (m l:List Oq) (n:Nat) (hV:VOk m l n) (hn:n≤45) (c:Cal) (v0 v1 v2 v3 v4 v5 v6 v7:Value) (w:World) (hS:IsV w m l [v0,v1,v2,v3,v4,v5,v6,v7]) (hp:Pows w) (ht:Tabs w):
  Calls Tryz.prog 61 #[.agg #[v0,v1,v2,v3,v4,v5,v6,v7],.agg #[c.k,c.p,.int .i32 c.ch,c.o.k,c.o.c,c.o.s,c.o.a,c.o.n,.int .i32 c.o.ch,c.a,c.b]] w (LPost w ⟨0,(m.length:Int),sumT m⟩):=by
 obtain ⟨sd0,sd1,sd2,sd3,sd4,sd5,sd6,sd7⟩:=st8 hS.one;have H0:=Lh (Bx3.start:Bx3 w [v0,v1,v2,v3,v4,v5,v6,v7] [c.k,c.p,.int .i32 c.ch,c.o.k,c.o.c,c.o.s,c.o.a,c.o.n,.int .i32 c.o.ch,c.a,c.b] [.int .i64 0,.int .i64 0,.string ⟨#[]⟩] 39 57 59 (((w.alloc (.cells #[v0,v1,v2,v3,v4,v5,v6,v7] 39)).alloc (.cells #[c.k,c.p,.int .i32 c.ch,c.o.k,c.o.c,c.o.s,c.o.a,c.o.n,.int .i32 c.o.ch,c.a,c.b] 57)).alloc (.cells #[.int .i64 0,.int .i64 0,.string ⟨#[]⟩] 59)));have HS:=Lh hS;have HPT:=Lh (And.intro hp ht);have HSQ:=Lh (fun U (h:IsV U m l [v0,v1,v2,v3,v4,v5,v6,v7])=>H.seq m l n v0 v1 v2 v3 v4 v5 v6 v7 U hV (by omega) h);have HTY:=Lh (fun U (h:IsV U m l [v0,v1,v2,v3,v4,v5,v6,v7])=>H.tal m l n v0 v1 v2 v3 v4 v5 v6 v7 U hV (by omega) h);have HST:=Lh (fun U (hp:Pows U) (ht:Tabs U)=>tallyStr_any m l n hV (by omega) U hp ht);generalize sumT m=tx at *
 generalize nL (idsO m)=n1 at *
 generalize fl (cL (idsO m))=n2 at *
 generalize fl (sL (idsO m))=n3 at *
 generalize fl (rL (idsO m))=n4 at *
 generalize fl (iL (idsO m))=n5 at *
 clear H hV hn hS hp ht
 go_enter Tryz.func61,Tryz.ntmps61
 go_upto_region 1 with fail
 generalize (((w.alloc (.cells #[v0,v1,v2,v3,v4,v5,v6,v7] 39)).alloc (.cells #[c.k,c.p,.int .i32 c.ch,c.o.k,c.o.c,c.o.s,c.o.a,c.o.n,.int .i32 c.o.ch,c.a,c.b] 57)).alloc (.cells #[.int .i64 0,.int .i64 0,.string ⟨#[]⟩] 59))=X0 at *
 refine rgH (fun W=>(∃ a0 a1 a2:Value,Bx3 w [v0,v1,v2,v3,v4,v5,v6,v7] [c.k,c.p,.int .i32 c.ch,c.o.k,c.o.c,c.o.s,c.o.a,c.o.n,.int .i32 c.o.ch,c.a,c.b] [a0,a1,a2] 39 57 59 W)∧Cz8 W w.heap.size v0 v1 v2 v3 v4 v5 v6 v7) (let h:=H0.out.next bdq; ⟨⟨_,_,_,h⟩,h.b0.c8⟩) fun hH=>?_
 clear H0;generalize X0.drew=X9 at *
 refine tq 0 (.agg #[v0,v1,v2,v3,v4,v5,v6,v7]) hH ?_;refine tq 2 (.agg #[v0,v1,v2,v3,v4,v5,v6,v7]) hH ?_;obtain ⟨a0,a1,a2,hf⟩:=hH.1;refine rd1 1 (by kernel_rfl) rfl fun K hK=>?_
 go_simp
 refine (HSQ.out _ (HS.out.next hf.bel)).mono ?_
 rintro e ua ⟨rfl,hb⟩
 go_wp2_with fail
 refine hK.out _ _ (let h:=hf.next hb; ⟨⟨_,_,_,h⟩,h.b0.c8⟩) ?_;clear hK K hH;intro hH
 try simp only [LAY]
 clear hb hf;obtain ⟨a0,a1,a2,hf⟩:=hH.1;refine rd1 3 (by kernel_rfl) rfl fun K hK=>?_
 go_simp
 refine (HTY.out _ (HS.out.next hf.bel)).mono ?_
 rintro e ub ⟨rfl,hb⟩
 go_wp2_with fail
 refine hK.out _ _ (let h:=hf.next hb; ⟨⟨_,_,_,h⟩,h.b0.c8⟩) ?_;clear hK K hH;intro hH
 try simp only [LAY]
 clear hb hf;obtain ⟨a0,a1,a2,hf⟩:=hH.1;refine rd1 4 (by kernel_rfl) rfl fun K hK=>?_
 go_simp
 refine (HST.out _ (HPT.out.1.next hf.bel) (HPT.out.2.next hf.bel)).mono ?_
 rintro e uc ⟨rfl,hb⟩
 go_wp2_with fail
 refine hK.out _ _ (let h:=hf.next hb; ⟨⟨_,_,_,h⟩,h.b0.c8⟩) ?_;clear hK K hH;intro hH
 try simp only [LAY]
 clear hb hf;refine tq 5 (.agg #[.int .i64 0,.int .i64 (m.length:Int),.string tx]) hH ?_;obtain ⟨b0,b1,b2,hg⟩:=hH.1;have q0 := hg.b2.c3;have fq0 := hg.b2.f3;obtain ⟨wz,hwz⟩:∃ z,z=setN uc (w.heap.size+1+1) 0 [.int .i64 0,.int .i64 (m.length:Int),.string tx]:=⟨_,rfl⟩
 have wzH:=Lh (show Bx3 w [v0,v1,v2,v3,v4,v5,v6,v7] [c.k,c.p,.int .i32 c.ch,c.o.k,c.o.c,c.o.s,c.o.a,c.o.n,.int .i32 c.o.ch,c.a,c.b] [.int .i64 0,.int .i64 (m.length:Int),.string tx] 39 57 59 wz from hwz▸hg.p2 [.int .i64 0,.int .i64 (m.length:Int),.string tx] 0);simp only [setN, Nat.zero_add, Nat.reduceAdd] at hwz
 have HWZ:=Lh hwz;clear hwz;refine rd1 6 (by kernel_rfl) rfl fun K hK=>?_
 go_simp
 go_wp2_with fail
 rw [←HWZ.out];refine hK.out _ _ (let h:=wzH.out; ⟨⟨_,_,_,h⟩,h.b0.c8⟩) ?_;clear hK K hH;intro hH
 try simp only [LAY]
 refine dnH ?_;clear hH HWZ q0 fq0;have t0 := wzH.out.b2.c3;go_wp2_with fail
 exact bodyPost_ret (v:=.agg #[.int .i64 0,.int .i64 (m.length:Int),.string tx]) (by simp [results, Tryz.results61, go_sem, t0]) rfl ⟨rfl,wzH.out.bel⟩
end Go.Proofs.YtpbhaieclkoggaaGreatDoor
