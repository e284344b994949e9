import Derived.Test.YtemicfjmidohfaaGreatDoorPend
import Derived.Deep.MidRow
namespace Go.Proofs.YtemicfjmidohfaaGreatDoor
open Go Go.Proofs Go.RowKit
theorem kC_N (b:Nat):∀ (us:List Value) (i:Nat) (W:World),W.setCells b i us=setN W b i us
 | [],_,_=>rfl
 | _::us,i,_=>kC_N b us (i+1) _
theorem isRow_of {P:Program} {ty:TypeId} (h:(P.underlying ty).any TypeDesc.isRow=true):∃ d,P.underlying ty=some d∧d.isRow=true:=by
 cases e:P.underlying ty with
 | none=>rw [e] at h; cases h
 | some d=>rw [e] at h; exact ⟨d,rfl,h⟩
theorem blk_rng {W:World} {b:Nat} {vs:List Value} {t:TypeId} (h:Blk W b vs t):W.rangeAt b 0 vs:=fun j v hv=>by rw [Nat.zero_add]; exact h.cell j hv
theorem blk_thr {W:World} {b:Nat} {vs:List Value} {t:TypeId} (h:Blk W b vs t):W.there b 0 vs.length:=fun j hj=>by
 rw [Nat.zero_add]; exact ⟨by rw [h.cell j (List.getElem?_eq_getElem hj)]; rfl,h.free j⟩
theorem kld {P:Program} {ops:Array Oper} {rest:List Oper} {op:Oper} {a a':Act} {w:World} {Q:Exit→Act→World→Prop} {b:Nat} {vs:List Value} {t ty:TypeId} {x:Operand} {n:Nat} (hB:Blk w b vs t) (hl:vs.length=n) (h:wpList P ops Q rest a' w)
  (ho:op.op=.load ty x:=by rfl) (hx:a.eval x=.pointer (some ⟨b,0,none⟩):=by rfl) (hu:(P.underlying ty).any TypeDesc.isRow=true:=by kernel_rfl) (hi:(P.info? ty).map (·.size)=some n:=by kernel_rfl)
  (hw:Region.wanted op (yielded ops a.tmps)=true:=by rfl) (ha:a.put op.dst (.agg vs.toArray)=a':=by (try simp only [LAY]); rfl):wpList P ops Q (op::rest) a w:=
 wpList_step fun _ hK=>by
  simp only [hw,if_true]
  obtain ⟨d,hd,hr⟩:=isRow_of hu;exact wp_load_mid ty x ho b 0 hx vs d (blk_rng hB) hd hr (by rw [hl]; exact hi) (hK _ _ (ha▸h))
theorem kst {P:Program} {ops:Array Oper} {rest:List Oper} {op:Oper} {a:Act} {w:World} {Q:Exit→Act→World→Prop} {b:Nat} {zs us:List Value} {t ty:TypeId} {x y:Operand} {n:Nat} (hB:Blk w b zs t) (hl:zs.length=n) (hm:us.length=n) (h1:∀ u∈us,u.oneCell'=true)
  (h:∀ w2,Hid (w2=setN w b 0 us)→wpList P ops Q rest a w2) (hg:op.guard=none:=by rfl) (hd:op.dst=none:=by rfl) (ho:op.op=.store ty x y:=by rfl) (hx:a.eval x=.pointer (some ⟨b,0,none⟩):=by rfl) (hy:a.eval y=.agg us.toArray:=by rfl)
  (hi:(P.info? ty).map (·.size)=some n:=by kernel_rfl):wpList P ops Q (op::rest) a w:=
 wpList_store_mid hg ty x y ho b 0 us.toArray hx hy (by have:=blk_thr hB; rw [hl,←hm] at this; simpa using this) (by rw [hi,←hm]; simp) (all_oneCell_toArray h1) (by rw [hd,List.toList_toArray,kC_N]; exact h _ (Lh rfl))
theorem kly {P:Program} {op:Oper} {a:Act} {w:World} {b:Nat} {vs:List Value} {t ty:TypeId} {x:Operand} {n:Nat} (hB:Blk w b vs t) (hl:vs.length=n) (ho:op.op=.load ty x:=by rfl) (hx:a.eval x=.pointer (some ⟨b,0,none⟩):=by rfl)
  (hu:(P.underlying ty).any TypeDesc.isRow=true:=by kernel_rfl) (hi:(P.info? ty).map (·.size)=some n:=by kernel_rfl):(execOp a.eval op).run P w=.ok (.value (.agg vs.toArray)) w:=by
 obtain ⟨d,hd,hr⟩:=isRow_of hu;unfold execOp
 simp only [ho,hx,Instr.loadAt,Instr.sureAddr,Sem.run_bind,Sem.run_pure,Result.andThen_ok,run_loadVar_mid w b 0 ty vs d (blk_rng hB) hd hr (by rw [hl]; exact hi)]
theorem kstN {P:Program} {md:Region.Mode} {ops:Array Oper} {Q:Exit→Act→World→Prop} {S:World→Prop} {fuel:Nat} {listed:Array Bool} {a:Act} {w:World} (i:Nat) {o:Oper} {ty:TypeId} {x y:Operand} {b n:Nat} {zs us:List Value} {t:TypeId}
  (hB:Blk w b zs t) (hl:zs.length=n) (hm:us.length=n) (h1:∀ u∈us,u.oneCell'=true) (hS:∀ w2,Hid (w2=setN w b 0 us)→S w2) (h:∀ w2,Hid (w2=setN w b 0 us)→S w2→wpAnyH P md ops Q S fuel (listed.setIfInBounds i true) a w2)
  (hr:Region.ready md ops listed=[i]:=by kernel_rfl) (ho:ops.toList[i]? = some o:=by rfl) (hg:o.guard=none:=by rfl) (hd:o.dst=none:=by rfl) (hop:o.op=.store ty x y:=by rfl) (hx:a.eval x=.pointer (some ⟨b,0,none⟩):=by rfl) (hy:a.eval y=.agg us.toArray:=by rfl)
  (hi:(P.info? ty).map (·.size)=some n:=by kernel_rfl):wpAnyH P md ops Q S (fuel+1) listed a w:=by
 refine rd1 i hr ho fun K hK=>?_
 have hw:Region.wanted o (yielded ops a.tmps)=true:=by simp [Region.wanted,hg]
 rw [if_pos hw];refine wp_store_mid ty x y hop b 0 us.toArray hx hy (by have:=blk_thr hB; rw [hl,←hm] at this; simpa using this) (by rw [hi,←hm]; simp) (all_oneCell_toArray h1) ?_;rw [hd,List.toList_toArray,kC_N];exact hK.out _ _ (hS _ (Lh rfl)) (h _ (Lh rfl))
theorem putN_all (us zs:List Value) (i:Nat) (h:i+us.length=zs.length):putN zs i us=zs.take i++us:=by
 induction us generalizing zs i with
 | nil=>simp only [putN,List.append_nil]; rw [List.take_of_length_le]; simp at h; omega
 | cons u us ih=>
  rw [putN,ih (zs.set i u) (i+1) (by rw [List.length_set]; rw [List.length_cons] at h; omega)];rw [List.length_cons] at h;rw [List.take_add_one,List.take_set_of_le (Nat.le_refl _),List.getElem?_set_self (by omega)]; simp
theorem setN_all {W:World} {g:Nat} {us zs:List Value} {t:TypeId} (h:Blk W g zs t) (hl:us.length=zs.length):Blk (setN W g 0 us) g us t:=by
 have:=setN_blk us 0 h
 rwa [putN_all us zs 0 (by omega),List.take_zero,List.nil_append] at this
theorem info_ex {P:Program} {e:TypeId} {z:Value} {m bs:Nat} (h:(P.info? e).map (fun i=>(i.zero,i.size,i.bytes))=some (some z,m,bs)) (hz:z.cells.size=m):∃ i z,P.info? e=some i∧i.zero=some z∧i.size=m∧i.bytes=bs∧z.cells.size=m:=by
 obtain ⟨i,hi,he⟩:=Option.map_eq_some_iff.1 h;simp only [Prod.mk.injEq] at he
 exact ⟨i,z,hi,he.1,he.2.1,he.2.2,hz⟩
end Go.Proofs.YtemicfjmidohfaaGreatDoor
namespace Go.Proofs.YtemicfjmidohfaaGreatDoor
open Go Go.Proofs Go.RowKit
variable {X:Nat→Prop}
theorem putN_len (us:List Value):∀ (zs:List Value) (i:Nat),(putN zs i us).length=zs.length:=by
 induction us with
 | nil=>intro zs i; rfl
 | cons u us ih=>intro zs i; rw [putN,ih,List.length_set]
theorem putN_get (us:List Value):∀ (zs:List Value) (i p:Nat),i+us.length≤zs.length→(putN zs i us)[p]? = if i≤p∧p<i+us.length then us[p-i]? else zs[p]? := by
 induction us with
 | nil=>intro zs i p _; rw [if_neg (by simp only [List.length_nil,Nat.add_zero]; omega)]; rfl
 | cons u us ih=>
  intro zs i p h
  rw [List.length_cons] at h;rw [putN,ih (zs.set i u) (i+1) p (by rw [List.length_set]; omega),List.length_cons];by_cases h1:i+1≤p∧p<i+1+us.length
  ·rw [if_pos h1,if_pos (by omega),show p-i=(p-(i+1))+1 by omega,List.getElem?_cons_succ]
  ·rw [if_neg h1]
   by_cases h2:p=i
   ·subst h2; rw [List.getElem?_set_self (by omega),if_pos (by omega),Nat.sub_self]; rfl
   ·rw [List.getElem?_set_ne (fun e=>h2 e.symm),if_neg (by omega)]
def So {α:Type} (X:Nat→Prop) (t:TypeId) (m:Nat) (f:α→List Value) (W:World) (v:Value) (L:List α):Prop:=
 (v=.slice none 0 0∧L=[])∨∃ g off cap cur,v=.slice (some ⟨g,off,none⟩) L.length cap∧Blk W g cur t∧L.length≤cap∧cap≤9223372036854775807∧¬ X g∧∀ i (hi:i<L.length) j,j<m→cur[off+i * m+j]? = (f L[i])[j]?
theorem So.next {α:Type} {t:TypeId} {m:Nat} {f:α→List Value} {W W':World} {v:Value} {L:List α} (h:So X t m f W v L) (hb:Below W.heap.size W W'):So X t m f W' v L:=by
 rcases h with h | ⟨g,off,cap,cur,e,h1,h2⟩
 ·exact .inl h
 ·exact .inr ⟨g,off,cap,cur,e,h1.next hb,h2⟩
theorem So.kt {α:Type} {t:TypeId} {m:Nat} {f:α→List Value} {W W':World} (hk:KT t W W') {v:Value} {L:List α} (h:So X t m f W v L):So X t m f W' v L:=by
 rcases h with h | ⟨g,off,cap,cur,e,h1,h2⟩
 ·exact .inl h
 ·exact .inr ⟨g,off,cap,cur,e,hk g cur h1,h2⟩
theorem So.of {α:Type} {t:TypeId} {m:Nat} {f:α→List Value} (hf:∀ x,(f x).length=m) {W:World} {v:Value} {L:List α} (h:Sl t m f W v L) (hx:∀ g n c,v=.slice (some ⟨g,0,none⟩) n c→¬ X g):So X t m f W v L:=by
 rcases h with h | ⟨g,cap,cur,e,h1,h2,h3,h4⟩
 ·exact .inl h
 ·refine .inr ⟨g,0,cap,cur.toList,e,h1,h2,by unfold maxLen at h3; omega,hx _ _ _ e,fun i hi j hj=>?_⟩
  rw [←flat_at hf L i j hi hj,←h4,Nat.zero_add,List.getElem?_take_of_lt];have:(i+1) * m≤L.length * m:=Nat.mul_le_mul_right m hi;rw [Nat.add_mul] at this;omega
theorem So.form {α:Type} {t:TypeId} {m:Nat} {f:α→List Value} {W:World} {v:Value} {L:List α} (h:So X t m f W v L):∃ a cap,v=.slice a L.length cap∧L.length≤cap∧cap≤9223372036854775807:=by
 rcases h with ⟨rfl,rfl⟩ | ⟨g,off,cap,cur,rfl,_,h1,h2,_⟩
 ·exact ⟨none,0,rfl,Nat.le_refl _,by omega⟩
 ·exact ⟨_,cap,rfl,h1,h2⟩
theorem So.cell {α:Type} {t:TypeId} {m:Nat} {f:α→List Value} {W:World} {a:Option Addr} {n cap:Nat} {L:List α} (hf:∀ x,(f x).length=m) (h:So X t m f W (.slice a n cap) L) (i:Nat) (hi:i<L.length):∃ g off,a=some ⟨g,off,none⟩∧g<W.heap.size∧W.rangeAt g (off+i * m) (f L[i]):=by
 rcases h with ⟨_,rfl⟩ | ⟨g,off,cap',cur,e,h1,_,_,_,h4⟩
 ·cases hi
 ·cases e
  refine ⟨g,off,rfl,h1.lt,fun j u hu=>h1.cell _ ?_⟩;rw [h4 i hi j (by rw [←hf L[i]]; exact (List.getElem?_eq_some_iff.1 hu).1),hu]
theorem So.tail {α:Type} {t:TypeId} {m:Nat} {f:α→List Value} {W:World} {g off n cap:Nat} {x:α} {L:List α} (h:So X t m f W (.slice (some ⟨g,off,none⟩) n cap) (x::L)):So X t m f W (.slice (some ⟨g,off+m,none⟩) L.length (cap - 1)) L:=by
 rcases h with ⟨e,_⟩ | ⟨g',off',cap',cur,e,h1,h2,h3,hx,h4⟩
 ·cases e
 ·cases e
  simp only [List.length_cons] at h2
  exact .inr ⟨g,off+m,cap - 1,cur,rfl,h1,by omega,by omega,hx,fun i hi j hj=>by
   have h5:=h4 (i+1) (by simpa using hi) j hj;rw [show off+m+i * m+j=off+(i+1) * m+j by rw [Nat.add_mul]; omega];exact h5⟩
theorem So.tail2 {α:Type} {t:TypeId} {m:Nat} {f:α→List Value} {W:World} {g off n cap:Nat} {x:α} {L:List α} {a:Option Addr} (h:So X t m f W (.slice (some ⟨g,off,none⟩) n cap) (x::L)) (e:(if cap=1 then some (⟨g,off,none⟩:Addr) else some ⟨g,off+m,none⟩)=a):So X t m f W (.slice a L.length (cap - 1)) L:=by
 by_cases hc:cap=1
 ·rw [if_pos hc] at e
  subst e hc;rcases h with ⟨e,_⟩ | ⟨g',off',cap',cur,e,h1,h2,h3,hx,h4⟩
  ·cases e
  ·cases e
   simp only [List.length_cons] at h2
   obtain rfl:L=[]:=List.length_eq_zero_iff.1 (by omega);exact .inr ⟨g,off,0,cur,rfl,h1,Nat.le_refl _,by omega,hx,fun i hi=>absurd hi (Nat.not_lt_zero _)⟩
 ·rw [if_neg hc] at e
  subst e;exact h.tail
theorem So.wr {α:Type} {t t2:TypeId} {m q:Nat} {f:α→List Value} {W:World} {v:Value} {L:List α} {zs:List Value} (h:So X t m f W v L) (hq:X q) (_:Blk W q zs t2) (us:List Value) (i:Nat):So X t m f (setN W q i us) v L:=by
 rcases h with h | ⟨g,off,cap,cur,e,h1,h2,h3,h4,h5⟩
 ·exact .inl h
 ·exact .inr ⟨g,off,cap,cur,e,h1.setN (fun e=>h4 (e▸hq)) us i,h2,h3,h4,h5⟩
theorem So.grow {α:Type} {t:TypeId} {m:Nat} {f:α→List Value} {W W':World} {v:Value} {L:List α} {Y:Nat→Prop} (h:So X t m f W v L) (hb:Below W.heap.size W W') (hY:∀ c,Y c→X c∨W.heap.size≤c):So Y t m f W' v L:=by
 rcases h with h | ⟨g,off,cap,cur,e,h1,h2,h3,h4,h5⟩
 ·exact .inl h
 ·exact .inr ⟨g,off,cap,cur,e,h1.next hb,h2,h3,fun hy=>(hY g hy).elim h4 fun h=>by have:=h1.lt; omega,h5⟩
theorem res_c {P:Program} {fn:Func} {tmps:Array Value} {w:World} {b n:Nat} {vs:List Value} {t ty:TypeId} {x:Tmp} (hB:Blk w b vs t) (hl:vs.length=n) (hf:fn.results = #[.cell x ty]:=by rfl) (hx:tmps.getD x undef=.pointer (some ⟨b,0,none⟩):=by rfl)
  (hu:(P.underlying ty).any TypeDesc.isRow=true:=by kernel_rfl) (hi:(P.info? ty).map (·.size)=some n:=by kernel_rfl):(results fn tmps).run P w=.ok (.agg vs.toArray) w:=by
 obtain ⟨d,hd,hr⟩:=isRow_of hu;have h:=run_loadVar_mid w b 0 ty vs d (blk_rng hB) hd hr (by rw [hl]; exact hi);have hx2:tmps[x]?.getD undef=.pointer (some ⟨b,0,none⟩):=by rw [←hx,Array.getD_eq_getD_getElem?]
 simp [results,hf,hx2,asAddr,h]
theorem res_ct {P:Program} {fn:Func} {tmps:Array Value} {w:World} {b n:Nat} {vs:List Value} {t ty:TypeId} {x y:Tmp} {v:Value} (hB:Blk w b vs t) (hl:vs.length=n) (hf:fn.results = #[.cell x ty,.tmp y]:=by rfl) (hx:tmps.getD x undef=.pointer (some ⟨b,0,none⟩):=by rfl) (hy:tmps.getD y undef=v:=by rfl)
  (hu:(P.underlying ty).any TypeDesc.isRow=true:=by kernel_rfl) (hi:(P.info? ty).map (·.size)=some n:=by kernel_rfl):(results fn tmps).run P w=.ok (.tuple #[.agg vs.toArray,v]) w:=by
 obtain ⟨d,hd,hr⟩:=isRow_of hu;have h:=run_loadVar_mid w b 0 ty vs d (blk_rng hB) hd hr (by rw [hl]; exact hi);have hx2:tmps[x]?.getD undef=.pointer (some ⟨b,0,none⟩):=by rw [←hx,Array.getD_eq_getD_getElem?]
 have hy2:tmps[y]?.getD undef=v:=by rw [←hy,Array.getD_eq_getD_getElem?]
 simp [results,hf,hx2,hy2,asAddr,h]
theorem res_cc {P:Program} {fn:Func} {tmps:Array Value} {w:World} {b n b2 n2:Nat} {vs us:List Value} {t ty t2 ty2:TypeId} {x x':Tmp} (hB:Blk w b vs t) (hl:vs.length=n) (hB2:Blk w b2 us t2) (hl2:us.length=n2) (hf:fn.results = #[.cell x ty,.cell x' ty2]:=by rfl) (hx:tmps.getD x undef=.pointer (some ⟨b,0,none⟩):=by rfl) (hx':tmps.getD x' undef=.pointer (some ⟨b2,0,none⟩):=by rfl)
  (hu:(P.underlying ty).any TypeDesc.isRow=true:=by kernel_rfl) (hi:(P.info? ty).map (·.size)=some n:=by kernel_rfl) (hu2:(P.underlying ty2).any TypeDesc.isRow=true:=by kernel_rfl) (hi2:(P.info? ty2).map (·.size)=some n2:=by kernel_rfl):(results fn tmps).run P w=.ok (.tuple #[.agg vs.toArray,.agg us.toArray]) w:=by
 obtain ⟨d,hd,hr⟩:=isRow_of hu;obtain ⟨d2,hd2,hr2⟩:=isRow_of hu2;have h:=run_loadVar_mid w b 0 ty vs d (blk_rng hB) hd hr (by rw [hl]; exact hi);have h2:=run_loadVar_mid w b2 0 ty2 us d2 (blk_rng hB2) hd2 hr2 (by rw [hl2]; exact hi2);have hx2:tmps[x]?.getD undef=.pointer (some ⟨b,0,none⟩):=by rw [←hx,Array.getD_eq_getD_getElem?]
 have hx3:tmps[x']?.getD undef=.pointer (some ⟨b2,0,none⟩):=by rw [←hx',Array.getD_eq_getD_getElem?]
 simp [results,hf,hx2,hx3,asAddr,h,h2]
theorem res_cct {P:Program} {fn:Func} {tmps:Array Value} {w:World} {b n b2 n2:Nat} {vs us:List Value} {t ty t2 ty2:TypeId} {x x' y:Tmp} {v:Value} (hB:Blk w b vs t) (hl:vs.length=n) (hB2:Blk w b2 us t2) (hl2:us.length=n2) (hf:fn.results = #[.cell x ty,.cell x' ty2,.tmp y]:=by rfl) (hx:tmps.getD x undef=.pointer (some ⟨b,0,none⟩):=by rfl) (hx':tmps.getD x' undef=.pointer (some ⟨b2,0,none⟩):=by rfl) (hy:tmps.getD y undef=v:=by rfl)
  (hu:(P.underlying ty).any TypeDesc.isRow=true:=by kernel_rfl) (hi:(P.info? ty).map (·.size)=some n:=by kernel_rfl) (hu2:(P.underlying ty2).any TypeDesc.isRow=true:=by kernel_rfl) (hi2:(P.info? ty2).map (·.size)=some n2:=by kernel_rfl):(results fn tmps).run P w=.ok (.tuple #[.agg vs.toArray,.agg us.toArray,v]) w:=by
 obtain ⟨d,hd,hr⟩:=isRow_of hu;obtain ⟨d2,hd2,hr2⟩:=isRow_of hu2;have h:=run_loadVar_mid w b 0 ty vs d (blk_rng hB) hd hr (by rw [hl]; exact hi);have h2:=run_loadVar_mid w b2 0 ty2 us d2 (blk_rng hB2) hd2 hr2 (by rw [hl2]; exact hi2);have hx2:tmps[x]?.getD undef=.pointer (some ⟨b,0,none⟩):=by rw [←hx,Array.getD_eq_getD_getElem?]
 have hx3:tmps[x']?.getD undef=.pointer (some ⟨b2,0,none⟩):=by rw [←hx',Array.getD_eq_getD_getElem?]
 have hy2:tmps[y]?.getD undef=v:=by rw [←hy,Array.getD_eq_getD_getElem?]
 simp [results,hf,hx2,hx3,hy2,asAddr,h,h2]
structure Bq (T:TypeId) (w:World) (d:Nat) (L0 L1:List Value) (W:World):Prop where
 dp:0<d
 bel:Below w.heap.size w W
 b0:Blk W w.heap.size L0 T
 b1:Blk W (w.heap.size+d) L1 T
theorem Bq.start {T:TypeId} (w:World) (L0 L1:List Value):Bq T w 1 L0 L1 ((w.alloc (.cells ⟨L0⟩ T)).alloc (.cells ⟨L1⟩ T)):=⟨by decide,bA.alloc (by simp) _,(Blk.start w _ _).alloc _,Blk.startAt (by simp)⟩
theorem Bq.start2 {T:TypeId} (w:World) (L0 L1 M:List Value) (t:TypeId):Bq T w 2 L0 L1 (((w.alloc (.cells ⟨L0⟩ T)).alloc (.cells ⟨M⟩ t)).alloc (.cells ⟨L1⟩ T))∧Blk (((w.alloc (.cells ⟨L0⟩ T)).alloc (.cells ⟨M⟩ t)).alloc (.cells ⟨L1⟩ T)) (w.heap.size+1) M t:=
 ⟨⟨by decide,(bA.alloc (by simp) _).alloc (by simp; omega) _,((Blk.start w _ _).alloc _).alloc _,Blk.startAt (by simp)⟩,(Blk.startAt (by simp)).alloc _⟩
variable {T:TypeId} {w W W':World} {d:Nat} {L0 L1 us:List Value}
theorem Bq.next (h:Bq T w d L0 L1 W) (hb:Below W.heap.size W W'):Bq T w d L0 L1 W':=⟨h.dp,h.bel.trans (hb.mono h.bel.size),h.b0.next hb,h.b1.next hb⟩
theorem Bq.put0 (h:Bq T w d L0 L1 W) (i:Nat) (us:List Value):Bq T w d (putN L0 i us) L1 (setN W w.heap.size i us):=⟨h.dp,setN_below (Nat.le_refl _) _ _ h.bel,setN_blk _ _ h.b0,h.b1.setN (by have:=h.dp; omega) _ _⟩
theorem Bq.all0 (h:Bq T w d L0 L1 W) (hl:us.length=L0.length):Bq T w d us L1 (setN W w.heap.size 0 us):=⟨h.dp,setN_below (Nat.le_refl _) _ _ h.bel,setN_all h.b0 hl,h.b1.setN (by have:=h.dp; omega) _ _⟩
theorem Bq.all1 (h:Bq T w d L0 L1 W) (hl:us.length=L1.length):Bq T w d L0 us (setN W (w.heap.size+d) 0 us):=⟨h.dp,setN_below (by omega) _ _ h.bel,h.b0.setN (by have:=h.dp; omega) _ _,setN_all h.b1 hl⟩
theorem Bq.oth (h:Bq T w d L0 L1 W) {g:Nat} (h0:w.heap.size<g) (h1:g≠w.heap.size+d) (i:Nat) (us:List Value):Bq T w d L0 L1 (setN W g i us):=⟨h.dp,setN_below (by omega) _ _ h.bel,h.b0.setN (by omega) _ _,h.b1.setN (by omega) _ _⟩
end Go.Proofs.YtemicfjmidohfaaGreatDoor
namespace Go.Proofs.YtemicfjmidohfaaGreatDoor
open Go Go.Proofs Go.RowKit
theorem kstm {P:Program} {ops:Array Oper} {rest:List Oper} {op:Oper} {a:Act} {w:World} {Q:Exit→Act→World→Prop} {b o:Nat} {zs us:List Value} {t ty:TypeId} {x y:Operand} {n:Nat} (hB:Blk w b zs t) (hl:o+us.length≤zs.length) (hm:us.length=n) (h1:∀ u∈us,u.oneCell'=true)
  (h:∀ w2,Hid (w2=setN w b o us)→wpList P ops Q rest a w2) (hg:op.guard=none:=by rfl) (hd:op.dst=none:=by rfl) (ho:op.op=.store ty x y:=by rfl) (hx:a.eval x=.pointer (some ⟨b,o,none⟩):=by rfl) (hy:a.eval y=.agg us.toArray:=by rfl)
  (hi:(P.info? ty).map (·.size)=some n:=by kernel_rfl):wpList P ops Q (op::rest) a w:=
 wpList_store_mid hg ty x y ho b o us.toArray hx hy (fun j hj=>⟨by rw [hB.cell (o+j) (List.getElem?_eq_getElem (by simp at hj; omega))]; rfl,hB.free (o+j)⟩) (by rw [hi,←hm]; simp) (all_oneCell_toArray h1) (by rw [hd,List.toList_toArray,kC_N]; exact h _ (Lh rfl))
variable {P:Program} {md:Region.Mode} {ops:Array Oper} {Q:Exit→Act→World→Prop} {S:World→Prop} {fuel:Nat} {L:Array Bool}
abbrev AcP (P:Program) (f:FuncId) (k:Int):Prop:=∀ (l:Int) (w:World),Calls P f #[l] w (Rt (.agg #[.int .i64 0,k,l]) w)
abbrev acO (k l:Int):Value:=.agg #[.int .i64 0,k,l]
abbrev acE (P:Program) (o:Oper) (a:Act) (f:FuncId) (l:Int):Prop:=∀ w,(execOp a.eval o).run P w=.ok (.enter f #[l]) w
theorem actB {o:Oper} {a a':Act} {w:World} {f:FuncId} {k l:Int} {i:Nat} (hA:AcP P f k) (hS:S w) (hn:∀ w w',S w→Below w.heap.size w w'→S w') (h:∀ w',Below w.heap.size w w'→S w'→wpAnyH P md ops Q S fuel (L.setIfInBounds i true) a' w')
  (hg:o.guard=none) (he:acE P o a f l) (ha:a.put o.dst (acO k l)=a'):∀ K':Act→World→Prop,Shut (∀ a w,S w→(S w→wpAnyH P md ops Q S fuel (L.setIfInBounds i true) a w)→K' a w)→if Region.wanted o (yielded ops a.tmps)=true then Oper.wp P o a w K' Q else K' (a.put o.dst undef) w:=by
 intro K hK
 rw [if_pos (by simp [Region.wanted,hg])];unfold Oper.wp
 rw [he w];refine (hA l w).mono fun e w' hR=>?_
 obtain ⟨rfl,hb⟩:=hR;have hs:=hn w w' hS hb;exact hK.out _ _ hs fun hs=>by rw [ha]; exact h w' hb hs
theorem rA {o:Oper} {a a':Act} {w:World} {f:FuncId} {k l:Int} (i:Nat) (hA:AcP P f k) (hS:S w) (hn:∀ w w',S w→Below w.heap.size w w'→S w') (h:∀ w',Below w.heap.size w w'→S w'→wpAnyH P md ops Q S fuel (L.setIfInBounds i true) a' w')
  (hr:Region.ready md ops L=[i]:=by kernel_rfl) (ho:ops.toList[i]? = some o:=by rfl) (hg:o.guard=none:=by rfl) (he:acE P o a f l:=by intro w; go_simp) (ha:a.put o.dst (acO k l)=a':=by (try simp only [LAY]) <;> rfl):wpAnyH P md ops Q S (fuel+1) L a w:=
 wpAnyH_ready hr (by simp) (cons1 ho (actB hA hS hn h hg he ha) AllReadyH.nil)
end Go.Proofs.YtemicfjmidohfaaGreatDoor
