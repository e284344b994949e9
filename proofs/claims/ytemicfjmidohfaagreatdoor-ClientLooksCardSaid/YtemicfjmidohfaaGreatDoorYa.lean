import Derived.Test.YtemicfjmidohfaaGreatDoorKz
import Derived.Test.YtemicfjmidohfaaGreatDoorSz
import Derived.Test.YtemicfjmidohfaaGreatDoorWd
namespace Go.Proofs.YtemicfjmidohfaaGreatDoor
open Go Go.Proofs Go.RowKit
section
variable {P:Program} {ops:Array Oper} {Q:Exit→Act→World→Prop} {md:Region.Mode} {S:World→Prop} {k:Nat}
def wpK (P:Program) (md:Region.Mode) (ops:Array Oper) (Q:Exit→Act→World→Prop) (S:World→Prop) (k:Nat):Nat→Array Bool→Act→World→Prop
 | 0,L,a,w=>Region.ready md ops L=[]∧Q .normal a w
 | fuel+1,L,a,w=>(Region.ready md ops L=[]→Q .normal a w) ∧
  ∀ i∈Region.ready md ops L,wpOp P ops Q i (fun a' w'=>(L.getD k true=false→i≠k→S w')∧wpK P md ops Q S k fuel (L.setIfInBounds i true) a' w') a w
theorem any_of_K:∀ (fuel:Nat) (L:Array Bool) (a:Act) (w:World),wpK P md ops Q S k fuel L a w→wpAny P md ops Q fuel L a w
 | 0,_,_,_,h=>h
 | fuel+1,_,_,_,h=>⟨h.1,fun i hi=>wpOp_mono (fun a' w' h'=>any_of_K fuel _ a' w' h'.2) (h.2 i hi)⟩
theorem wpK_first {i:Nat} {oi:Oper} {v:Value} (hi:ops[i]? = some oi) (hsel:∀ (j:Nat) (o:Oper) cs b,ops[j]? = some o→o.op≠.select cs b)
  (hQ:∀ c a w,Q (.panic c) (a.put oi.dst v) w→Q (.panic c) a w) (hki:i≠k) {T:World→Prop} (hT:∀ w,S w→T w):
  ∀ (fuel:Nat) (L:Array Bool) (a:Act) (w:World),
   (∀ j oj,ops[j]? = some oj→j≠i→L.getD j true=false→(∀ e∈oj.after,Region.binds md e=true→e.on≠i)→oi.apart ops oj=true) →
   i∈Region.ready md ops L→YieldsIf P ops T oi v a→(L.getD k true=false→S w)→T w→((L.getD k true=false∧∃ ok,ops[k]? = some ok∧∃ e∈ok.after,Region.binds md e=true∧e.on=i)∨∀ w,T w) →
   wpK P md ops Q S k fuel (L.setIfInBounds i true) (a.put oi.dst v) w→wpK P md ops Q S k (fuel+1) L a w:=by
 intro fuel
 induction fuel with
 | zero=>
  intro L a w _ hr hy hS hTw _ H
  refine ⟨fun h=>(by rw [h] at hr; cases hr),fun j hj=>?_⟩;by_cases hji:j=i
  ·subst hji; exact hy.wpOp hi hTw ⟨fun h _=>hS h,H⟩
  ·have:=ready_mono hj hji
   rw [H.1] at this
   cases this
 | succ fuel ih=>
  intro L a w hfree hr hy hS hTw hw H
  refine ⟨fun h=>(by rw [h] at hr; cases hr),fun j hj=>?_⟩;by_cases hji:j=i
  ·subst hji; exact hy.wpOp hi hTw ⟨fun h _=>hS h,H⟩
  ·have h1:=H.2 j (ready_mono hj hji)
   obtain ⟨hjun,oj,hoj,hall⟩:=mem_ready.1 hj;have hnot:∀ e∈oj.after,Region.binds md e=true→e.on≠i:=fun e he hb heq=>by
    have h1:=hall e he hb;have h0:=(mem_ready.1 hr).1;rw [heq] at h1;rcases Nat.lt_or_ge i L.size with h' | h'
    ·simp [h'] at h0 h1; rw [h0] at h1; cases h1
    ·simp [Array.getElem?_eq_none h'] at h1
   have h2:=wpOp_putIf hoj (hfree j oj hoj hji hjun hnot) (fun cs b=>hsel i oi cs b hi) (fun cs b=>hsel j oj cs b hoj) hQ hy h1;have hfree':∀ k ok,ops[k]? = some ok→k≠i→(L.setIfInBounds j true).getD k true=false →
     (∀ e∈ok.after,Region.binds md e=true→e.on≠i)→oi.apart ops ok=true:=fun k ok hk hki hun hno=>by
    refine hfree k ok hk hki ?_ hno;by_cases hjk:j=k
    ·subst hjk; exact hjun
    ·rw [getD_set_ne true hjk] at hun; exact hun
   refine wpOp_mono (fun a' w' h3=>?_) h2;have hS':L.getD k true=false→j≠k→S w':=fun h1 h2=>h3.2.1 (by rw [getD_set_ne true hki]; exact h1) h2
   have hw':(((L.setIfInBounds j true).getD k true=false∧∃ ok,ops[k]? = some ok∧∃ e∈ok.after,Region.binds md e=true∧e.on=i)∨∀ w,T w)∧T w':=by
    rcases hw with ⟨h1,ok,hok,e,h4,h5,h6⟩ | h
    ·have hjk:j≠k:=fun q=>by
      subst q; rw [hok] at hoj; cases hoj;exact hnot e h4 h5 h6
     exact ⟨.inl ⟨by rw [getD_set_ne true hjk]; exact h1,ok,hok,e,h4,h5,h6⟩,hT _ (hS' h1 hjk)⟩
    ·exact ⟨.inr h,h _⟩
   refine ⟨hS',ih (L.setIfInBounds j true) a' w' hfree' (ready_mono hr (Ne.symm hji)) h3.1 (fun h=>?_) hw'.2 hw'.1 ?_⟩
   ·by_cases hjk:j=k
    ·subst hjk
     rcases Nat.lt_or_ge j L.size with h' | h'
     ·simp [h'] at h
     ·simp at h
    ·exact hS' (by rw [getD_set_ne true hjk] at h; exact h) hjk
   ·rw [Array.setIfInBounds_comm _ _ hji]
    exact h3.2.2
def waitB (md:Region.Mode) (ops:Array Oper) (k i:Nat):Bool:=decide (i≠k)&&match ops[k]? with
 | some o=>o.after.any fun e=>Region.binds md e&&decide (e.on=i)
 | none=>false
theorem waitB_spec {i:Nat} (h:waitB md ops k i=true):i≠k∧∃ ok,ops[k]? = some ok∧∃ e∈ok.after,Region.binds md e=true∧e.on=i:=by
 unfold waitB at h
 simp only [Bool.and_eq_true,decide_eq_true_eq] at h
 refine ⟨h.1,?_⟩
 cases e:ops[k]? with
 | none=>rw [e] at h; cases h.2
 | some o=>
  rw [e] at h;obtain ⟨x,hx,h3⟩:=Array.any_eq_true'.1 h.2;simp only [Bool.and_eq_true,decide_eq_true_eq] at h3
  exact ⟨o,rfl,x,hx,h3⟩
theorem rgK {id:Nat} {a:Act} {w:World} (S:World→Prop) (k:Nat) (hS:S w.drew) (h:S w.drew→wpK P .any ops (NoPanic Q) S k ops.size (Array.replicate ops.size false) a w.drew) (hm:P.follows .mixedOrders=true:=by kernel_rfl):(Code.region id ops true).wp P Q a w:=
 wp_region_noPanic (wp_region_any hm (any_of_K _ _ _ _ (h hS)))
variable {fuel:Nat} {L:Array Bool} {a a':Act} {w:World}
theorem tqK (i:Nat) {oi:Oper} (v:Value) (hS:S w) (h:wpK P md ops Q S k fuel (L.setIfInBounds i true) a' w) (hi:ops.toList[i]? = some oi:=by rfl) (ha:a.put oi.dst v=a':=by (try simp only [LAY]); rfl)
  (hs:Region.noSelect ops=true:=by kernel_rfl) (hf:Region.free md ops L i=true:=by kernel_rfl) (hr:(Region.ready md ops L).contains i=true:=by kernel_rfl) (hw:Region.wanted oi (yielded ops a.tmps)=true:=by rfl)
  (hb:waitB md ops k i=true:=by kernel_rfl) (hl:L.getD k true=false:=by kernel_rfl) (hQ:∀ c a w,Q (.panic c) (a.put oi.dst v) w→Q (.panic c) a w:=by exact fun _ _ _ h=>h)
  (hy:∀ w,S w→(execOp a.eval oi).run P w=.ok (.value v) w:=by intro w hSw; go_simp):wpK P md ops Q S k (fuel+1) L a w:=by
 have hi':ops[i]? = some oi:=by simpa using hi
 obtain ⟨h1,h2⟩:=waitB_spec hb;exact wpK_first hi' (Region.noSelect_spec hs) hQ h1 (fun _ h=>h) fuel L a w (Region.free_spec hi' hf) (by simpa using hr) (Or.inl ⟨hw,hy⟩) (fun _=>hS) hS (.inl ⟨hl,h2⟩) (ha▸h)
theorem tpK (i:Nat) {oi:Oper} (v:Value) (hS:S w) (h:wpK P md ops Q S k fuel (L.setIfInBounds i true) a' w) (hi:ops.toList[i]? = some oi:=by rfl) (ha:a.put oi.dst v=a':=by (try simp only [LAY]); rfl)
  (hs:Region.noSelect ops=true:=by kernel_rfl) (hf:Region.free md ops L i=true:=by kernel_rfl) (hr:(Region.ready md ops L).contains i=true:=by kernel_rfl) (hw:Region.wanted oi (yielded ops a.tmps)=true:=by rfl)
  (hik:i≠k:=by decide) (hQ:∀ c a w,Q (.panic c) (a.put oi.dst v) w→Q (.panic c) a w:=by exact fun _ _ _ h=>h)
  (hy:∀ w,(execOp a.eval oi).run P w=.ok (.value v) w:=by intro w; go_simp):wpK P md ops Q S k (fuel+1) L a w:=by
 have hi':ops[i]? = some oi:=by simpa using hi
 exact wpK_first hi' (Region.noSelect_spec hs) hQ hik (T:=fun _=>True) (fun _ _=>trivial) fuel L a w (Region.free_spec hi' hf) (by simpa using hr) (Or.inl ⟨hw,fun w _=>hy w⟩) (fun _=>hS) trivial (.inr fun _=>trivial) (ha▸h)
theorem rdK (i:Nat) {o:Oper} (hr:Region.ready md ops L=[i]) (ho:ops.toList[i]? = some o)
  (h:∀ K':Act→World→Prop,Shut (∀ a w,(L.getD k true=false→i≠k→S w)→wpK P md ops Q S k fuel (L.setIfInBounds i true) a w→K' a w)→if Region.wanted o (yielded ops a.tmps)=true then Oper.wp P o a w K' Q else K' (a.put o.dst undef) w):wpK P md ops Q S k (fuel+1) L a w:=
 ⟨fun h0=>(by rw [hr] at h0; cases h0),fun j hj=>by
  rw [hr] at hj;obtain rfl:=List.mem_singleton.1 hj;exact wpOp_step (by simpa using ho) (fun K' hK=>h K' (fun a w hS hW=>hK a w ⟨hS,hW⟩))⟩
theorem rcK (i:Nat) {o:Oper} {f:FuncId} {args:Array Value} {R:Ending→World→Prop} (hC:Calls P f args w R)
  (h:∀ e w',R e w'→∃ v,e=.returned v∧S w'∧wpK P md ops Q S k fuel (L.setIfInBounds i true) (a.put o.dst v) w') (hr:Region.ready md ops L=[i]:=by kernel_rfl) (ho:ops.toList[i]? = some o:=by rfl) (hg:o.guard=none:=by rfl)
  (he:(execOp a.eval o).run P w=.ok (.enter f args) w:=by go_simp):wpK P md ops Q S k (fuel+1) L a w:=by
 refine rdK i hr ho fun K hK=>?_
 rw [if_pos (by simp [Region.wanted,hg])];unfold Oper.wp
 rw [he];refine hC.mono fun e w' hR=>?_
 obtain ⟨v,rfl,h1,h2⟩:=h e w' hR;exact hK.out _ _ (fun _ _=>h1) h2
theorem stK (i:Nat) {o:Oper} {ty:TypeId} {x y:Operand} {b n:Nat} {zs us:List Value} {t:TypeId} (hB:Blk w b zs t) (hl:zs.length=n) (hm:us.length=n) (h1:∀ u∈us,u.oneCell'=true)
  (h:∀ w2,Hid (w2=setN w b 0 us)→wpK P md ops Q S k fuel (L.setIfInBounds i true) a w2)
  (hr:Region.ready md ops L=[i]:=by kernel_rfl) (hki:(decide (i=k)||L.getD k true)=true:=by kernel_rfl) (ho:ops.toList[i]? = some o:=by rfl) (hg:o.guard=none:=by rfl) (hd:o.dst=none:=by rfl) (hop:o.op=.store ty x y:=by rfl) (hx:a.eval x=.pointer (some ⟨b,0,none⟩):=by rfl) (hy:a.eval y=.agg us.toArray:=by rfl)
  (hi:(P.info? ty).map (·.size)=some n:=by kernel_rfl):wpK P md ops Q S k (fuel+1) L a w:=by
 refine rdK i hr ho fun K hK=>?_
 rw [if_pos (by simp [Region.wanted,hg])];refine wp_store_mid ty x y hop b 0 us.toArray hx hy (by have:=blk_thr hB; rw [hl,←hm] at this; simpa using this) (by rw [hi,←hm]; simp) (all_oneCell_toArray h1) ?_;rw [hd,List.toList_toArray,kC_N];refine hK.out _ _ (fun h2 h3=>?_) (h _ (Lh rfl));rw [h2,decide_eq_false h3] at hki; cases hki
theorem rvK (i:Nat) {o:Oper} (v:Value) (h:wpK P md ops Q S k fuel (L.setIfInBounds i true) a' w) (hr:Region.ready md ops L=[i]:=by kernel_rfl) (hk:L.getD k true=true:=by kernel_rfl) (ho:ops.toList[i]? = some o:=by rfl) (hw:Region.wanted o (yielded ops a.tmps)=true:=by rfl)
  (hy:(execOp a.eval o).run P w=.ok (.value v) w:=by go_simp) (ha:a.put o.dst v=a':=by (try simp only [LAY]); rfl):wpK P md ops Q S k (fuel+1) L a w:=by
 refine rdK i hr ho fun K hK=>?_
 rw [if_pos hw];unfold Oper.wp
 rw [hy];exact hK.out _ _ (fun h2 _=>(by rw [hk] at h2; cases h2)) (ha▸h)
theorem dnK (h:Q .normal a w) (hr:Region.ready md ops L=[]:=by kernel_rfl):wpK P md ops (NoPanic Q) S k fuel L a w:=by
 cases fuel with
 | zero=>exact ⟨hr,NoPanic.normal h⟩
 | succ n=>exact ⟨fun _=>NoPanic.normal h,by rw [hr]; simp⟩
end
end Go.Proofs.YtemicfjmidohfaaGreatDoor
namespace Go.Proofs.YtemicfjmidohfaaGreatDoor
open Go Go.Proofs Go.RowKit
structure Wy where
 t:Int
 sl:Int
 c:Cal
 q:Int
 s:Int
 x:Ans
abbrev wyL (w:Wy):List Value:=[.int .i64 w.t,.int .i64 w.sl,.int .i64 w.c.k,.int .i64 w.c.p,.int .i32 w.c.ch,.int .i64 w.c.o.k,.int .i64 w.c.o.c,.int .i64 w.c.o.s,.int .i64 w.c.o.a,.int .i64 w.c.o.n,.int .i32 w.c.o.ch,.int .i64 w.c.a,.int .i64 w.c.b,.int .i64 w.q,.int .i64 w.s,.int .i64 w.x.e,.int .i64 w.x.n,.string w.x.t]
def Wy.on (w:Wy) (q:Int):Wy:={ w with q:=q }
def Wy.ans (w:Wy) (x:Ans):Wy:={ w with x:=x,q:=11 }
def Wy.bad (w:Wy) (e:Int):Wy:=w.ans (badA e)
def begW (t sl:Int) (c:Cal):Wy:=⟨t,sl,c,0,0,⟨0,0,⟨#[]⟩⟩⟩
def homeW (w:Wy) (b:Brd):Int:=w.t.tmod b.st.length
def unlW (w:Wy) (cl:Bool) (q:Int):Wy:=if cl=true then w.bad 9 else w.on q
def tkW (w:Wy) (b:Brd) (s q:Int):Brd×Wy:=(lockB b w.t s,if (b.at s).h<0 then w.on q else w)
def spw0 (w:Wy) (b:Brd):Brd×Wy:=
 if w.c.k<0∨8<w.c.k then (b,w.bad 1)
 else if w.c.k=8 then (raiseB b w.t,unlW w b.up 7)
 else (upB b w.t,unlW w b.up (if w.c.k≤2 then 1 else 6))
def spw1 (w:Wy) (b:Brd):Brd×Wy:=tkW w b (homeW w b) 2
def spw2 (w:Wy) (b:Brd):Brd×Wy:=(pushB b w.t (homeW w b) w.sl w.c,{ w with x:={ w.x with e:=pushE b (homeW w b) },q:=3 })
def spw3 (w:Wy) (b:Brd):Brd×Wy:=(unlockB b w.t (homeW w b),if w.x.e=0 then w.on 4 else w.bad w.x.e)
def spw4 (w:Wy) (b:Brd):Brd×Wy:=(filledB b w.t w.sl,if filledA b w.sl=true then w.on 5 else w)
def spw5 (w:Wy) (b:Brd):Brd×Wy:=(fetchB b w.t w.sl,w.ans (fetchA b w.sl))
def spw6 (w:Wy) (b:Brd):Brd×Wy:=(loadB b w.t,w.ans (doR b.r w.c).2.1)
def spw7 (w:Wy) (b:Brd):Brd×Wy:=tkW w b w.s 8
def spw8 (w:Wy) (b:Brd):Brd×Wy:=(sealB b w.t w.s,w.on 9)
def spw9 (w:Wy) (b:Brd):Brd×Wy:=(unlockB b w.t w.s,if w.s+1=b.st.length then { w with s:=w.s+1,q:=10 } else { w with s:=w.s+1,q:=7 })
def spw10 (w:Wy) (b:Brd):Brd×Wy:=(goneB b w.t,if b.gone=true then w.ans ⟨0,0,⟨#[]⟩⟩ else w)
def stepW (w:Wy) (b:Brd):Brd×Wy:=
 if w.q=0 then spw0 w b else if w.q=1 then spw1 w b else if w.q=2 then spw2 w b else if w.q=3 then spw3 w b else if w.q=4 then spw4 w b else if w.q=5 then spw5 w b
 else if w.q=6 then spw6 w b else if w.q=7 then spw7 w b else if w.q=8 then spw8 w b else if w.q=9 then spw9 w b else if w.q=10 then spw10 w b else (b,w)
def readyW (w:Wy) (b:Brd):Bool:=
 if w.q=1 then decide ((b.at (homeW w b)).h<0) else if w.q=7 then decide ((b.at w.s).h<0) else if w.q=4 then filledA b w.sl else if w.q=10 then b.gone else decide (w.q≠11)
def doneW (w:Wy):Bool:=decide (w.q=11)
def resW (w:Wy):Ans:=if w.q=11 then w.x else ⟨0,0,⟨#[]⟩⟩
structure WyOk (w:Wy) (b:Brd):Prop where
 t0:0≤w.t
 t1:w.t≤15
 l0:0≤w.sl
 l1:w.sl≤800
 q0:0≤w.q
 q1:w.q≤11
 s0:0≤w.s
 s1:w.s≤b.st.length
 s2:7≤w.q→w.q≤9→w.s<b.st.length
 n:1≤b.st.length
theorem WyOk.home {w:Wy} {b:Brd} (h:WyOk w b):0≤homeW w b∧homeW w b<b.st.length:=by
 have h0:=h.t0;have h1:=h.n;unfold homeW
 rw [Int.tmod_eq_emod_of_nonneg h0];exact ⟨Int.emod_nonneg _ (by omega),Int.emod_lt_of_pos _ (by omega)⟩
theorem WyOk.len {w:Wy} {b b':Brd} (h:WyOk w b) (hl:b'.st.length=b.st.length):WyOk w b':=
 ⟨h.t0,h.t1,h.l0,h.l1,h.q0,h.q1,h.s0,by rw [hl]; exact h.s1,by rw [hl]; exact h.s2,by rw [hl]; exact h.n⟩
theorem set_stl {b:Brd} {s:Int} {x:Sto} {l:List Ac}:((b.set s x).did l).st.length=b.st.length:=List.length_set
theorem lockB_len {b:Brd} {t s:Int}:(lockB b t s).st.length=b.st.length:=by unfold lockB; split; exact rfl; exact List.length_set
theorem pushB_len {b:Brd} {t s k:Int} {c:Cal}:(pushB b t s k c).st.length=b.st.length:=by unfold pushB; split; exact rfl; exact List.length_set
theorem stepW_len (w:Wy) (b:Brd):(stepW w b).1.st.length=b.st.length:=by
 unfold stepW
 split
 ·unfold spw0; split
  ·rfl
  split <;> rfl
 split
 ·exact lockB_len
 split
 ·exact pushB_len
 split
 ·exact List.length_set
 split
 ·rfl
 split
 ·rfl
 split
 ·rfl
 split
 ·exact lockB_len
 split
 ·exact List.length_set
 split
 ·exact List.length_set
 split <;> rfl
theorem stepW_r (w:Wy) (b:Brd):(stepW w b).1.r=b.r:=by
 unfold stepW
 split
 ·unfold spw0; split
  ·rfl
  split <;> rfl
 split
 ·show (lockB _ _ _).r=_; unfold lockB; split <;> rfl
 split
 ·show (pushB _ _ _ _ _).r=_; unfold pushB; split <;> rfl
 split
 ·rfl
 split
 ·rfl
 split
 ·rfl
 split
 ·rfl
 split
 ·show (lockB _ _ _).r=_; unfold lockB; split <;> rfl
 split
 ·rfl
 split
 ·rfl
 split <;> rfl
theorem ans_ok {w:Wy} {b:Brd} {x:Ans} (h:WyOk w b):WyOk (w.ans x) b:=⟨h.t0,h.t1,h.l0,h.l1,show (0:Int)≤11 by decide,show (11:Int)≤11 by decide,h.s0,h.s1,fun _ e=>absurd (show (11:Int)≤9 from e) (by decide),h.n⟩
theorem unlW_ok {w:Wy} {b:Brd} {cl:Bool} {q:Int} (h:WyOk w b) (h0:0≤q) (h1:q≤7) (hs:q=7→w.s<b.st.length):WyOk (unlW w cl q) b:=by
 unfold unlW
 split
 ·exact ans_ok h
 ·exact ⟨h.t0,h.t1,h.l0,h.l1,h0,by show q≤11; omega,h.s0,h.s1,fun e _=>hs (by have:7≤q:=e; omega),h.n⟩
theorem on_ok {w:Wy} {b:Brd} {q:Int} (h:WyOk w b) (h0:0≤q) (h1:q≤11) (hs:7≤q→q≤9→w.s<b.st.length):WyOk (w.on q) b:=⟨h.t0,h.t1,h.l0,h.l1,h0,h1,h.s0,h.s1,hs,h.n⟩
theorem stepW_ok0 {w:Wy} {b:Brd} (h:WyOk w b) (hs:w.q=0→w.s=0):WyOk (stepW w b).2 b:=by
 have hn:=h.n;unfold stepW
 split
 ·next e=>
  unfold spw0; split
  ·exact ans_ok h
  split
  ·exact unlW_ok h (by decide) (by decide) fun _=>by rw [hs e]; omega
  ·exact unlW_ok h (by split <;> decide) (by split <;> decide) fun e=>by split at e <;> cases e
 split
 ·show WyOk (if _ then _ else _) b; split
  ·exact on_ok h (by decide) (by decide) fun e=>absurd e (by decide)
  ·exact h
 split
 ·exact ⟨h.t0,h.t1,h.l0,h.l1,show (0:Int)≤3 by decide,show (3:Int)≤11 by decide,h.s0,h.s1,fun e=>absurd (show (7:Int)≤3 from e) (by decide),h.n⟩
 split
 ·show WyOk (if _ then _ else _) b; split
  ·exact on_ok h (by decide) (by decide) fun e=>absurd e (by decide)
  ·exact ans_ok h
 split
 ·show WyOk (if _ then _ else _) b; split
  ·exact on_ok h (by decide) (by decide) fun e=>absurd e (by decide)
  ·exact h
 split
 ·exact ans_ok h
 split
 ·exact ans_ok h
 split
 ·next e=>
  show WyOk (if _ then _ else _) b; split
  ·exact on_ok h (by decide) (by decide) fun _ _=>h.s2 (by omega) (by omega)
  ·exact h
 split
 ·exact on_ok h (by decide) (by decide) fun _ _=>h.s2 (by omega) (by omega)
 split
 ·have h2:=h.s2 (by omega) (by omega)
  have h0:=h.s0
  show WyOk (if _ then _ else _) b; split
  ·exact ⟨h.t0,h.t1,h.l0,h.l1,show (0:Int)≤10 by decide,show (10:Int)≤11 by decide,by show 0≤w.s+1; omega,by show w.s+1≤_; omega,fun _ e=>absurd (show (10:Int)≤9 from e) (by decide),h.n⟩
  ·exact ⟨h.t0,h.t1,h.l0,h.l1,show (0:Int)≤7 by decide,show (7:Int)≤11 by decide,by show 0≤w.s+1; omega,by show w.s+1≤_; omega,fun _ _=>by show w.s+1<_; omega,h.n⟩
 split
 ·show WyOk (if _ then _ else _) b; split
  ·exact ans_ok h
  ·exact h
 exact h
theorem stepW_s {w:Wy} {b:Brd}:(stepW w b).2.q=0→(stepW w b).2.s=0:=by
 intro e
 unfold stepW at e ⊢
 split at e
 ·next e0=>
  exfalso
  unfold spw0 at e; split at e
  ·cases e
  split at e
  ·unfold unlW at e; split at e <;> cases e
  ·unfold unlW at e; split at e
   ·cases e
   ·change (if _ then _ else _)=_ at e; split at e <;> cases e
 next n0=>
 repeat' split at e
 all_goals first | cases e | skip
 all_goals (first
  | (change Wy.q (if _ then _ else _)=0 at e; split at e; cases e; exact absurd e n0)
  | (change Wy.q (if _ then _ else _)=0 at e; split at e; cases e; cases e)
  | exact absurd e n0)
theorem stepW_stay (w:Wy) (b:Brd):(stepW w b).2.t=w.t∧(stepW w b).2.sl=w.sl∧(stepW w b).2.c=w.c:=by
 unfold stepW
 split
 ·unfold spw0; split
  ·exact ⟨rfl,rfl,rfl⟩
  split
  ·unfold unlW; split <;> exact ⟨rfl,rfl,rfl⟩
  ·unfold unlW; split <;> exact ⟨rfl,rfl,rfl⟩
 repeat' split
 all_goals first | exact ⟨rfl,rfl,rfl⟩ | (show Wy.t (if _ then _ else _)=_∧Wy.sl (if _ then _ else _)=_∧Wy.c (if _ then _ else _)=_; split <;> exact ⟨rfl,rfl,rfl⟩)
theorem BOk.up {b:Brd} {n:Nat} (h:BOk b n) (u g:Bool):BOk { b with up:=u,gone:=g } n:=⟨h.st,h.r0,h.r1,h.q,h.t0,h.t1,h.rp,h.sl,h.tr⟩
theorem BOk.unlock' {b:Brd} {n:Nat} (h:BOk b n) (t s:Int):BOk (unlockB b t s) (n+1):=BOk.did (l:=[⟨t,3,1000+s⟩]) (h.set s (x:={ b.at s with h := -1 }) (h.at s)) (by simp)
theorem BOk.seal' {b:Brd} {n:Nat} (h:BOk b n) (t s:Int):BOk (sealB b t s) (n+1):=BOk.did (l:=[⟨t,1,s⟩]) (h.set s (x:={ b.at s with z:=true }) (h.at s)) (by simp)
theorem BOk.step {b:Brd} {n:Nat} (h:BOk b n) (w:Wy):BOk (stepW w b).1 (n+1):=by
 unfold stepW
 split
 ·unfold spw0; split
  ·exact h.more (Nat.le_succ n)
  split
  ·exact BOk.did (l:=[⟨w.t,2,2001⟩,⟨w.t,3,2001⟩]) (h.up true b.gone) (by simp)
  ·exact BOk.did (l:=[⟨w.t,2,2001⟩]) h (by simp)
 split
 ·exact h.lock _ _
 split
 ·exact h.push _ _ _ _
 split
 ·exact h.unlock' _ _
 split
 ·exact h.did (by simp)
 split
 ·exact h.did (by simp)
 split
 ·exact h.did (by simp)
 split
 ·exact h.lock _ _
 split
 ·exact h.seal' _ _
 split
 ·exact h.unlock' _ _
 split
 ·exact h.did (by simp)
 exact h.more (Nat.le_succ n)
end Go.Proofs.YtemicfjmidohfaaGreatDoor
namespace Go.Proofs.YtemicfjmidohfaaGreatDoor
open Go Go.Proofs Go.RowKit
variable {X:Nat→Prop} {w W W':World} {y z:Wy} {b b':Brd} {cs es:List Value}
abbrev WAY:TypeId:=90
theorem way_not:WAY∉bTy:=by decide
theorem wy_one (y:Wy):∀ u∈wyL y,u.oneCell'=true:=by simp [Value.oneCell']
def zWy:List Value:=[.int .i64 0,.int .i64 0,.int .i64 0,.int .i64 0,.int .i32 0,.int .i64 0,.int .i64 0,.int .i64 0,.int .i64 0,.int .i64 0,.int .i32 0,.int .i64 0,.int .i64 0,.int .i64 0,.int .i64 0,.int .i64 0,.int .i64 0,.string ⟨#[]⟩]
structure Wb (X:Nat→Prop) (w:World) (y:Wy) (cs:List Value) (b:Brd) (W:World):Prop where
 bel:Below w.heap.size w W
 b0:Blk W w.heap.size (wyL y) WAY
 b1:Blk W (w.heap.size+1) cs BDT
 b2:∃ zs,zs.length=nBd∧Blk W (w.heap.size+1+1) zs BDT
 b3:∃ zs,zs.length=18∧Blk W (w.heap.size+1+1+1) zs WAY
 ib:IsBd W X b cs
theorem Wb.next (h:Wb X w y cs b W) (hb:Below W.heap.size W W'):Wb X w y cs b W':=by
 obtain ⟨z2,l2,h2⟩:=h.b2;obtain ⟨z3,l3,h3⟩:=h.b3;exact ⟨h.bel.trans (hb.mono h.bel.size),h.b0.next hb,h.b1.next hb,⟨z2,l2,h2.next hb⟩,⟨z3,l3,h3.next hb⟩,h.ib.next hb⟩
theorem Wb.start (h:IsBd w X b cs):Wb X w y cs b ((((w.alloc (.cells ⟨wyL y⟩ WAY)).alloc (.cells ⟨cs⟩ BDT)).alloc (.cells ⟨zBd⟩ BDT)).alloc (.cells ⟨zWy⟩ WAY)):=by
 have hb:Below w.heap.size w ((((w.alloc (.cells ⟨wyL y⟩ WAY)).alloc (.cells ⟨cs⟩ BDT)).alloc (.cells ⟨zBd⟩ BDT)).alloc (.cells ⟨zWy⟩ WAY)):=(((bA.alloc (by simp) _).alloc (by simp; omega) _).alloc (by simp; omega) _)
 exact ⟨hb,(((Blk.start w _ _).alloc _).alloc _).alloc _,((Blk.startAt (by simp)).alloc _).alloc _,⟨zBd,rfl,(Blk.startAt (by simp)).alloc _⟩,⟨zWy,rfl,Blk.startAt (by simp)⟩,h.next hb⟩
theorem Wb.put1 (h:Wb X w y cs b W) (hI:IsBd W X b' es):Wb X w y es b' (setN W (w.heap.size+1) 0 es):=by
 obtain ⟨z2,l2,h2⟩:=h.b2;obtain ⟨z3,l3,h3⟩:=h.b3;exact ⟨setN_below (by omega) _ _ h.bel,h.b0.setN (by omega) _ _,setN_all h.b1 (by rw [hI.len,h.ib.len]),⟨z2,l2,h2.setN (by omega) _ _⟩,⟨z3,l3,h3.setN (by omega) _ _⟩,hI.setI h.b1 bd_not _ _⟩
theorem Wb.put0 (h:Wb X w y cs b W) (i:Nat) (v:Value) (hz:(wyL y).set i v=wyL z):Wb X w z cs b (W.setCell ⟨w.heap.size,i,none⟩ v):=by
 obtain ⟨z2,l2,h2⟩:=h.b2;obtain ⟨z3,l3,h3⟩:=h.b3;have ho:∀ n,0<n→w.heap.size+n≠(⟨w.heap.size,i,none⟩:Addr).block:=fun n h=>by show _≠w.heap.size; omega
 exact ⟨h.bel.setCell (p:=⟨w.heap.size,i,none⟩) (Nat.le_refl _) _,hz▸h.b0.set i v,h.b1.other _ (ho 1 (by decide)) v,⟨z2,l2,h2.other _ (ho 2 (by decide)) v⟩,⟨z3,l3,h3.other _ (ho 3 (by decide)) v⟩,h.ib.setI h.b0 way_not [v] i⟩
theorem Wb.out2 (h:Wb X w y cs b W) (hI:IsBd W X b' es):Wb X w y cs b (setN W (w.heap.size+1+1) 0 es)∧Blk (setN W (w.heap.size+1+1) 0 es) (w.heap.size+1+1) es BDT∧IsBd (setN W (w.heap.size+1+1) 0 es) X b' es:=by
 obtain ⟨z2,l2,h2⟩:=h.b2;obtain ⟨z3,l3,h3⟩:=h.b3;have h4:=setN_all (us:=es) h2 (by rw [hI.len,l2]);exact ⟨⟨setN_below (by omega) _ _ h.bel,h.b0.setN (by omega) _ _,h.b1.setN (by omega) _ _,⟨es,hI.len,h4⟩,⟨z3,l3,h3.setN (by omega) _ _⟩,h.ib.setI h2 bd_not _ _⟩,h4,hI.setI h2 bd_not _ _⟩
theorem Wb.out3 (h:Wb X w y cs b W) (z:Wy):Wb X w y cs b (setN W (w.heap.size+1+1+1) 0 (wyL z))∧Blk (setN W (w.heap.size+1+1+1) 0 (wyL z)) (w.heap.size+1+1+1) (wyL z) WAY:=by
 obtain ⟨z2,l2,h2⟩:=h.b2;obtain ⟨z3,l3,h3⟩:=h.b3;have h4:=setN_all (us:=wyL z) h3 (by rw [l3]; rfl);exact ⟨⟨setN_below (by omega) _ _ h.bel,h.b0.setN (by omega) _ _,h.b1.setN (by omega) _ _,⟨z2,l2,h2.setN (by omega) _ _⟩,⟨_,rfl,h4⟩,h.ib.setI h3 way_not _ _⟩,h4⟩
def Wt (X:Nat→Prop) (w:World) (y:Wy) (cs:List Value) (b:Brd) (T:World→Prop) (W:World):Prop:=Wb X w y cs b W∧T W
theorem Wt.next {T:World→Prop} (hT:∀ W W',T W→Below W.heap.size W W'→T W') (W W':World) (h:Wt X w y cs b T W) (hb:Below W.heap.size W W'):Wt X w y cs b T W':=⟨h.1.next hb,hT _ _ h.2 hb⟩
def RWy (X:Nat→Prop) (p:Brd×Wy) (w:World) (e:Ending) (w':World):Prop:=Below w.heap.size w w'∧∃ es:List Value,e=.returned (.tuple #[.agg es.toArray,.agg (wyL p.2).toArray])∧IsBd w' X p.1 es
def WC (f:FuncId) (y:Wy) (b:Brd) (p:Brd×Wy):Prop:=∀ (n:Nat) (X:Nat→Prop) (cs:List Value) (w:World),BOk b n→n≤990→IsBd w X b cs→Old X w→WyOk y b→(∃ k,k≤120∧RplOk b.r k)→Pows w→Tabs w→Calls Tryz.prog f #[.agg (wyL y).toArray,.agg cs.toArray] w (RWy X p w)
def QC (f:FuncId) (args:Array Value) (v:Value):Prop:=∀ w,Calls Tryz.prog f args w (Rt v w)
variable {P:Program} {md:Region.Mode} {ops:Array Oper} {Q:Exit→Act→World→Prop} {S T:World→Prop} {fuel:Nat} {L:Array Bool} {a a':Act}
theorem tzz (i:Nat) {o:Oper} {v:Value} (hS:S W) (h:wpAnyH P md ops Q S fuel (L.setIfInBounds i true) a' W)
  (hi:ops.toList[i]? = some o:=by rfl) (hy:∀ W,S W→(execOp a.eval o).run P W=.ok (.value v) W:=by intro W hSw; go_simp; rfl) (ha:a.put o.dst v=a':=by (try simp only [LAY]); rfl) (hs:Region.noSelect ops=true:=by kernel_rfl) (hf:Region.free md ops L i=true:=by kernel_rfl) (hr:(Region.ready md ops L).contains i=true:=by kernel_rfl)
  (hw:Region.wanted o (yielded ops a.tmps)=true:=by rfl) (hQ:∀ c a w,Q (.panic c) (a.put o.dst v) w→Q (.panic c) a w:=by exact fun _ _ _ h=>h):wpAnyH P md ops Q S (fuel+1) L a W:=
 take1 hi hs hf hr hQ (Or.inl ⟨hw,hy⟩) hS (ha▸h)
theorem rV {o:Oper} {f:FuncId} {args:Array Value} {v:Value} (i:Nat) (hC:Calls P f args W (Rt v W)) (hS:S W) (hn:∀ W W',S W→Below W.heap.size W W'→S W') (h:∀ W',Below W.heap.size W W'→S W'→wpAnyH P md ops Q S fuel (L.setIfInBounds i true) a' W')
  (hr:Region.ready md ops L=[i]:=by kernel_rfl) (ho:ops.toList[i]? = some o:=by rfl) (hg:o.guard=none:=by rfl) (he:(execOp a.eval o).run P W=.ok (.enter f args) W:=by go_simp) (ha:a.put o.dst v=a':=by (try simp only [LAY]); rfl):wpAnyH P md ops Q S (fuel+1) L a W:=by
 refine rd1 i hr ho fun K hK=>?_
 rw [if_pos (by simp [Region.wanted,hg])];unfold Oper.wp
 rw [he];refine hC.mono fun e W' hR=>?_
 obtain ⟨rfl,hb⟩:=hR;have hs:=hn W W' hS hb;exact hK.out _ _ hs fun hs=>ha▸h W' hb hs
theorem rR {o:Oper} {f:FuncId} {args:Array Value} {g:Value→Value} (i:Nat) (hC:Calls P f args W (RB b' X g W)) (hS:S W) (hn:∀ W W',S W→Below W.heap.size W W'→S W') (h:∀ W' es,Below W.heap.size W W'→S W'→IsBd W' X b' es→wpAnyH P md ops Q S fuel (L.setIfInBounds i true) (a.put o.dst (g (.agg es.toArray))) W')
  (hr:Region.ready md ops L=[i]:=by kernel_rfl) (ho:ops.toList[i]? = some o:=by rfl) (hg:o.guard=none:=by rfl) (he:(execOp a.eval o).run P W=.ok (.enter f args) W:=by go_simp):wpAnyH P md ops Q S (fuel+1) L a W:=by
 refine rd1 i hr ho fun K hK=>?_
 rw [if_pos (by simp [Region.wanted,hg])];unfold Oper.wp
 rw [he];refine hC.mono fun e W' hR=>?_
 obtain ⟨hb,es,rfl,hI⟩:=hR;have hs:=hn W W' hS hb;exact hK.out _ _ hs fun hs=>h W' es hb hs hI
theorem lB (i:Nat) {o:Oper} {x:Operand} (hH:Wt X w y cs b T W) (h:wpAnyH Tryz.prog md ops Q (Wt X w y cs b T) fuel (L.setIfInBounds i true) a' W) (hi:ops.toList[i]? = some o:=by rfl) (ho:o.op=.load BDT x:=by rfl) (hx:a.eval x=.pointer (some ⟨w.heap.size+1,0,none⟩):=by rfl)
  (ha:a.put o.dst (.agg cs.toArray)=a':=by (try simp only [LAY]); rfl) (hs:Region.noSelect ops=true:=by kernel_rfl) (hf:Region.free md ops L i=true:=by kernel_rfl) (hr:(Region.ready md ops L).contains i=true:=by kernel_rfl)
  (hw:Region.wanted o (yielded ops a.tmps)=true:=by rfl) (hQ:∀ c a w,Q (.panic c) (a.put o.dst (.agg cs.toArray)) w→Q (.panic c) a w:=by exact fun _ _ _ h=>h):wpAnyH Tryz.prog md ops Q (Wt X w y cs b T) (fuel+1) L a W:=
 tzz i hH h hi (fun _ h=>kly h.1.b1 h.1.ib.len ho hx) ha hs hf hr hw hQ
theorem lW (i:Nat) {o:Oper} {x:Operand} (hH:Wt X w y cs b T W) (h:wpAnyH Tryz.prog md ops Q (Wt X w y cs b T) fuel (L.setIfInBounds i true) a' W) (hi:ops.toList[i]? = some o:=by rfl) (ho:o.op=.load WAY x:=by rfl) (hx:a.eval x=.pointer (some ⟨w.heap.size,0,none⟩):=by rfl)
  (ha:a.put o.dst (.agg (wyL y).toArray)=a':=by (try simp only [LAY]); rfl) (hs:Region.noSelect ops=true:=by kernel_rfl) (hf:Region.free md ops L i=true:=by kernel_rfl) (hr:(Region.ready md ops L).contains i=true:=by kernel_rfl)
  (hw:Region.wanted o (yielded ops a.tmps)=true:=by rfl) (hQ:∀ c a w,Q (.panic c) (a.put o.dst (.agg (wyL y).toArray)) w→Q (.panic c) a w:=by exact fun _ _ _ h=>h):wpAnyH Tryz.prog md ops Q (Wt X w y cs b T) (fuel+1) L a W:=
 tzz i hH h hi (fun _ h=>kly (n:=18) h.1.b0 rfl ho hx) ha hs hf hr hw hQ
theorem lC (i j:Nat) {o:Oper} {v:Value} (hH:Wt X w y cs b T W) (h:wpAnyH P md ops Q (Wt X w y cs b T) fuel (L.setIfInBounds i true) a' W) (hv:(wyL y)[j]? = some v:=by rfl) (hi:ops.toList[i]? = some o:=by rfl)
  (hq:∀ W:World,W.cell? ⟨w.heap.size,j,none⟩=some v→(execOp a.eval o).run P W=.ok (.value v) W:=by intro W hq; go_simp) (ha:a.put o.dst v=a':=by (try simp only [LAY]); rfl)
  (hs:Region.noSelect ops=true:=by kernel_rfl) (hf:Region.free md ops L i=true:=by kernel_rfl) (hr:(Region.ready md ops L).contains i=true:=by kernel_rfl)
  (hw:Region.wanted o (yielded ops a.tmps)=true:=by rfl) (hQ:∀ c a w,Q (.panic c) (a.put o.dst v) w→Q (.panic c) a w:=by exact fun _ _ _ h=>h):wpAnyH P md ops Q (Wt X w y cs b T) (fuel+1) L a W:=
 tzz i hH h hi (fun W h=>hq W (h.1.b0.cell j hv)) ha hs hf hr hw hQ
def We (X:Nat→Prop) (w:World) (p:Brd×Wy) (es:List Value) (W:World):Prop:=Below w.heap.size w W∧Blk W (w.heap.size+1+1) es BDT∧Blk W (w.heap.size+1+1+1) (wyL p.2) WAY∧IsBd W X p.1 es
theorem rWs {o2 o3:Oper} {x1 y1 x2 y2:Operand} (j n:Nat) (hH:Wt X w y cs b T W) (hI:IsBd W X b' es) (h:∀ W',We X w (b',z) es W'→wpAnyH Tryz.prog md ops Q (Wt X w y cs b T) fuel ((L.setIfInBounds j true).setIfInBounds n true) a W')
  (hT:∀ W us,T W→T (setN W (w.heap.size+1+1) 0 us)∧T (setN W (w.heap.size+1+1+1) 0 us):=by exact fun _ _ _=>⟨trivial,trivial⟩)
  (hr2:Region.ready md ops L=[j]:=by kernel_rfl) (hr3:Region.ready md ops (L.setIfInBounds j true)=[n]:=by kernel_rfl) (ho2:ops.toList[j]? = some o2:=by rfl) (ho3:ops.toList[n]? = some o3:=by rfl) (hg2:o2.guard=none:=by rfl) (hg3:o3.guard=none:=by rfl) (hd2:o2.dst=none:=by rfl) (hd3:o3.dst=none:=by rfl)
  (hop2:o2.op=.store BDT x1 y1:=by rfl) (hop3:o3.op=.store WAY x2 y2:=by rfl) (hx1:a.eval x1=.pointer (some ⟨w.heap.size+1+1,0,none⟩):=by rfl) (hy1:a.eval y1=.agg es.toArray:=by rfl) (hx2:a.eval x2=.pointer (some ⟨w.heap.size+1+1+1,0,none⟩):=by rfl) (hy2:a.eval y2=.agg (wyL z).toArray:=by rfl):wpAnyH Tryz.prog md ops Q (Wt X w y cs b T) (fuel+1+1) L a W:=by
 obtain ⟨z2,l2,h2⟩:=hH.1.b2;obtain ⟨q1,q2,q3⟩:=hH.1.out2 hI;refine kstN j h2 l2 hI.len hI.one (fun W2 e=>by rw [e.out]; exact ⟨q1,(hT _ _ hH.2).1⟩) (fun W2 e hH2=>?_) hr2 ho2 hg2 hd2 hop2 hx1 hy1;rw [←e.out] at q1 q2 q3;obtain ⟨z3,l3,h3⟩:=q1.b3;obtain ⟨q4,q5⟩:=q1.out3 z;refine kstN n h3 l3 rfl (wy_one z) (fun W3 e=>by rw [e.out]; exact ⟨q4,(hT _ _ hH2.2).2⟩) (fun W3 e hH3=>?_) hr3 ho3 hg3 hd3 hop3 hx2 hy2;refine h W3 ?_;rw [e.out];exact ⟨q4.bel,q2.setN (by omega) _ _,q5,q3.setI h3 way_not _ _⟩
theorem We.rw {p:Brd×Wy} (h:We X w p es W):RWy X p w (.returned (.tuple #[.agg es.toArray,.agg (wyL p.2).toArray])) W:=⟨h.1,es,rfl,h.2.2.2⟩
end Go.Proofs.YtemicfjmidohfaaGreatDoor
namespace Go.Proofs.YtemicfjmidohfaaGreatDoor
open Go Go.Proofs Go.RowKit
variable {P:Program} {md:Region.Mode} {ops:Array Oper} {Q:Exit→Act→World→Prop} {S:World→Prop} {fuel:Nat} {L:Array Bool} {a:Act} {W:World}
def Br (P:Program) (md:Region.Mode) (ops:Array Oper) (Q:Exit→Act→World→Prop) (S:World→Prop) (fuel:Nat) (L:Array Bool) (a:Act) (W:World) (i:Nat):Prop:=∃ o,ops.toList[i]? = some o ∧
 ∀ K':Act→World→Prop,Shut (∀ a w,S w→(S w→wpAnyH P md ops Q S fuel (L.setIfInBounds i true) a w)→K' a w)→if Region.wanted o (yielded ops a.tmps)=true then Oper.wp P o a W K' Q else K' (a.put o.dst undef) W
theorem Br.call {o:Oper} {f:FuncId} {args:Array Value} {v:Value} {a':Act} (i:Nat) (hC:∀ W,Calls P f args W (Rt v W)) (hS:S W) (hn:∀ W W',S W→Below W.heap.size W W'→S W') (h:∀ W',Below W.heap.size W W'→S W'→wpAnyH P md ops Q S fuel (L.setIfInBounds i true) a' W')
  (ho:ops.toList[i]? = some o:=by rfl) (hg:o.guard=none:=by rfl) (he:(execOp a.eval o).run P W=.ok (.enter f args) W:=by go_simp) (ha:a.put o.dst v=a':=by (try simp only [LAY]); rfl):Br P md ops Q S fuel L a W i:=
 ⟨o,ho,fun K' hK=>by
  rw [if_pos (by simp [Region.wanted,hg])];unfold Oper.wp
  rw [he];refine (hC W).mono fun e W' hR=>?_
  obtain ⟨rfl,hb⟩:=hR;have hs:=hn W W' hS hb;exact hK.out _ _ hs fun hs=>ha▸h W' hb hs⟩
theorem Br.al {o:Oper} {a':Nat→Act} {t:TypeId} (i:Nat) (zs:List Value) (hS:S W) (hn:∀ W W',S W→Below W.heap.size W W'→S W') (h:∀ g W',Hid (g=W.heap.size)→Below W.heap.size W W'→Blk W' g zs t→S W'→wpAnyH P md ops Q S fuel (L.setIfInBounds i true) (a' g) W')
  (ho:ops.toList[i]? = some o:=by rfl) (hg:o.guard=none:=by rfl) (he:(execOp a.eval o).run P W=.ok (.value (.pointer (some ⟨W.heap.size,0,none⟩))) (W.alloc (.cells ⟨zs⟩ t)):=by go_simp; rfl) (ha:∀ g:Nat,a.put o.dst (.pointer (some ⟨g,0,none⟩))=a' g:=by intro g; (try simp only [LAY]); rfl):Br P md ops Q S fuel L a W i:=
 ⟨o,ho,fun K' hK=>by
  rw [if_pos (by simp [Region.wanted,hg])];unfold Oper.wp
  rw [he];have hs:=hn W _ hS (bA (o:=.cells ⟨zs⟩ t));exact hK.out _ _ hs fun hs=>ha _▸h _ _ (Lh rfl) bA (Blk.start W zs t) hs⟩
theorem rB1 {i:Nat} (hr:Region.ready md ops L=[i]) (h1:Br P md ops Q S fuel L a W i):wpAnyH P md ops Q S (fuel+1) L a W:=by
 obtain ⟨o,ho,h⟩:=h1;exact wpAnyH_ready hr (by simp) (cons1 ho h AllReadyH.nil)
theorem rB2 {i j:Nat} (hr:Region.ready md ops L=[i,j]) (h1:Br P md ops Q S fuel L a W i) (h2:Br P md ops Q S fuel L a W j):wpAnyH P md ops Q S (fuel+1) L a W:=by
 obtain ⟨o,ho,h⟩:=h1;obtain ⟨p,hp,k⟩:=h2;exact wpAnyH_ready hr (by simp) (cons1 ho h (cons1 hp k AllReadyH.nil))
theorem rB3 {i j m:Nat} (hr:Region.ready md ops L=[i,j,m]) (h1:Br P md ops Q S fuel L a W i) (h2:Br P md ops Q S fuel L a W j) (h3:Br P md ops Q S fuel L a W m):wpAnyH P md ops Q S (fuel+1) L a W:=by
 obtain ⟨o,ho,h⟩:=h1;obtain ⟨p,hp,k⟩:=h2;obtain ⟨q,hq,l⟩:=h3;exact wpAnyH_ready hr (by simp) (cons1 ho h (cons1 hp k (cons1 hq l AllReadyH.nil)))
end Go.Proofs.YtemicfjmidohfaaGreatDoor
set_option maxRecDepth 100000
set_option maxHeartbeats 12800000
namespace Go.Proofs.YtemicfjmidohfaaGreatDoor
open Go Go.Proofs Go.RowKit
variable {X:Nat→Prop} {w W W':World} {y z:Wy} {b b':Brd} {cs es:List Value}
abbrev RES:TypeId:=88
abbrev anL (x:Ans):List Value:=[.int .i64 x.e,.int .i64 x.n,.string x.t]
theorem an_one (x:Ans):∀ u∈anL x,u.oneCell'=true:=by simp [Value.oneCell']
theorem on_any (y:Wy) (q:Int):QC 172 #[.agg (wyL y).toArray,q] (.agg (wyL (y.on q)).toArray):=fun w=>by
 go_enter Tryz.func172,Tryz.ntmps172
 go_upto_region 1 with fail
 generalize hW2:World.alloc (World.alloc w _) _=W2;have H:=Lh (show Bq WAY w 1 (wyL y) zWy W2 from by rw [←hW2]; exact Bq.start w _ _);clear hW2;have f13:=H.out.b0.free 13;have q13:=H.out.b0.cell 13 rfl
 go_upto_region 2 with fail
 have H2:=Lh (show Bq WAY w 1 (wyL (y.on q)) zWy (W2.setCell ⟨w.heap.size,13,none⟩ q) from H.out.put0 13 [q]);clear f13 q13 H;generalize W2.setCell ⟨w.heap.size,13,none⟩ q=W3 at *
 go_wp2_with (first | (refine kld (n:=18) H2.out.b0 rfl ?_) | (refine kst (n:=18) H2.out.b1 rfl rfl (wy_one _) (fun w4 hw4=>?_)))
 have H4:=H2.out.all1 (us:=wyL (y.on q)) rfl;rw [←hw4.out] at H4;exact bodyPost_ret (res_c (n:=18) H4.b1 rfl) rfl ⟨rfl,H4.bel⟩
theorem ans_any (y:Wy) (x:Ans):QC 173 #[.agg (wyL y).toArray,.agg (anL x).toArray] (.agg (wyL (y.ans x)).toArray):=fun w=>by
 have HO:=Lh (on_any { y with x:=x } 11)
 go_enter Tryz.func173,Tryz.ntmps173
 go_upto_region 1 with fail
 generalize hW2:World.alloc (World.alloc (World.alloc w _) _) _=W2;have H:=Lh (show Bq WAY w 2 (wyL y) zWy W2∧Blk W2 (w.heap.size+1) (anL x) RES from by rw [←hW2]; exact Bq.start2 w _ _ _ _);clear hW2
 go_upto_region 2 with (first | (refine kld (n:=3) H.out.2 rfl ?_) | (refine kstm (n:=3) (us:=anL x) H.out.1.b0 (Nat.le_refl 18) rfl (an_one x) (fun w3 hw3=>?_)))
 have H2:=Lh (show Bq WAY w 2 (wyL { y with x:=x }) zWy w3 from by rw [hw3.out]; exact H.out.1.put0 15 (anL x));clear H hw3;go_wp2_with (first | (refine kld (n:=18) H2.out.b0 rfl ?_) | (refine kst (n:=18) H5.out.b1 rfl rfl (wy_one _) (fun w4 hw4=>?_)) | (go_at_call 172; refine (HO.out _).mono ?_; rintro e w5 ⟨rfl,hb⟩; have H5:=Lh (H2.out.next hb); clear hb))
 have H4:=H5.out.all1 (us:=wyL (y.ans x)) rfl;rw [show setN w5 (w.heap.size+2) 0 (wyL (y.ans x))=w4 from hw4.out.symm] at H4;exact bodyPost_ret (res_c (n:=18) H4.b1 rfl) rfl ⟨rfl,H4.bel⟩
theorem ref_any (y:Wy) (e:Int):QC 169 #[.agg (wyL y).toArray,e] (.agg (wyL (y.bad e)).toArray):=fun w=>by
 have HO:=Lh (ans_any y (badA e))
 go_enter Tryz.func169,Tryz.ntmps169
 go_upto_region 1 with fail
 generalize hW2:World.alloc (World.alloc w _) _=W2;have H:=Lh (show Bq WAY w 1 (wyL y) zWy W2 from by rw [←hW2]; exact Bq.start w _ _);clear hW2;go_wp2_with (first | (refine kld (n:=18) H.out.b0 rfl ?_) | (refine kst (n:=18) H5.out.b1 rfl rfl (wy_one (y.bad e)) (fun w4 hw4=>?_)) | (go_at_call 173; refine (HO.out _).mono ?_; rintro e w5 ⟨rfl,hb⟩; have H5:=Lh (H.out.next hb); clear hb))
 have H4:=H5.out.all1 (us:=wyL (y.bad e)) rfl;rw [←hw4.out] at H4;exact bodyPost_ret (res_c (n:=18) H4.b1 rfl) rfl ⟨rfl,H4.bel⟩
theorem unl_any (y:Wy) (cl:Bool) (q:Int):QC 170 #[.agg (wyL y).toArray,.bool cl,q] (.agg (wyL (unlW y cl q)).toArray):=fun w=>by
 have HO:=Lh (on_any y q);have HR:=Lh (ref_any y 9)
 go_enter Tryz.func170,Tryz.ntmps170
 go_upto_region 1 with fail
 generalize hW2:World.alloc (World.alloc w _) _=W2;have H:=Lh (show Bq WAY w 1 (wyL y) zWy W2 from by rw [←hW2]; exact Bq.start w _ _);clear hW2
 cases cl
 ·go_wp2_with (first | (refine kld (n:=18) H.out.b0 rfl ?_) | (refine kst (n:=18) H5.out.b1 rfl rfl (wy_one (y.on q)) (fun w4 hw4=>?_)) | (go_at_call 172; refine (HO.out _).mono ?_; rintro e w5 ⟨rfl,hb⟩; have H5:=Lh (H.out.next hb); clear hb))
  have H4:=H5.out.all1 (us:=wyL (y.on q)) rfl;rw [←hw4.out] at H4;exact bodyPost_ret (res_c (n:=18) H4.b1 rfl) rfl ⟨rfl,H4.bel⟩
 ·go_wp2_with (first | (refine kld (n:=18) H.out.b0 rfl ?_) | (refine kst (n:=18) H5.out.b1 rfl rfl (wy_one (y.bad 9)) (fun w4 hw4=>?_)) | (go_at_call 169; refine (HR.out _).mono ?_; rintro e w5 ⟨rfl,hb⟩; have H5:=Lh (H.out.next hb); clear hb))
  have H4:=H5.out.all1 (us:=wyL (y.bad 9)) rfl;rw [←hw4.out] at H4;exact bodyPost_ret (res_c (n:=18) H4.b1 rfl) rfl ⟨rfl,H4.bel⟩
structure Wh (X:Nat→Prop) (w:World) (y:Wy) (cs:List Value) (b:Brd) (W:World):Prop where
 bel:Below w.heap.size w W
 b0:Blk W w.heap.size (wyL y) WAY
 b1:Blk W (w.heap.size+1) cs BDT
 ib:IsBd W X b cs
theorem Wh.next (h:Wh X w y cs b W) (hb:Below W.heap.size W W'):Wh X w y cs b W':=⟨h.bel.trans (hb.mono h.bel.size),h.b0.next hb,h.b1.next hb,h.ib.next hb⟩
theorem Wh.start (h:IsBd w X b cs):Wh X w y cs b ((w.alloc (.cells ⟨wyL y⟩ WAY)).alloc (.cells ⟨cs⟩ BDT)):=by
 have hb:Below w.heap.size w ((w.alloc (.cells ⟨wyL y⟩ WAY)).alloc (.cells ⟨cs⟩ BDT)):=bA.alloc (by simp) _;exact ⟨hb,(Blk.start w _ _).alloc _,Blk.startAt (by simp),h.next hb⟩
theorem Old.up (h:Old X w) (hb:Below w.heap.size w W):Old X W:=fun c hc=>Nat.lt_of_lt_of_le (h c hc) hb.size
theorem home_any (y:Wy) (b:Brd) (n:Nat) (cs:List Value) (hO:BOk b n) (hn:n≤1000) (hl:1≤b.st.length) (w:World) (hI:IsBd w X b cs):Calls Tryz.prog 82 #[.agg (wyL y).toArray,.agg cs.toArray] w (Rt (.int .i64 (homeW y b)) w):=by
 have HC:=Lh (fun W (h:IsBd W X b cs)=>stripes_ok b n X cs W hO hn h);have H0:=Lh hI;have hs:=hO.st;obtain ⟨k,hk⟩:∃ k:Int,(b.st.length:Int)=k:=⟨_,rfl⟩
 have HX:=Lh (show homeW y b=y.t.tmod k from by unfold homeW; rw [hk]);have hk1:1≤k:=by omega
 have hk8:k≤8:=by omega
 rw [hk] at HC;clear hO hn hI hk hl hs
 go_enter Tryz.func82,Tryz.ntmps82
 go_upto_region 1 with fail
 generalize hW2:World.alloc (World.alloc w _) _=W2;have H2:=Lh (show Wh X w y cs b W2 from by rw [←hW2]; exact Wh.start H0.out);clear hW2 H0;refine rgH (Wh X w y cs b) (H2.out.next bdq) fun hH=>?_
 clear H2;refine tzz 0 hH ?_;refine tzz 1 hH ?_ (hy:=fun W h=>by have hq:=h.b0.cell 0 rfl; go_simp; rfl);refine tzz 2 hH ?_ (hy:=fun W h=>kly h.b1 h.ib.len);refine rV 3 (HC.out _ hH.ib) hH (fun _ _=>Wh.next) fun W3 hb hH=>?_
 clear HC;refine tzz (v:=.int .i64 k) 4 hH ?_ (hy:=fun W h=>by
  rcases Int.lt_or_eq_of_le hk1 with h1 | rfl
  ·go_simp; exact Int.max_eq_right hk1
  ·go_simp)
 refine tzz (v:=.int .i64 (y.t.tmod k)) 5 hH ?_ (hy:=fun W h=>by
  go_simp; omega)
 refine tzz 6 hH ?_;refine dnH ?_;go_wp2_with fail
 go_ret
 exact ⟨by rw [HX.out]; rfl,hH.bel⟩
theorem isk_any (k:Int):QC 168 #[k] (.bool (decide (0≤k∧k≤8))):=fun w=>by
 go_enter Tryz.func168,Tryz.ntmps168
 by_cases c1:0≤k
 ·have hd:decide (0≤k∧k≤8)=decide (k≤8):=by simp [c1]
  rw [hd];go_wp2_with fail
  go_ret
  exact ⟨rfl,Below.refl _ _⟩
 ·have hd:decide (0≤k∧k≤8)=false:=decide_eq_false fun h=>c1 h.1
  rw [hd];go_wp2_with fail
  go_ret
  exact ⟨rfl,Below.refl _ _⟩
theorem beg_any (t sl:Int) (c:Cal):QC 14 #[t,sl,.agg (calL c).toArray] (.agg (wyL (begW t sl c)).toArray):=fun w=>by
 go_enter Tryz.func14,Tryz.ntmps14
 go_upto_region 1 with fail
 generalize hW2:World.alloc (World.alloc w _) _=W2;have hb:Below w.heap.size w W2:=by rw [←hW2]; exact bA.alloc (by simp) _
 have H:=Lh (show Below w.heap.size w W2∧Blk W2 w.heap.size c 75∧Blk W2 (w.heap.size+1) zWy WAY from ⟨hb,by rw [←hW2]; exact (Blk.start w _ _).alloc _,by rw [←hW2]; exact Blk.startAt (by simp)⟩);clear hW2 hb;go_wp2_with (first | (refine kld (n:=11) H.out.2.1 rfl ?_) | (refine kst (n:=18) H.out.2.2 rfl rfl (wy_one (begW t sl c)) (fun w4 hw4=>?_)))
 have H4:=setN_all (us:=wyL (begW t sl c)) H.out.2.2 rfl;have h5:=setN_below (b:=w.heap.size+1) (by omega) (wyL (begW t sl c)) 0 H.out.1;rw [←hw4.out] at H4 h5;exact bodyPost_ret (res_c (n:=18) H4 rfl) rfl ⟨rfl,h5⟩
theorem done_any (y:Wy):QC 26 #[.agg (wyL y).toArray] (.bool (doneW y)):=fun w=>by
 have H:=Lh (And.intro (Blk.start w (wyL y) WAY) (bA (w:=w) (o:=.cells ⟨wyL y⟩ WAY)))
 go_enter Tryz.func26,Tryz.ntmps26
 go_upto_region 1 with fail
 generalize w.alloc _=W2 at *
 have q:=H.out.1.cell 13 rfl;go_wp2_with fail
 go_ret
 exact ⟨rfl,H.out.2⟩
end Go.Proofs.YtemicfjmidohfaaGreatDoor
set_option maxRecDepth 100000
set_option maxHeartbeats 12800000
namespace Go.Proofs.YtemicfjmidohfaaGreatDoor
open Go Go.Proofs Go.RowKit
variable {X:Nat→Prop} {w W W':World} {y z:Wy} {b b':Brd} {cs es:List Value}
theorem res_not:RES∉bTy:=by decide
theorem rpl_not:45∉bTy:=by decide
theorem wy_cal (y:Wy):∀ j u,(calL y.c)[j]? = some u→(wyL y)[2+j]? = some u:=fun j u h=>by
 have hj:j<11:=(List.getElem?_eq_some_iff.1 h).1
 show (([y.t,y.sl]:List Value)++(calL y.c++[.int .i64 y.q,.int .i64 y.s,.int .i64 y.x.e,.int .i64 y.x.n,.string y.x.t]))[2+j]? = some u
 rw [List.getElem?_append_right (by simp),List.getElem?_append_left (by show 2+j - 2<11; omega)];rw [show 2+j-([y.t,y.sl]:List Value).length=j from Nat.add_sub_cancel_left 2 j];exact h
theorem tru2 (W:World) (h:Wb X w y cs b W):IsBd W X b cs:=h.ib
theorem rT {P:Program} {md:Region.Mode} {ops:Array Oper} {Q:Exit→Act→World→Prop} {S:World→Prop} {fuel:Nat} {L:Array Bool} {a:Act} {o:Oper} {f:FuncId} {args:Array Value} {p:Brd×Wy} (i:Nat) (hC:Calls P f args W (RWy X p W)) (hS:S W) (hn:∀ W W',S W→Below W.heap.size W W'→S W') (h:∀ W' es,Below W.heap.size W W'→S W'→IsBd W' X p.1 es→wpAnyH P md ops Q S fuel (L.setIfInBounds i true) (a.put o.dst (.tuple #[.agg es.toArray,.agg (wyL p.2).toArray])) W')
  (hr:Region.ready md ops L=[i]:=by kernel_rfl) (ho:ops.toList[i]? = some o:=by rfl) (hg:o.guard=none:=by rfl) (he:(execOp a.eval o).run P W=.ok (.enter f args) W:=by go_simp):wpAnyH P md ops Q S (fuel+1) L a W:=by
 refine rd1 i hr ho fun K hK=>?_
 rw [if_pos (by simp [Region.wanted,hg])];unfold Oper.wp
 rw [he];refine hC.mono fun e W' hR=>?_
 obtain ⟨hb,es,rfl,hI⟩:=hR;exact hK.out _ _ (hn _ _ hS hb) fun hs=>h W' es hb hs hI
theorem tkn_any (y:Wy) (b:Brd) (s q:Int) (n:Nat) (cs:List Value) (w:World) (hO:BOk b n) (hn:n≤1000) (hI:IsBd w X b cs) (hX:Old X w) (hy:WyOk y b) (h0:0≤s) (h1:s<b.st.length):Calls Tryz.prog 171 #[.agg (wyL y).toArray,.agg cs.toArray,s,q] w (RWy X (tkW y b s q) w):=by
 have HC:=Lh (fun W (h:Wb X w y cs b W)=>lock_ok b y.t s h0 h1 n X cs W hO hn h.ib (hX.up h.bel) hy.t0 hy.t1);have H0:=Lh hI;clear hO hn hI hX hy h0 h1
 go_enter Tryz.func171,Tryz.ntmps171
 go_upto_region 1 with fail
 generalize hW2:World.alloc (World.alloc (World.alloc (World.alloc w _) _) _) _=W2;have H2:=Lh (show Wb X w y cs b W2 from by rw [←hW2]; exact Wb.start H0.out);clear hW2 H0;by_cases hh:(b.at s).h<0
 ·have HT:=Lh (show tkW y b s q=(lockB b y.t s,y.on q)∧decide ((b.at s).h<0)=true from ⟨by unfold tkW; rw [if_pos hh],decide_eq_true hh⟩)
  clear hh;rw [HT.out.2] at HC;have q0:=H2.out.b0.cell 0 rfl
  go_upto_region 4 with (first | (refine kld (n:=nBd) H2.out.b1 H2.out.ib.len ?_) | (refine kst (n:=nBd) H3.out.b1 H3.out.ib.len HI.out.len HI.out.one (fun w4 hw4=>?_)) | (go_at_call 30; refine (HC.out _ H2.out).mono ?_; rintro e w3 ⟨hb3,ds,rfl,hI⟩; have H3:=Lh (H2.out.next hb3); have HI:=Lh hI; clear hb3 hI HC))
  have H4:=Lh (H3.out.put1 HI.out);rw [←hw4.out] at H4;clear H3 HI hw4 H2;refine rgH (Wt X w y ds (lockB b y.t s) fun _=>True) ⟨H4.out.next bdq,trivial⟩ fun hH=>?_
  clear H4;refine lB 0 hH ?_;refine lW 1 hH ?_;refine tzz 2 hH ?_;refine rV 3 (on_any y q _) hH (Wt.next tru) fun W5 hb5 hH=>?_
  refine rWs (z:=y.on q) 4 5 hH hH.1.ib fun W6 hE=>?_
  refine dnH ?_;go_wp2_with fail
  exact bodyPost_ret (res_cc hE.2.1 hE.2.2.2.len hE.2.2.1 rfl) rfl (by rw [HT.out.1]; exact hE.rw)
 ·have HT:=Lh (show tkW y b s q=(lockB b y.t s,y)∧decide ((b.at s).h<0)=false from ⟨by unfold tkW; rw [if_neg hh],decide_eq_false hh⟩)
  clear hh;rw [HT.out.2] at HC;have q0:=H2.out.b0.cell 0 rfl
  go_upto_region 3 with (first | (refine kld (n:=nBd) H2.out.b1 H2.out.ib.len ?_) | (refine kst (n:=nBd) H3.out.b1 H3.out.ib.len HI.out.len HI.out.one (fun w4 hw4=>?_)) | (go_at_call 30; refine (HC.out _ H2.out).mono ?_; rintro e w3 ⟨hb3,ds,rfl,hI⟩; have H3:=Lh (H2.out.next hb3); have HI:=Lh hI; clear hb3 hI HC))
  have H4:=Lh (H3.out.put1 HI.out);rw [←hw4.out] at H4;clear H3 HI hw4 H2;refine rgH (Wt X w y ds (lockB b y.t s) fun _=>True) ⟨H4.out.next bdq,trivial⟩ fun hH=>?_
  clear H4;refine lB 0 hH ?_;refine lW 1 hH ?_;refine rWs (z:=y) 2 3 hH hH.1.ib fun W6 hE=>?_
  refine dnH ?_;go_wp2_with fail
  exact bodyPost_ret (res_cc hE.2.1 hE.2.2.2.len hE.2.2.1 rfl) rfl (by rw [HT.out.1]; exact hE.rw)
theorem lock16 (y:Wy) (b:Brd):WC 104 y b (spw1 y b):=by
 intro n X cs w hO hn0 hI hX hy hr hp ht
 have hn:n≤1000:=by omega
 have HM:=Lh (fun W (h:Wb X w y cs b W)=>home_any y b n cs hO hn hy.n W h.ib);have HC:=Lh (fun W (h:Wb X w y cs b W)=>tkn_any (X:=X) y b (homeW y b) 2 n cs W hO hn h.ib (hX.up h.bel) hy hy.home.1 hy.home.2);have H0:=Lh hI;clear hO hn hn0 hI hX hy hr hp ht
 go_enter Tryz.func104,Tryz.ntmps104
 go_upto_region 1 with fail
 generalize hW2:World.alloc (World.alloc (World.alloc (World.alloc w _) _) _) _=W2;have H2:=Lh (show Wb X w y cs b W2 from by rw [←hW2]; exact Wb.start H0.out);clear hW2 H0;refine rgH (Wt X w y cs b fun _=>True) ⟨H2.out.next bdq,trivial⟩ fun hH=>?_
 clear H2;refine lW 0 hH ?_;refine lB 1 hH ?_;refine lW 2 hH ?_;refine lB 3 hH ?_;refine rV 4 (HM.out _ hH.1) hH (Wt.next tru) fun W3 hb3 hH=>?_
 refine rT 5 (HC.out _ hH.1) hH (Wt.next tru) fun W4 es hb4 hH hI=>?_
 refine tzz 6 hH ?_;refine tzz 7 hH ?_;refine rWs (z:=(spw1 y b).2) 8 9 hH hI fun W6 hE=>?_
 refine dnH ?_;go_wp2_with fail
 exact bodyPost_ret (res_cc hE.2.1 hE.2.2.2.len hE.2.2.1 rfl) rfl hE.rw
theorem shut16 (y:Wy) (b:Brd) (hq:y.q=7):WC 110 y b (spw7 y b):=by
 intro n X cs w hO hn0 hI hX hy hr hp ht
 have hn:n≤1000:=by omega
 have HC:=Lh (fun W (h:Wb X w y cs b W)=>tkn_any (X:=X) y b y.s 8 n cs W hO hn h.ib (hX.up h.bel) hy hy.s0 (hy.s2 (by omega) (by omega)));have H0:=Lh hI;clear hO hn hn0 hI hX hy hr hp ht hq
 go_enter Tryz.func110,Tryz.ntmps110
 go_upto_region 1 with fail
 generalize hW2:World.alloc (World.alloc (World.alloc (World.alloc w _) _) _) _=W2;have H2:=Lh (show Wb X w y cs b W2 from by rw [←hW2]; exact Wb.start H0.out);clear hW2 H0;have q14:=H2.out.b0.cell 14 rfl;go_wp2_with (first | (refine kld (n:=nBd) H2.out.b1 H2.out.ib.len ?_) | (refine kld (n:=18) H2.out.b0 rfl ?_) | (obtain ⟨zz,ll,zB⟩:=H4.out.1.b3; refine kst (n:=18) zB ll rfl (wy_one (spw7 y b).2) (fun w5 hw5=>?_)) | (obtain ⟨zz,ll,zB⟩:=H3.out.b2; refine kst (n:=nBd) zB ll HI.out.len HI.out.one (fun w4 hw4=>?_); have H4:=Lh (H3.out.out2 HI.out); rw [←hw4.out] at H4; clear hw4 H3 HI) | (go_at_call 171; refine (HC.out _ H2.out).mono ?_; rintro e w3 ⟨hb3,ds,rfl,hI⟩; have H3:=Lh (H2.out.next hb3); have HI:=Lh hI; clear hb3 hI HC))
 have H5:=H4.out.1.out3 (spw7 y b).2;obtain ⟨zz,ll,zB⟩:=H4.out.1.b3;have h6:=H4.out.2.1.setN (b:=w.heap.size+1+1+1) (by omega) (wyL (spw7 y b).2) 0;have h7:=H4.out.2.2.setI zB way_not (wyL (spw7 y b).2) 0;rw [←hw5.out] at H5 h6 h7;exact bodyPost_ret (res_cc h6 h7.len H5.2 rfl) rfl ⟨H5.1.bel,_,rfl,h7⟩
theorem seal16 (y:Wy) (b:Brd) (hq:y.q=8):WC 111 y b (spw8 y b):=by
 intro n X cs w hO hn0 hI hX hy hr hp ht
 have hn:n≤1000:=by omega
 have HC:=Lh (fun W (h:Wb X w y cs b W)=>seal_ok b y.t y.s hy.s0 (hy.s2 (by omega) (by omega)) n X cs W hO hn h.ib (hX.up h.bel) hy.t0 hy.t1);have H0:=Lh hI;clear hO hn hn0 hI hX hy hr hp ht hq
 go_enter Tryz.func111,Tryz.ntmps111
 go_upto_region 1 with fail
 generalize hW2:World.alloc (World.alloc (World.alloc (World.alloc w _) _) _) _=W2;have H2:=Lh (show Wb X w y cs b W2 from by rw [←hW2]; exact Wb.start H0.out);clear hW2 H0;refine rgH (Wt X w y cs b fun _=>True) ⟨H2.out.next bdq,trivial⟩ fun hH=>?_
 clear H2;refine lB 0 hH ?_;refine tzz 1 hH ?_;refine lC 2 0 hH ?_;refine tzz 3 hH ?_;refine lC 4 14 hH ?_;refine lW 6 hH ?_;refine rR 5 (HC.out _ hH.1) hH (Wt.next tru) fun W3 es hb3 hH hI=>?_
 refine rV 7 (on_any y 9 _) hH (Wt.next tru) fun W5 hb5 hH=>?_
 refine rWs (z:=y.on 9) 8 9 hH (hI.next hb5) fun W6 hE=>?_
 refine dnH ?_;go_wp2_with fail
 exact bodyPost_ret (res_cc hE.2.1 hE.2.2.2.len hE.2.2.1 rfl) rfl hE.rw
theorem wait16 (y:Wy) (b:Brd):WC 107 y b (spw4 y b):=by
 intro n X cs w hO hn0 hI hX hy hr hp ht
 have hn:n≤1000:=by omega
 have HC:=Lh (fun W (h:Wb X w y cs b W)=>filled_ok b y.t y.sl hy.l0 hy.l1 n X cs W hO hn h.ib (hX.up h.bel) hy.t0 hy.t1);have H0:=Lh hI;clear hO hn hn0 hI hX hy hr hp ht
 go_enter Tryz.func107,Tryz.ntmps107
 go_upto_region 1 with fail
 generalize hW2:World.alloc (World.alloc (World.alloc (World.alloc w _) _) _) _=W2;have H2:=Lh (show Wb X w y cs b W2 from by rw [←hW2]; exact Wb.start H0.out);clear hW2 H0;have q0 := H2.out.b0.c2;by_cases hh:filledA b y.sl=true
 ·have HT:=Lh (show spw4 y b=(filledB b y.t y.sl,y.on 5) from by unfold spw4; rw [if_pos hh])
  rw [hh] at HC;clear hh
  go_upto_region 4 with (first | (refine kld (n:=nBd) H2.out.b1 H2.out.ib.len ?_) | (refine kst (n:=nBd) H3.out.b1 H3.out.ib.len HI.out.len HI.out.one (fun w4 hw4=>?_)) | (go_at_call 59; refine (HC.out _ H2.out).mono ?_; rintro e w3 ⟨hb3,ds,rfl,hI⟩; have H3:=Lh (H2.out.next hb3); have HI:=Lh hI; clear hb3 hI HC))
  have H4:=Lh (H3.out.put1 HI.out);rw [←hw4.out] at H4;clear H3 HI hw4 H2;refine rgH (Wt X w y ds (filledB b y.t y.sl) fun _=>True) ⟨H4.out.next bdq,trivial⟩ fun hH=>?_
  clear H4;refine lB 0 hH ?_;refine lW 1 hH ?_;refine rV 2 (on_any y 5 _) hH (Wt.next tru) fun W5 hb5 hH=>?_
  refine rWs (z:=y.on 5) 3 4 hH hH.1.ib fun W6 hE=>?_
  refine dnH ?_;go_wp2_with fail
  exact bodyPost_ret (res_cc hE.2.1 hE.2.2.2.len hE.2.2.1 rfl) rfl (by rw [HT.out]; exact hE.rw)
 ·have HT:=Lh (show spw4 y b=(filledB b y.t y.sl,y) from by unfold spw4; rw [if_neg hh])
  rw [Bool.not_eq_true] at hh;rw [hh] at HC;clear hh
  go_upto_region 3 with (first | (refine kld (n:=nBd) H2.out.b1 H2.out.ib.len ?_) | (refine kst (n:=nBd) H3.out.b1 H3.out.ib.len HI.out.len HI.out.one (fun w4 hw4=>?_)) | (go_at_call 59; refine (HC.out _ H2.out).mono ?_; rintro e w3 ⟨hb3,ds,rfl,hI⟩; have H3:=Lh (H2.out.next hb3); have HI:=Lh hI; clear hb3 hI HC))
  have H4:=Lh (H3.out.put1 HI.out);rw [←hw4.out] at H4;clear H3 HI hw4 H2;refine rgH (Wt X w y ds (filledB b y.t y.sl) fun _=>True) ⟨H4.out.next bdq,trivial⟩ fun hH=>?_
  clear H4;refine lB 0 hH ?_;refine lW 1 hH ?_;refine rWs (z:=y) 2 3 hH hH.1.ib fun W6 hE=>?_
  refine dnH ?_;go_wp2_with fail
  exact bodyPost_ret (res_cc hE.2.1 hE.2.2.2.len hE.2.2.1 rfl) rfl (by rw [HT.out]; exact hE.rw)
theorem away16 (y:Wy) (b:Brd):WC 113 y b (spw10 y b):=by
 intro n X cs w hO hn0 hI hX hy hr hp ht
 have hn:n≤1000:=by omega
 have HC:=Lh (fun W (h:Wb X w y cs b W)=>gone_ok b y.t n X cs W hO hn h.ib (hX.up h.bel) hy.t0 hy.t1);have H0:=Lh hI;clear hO hn hn0 hI hX hy hr hp ht
 go_enter Tryz.func113,Tryz.ntmps113
 go_upto_region 1 with fail
 generalize hW2:World.alloc (World.alloc (World.alloc (World.alloc w _) _) _) _=W2;have H2:=Lh (show Wb X w y cs b W2 from by rw [←hW2]; exact Wb.start H0.out);clear hW2 H0;have q0:=H2.out.b0.cell 0 rfl;by_cases hh:b.gone=true
 ·have HT:=Lh (show spw10 y b=(goneB b y.t,y.ans ⟨0,0,⟨#[]⟩⟩) from by unfold spw10; rw [if_pos hh])
  rw [hh] at HC;clear hh
  go_upto_region 4 with (first | (refine kld (n:=nBd) H2.out.b1 H2.out.ib.len ?_) | (refine kst (n:=nBd) H3.out.b1 H3.out.ib.len HI.out.len HI.out.one (fun w4 hw4=>?_)) | (go_at_call 63; refine (HC.out _ H2.out).mono ?_; rintro e w3 ⟨hb3,ds,rfl,hI⟩; have H3:=Lh (H2.out.next hb3); have HI:=Lh hI; clear hb3 hI HC))
  have H4:=Lh (H3.out.put1 HI.out);rw [←hw4.out] at H4;clear H3 HI hw4 H2;refine rgH (Wt X w y ds (goneB b y.t) fun _=>True) ⟨H4.out.next bdq,trivial⟩ fun hH=>?_
  clear H4;refine lB 0 hH ?_;refine lW 1 hH ?_;refine tzz 2 hH ?_;refine rV 3 (ans_any y ⟨0,0,⟨#[]⟩⟩ _) hH (Wt.next tru) fun W5 hb5 hH=>?_
  refine rWs (z:=y.ans ⟨0,0,⟨#[]⟩⟩) 4 5 hH hH.1.ib fun W6 hE=>?_
  refine dnH ?_;go_wp2_with fail
  exact bodyPost_ret (res_cc hE.2.1 hE.2.2.2.len hE.2.2.1 rfl) rfl (by rw [HT.out]; exact hE.rw)
 ·have HT:=Lh (show spw10 y b=(goneB b y.t,y) from by unfold spw10; rw [if_neg hh])
  rw [Bool.not_eq_true] at hh;rw [hh] at HC;clear hh
  go_upto_region 3 with (first | (refine kld (n:=nBd) H2.out.b1 H2.out.ib.len ?_) | (refine kst (n:=nBd) H3.out.b1 H3.out.ib.len HI.out.len HI.out.one (fun w4 hw4=>?_)) | (go_at_call 63; refine (HC.out _ H2.out).mono ?_; rintro e w3 ⟨hb3,ds,rfl,hI⟩; have H3:=Lh (H2.out.next hb3); have HI:=Lh hI; clear hb3 hI HC))
  have H4:=Lh (H3.out.put1 HI.out);rw [←hw4.out] at H4;clear H3 HI hw4 H2;refine rgH (Wt X w y ds (goneB b y.t) fun _=>True) ⟨H4.out.next bdq,trivial⟩ fun hH=>?_
  clear H4;refine lB 0 hH ?_;refine lW 1 hH ?_;refine rWs (z:=y) 2 3 hH hH.1.ib fun W6 hE=>?_
  refine dnH ?_;go_wp2_with fail
  exact bodyPost_ret (res_cc hE.2.1 hE.2.2.2.len hE.2.2.1 rfl) rfl (by rw [HT.out]; exact hE.rw)
theorem fetch16 (y:Wy) (b:Brd):WC 108 y b (spw5 y b):=by
 intro n X cs w hO hn0 hI hX hy hr hp ht
 have hn:n≤1000:=by omega
 have HC:=Lh (fun W (h:Wb X w y cs b W)=>fetch_ok b y.t y.sl hy.l0 hy.l1 n X cs W hO hn h.ib (hX.up h.bel) hy.t0 hy.t1);have H0:=Lh hI;clear hO hn hn0 hI hX hy hr hp ht;obtain ⟨x,hx⟩:∃ x,fetchA b y.sl=x:=⟨_,rfl⟩
 have HX:=Lh (show spw5 y b=(fetchB b y.t y.sl,y.ans x) from by rw [←hx]; rfl);rw [hx] at HC;clear hx
 go_enter Tryz.func108,Tryz.ntmps108
 go_upto_region 1 with fail
 generalize hW2:World.alloc (World.alloc (World.alloc (World.alloc w _) _) _) _=W2;have H2:=Lh (show Wb X w y cs b W2 from by rw [←hW2]; exact Wb.start H0.out);clear hW2 H0;have q0 := H2.out.b0.c2
 go_upto_region 2 with (first | (refine kld (n:=nBd) H2.out.b1 H2.out.ib.len ?_) | (refine kst (n:=3) H5.out.2 rfl rfl (an_one x) (fun w6 hw6=>?_)) | (refine kst (n:=nBd) (H3.out.next bA).b1 H3.out.ib.len HI.out.len HI.out.one (fun w5 hw5=>?_); have H5:=Lh (show Wb X w y ds (fetchB b y.t y.sl) w5∧Blk w5 w3.heap.size [.int .i64 0,.int .i64 0,.string ⟨#[]⟩] RES from by rw [hw5.out]; exact ⟨(H3.out.next bA).put1 (HI.out.next bA),(Blk.start w3 _ _).setN (by have:=H3.out.b1.lt; omega) _ _⟩); clear hw5) | (go_at_call 61; refine (HC.out _ H2.out).mono ?_; rintro e w3 ⟨hb3,ds,rfl,hI⟩; have H3:=Lh (H2.out.next hb3); have HI:=Lh hI; clear hb3 hI HC))
 have HG:=Lh (show w.heap.size+1+1+1<w3.heap.size from by obtain ⟨_,_,h⟩:=H3.out.b3; exact h.lt);generalize w3.heap.size=g at *
 have H6:=Lh (show Wb X w y ds (fetchB b y.t y.sl) w6∧Blk w6 g (anL x) RES from by
  have h1:=setN_all (us:=anL x) H5.out.2 rfl;obtain ⟨z2,l2,h2⟩:=H5.out.1.b2;obtain ⟨z3,l3,h3⟩:=H5.out.1.b3;have:=HG.out;rw [hw6.out];exact ⟨⟨setN_below (by omega) _ _ H5.out.1.bel,H5.out.1.b0.setN (by omega) _ _,H5.out.1.b1.setN (by omega) _ _,⟨z2,l2,h2.setN (by omega) _ _⟩,⟨z3,l3,h3.setN (by omega) _ _⟩,H5.out.1.ib.setI H5.out.2 res_not _ _⟩,h1⟩)
 clear H5 hw6 H3 HI H2 q0;refine rgH (Wt X w y ds (fetchB b y.t y.sl) fun W=>Blk W g (anL x) RES) ⟨H6.out.1.next bdq,H6.out.2.next bdq⟩ fun hH=>?_
 clear H6;refine lB 0 hH ?_;refine lW 1 hH ?_;refine tzz 2 hH ?_ (hy:=fun W h=>kly (n:=3) h.2 rfl);refine rV 3 (ans_any y x _) hH (Wt.next fun _ _ h hb=>h.next hb) fun W5 hb5 hH=>?_
 refine rWs (z:=y.ans x) 4 5 hH hH.1.ib (fun W6 hE=>?_) (hT:=fun W us h=>⟨h.setN (by have:=HG.out; omega) _ _,h.setN (by have:=HG.out; omega) _ _⟩);refine dnH ?_;go_wp2_with fail
 exact bodyPost_ret (res_cc hE.2.1 hE.2.2.2.len hE.2.2.1 rfl) rfl (by rw [HX.out]; exact hE.rw)
theorem look16 (y:Wy) (b:Brd):WC 109 y b (spw6 y b):=by
 intro n X cs w hO hn0 hI hX hy hr hp ht
 have hn:n≤1000:=by omega
 have HC:=Lh (fun W (h:Wb X w y cs b W)=>load_ok b y.t n X cs W hO hn h.ib);obtain ⟨k,hk,hR⟩:=hr;obtain ⟨x,hx⟩:∃ x,(doR b.r y.c).2.1=x:=⟨_,rfl⟩
 have HX:=Lh (show spw6 y b=(loadB b y.t,y.ans x) from by rw [←hx]; rfl);have HL:=Lh (fun (W:World) (hb:Below w.heap.size w W) c0 c1 c2 c3 c4 c5 c6 c7 c8 c9 (h:IsRp W b.r [c0,c1,c2,c3,c4,c5,c6,c7,c8,c9])=>show Calls Tryz.prog 58 #[.agg [c0,c1,c2,c3,c4,c5,c6,c7,c8,c9].toArray,.agg (calL y.c).toArray] W (fun e w'=>e=.returned (.agg (anL x).toArray)∧Below W.heap.size W w') from by rw [←hx]; exact rpl_ok.look b.r k y.c c0 c1 c2 c3 c4 c5 c6 c7 c8 c9 W hR hk h (hp.next hb) (ht.next hb));have H0:=Lh hI;clear hO hn hn0 hI hX hy hk hR hp ht hx
 go_enter Tryz.func109,Tryz.ntmps109
 go_upto_region 1 with fail
 generalize hW2:World.alloc (World.alloc (World.alloc (World.alloc w _) _) _) _=W2;have H2:=Lh (show Wb X w y cs b W2 from by rw [←hW2]; exact Wb.start H0.out);clear hW2 H0;have q0:=H2.out.b0.cell 0 rfl
 go_upto_region 2 with (first | (refine kld (n:=nBd) H2.out.b1 H2.out.ib.len ?_) | (refine kst (n:=10) H5.out.2 rfl rfl HI.out.2.one (fun w6 hw6=>?_)) | (refine kst (n:=nBd) (H3.out.next bA).b1 H3.out.ib.len HI.out.1.len HI.out.1.one (fun w5 hw5=>?_); have H5:=Lh (show Wb X w y ds (loadB b y.t) w5∧Blk w5 w3.heap.size [.int .i64 0,.bool false,.pointer none,.pointer none,.int .i64 0,.slice none 0 0,.int .i64 0,.int .i64 0,.complex .f64 0 0,.complex .f64 0 0] 45 from by rw [hw5.out]; exact ⟨(H3.out.next bA).put1 (HI.out.1.next bA),(Blk.start w3 _ _).setN (by have:=H3.out.b1.lt; omega) _ _⟩)) | (go_at_call 51; refine (HC.out _ H2.out).mono ?_; rintro e w3 ⟨hb3,ds,rs,rfl,hI,hR⟩; obtain ⟨v0,v1,v2,v3,v4,v5,v6,v7,hv,rfl⟩:=hR.ex; have H3:=Lh (H2.out.next hb3); have HI:=Lh (And.intro hI hR); clear hb3 hI hR hv HC))
 have HG:=Lh (show w.heap.size+1+1+1<w3.heap.size from by obtain ⟨_,_,h⟩:=H3.out.b3; exact h.lt);have H7:=Lh (show IsRp w5 b.r [b.r.s,.bool (!shutB b.r),v0,v1,v2,v3,v4,v5,v6,v7] from by rw [hw5.out]; exact (HI.out.2.next bA).setN (H3.out.next bA).b1 (by decide) (by decide) (by decide) ds);generalize w3.heap.size=g at *
 have H6:=Lh (show Wb X w y ds (loadB b y.t) w6∧Blk w6 g [b.r.s,.bool (!shutB b.r),v0,v1,v2,v3,v4,v5,v6,v7] 45∧IsRp w6 b.r [b.r.s,.bool (!shutB b.r),v0,v1,v2,v3,v4,v5,v6,v7] from by
  have h1:=setN_all (us:=[.int .i64 b.r.s,.bool (!shutB b.r),v0,v1,v2,v3,v4,v5,v6,v7]) H5.out.2 rfl;obtain ⟨z2,l2,h2⟩:=H5.out.1.b2;obtain ⟨z3,l3,h3⟩:=H5.out.1.b3;have:=HG.out;rw [hw6.out];exact ⟨⟨setN_below (by omega) _ _ H5.out.1.bel,H5.out.1.b0.setN (by omega) _ _,H5.out.1.b1.setN (by omega) _ _,⟨z2,l2,h2.setN (by omega) _ _⟩,⟨z3,l3,h3.setN (by omega) _ _⟩,H5.out.1.ib.setI H5.out.2 rpl_not _ _⟩,h1,H7.out.setN H5.out.2 (by decide) (by decide) (by decide) _⟩)
 clear H5 hw6 H3 HI H2 q0 hw5 H7;have hT:=H6.out.2.2.next (bdq (n:=w6.heap.size));refine rgH (Wt X w y ds (loadB b y.t) fun W=>Blk W g [b.r.s,.bool (!shutB b.r),v0,v1,v2,v3,v4,v5,v6,v7] 45) ⟨H6.out.1.next bdq,H6.out.2.1.next bdq⟩ fun hH=>?_
 clear H6;refine lB 0 hH ?_;refine lW 1 hH ?_;refine tzz 2 hH ?_ (hy:=fun W h=>kly (n:=10) h.2 rfl);refine tzz 3 hH ?_;refine tzz 4 hH ?_ (hy:=fun W h=>klm (n:=11) (b:=w.heap.size) (o:=2) (h.1.b0.rngT (i:=2) (us:=calL y.c) (wy_cal y)) rfl);refine rV 5 (HL.out _ hH.1.bel _ _ _ _ _ _ _ _ _ _ hT) hH (Wt.next fun _ _ h hb=>h.next hb) fun W4 hb4 hH=>?_
 refine rV 6 (ans_any y x _) hH (Wt.next fun _ _ h hb=>h.next hb) fun W5 hb5 hH=>?_
 refine rWs (z:=y.ans x) 7 8 hH hH.1.ib (fun W6 hE=>?_) (hT:=fun W us h=>⟨h.setN (by have:=HG.out; omega) _ _,h.setN (by have:=HG.out; omega) _ _⟩);refine dnH ?_;go_wp2_with fail
 exact bodyPost_ret (res_cc hE.2.1 hE.2.2.2.len hE.2.2.1 rfl) rfl (by rw [HX.out]; exact hE.rw)
theorem start16 (y:Wy) (b:Brd):WC 103 y b (spw0 y b):=by
 intro n X cs w hO hn0 hI hX hy hr hp ht
 have hn:n≤1000:=by omega
 have HC:=Lh (fun W (h:Wb X w y cs b W)=>And.intro (up_ok b y.t n X cs W hO hn h.ib (hX.up h.bel) hy.t0 hy.t1) (raise_ok b y.t n X cs W hO hn h.ib (hX.up h.bel) hy.t0 hy.t1));have H0:=Lh hI;obtain ⟨k,hk⟩:∃ k,y.c.k=k:=⟨_,rfl⟩
 obtain ⟨u,hu⟩:∃ u,b.up=u:=⟨_,rfl⟩
 have HK:=Lh (show y.c.k=k ∧ -9223372036854775808≤k∧k≤9223372036854775807 from ⟨hk,hk▸y.c.k0,hk▸y.c.k1⟩);have HX:=Lh (show spw0 y b=(if k<0∨8<k then (b,y.bad 1) else if k=8 then (raiseB b y.t,unlW y u 7) else (upB b y.t,unlW y u (if k≤2 then 1 else 6))) from by rw [←hk,←hu]; rfl);rw [hu] at HC;clear hO hn hn0 hI hX hy hr hp ht hk hu
 go_enter Tryz.func103,Tryz.ntmps103
 go_upto_region 1 with fail
 generalize hW2:World.alloc (World.alloc (World.alloc (World.alloc w _) _) _) _=W2;have H2:=Lh (show Wb X w y cs b W2 from by rw [←hW2]; exact Wb.start H0.out);clear hW2 H0;have HKI:=Lh (isk_any k);have q2:=H2.out.b0.cell 2 rfl;rw [show (Value.int .i64 y.c.k)=.int .i64 k by rw [HK.out.1]] at q2;by_cases hb:0≤k∧k≤8
 rotate_left
 ·have HT:=Lh (HX.out.trans (by rw [if_pos (by omega)]:_=(b,y.bad 1)))
  rw [decide_eq_false hb] at HKI;clear HX hb
  go_upto_region 3 with (go_at_call 168; refine (HKI.out _).mono ?_; rintro e w3 ⟨rfl,hb3⟩; have H3:=Lh (H2.out.next hb3); clear hb3 H2)
  refine rgH (Wt X w y cs b fun _=>True) ⟨H3.out.next bdq,trivial⟩ fun hH=>?_
  clear H3;refine lB 0 hH ?_;refine lW 1 hH ?_;refine rV 2 (ref_any y 1 _) hH (Wt.next tru) fun W5 hb5 hH=>?_
  refine rWs (z:=y.bad 1) 3 4 hH hH.1.ib fun W6 hE=>?_
  refine dnH ?_;go_wp2_with fail
  exact bodyPost_ret (res_cc hE.2.1 hE.2.2.2.len hE.2.2.1 rfl) rfl (by rw [HT.out]; exact hE.rw)
 rw [decide_eq_true hb] at HKI;by_cases h8:k=8
 ·subst h8
  have HT:=Lh (HX.out.trans (by rw [if_neg (by omega),if_pos rfl]:_=(raiseB b y.t,unlW y u 7)));clear HX hb HK
  go_upto_region 5 with (go_at_call 168; refine (HKI.out _).mono ?_; rintro e w3 ⟨rfl,hb3⟩; have H3:=Lh (H2.out.next hb3); clear hb3 H2 HKI)
  have q0:=H3.out.b0.cell 0 rfl
  go_upto_region 6 with (first | (refine kld (n:=nBd) H3.out.b1 H3.out.ib.len ?_) | (refine kst (n:=nBd) (Blk.start w4 zBd _) rfl HI.out.len HI.out.one (fun w5 hw5=>?_)) | (go_at_call 40; refine ((HC.out _ H3.out).2).mono ?_; rintro e w4 ⟨hb4,ds,rfl,hI⟩; have H4:=Lh (H3.out.next hb4); have HI:=Lh hI; clear hb4 hI HC))
  have HG:=Lh (show w.heap.size+1+1+1<w4.heap.size from by obtain ⟨_,_,h⟩:=H4.out.b3; exact h.lt);have H6:=Lh (show Wb X w y cs b w5∧Blk w5 w4.heap.size ds BDT∧IsBd w5 X (raiseB b y.t) ds from by
   have hb:Below w4.heap.size w4 w5:=by rw [hw5.out]; exact setN_below (Nat.le_refl _) _ 0 bA
   exact ⟨H4.out.next hb,by rw [hw5.out]; exact setN_all (Blk.start w4 zBd _) (by rw [HI.out.len]; rfl),HI.out.next hb⟩)
  clear hw5 H4 HI H3 q0 q2;generalize w4.heap.size=g at *
  have hI6:=H6.out.2.2.next (bdq (n:=w5.heap.size));refine rgH (Wt X w y cs b fun W=>Blk W g ds BDT) ⟨H6.out.1.next bdq,H6.out.2.1.next bdq⟩ fun hH=>?_
  have hl:=hI6.len;clear H6;refine tzz 0 hH ?_ (hy:=fun W h=>kly h.2 hl);refine lW 1 hH ?_;refine tzz 2 hH ?_;refine tzz (v:=.bool u) 3 hH ?_ (hy:=fun W h=>by go_simp);refine rV 4 (unl_any y u 7 _) hH (Wt.next fun _ _ h hb=>h.next hb) fun W5 hb5 hH=>?_
  refine rWs (z:=unlW y u 7) 5 6 hH (hI6.next hb5) (fun W6 hE=>?_) (hT:=fun W us h=>⟨h.setN (by have:=HG.out; omega) _ _,h.setN (by have:=HG.out; omega) _ _⟩);refine dnH ?_;go_wp2_with fail
  exact bodyPost_ret (res_cc hE.2.1 hE.2.2.2.len hE.2.2.1 rfl) rfl (by rw [HT.out]; exact hE.rw)
 have h8':(k==8)=false:=by simpa using h8
 have HT:=Lh (HX.out.trans (by rw [if_neg (by omega),if_neg h8]:_=(upB b y.t,unlW y u (if k≤2 then 1 else 6))));have HWR:=Lh (fun W=>rpl_ok.wr k W HK.out.2.1 HK.out.2.2)
 go_upto_region 7 with (go_at_call 168; refine (HKI.out _).mono ?_; rintro e w3 ⟨rfl,hb3⟩; have H3:=Lh (H2.out.next hb3); clear hb3 H2 HKI)
 have q0:=H3.out.b0.cell 0 rfl
 go_upto_region 8 with (first | (refine kld (n:=nBd) H3.out.b1 H3.out.ib.len ?_) | (refine kst (n:=nBd) H4.out.b1 H4.out.ib.len HI.out.len HI.out.one (fun w5 hw5=>?_)) | (go_at_call 38; refine ((HC.out _ H3.out).1).mono ?_; rintro e w4 ⟨hb4,ds,rfl,hI⟩; have H4:=Lh (H3.out.next hb4); have HI:=Lh hI; clear hb4 hI HC))
 have H5:=Lh (H4.out.put1 HI.out);rw [←hw5.out] at H5;clear hw5 H4 HI H3 q0 q2 HX h8 h8' HK;by_cases h2:k≤2
 ·rw [if_pos h2] at HT
  rw [show writesB k=true by unfold writesB; rw [decide_eq_true hb.1,decide_eq_true h2]; rfl] at HWR;clear hb h2
  go_upto_region 9 with (go_at_call 28; refine (HWR.out _).mono ?_; rintro e w6 ⟨rfl,hb6⟩; have H6:=Lh (H5.out.next hb6); clear hb6 H5 HWR)
  refine rgH (Wt X w y ds (upB b y.t) fun _=>True) ⟨H6.out.next bdq,trivial⟩ fun hH=>?_
  clear H6;refine lB 0 hH ?_;refine lW 1 hH ?_;refine tzz 2 hH ?_;refine rV 3 (unl_any y u 1 _) hH (Wt.next tru) fun W5 hb5 hH=>?_
  refine rWs (z:=unlW y u 1) 4 5 hH hH.1.ib fun W6 hE=>?_
  refine dnH ?_;go_wp2_with fail
  exact bodyPost_ret (res_cc hE.2.1 hE.2.2.2.len hE.2.2.1 rfl) rfl (by rw [HT.out]; exact hE.rw)
 ·rw [if_neg h2] at HT
  rw [show writesB k=false by unfold writesB; rw [decide_eq_false h2,Bool.and_false]] at HWR;clear hb h2
  go_upto_region 10 with (go_at_call 28; refine (HWR.out _).mono ?_; rintro e w6 ⟨rfl,hb6⟩; have H6:=Lh (H5.out.next hb6); clear hb6 H5 HWR)
  refine rgH (Wt X w y ds (upB b y.t) fun _=>True) ⟨H6.out.next bdq,trivial⟩ fun hH=>?_
  clear H6;refine lB 0 hH ?_;refine lW 1 hH ?_;refine tzz 2 hH ?_;refine rV 3 (unl_any y u 6 _) hH (Wt.next tru) fun W5 hb5 hH=>?_
  refine rWs (z:=unlW y u 6) 4 5 hH hH.1.ib fun W6 hE=>?_
  refine dnH ?_;go_wp2_with fail
  exact bodyPost_ret (res_cc hE.2.1 hE.2.2.2.len hE.2.2.1 rfl) rfl (by rw [HT.out]; exact hE.rw)
theorem open16 (y:Wy) (b:Brd) (hq:y.q=9):WC 112 y b (spw9 y b):=by
 intro n X cs w hO hn0 hI hX hy hr hp ht;have hn:n≤1000:=by omega
 have HC:=Lh (fun W (h:Wb X w y cs b W)=>unlock_ok b y.t y.s hy.s0 (hy.s2 (by omega) (by omega)) n X cs W hO hn h.ib (hX.up h.bel) hy.t0 hy.t1);have HS:=Lh (fun W ds (h:IsBd W X (unlockB b y.t y.s) ds)=>stripes_ok (unlockB b y.t y.s) (n+1) X ds W (hO.unlock' _ _) (Nat.le_trans (Nat.succ_le_succ hn0) (by decide)) h);have H0:=Lh hI;have hs0:=hy.s0;have hs1:=hy.s1;have hst:=hO.st;have hL:(unlockB b y.t y.s).st.length=b.st.length:=List.length_set;rw [hL] at HS;obtain ⟨m,hm⟩:∃ m:Int,(b.st.length:Int)=m:=⟨_,rfl⟩;rw [hm] at HS;have HX:=Lh (show spw9 y b=(unlockB b y.t y.s,if y.s+1=m then { y with s:=y.s+1,q:=10 } else { y with s:=y.s+1,q:=7 }) from by rw [←hm]; rfl);have hsm:y.s≤8:=by omega
 clear hO hn hn0 hI hX hy hr hp ht hq hs1 hst hL hm;go_enter Tryz.func112,Tryz.ntmps112;go_upto_region 1 with fail;generalize hW2:World.alloc (World.alloc (World.alloc (World.alloc w _) _) _) _=W2;have H2:=Lh (show Wb X w y cs b W2 from by rw [←hW2]; exact Wb.start H0.out);clear hW2 H0;have q0:=H2.out.b0.cell 0 rfl;have q14:=H2.out.b0.cell 14 rfl;go_upto_region 2 with (first | (refine kld (n:=nBd) H2.out.b1 H2.out.ib.len ?_) | (refine kst (n:=nBd) H3.out.b1 H3.out.ib.len HI.out.len HI.out.one (fun w4 hw4=>?_)) | (go_at_call 43; refine (HC.out _ H2.out).mono ?_; rintro e w3 ⟨hb3,ds,rfl,hI⟩; have H3:=Lh (H2.out.next hb3); have HI:=Lh hI; clear hb3 hI HC));have H4:=Lh (H3.out.put1 HI.out);rw [←hw4.out] at H4;clear H3 HI hw4 H2 q0 q14;have q14:=H4.out.b0.cell 14 rfl;have f14:=H4.out.b0.free 14;have hin:=IntWalk.i64_in (y.s+1) (by omega);go_upto_region 3 with fail;have H5:=Lh (H4.out.put0 (z:={ y with s:=y.s+1 }) 14 (.int .i64 (y.s+1)) rfl);clear H4 q14 f14 hin;generalize w4.setCell ⟨w.heap.size,14,none⟩ (.int .i64 (y.s+1))=w5 at *;refine rgH (Wt X w { y with s:=y.s+1 } ds (unlockB b y.t y.s) fun _=>True) ⟨H5.out.next bdq,trivial⟩ fun hH=>?_
 clear H5;refine tzz 0 hH ?_;refine lC 1 14 hH ?_;refine lB 2 hH ?_;refine rV 3 (HS.out _ _ hH.1.ib) hH (Wt.next tru) fun W6 hb6 hH=>?_
 refine tzz 4 hH ?_;refine dnH ?_;have H6:=Lh hH.1;clear hH HS;by_cases hc:y.s+1=m;have HT:=Lh (HX.out.trans (by rw [if_pos hc]:_=(unlockB b y.t y.s,({ y with s:=y.s+1,q:=10 }:Wy))));have hc':(y.s+1==m)=true:=by simpa using hc
 clear hc HX;go_upto_region 4 with fail;refine rgH (Wt X w { y with s:=y.s+1 } ds (unlockB b y.t y.s) fun _=>True) ⟨H6.out.next bdq,trivial⟩ fun hH=>?_
 clear H6;refine lB 0 hH ?_;refine lW 1 hH ?_;refine rV 2 (on_any { y with s:=y.s+1 } 10 _) hH (Wt.next tru) fun W5 hb5 hH=>?_
 refine rWs (z:={ y with s:=y.s+1,q:=10 }) 3 4 hH hH.1.ib fun W6 hE=>?_
 rotate_left;have HT:=Lh (HX.out.trans (by rw [if_neg hc]:_=(unlockB b y.t y.s,({ y with s:=y.s+1,q:=7 }:Wy))));have hc':(y.s+1==m)=false:=by simpa using hc
 clear hc HX;go_upto_region 5 with fail;refine rgH (Wt X w { y with s:=y.s+1 } ds (unlockB b y.t y.s) fun _=>True) ⟨H6.out.next bdq,trivial⟩ fun hH=>?_
 clear H6;refine lB 0 hH ?_;refine lW 1 hH ?_;refine rV 2 (on_any { y with s:=y.s+1 } 7 _) hH (Wt.next tru) fun W5 hb5 hH=>?_
 refine rWs (z:={ y with s:=y.s+1,q:=7 }) 3 4 hH hH.1.ib fun W6 hE=>?_
 rotate_left
 all_goals
  refine dnH ?_;go_wp2_with fail;exact bodyPost_ret (res_cc hE.2.1 hE.2.2.2.len hE.2.2.1 rfl) rfl (by rw [HT.out]; exact hE.rw)
theorem free16 (y:Wy) (b:Brd):WC 106 y b (spw3 y b):=by
 intro n X cs w hO hn0 hI hX hy hr hp ht;have hn:n≤1000:=by omega
 have HM:=Lh (fun W (h:Wb X w y cs b W)=>home_any y b n cs hO hn hy.n W h.ib);have HC:=Lh (fun W (h:Wb X w y cs b W)=>unlock_ok b y.t (homeW y b) hy.home.1 hy.home.2 n X cs W hO hn h.ib (hX.up h.bel) hy.t0 hy.t1);have H0:=Lh hI;clear hO hn hn0 hI hX hy hr hp ht;go_enter Tryz.func106,Tryz.ntmps106;go_upto_region 1 with fail;generalize hW2:World.alloc (World.alloc (World.alloc (World.alloc w _) _) _) _=W2;have H2:=Lh (show Wb X w y cs b W2 from by rw [←hW2]; exact Wb.start H0.out);clear hW2 H0;refine rgK (Wb X w y cs b) 7 (H2.out.next bdq) fun hH=>?_
 clear H2;refine tqK 0 (.agg cs.toArray) hH ?_ (hy:=fun W h=>kly h.b1 h.ib.len);refine tqK 1 (.pointer (some ⟨w.heap.size,0,none⟩)) hH ?_;refine tqK 2 y.t hH ?_ (hy:=fun W h=>by have hq:=h.b0.cell 0 rfl; go_simp);refine tqK 3 (.agg (wyL y).toArray) hH ?_ (hy:=fun W h=>kly (n:=18) h.b0 rfl);refine tqK 4 (.agg cs.toArray) hH ?_ (hy:=fun W h=>kly h.b1 h.ib.len);refine rcK 5 (HM.out _ hH) fun e W3 hR=>?_
 obtain ⟨rfl,hb⟩:=hR;refine ⟨_,rfl,hH.next hb,?_⟩;have hH3:=hH.next hb;try simp only [LAY]
 refine rcK 6 (HC.out _ hH3) fun e W4 hR=>?_
 obtain ⟨hb4,ds,rfl,hI⟩:=hR;have hH4:=hH3.next hb4;refine ⟨_,rfl,hH4,?_⟩;try simp only [LAY]
 refine stK 7 hH4.b1 hH4.ib.len hI.len hI.one (fun w5 hw5=>?_);have H5:=Lh (hH4.put1 hI);rw [←hw5.out] at H5;clear hH hH3 hH4 hI hw5 hb hb4 HM HC;refine dnK ?_;have q15:=H5.out.b0.cell 15 rfl;obtain ⟨E,hE0⟩:∃ E,y.x.e=E:=⟨_,rfl⟩;have HX:=Lh (show spw3 y b=(unlockB b y.t (homeW y b),if E=0 then y.on 4 else y.bad E) from by rw [←hE0]; rfl);rw [hE0] at q15;clear hE0;by_cases hc:E=0;subst hc;have HT:=Lh (HX.out.trans (by rw [if_pos rfl]:_=(unlockB b y.t (homeW y b),y.on 4)));clear HX;go_upto_region 5 with fail;refine rgH (Wt X w y ds (unlockB b y.t (homeW y b)) fun _=>True) ⟨H5.out.next bdq,trivial⟩ fun hH=>?_
 clear H5;refine lB 0 hH ?_;refine lW 1 hH ?_;refine rV 2 (on_any y 4 _) hH (Wt.next tru) fun W5 hb5 hH=>?_
 refine rWs (z:=y.on 4) 3 4 hH hH.1.ib fun W6 hE=>?_
 rotate_left;have HT:=Lh (HX.out.trans (by rw [if_neg hc]:_=(unlockB b y.t (homeW y b),y.bad E)));have hc':(E != 0)=true:=by simpa using hc
 clear hc HX;go_upto_region 4 with fail;refine rgH (Wt X w y ds (unlockB b y.t (homeW y b)) fun _=>True) ⟨H5.out.next bdq,trivial⟩ fun hH=>?_
 clear H5;refine lB 0 hH ?_;refine lW 1 hH ?_;refine tzz 2 hH ?_;refine rV 3 (ref_any y E _) hH (Wt.next tru) fun W5 hb5 hH=>?_
 refine rWs (z:=y.bad E) 4 5 hH hH.1.ib fun W6 hE=>?_
 rotate_left
 all_goals
  refine dnH ?_;go_wp2_with fail;exact bodyPost_ret (res_cc hE.2.1 hE.2.2.2.len hE.2.2.1 rfl) rfl (by rw [HT.out]; exact hE.rw)
theorem push16 (y:Wy) (b:Brd):WC 105 y b (spw2 y b):=by
 intro n X cs w hO hn0 hI hX hy hr hp ht
 have hn:n≤1000:=by omega
 have HM:=Lh (fun W (h:Wb X w y cs b W)=>home_any y b n cs hO hn hy.n W h.ib);have HC:=Lh (fun W (h:Wb X w y cs b W)=>push_ok b y.t (homeW y b) y.sl y.c hy.home.1 hy.home.2 hy.l0 hy.l1 n X cs W hO hn h.ib (hX.up h.bel) hy.t0 hy.t1);have H0:=Lh hI;clear hO hn hn0 hI hX hy hr hp ht;obtain ⟨E,hE0⟩:∃ E,pushE b (homeW y b)=E:=⟨_,rfl⟩
 have HX:=Lh (show spw2 y b=(pushB b y.t (homeW y b) y.sl y.c,{ y with x:={ y.x with e:=E },q:=3 }) from by rw [←hE0]; rfl);rw [hE0] at HC;clear hE0
 go_enter Tryz.func105,Tryz.ntmps105
 go_upto_region 1 with fail
 generalize hW2:World.alloc (World.alloc (World.alloc (World.alloc w _) _) _) _=W2;have H2:=Lh (show Wb X w y cs b W2 from by rw [←hW2]; exact Wb.start H0.out);clear hW2 H0;refine rgK (Wb X w y cs b) 14 (H2.out.next bdq) fun hH=>?_
 clear H2;refine tqK 0 (.agg cs.toArray) hH ?_ (hy:=fun W h=>kly h.b1 h.ib.len);refine tqK 1 (.pointer (some ⟨w.heap.size,0,none⟩)) hH ?_;refine tqK 2 y.t hH ?_ (hy:=fun W h=>by have hq:=h.b0.cell 0 rfl; go_simp);refine tqK 3 (.agg (wyL y).toArray) hH ?_ (hy:=fun W h=>kly (n:=18) h.b0 rfl);refine tqK 4 (.agg cs.toArray) hH ?_ (hy:=fun W h=>kly h.b1 h.ib.len);refine tqK 6 (.pointer (some ⟨w.heap.size,1,none⟩)) hH ?_;refine tqK 7 y.sl hH ?_ (hy:=fun W h=>by have hq:=h.b0.cell 1 rfl; go_simp);refine tqK 8 (.pointer (some ⟨w.heap.size,2,none⟩)) hH ?_;refine tqK 9 (.agg (calL y.c).toArray) hH ?_ (hy:=fun W h=>klm (n:=11) (b:=w.heap.size) (o:=2) (h.b0.rngT (i:=2) (us:=calL y.c) (wy_cal y)) rfl);refine rcK 5 (HM.out _ hH) fun e W3 hR=>?_
 obtain ⟨rfl,hb⟩:=hR;refine ⟨_,rfl,hH.next hb,?_⟩;have hH3:=hH.next hb
 try simp only [LAY]
 refine rcK 10 (HC.out _ hH3) fun e W4 hR=>?_
 obtain ⟨hb4,ds,rfl,hI⟩:=hR;have hH4:=hH3.next hb4;refine ⟨_,rfl,hH4,?_⟩
 try simp only [LAY]
 refine tqK 11 (.tuple #[.agg ds.toArray,E]) hH4 ?_;refine tqK 12 (.agg ds.toArray) hH4 ?_;refine tpK 13 E hH4 ?_;refine stK 14 hH4.b1 hH4.ib.len hI.len hI.one (fun w5 hw5=>?_);have H5:=Lh (hH4.put1 hI);rw [←hw5.out] at H5;clear hH hH3 hH4 hI hw5 hb hb4 HM HC;refine rvK 15 (.pointer (some ⟨w.heap.size,15,none⟩)) ?_;refine rvK 16 (.pointer (some ⟨w.heap.size,15,none⟩)) ?_;have q15:=H5.out.b0.cell 15 rfl;have f15:=H5.out.b0.free 15;refine rdK 17 (by kernel_rfl) rfl fun K hK=>?_
 go_simp
 go_wp2_with fail
 refine hK.out _ _ (fun h2 _=>by cases h2) ?_;have H6:=Lh (H5.out.put0 (z:={ y with x:={ y.x with e:=E } }) 15 E rfl);clear hK K H5 q15 f15;generalize w5.setCell ⟨w.heap.size,15,none⟩ E=w6 at *
 refine dnK ?_
 go_upto_region 2 with fail
 refine rgH (Wt X w { y with x:={ y.x with e:=E } } ds (pushB b y.t (homeW y b) y.sl y.c) fun _=>True) ⟨H6.out.next bdq,trivial⟩ fun hH=>?_
 clear H6;refine lB 0 hH ?_;refine lW 1 hH ?_;refine rV 2 (on_any { y with x:={ y.x with e:=E } } 3 _) hH (Wt.next tru) fun W5 hb5 hH=>?_
 refine rWs (z:={ y with x:={ y.x with e:=E },q:=3 }) 3 4 hH hH.1.ib fun W6 hE=>?_
 refine dnH ?_;go_wp2_with fail
 exact bodyPost_ret (res_cc hE.2.1 hE.2.2.2.len hE.2.2.1 rfl) rfl (by rw [HX.out]; exact hE.rw)
end Go.Proofs.YtemicfjmidohfaaGreatDoor
set_option maxRecDepth 100000
set_option maxHeartbeats 12800000
namespace Go.Proofs.YtemicfjmidohfaaGreatDoor
open Go Go.Proofs Go.RowKit
variable {X:Nat→Prop} {w W W':World} {y z:Wy} {b b':Brd} {cs es:List Value}
abbrev stT:TypeId:=172
abbrev fnV (f:FuncId):Value:=.func (.func f) #[] #[]
def stpF (j:Int):Value:=if j=10 then fnV 113 else if j=9 then fnV 112 else if j=8 then fnV 111 else if j=7 then fnV 110 else if j=6 then fnV 109 else if j=5 then fnV 108 else if j=4 then fnV 107 else if j=3 then fnV 106 else if j=2 then fnV 105 else if j=1 then fnV 104 else if j=0 then fnV 103 else .nilFunc
def stpK (j:Int):Bool:=if j=10 then true else if j=9 then true else if j=8 then true else if j=7 then true else if j=6 then true else if j=5 then true else if j=4 then true else if j=3 then true else if j=2 then true else if j=1 then true else if j=0 then true else false
theorem und_st:Tryz.prog.underlying stT=some (.map 86 170):=by kernel_rfl
theorem wf_k (k:Int) (h0:0≤k:=by decide) (h1:k≤100:=by decide):(Lit.int .i64 k).wf=true:=by simp [Lit.wf]; exact ⟨by show -9223372036854775808≤k; omega,by show k≤9223372036854775807; omega⟩
theorem stps_any (w:World):Calls Tryz.prog 69 #[] w fun e w'=>Below w.heap.size w w'∧∃ g,e=.returned (.map (some g))∧MapI Tryz.prog 86 g 11 .nilFunc stpF stpK w':=by
 have hmm := @run_makeMap Tryz.prog;have s0:=MapI.start (P:=Tryz.prog) (kt:=86) (z:=.nilFunc) w;have b0:Below w.heap.size w (w.alloc (.map #[] 0)):=bA;obtain ⟨w1,r1,s1,g1⟩:=s0.put Tryz.underlying86 und_st (by decide) (wf_k 0) (fnV 103);have b1:Below w.heap.size w w1:=b0.grown g1 b0.size fun r e=>by cases e; exact Nat.le_refl _
 obtain ⟨w2,r2,s2,g2⟩:=s1.put Tryz.underlying86 und_st (by decide) (wf_k 1) (fnV 104);have b2:Below w.heap.size w w2:=b1.grown g2 b1.size fun r e=>by cases e; exact Nat.le_refl _
 obtain ⟨w3,r3,s3,g3⟩:=s2.put Tryz.underlying86 und_st (by decide) (wf_k 2) (fnV 105);have b3:Below w.heap.size w w3:=b2.grown g3 b2.size fun r e=>by cases e; exact Nat.le_refl _
 obtain ⟨w4,r4,s4,g4⟩:=s3.put Tryz.underlying86 und_st (by decide) (wf_k 3) (fnV 106);have b4:Below w.heap.size w w4:=b3.grown g4 b3.size fun r e=>by cases e; exact Nat.le_refl _
 obtain ⟨w5,r5,s5,g5⟩:=s4.put Tryz.underlying86 und_st (by decide) (wf_k 4) (fnV 107);have b5:Below w.heap.size w w5:=b4.grown g5 b4.size fun r e=>by cases e; exact Nat.le_refl _
 obtain ⟨w6,r6,s6,g6⟩:=s5.put Tryz.underlying86 und_st (by decide) (wf_k 5) (fnV 108);have b6:Below w.heap.size w w6:=b5.grown g6 b5.size fun r e=>by cases e; exact Nat.le_refl _
 obtain ⟨w7,r7,s7,g7⟩:=s6.put Tryz.underlying86 und_st (by decide) (wf_k 6) (fnV 109);have b7:Below w.heap.size w w7:=b6.grown g7 b6.size fun r e=>by cases e; exact Nat.le_refl _
 obtain ⟨w8,r8,s8,g8⟩:=s7.put Tryz.underlying86 und_st (by decide) (wf_k 7) (fnV 110);have b8:Below w.heap.size w w8:=b7.grown g8 b7.size fun r e=>by cases e; exact Nat.le_refl _
 obtain ⟨w9,r9,s9,g9⟩:=s8.put Tryz.underlying86 und_st (by decide) (wf_k 8) (fnV 111);have b9:Below w.heap.size w w9:=b8.grown g9 b8.size fun r e=>by cases e; exact Nat.le_refl _
 obtain ⟨w10,r10,s10,g10⟩:=s9.put Tryz.underlying86 und_st (by decide) (wf_k 9) (fnV 112);have b10:Below w.heap.size w w10:=b9.grown g10 b9.size fun r e=>by cases e; exact Nat.le_refl _
 obtain ⟨w11,r11,s11,g11⟩:=s10.put Tryz.underlying86 und_st (by decide) (wf_k 10) (fnV 113);have b11:Below w.heap.size w w11:=b10.grown g11 b10.size fun r e=>by cases e; exact Nat.le_refl _
 have HE:=Lh (And.intro b11 s11);clear s0 s1 s2 s3 s4 s5 s6 s7 s8 s9 s10 s11 b0 b1 b2 b3 b4 b5 b6 b7 b8 b9 b10 b11 g1 g2 g3 g4 g5 g6 g7 g8 g9 g10 g11
 go_enter Tryz.func69,Tryz.ntmps69
 go_wp2_with fail
 go_ret
 exact ⟨HE.out.1,_,rfl,HE.out.2⟩
theorem rQ {P:Program} {md:Region.Mode} {ops:Array Oper} {Q:Exit→Act→World→Prop} {S:World→Prop} {fuel:Nat} {L:Array Bool} {a a':Act} {o:Oper} {v:Value} (i:Nat) (hS:S W) (h:S W→wpAnyH P md ops Q S fuel (L.setIfInBounds i true) a' W)
  (hr:Region.ready md ops L=[i]:=by kernel_rfl) (ho:ops.toList[i]? = some o:=by rfl) (hw:Region.wanted o (yielded ops a.tmps)=true:=by rfl) (hy:(execOp a.eval o).run P W=.ok (.value v) W:=by go_simp; rfl) (ha:a.put o.dst v=a':=by (try simp only [LAY]); rfl):wpAnyH P md ops Q S (fuel+1) L a W:=by
 refine rd1 i hr ho fun K hK=>?_
 rw [if_pos hw];unfold Oper.wp
 rw [hy];exact hK.out _ _ hS fun hs=>ha▸h hs
theorem rX {P:Program} {md:Region.Mode} {ops:Array Oper} {Q:Exit→Act→World→Prop} {S:World→Prop} {fuel:Nat} {L:Array Bool} {a:Act} {o:Oper} {f:FuncId} {args:Array Value} {R:Ending→World→Prop} (i:Nat) (hC:Calls P f args W R)
  (h:∀ e W',R e W'→∃ v,e=.returned v∧S W'∧(S W'→wpAnyH P md ops Q S fuel (L.setIfInBounds i true) (a.put o.dst v) W')) (hr:Region.ready md ops L=[i]:=by kernel_rfl) (ho:ops.toList[i]? = some o:=by rfl) (hg:o.guard=none:=by rfl) (he:(execOp a.eval o).run P W=.ok (.enter f args) W:=by go_simp):wpAnyH P md ops Q S (fuel+1) L a W:=by
 refine rd1 i hr ho fun K hK=>?_
 rw [if_pos (by simp [Region.wanted,hg])];unfold Oper.wp
 rw [he];refine hC.mono fun e W' hR=>?_
 obtain ⟨v,rfl,h1,h2⟩:=h e W' hR;exact hK.out _ _ h1 h2
theorem stp_on {p:Brd×Wy} (f:FuncId) (hF:stpF y.q=fnV f) (hK:stpK y.q=true) (he:Ent f) (hC:WC f y b p):WC 17 y b p:=by
 intro n X cs w hO hn hI hX hy hr hp ht
 have HC:=Lh (fun W (h:Wb X w y cs b W)=>hC n X cs W hO hn h.ib (hX.up h.bel) hy hr (hp.next h.bel) (ht.next h.bel));have HF:=Lh (And.intro hF hK);have HQ:=Lh (And.intro hy.q0 hy.q1);have H0:=Lh hI;have HE:=Lh he;clear hO hn hI hX hy hr hp ht hF hK hC he
 go_enter Tryz.func17,Tryz.ntmps17
 go_upto_region 1 with fail
 generalize hW2:World.alloc (World.alloc (World.alloc (World.alloc w _) _) _) _=W2;have H2:=Lh (show Wb X w y cs b W2 from by rw [←hW2]; exact Wb.start H0.out);clear hW2 H0;refine rgH (Wt X w y cs b fun _=>True) ⟨H2.out.next bdq,trivial⟩ fun hH=>?_
 clear H2;refine tzz 1 hH ?_;refine lC 2 13 hH ?_;refine rX 0 (stps_any _) fun e W3 hR=>?_
 obtain ⟨hb3,g,rfl,hm⟩:=hR;refine ⟨_,rfl,Wt.next tru _ _ hH hb3,fun hH=>?_⟩;have hlk:=(hm.look Tryz.underlying86 und_st (show (zeroValue 170).run Tryz.prog W3=.ok .nilFunc W3 from by kernel_rfl) (wf_k y.q HQ.out.1 (by have:=HQ.out.2; omega))).2;rw [HF.out.1,HF.out.2] at hlk;clear hm hb3
 try simp only [LAY]
 refine rQ 3 hH fun hH=>?_
 clear hlk;refine tzz 4 hH ?_;refine tzz 5 hH ?_;refine tzz 6 hH ?_;refine tzz 7 hH ?_;refine tzz 8 hH ?_;refine dnH ?_;have H4:=Lh hH.1;clear hH;have hent:∀ (a:Array Value) (W:World),(callFunc f a).run Tryz.prog W=.ok (.enter f a) W:=HE.out;clear HE HF;go_wp2_with (first | (refine kld (n:=nBd) H4.out.b1 H4.out.ib.len ?_) | (refine kld (n:=18) H4.out.b0 rfl ?_) | (obtain ⟨zz,ll,zB⟩:=H6.out.1.b3; refine kst (n:=18) zB ll rfl (wy_one p.2) (fun w7 hw7=>?_)) | (obtain ⟨zz,ll,zB⟩:=H5.out.b2; refine kst (n:=nBd) zB ll HI.out.len HI.out.one (fun w6 hw6=>?_); have H6:=Lh (H5.out.out2 HI.out); rw [←hw6.out] at H6; clear hw6 H5 HI) | (refine (HC.out _ H4.out).mono ?_; rintro e w5 ⟨hb5,ds,rfl,hI⟩; have H5:=Lh (H4.out.next hb5); have HI:=Lh hI; clear hb5 hI HC hent))
 have H7:=H6.out.1.out3 p.2;obtain ⟨zz,ll,zB⟩:=H6.out.1.b3;have h8:=H6.out.2.1.setN (b:=w.heap.size+1+1+1) (by omega) (wyL p.2) 0;have h9:=H6.out.2.2.setI zB way_not (wyL p.2) 0;rw [←hw7.out] at H7 h8 h9;exact bodyPost_ret (res_cc h8 h9.len H7.2 rfl) rfl ⟨H7.1.bel,_,rfl,h9⟩
theorem stp_off (hF:stpF y.q=.nilFunc) (hK:stpK y.q=false):WC 17 y b (b,y):=by
 intro n X cs w hO hn hI hX hy hr hp ht
 have HF:=Lh (And.intro hF hK);have HQ:=Lh (And.intro hy.q0 hy.q1);have H0:=Lh hI;clear hO hn hI hX hy hr hp ht hF hK
 go_enter Tryz.func17,Tryz.ntmps17
 go_upto_region 1 with fail
 generalize hW2:World.alloc (World.alloc (World.alloc (World.alloc w _) _) _) _=W2;have H2:=Lh (show Wb X w y cs b W2 from by rw [←hW2]; exact Wb.start H0.out);clear hW2 H0;refine rgH (Wt X w y cs b fun _=>True) ⟨H2.out.next bdq,trivial⟩ fun hH=>?_
 clear H2;refine tzz 1 hH ?_;refine lC 2 13 hH ?_;refine rX 0 (stps_any _) fun e W3 hR=>?_
 obtain ⟨hb3,g,rfl,hm⟩:=hR;refine ⟨_,rfl,Wt.next tru _ _ hH hb3,fun hH=>?_⟩;have hlk:=(hm.look Tryz.underlying86 und_st (show (zeroValue 170).run Tryz.prog W3=.ok .nilFunc W3 from by kernel_rfl) (wf_k y.q HQ.out.1 (by have:=HQ.out.2; omega))).2;rw [HF.out.1,HF.out.2] at hlk;clear hm hb3
 try simp only [LAY]
 refine rQ 3 hH fun hH=>?_
 clear hlk;refine tzz 4 hH ?_;refine tzz 5 hH ?_;refine tzz 6 hH ?_;refine tzz 7 hH ?_;refine tzz 8 hH ?_;refine dnH ?_;have H4:=Lh hH.1;clear hH;clear HF
 go_upto_region 3 with fail
 refine rgH (Wt X w y cs b fun _=>True) ⟨H4.out.next bdq,trivial⟩ fun hH=>?_
 clear H4;refine lB 0 hH ?_;refine lW 1 hH ?_;refine rWs (z:=y) 2 3 hH hH.1.ib fun W6 hE=>?_
 refine dnH ?_;go_wp2_with fail
 exact bodyPost_ret (res_cc hE.2.1 hE.2.2.2.len hE.2.2.1 rfl) rfl hE.rw
theorem step16 (y:Wy) (b:Brd):WC 17 y b (stepW y b):=by
 intro n X cs w hO hn hI hX hy
 have h0:=hy.q0;have h1:=hy.q1;have hq:y.q=0∨y.q=1∨y.q=2∨y.q=3∨y.q=4∨y.q=5∨y.q=6∨y.q=7∨y.q=8∨y.q=9∨y.q=10∨y.q=11:=by omega
 rcases hq with e | e | e | e | e | e | e | e | e | e | e | e
 ·rw [show stepW y b=spw0 y b from by unfold stepW; rw [if_pos e]]
  exact stp_on 103 (by rw [e]; rfl) (by rw [e]; rfl) (ent_any Tryz.func103 (by kernel_rfl) rfl) (start16 y b) n X cs w hO hn hI hX hy
 ·rw [show stepW y b=spw1 y b from by unfold stepW; rw [if_neg (by omega),if_pos e]]
  exact stp_on 104 (by rw [e]; rfl) (by rw [e]; rfl) (ent_any Tryz.func104 (by kernel_rfl) rfl) (lock16 y b) n X cs w hO hn hI hX hy
 ·rw [show stepW y b=spw2 y b from by unfold stepW; rw [if_neg (by omega),if_neg (by omega),if_pos e]]
  exact stp_on 105 (by rw [e]; rfl) (by rw [e]; rfl) (ent_any Tryz.func105 (by kernel_rfl) rfl) (push16 y b) n X cs w hO hn hI hX hy
 ·rw [show stepW y b=spw3 y b from by unfold stepW; rw [if_neg (by omega),if_neg (by omega),if_neg (by omega),if_pos e]]
  exact stp_on 106 (by rw [e]; rfl) (by rw [e]; rfl) (ent_any Tryz.func106 (by kernel_rfl) rfl) (free16 y b) n X cs w hO hn hI hX hy
 ·rw [show stepW y b=spw4 y b from by unfold stepW; rw [if_neg (by omega),if_neg (by omega),if_neg (by omega),if_neg (by omega),if_pos e]]
  exact stp_on 107 (by rw [e]; rfl) (by rw [e]; rfl) (ent_any Tryz.func107 (by kernel_rfl) rfl) (wait16 y b) n X cs w hO hn hI hX hy
 ·rw [show stepW y b=spw5 y b from by unfold stepW; rw [if_neg (by omega),if_neg (by omega),if_neg (by omega),if_neg (by omega),if_neg (by omega),if_pos e]]
  exact stp_on 108 (by rw [e]; rfl) (by rw [e]; rfl) (ent_any Tryz.func108 (by kernel_rfl) rfl) (fetch16 y b) n X cs w hO hn hI hX hy
 ·rw [show stepW y b=spw6 y b from by unfold stepW; rw [if_neg (by omega),if_neg (by omega),if_neg (by omega),if_neg (by omega),if_neg (by omega),if_neg (by omega),if_pos e]]
  exact stp_on 109 (by rw [e]; rfl) (by rw [e]; rfl) (ent_any Tryz.func109 (by kernel_rfl) rfl) (look16 y b) n X cs w hO hn hI hX hy
 ·rw [show stepW y b=spw7 y b from by unfold stepW; rw [if_neg (by omega),if_neg (by omega),if_neg (by omega),if_neg (by omega),if_neg (by omega),if_neg (by omega),if_neg (by omega),if_pos e]]
  exact stp_on 110 (by rw [e]; rfl) (by rw [e]; rfl) (ent_any Tryz.func110 (by kernel_rfl) rfl) (shut16 y b e) n X cs w hO hn hI hX hy
 ·rw [show stepW y b=spw8 y b from by unfold stepW; rw [if_neg (by omega),if_neg (by omega),if_neg (by omega),if_neg (by omega),if_neg (by omega),if_neg (by omega),if_neg (by omega),if_neg (by omega),if_pos e]]
  exact stp_on 111 (by rw [e]; rfl) (by rw [e]; rfl) (ent_any Tryz.func111 (by kernel_rfl) rfl) (seal16 y b e) n X cs w hO hn hI hX hy
 ·rw [show stepW y b=spw9 y b from by unfold stepW; rw [if_neg (by omega),if_neg (by omega),if_neg (by omega),if_neg (by omega),if_neg (by omega),if_neg (by omega),if_neg (by omega),if_neg (by omega),if_neg (by omega),if_pos e]]
  exact stp_on 112 (by rw [e]; rfl) (by rw [e]; rfl) (ent_any Tryz.func112 (by kernel_rfl) rfl) (open16 y b e) n X cs w hO hn hI hX hy
 ·rw [show stepW y b=spw10 y b from by unfold stepW; rw [if_neg (by omega),if_neg (by omega),if_neg (by omega),if_neg (by omega),if_neg (by omega),if_neg (by omega),if_neg (by omega),if_neg (by omega),if_neg (by omega),if_neg (by omega),if_pos e]]
  exact stp_on 113 (by rw [e]; rfl) (by rw [e]; rfl) (ent_any Tryz.func113 (by kernel_rfl) rfl) (away16 y b) n X cs w hO hn hI hX hy
 ·rw [show stepW y b=(b,y) from by unfold stepW; rw [if_neg (by omega),if_neg (by omega),if_neg (by omega),if_neg (by omega),if_neg (by omega),if_neg (by omega),if_neg (by omega),if_neg (by omega),if_neg (by omega),if_neg (by omega),if_neg (by omega)]]
  exact stp_off (by rw [e]; rfl) (by rw [e]; rfl) n X cs w hO hn hI hX hy
theorem ready16 (y:Wy) (b:Brd) (n:Nat) (X:Nat→Prop) (cs:List Value) (w:World) (hO:BOk b n) (hn:n≤990) (hI:IsBd w X b cs) (hX:Old X w) (hy:WyOk y b):Calls Tryz.prog 27 #[.agg (wyL y).toArray,.agg cs.toArray] w (Rt (.bool (readyW y b)) w):=by
 have hn1:n≤1000:=by omega
 have HM:=Lh (fun W (h:Wh X w y cs b W)=>home_any y b n cs hO hn1 hy.n W h.ib);have HL:=Lh (fun W s h0 h1 (h:Wh X w y cs b W)=>lock_ok b y.t s h0 h1 n X cs W hO hn1 h.ib (hX.up h.bel) hy.t0 hy.t1);have HFi:=Lh (fun W (h:Wh X w y cs b W)=>filled_ok b y.t y.sl hy.l0 hy.l1 n X cs W hO hn1 h.ib (hX.up h.bel) hy.t0 hy.t1);have HG:=Lh (fun W (h:Wh X w y cs b W)=>gone_ok b y.t n X cs W hO hn1 h.ib (hX.up h.bel) hy.t0 hy.t1);have HY:=Lh hy;have H0:=Lh hI;obtain ⟨q,hq⟩:∃ q,y.q=q:=⟨_,rfl⟩
 obtain ⟨r,hr⟩:∃ r,readyW y b=r:=⟨_,rfl⟩
 have HR:=Lh (show r=(if q=1 then decide ((b.at (homeW y b)).h<0) else if q=7 then decide ((b.at y.s).h<0) else if q=4 then filledA b y.sl else if q=10 then b.gone else decide (q≠11)) from by rw [←hr,←hq]; rfl);have HQ:=Lh hq;rw [hr];clear hO hn hn1 hI hX hy hr hq
 go_enter Tryz.func27,Tryz.ntmps27
 go_upto_region 1 with fail
 generalize hW2:World.alloc (World.alloc w _) _=W2;have H2:=Lh (show Wh X w y cs b W2 from by rw [←hW2]; exact Wh.start H0.out);clear hW2 H0;have q13:=H2.out.b0.cell 13 rfl;rw [show (Value.int .i64 y.q)=.int .i64 q by rw [HQ.out]] at q13;by_cases e1:q=1
 ·subst e1
  have HR2:=Lh (HR.out.trans (if_pos rfl));clear HR
  go_upto_region 4 with fail
  clear q13;refine rgH (Wh X w y cs b) (H2.out.next bdq) fun hH=>?_
  clear H2;refine tzz 0 hH ?_ (hy:=fun W h=>kly h.b1 h.ib.len);refine tzz 1 hH ?_;refine tzz 2 hH ?_ (hy:=fun W h=>by have hq:=h.b0.cell 0 rfl; go_simp; rfl);refine tzz 3 hH ?_ (hy:=fun W h=>kly (n:=18) h.b0 rfl);refine tzz 4 hH ?_ (hy:=fun W h=>kly h.b1 h.ib.len);refine rV 5 (HM.out _ hH) hH (fun _ _=>Wh.next) fun W3 hb3 hH=>?_
  refine rR 6 (HL.out _ _ HY.out.home.1 HY.out.home.2 hH) hH (fun _ _=>Wh.next) fun W4 es hb4 hH _=>?_
  try simp only [LAY]
  refine tzz 7 hH ?_;refine tzz 8 hH ?_;refine tzz 9 hH ?_;refine tzz 10 hH ?_;refine dnH ?_;go_wp2_with fail
  go_ret
  exact ⟨by rw [HR2.out]; rfl,hH.bel⟩
 by_cases e7:q=7
 ·subst e7
  have HR2:=Lh (HR.out.trans ((if_neg (by decide)).trans (if_pos rfl)));have HL2:=Lh (fun W=>HL.out W y.s HY.out.s0 (HY.out.s2 (by rw [HQ.out]; decide) (by rw [HQ.out]; decide)));clear HR HL;have q0:=H2.out.b0.cell 0 rfl;have q14:=H2.out.b0.cell 14 rfl;go_wp2_with (first | (refine kld (n:=nBd) H2.out.b1 H2.out.ib.len ?_) | (go_at_call 30; refine (HL2.out _ H2.out).mono ?_; rintro e w3 ⟨hb3,ds,rfl,-⟩; have H3:=Lh (H2.out.next hb3); clear hb3))
  go_ret
  exact ⟨by rw [HR2.out]; rfl,H3.out.bel⟩
 by_cases e4:q=4
 ·subst e4
  have HR2:=Lh (HR.out.trans ((if_neg (by decide)).trans ((if_neg (by decide)).trans (if_pos rfl))));clear HR HL;obtain ⟨q0,q1⟩:=H2.out.b0.c2;go_wp2_with (first | (refine kld (n:=nBd) H2.out.b1 H2.out.ib.len ?_) | (go_at_call 59; refine (HFi.out _ H2.out).mono ?_; rintro e w3 ⟨hb3,ds,rfl,-⟩; have H3:=Lh (H2.out.next hb3); clear hb3))
  go_ret
  exact ⟨by rw [HR2.out]; rfl,H3.out.bel⟩
 by_cases e10:q=10
 ·subst e10
  have HR2:=Lh (HR.out.trans ((if_neg (by decide)).trans ((if_neg (by decide)).trans ((if_neg (by decide)).trans (if_pos rfl)))));clear HR HL;have q0:=H2.out.b0.cell 0 rfl;go_wp2_with (first | (refine kld (n:=nBd) H2.out.b1 H2.out.ib.len ?_) | (go_at_call 63; refine (HG.out _ H2.out).mono ?_; rintro e w3 ⟨hb3,ds,rfl,-⟩; have H3:=Lh (H2.out.next hb3); clear hb3))
  go_ret
  exact ⟨by rw [HR2.out]; rfl,H3.out.bel⟩
 have HR2:=Lh (HR.out.trans ((if_neg e1).trans ((if_neg e7).trans ((if_neg e4).trans (if_neg e10)))));have f1:(q==1)=false:=by simpa using e1
 have f7:(q==7)=false:=by simpa using e7
 have f4:(q==4)=false:=by simpa using e4
 have f10:(q==10)=false:=by simpa using e10
 clear HR HL e1 e7 e4 e10;by_cases e11:q=11
 ·subst e11
  go_wp2_with fail
  go_ret
  exact ⟨by rw [HR2.out]; rfl,H2.out.bel⟩
 ·have f11:(q==11)=false:=by simpa using e11
  have HR3:=Lh (HR2.out.trans (decide_eq_true e11));clear e11;go_wp2_with fail
  go_ret
  exact ⟨by rw [HR3.out]; rfl,H2.out.bel⟩
def wrdQ (k:Int):ByteArray:=if k=0 then ⟨#[115,116,97,114,116]⟩ else if k=1 then ⟨#[108,111,99,107]⟩ else if k=2 then ⟨#[112,117,115,104]⟩ else if k=3 then ⟨#[102,114,101,101]⟩ else if k=4 then ⟨#[119,97,105,116]⟩ else if k=5 then ⟨#[102,101,116,99,104]⟩ else if k=6 then ⟨#[108,111,111,107]⟩ else if k=7 then ⟨#[115,104,117,116]⟩ else if k=8 then ⟨#[115,101,97,108]⟩ else if k=9 then ⟨#[111,112,101,110]⟩ else if k=10 then ⟨#[97,119,97,121]⟩ else ⟨#[100,111,110,101]⟩
def Wq (W:World):Prop:=∀ i:Nat,i<12→W.cell? ⟨0,i,none⟩=some (.string (wrdQ i))
theorem Wq.next (h:Wq W) (hb:Below W.heap.size W W'):Wq W':=fun i hi=>(hb.cell (p:=⟨0,i,none⟩) (World.block_lt_of_cell? _ _ (h i hi))).trans (h i hi)
theorem state16 (y:Wy) (h0:0≤y.q) (h1:y.q≤11) (w:World) (hw:Wq w):Calls Tryz.prog 65 #[.agg (wyL y).toArray] w (Rt (.string (wrdQ y.q)) w):=by
 have H:=Lh (And.intro (Blk.start w (wyL y) WAY) (And.intro (bA (w:=w) (o:=.cells ⟨wyL y⟩ WAY)) (hw.next (bA (w:=w) (o:=.cells ⟨wyL y⟩ WAY)))));clear hw;obtain ⟨k,hk⟩:∃ k:Nat,y.q=(k:Int):=⟨y.q.toNat,by omega⟩
 have HK:=Lh hk;have hk12:k<12:=by omega
 clear hk h0 h1
 go_enter Tryz.func65,Tryz.ntmps65
 go_upto_region 1 with fail
 generalize w.alloc _=W2 at *
 have q:=H.out.1.cell 13 rfl;rw [show (Value.int .i64 y.q)=.int .i64 (k:Int) by rw [HK.out]] at q;have q2:=H.out.2.2 k hk12;go_wp2_with fail
 go_ret
 exact ⟨by rw [HK.out]; rfl,H.out.2.1⟩
theorem wy_res (y:Wy):∀ j u,(anL y.x)[j]? = some u→(wyL y)[15+j]? = some u
 | 0,_,h=>h
 | 1,_,h=>h
 | 2,_,h=>h
 | _+3,_,h=>by cases h
theorem res16 (y:Wy):QC 66 #[.agg (wyL y).toArray] (.agg (anL (resW y)).toArray):=fun w=>by
 have HD:=Lh (done_any y);obtain ⟨d,hd⟩:∃ d,doneW y=d:=⟨_,rfl⟩
 obtain ⟨x,hx⟩:∃ x,resW y=x:=⟨_,rfl⟩
 have HX:=Lh (show x=if d=true then y.x else ⟨0,0,⟨#[]⟩⟩ from by
  rw [←hx,←hd]; unfold resW doneW;by_cases e:y.q=11
  ·rw [if_pos e,if_pos (decide_eq_true e)]
  ·rw [if_neg e,if_neg (by simpa using e)])
 rw [hd] at HD;rw [hx];clear hd hx
 go_enter Tryz.func66,Tryz.ntmps66
 go_upto_region 1 with fail
 generalize hW2:World.alloc (World.alloc w _) _=W2;have hb:Below w.heap.size w W2:=by rw [←hW2]; exact bA.alloc (by simp) _
 have H:=Lh (show Below w.heap.size w W2∧Blk W2 w.heap.size (wyL y) WAY∧Blk W2 (w.heap.size+1) [.int .i64 0,.int .i64 0,.string ⟨#[]⟩] RES from ⟨hb,by rw [←hW2]; exact (Blk.start w _ _).alloc _,by rw [←hW2]; exact Blk.startAt (by simp)⟩);clear hW2 hb
 cases d
 ·have HX2:=Lh (show x=⟨0,0,⟨#[]⟩⟩ from HX.out)
  clear HX;go_wp2_with (first | (refine kld (n:=18) H.out.2.1 rfl ?_) | (refine kst (n:=3) H3.out.2 rfl rfl (an_one ⟨0,0,⟨#[]⟩⟩) (fun w4 hw4=>?_)) | (go_at_call 26; refine (HD.out _).mono ?_; rintro e w3 ⟨rfl,hb⟩; have H3:=Lh (And.intro (H.out.1.trans (hb.mono H.out.1.size)) (H.out.2.2.next hb)); clear hb H))
  have H4:=setN_all (us:=anL ⟨0,0,⟨#[]⟩⟩) H3.out.2 rfl;have h5:=setN_below (b:=w.heap.size+1) (by omega) (anL ⟨0,0,⟨#[]⟩⟩) 0 H3.out.1;rw [←hw4.out] at H4 h5;exact bodyPost_ret (res_c (n:=3) H4 rfl) rfl ⟨by rw [HX2.out],h5⟩
 ·have HX2:=Lh (show x=y.x from HX.out)
  clear HX;go_wp2_with (first | (refine kld (n:=18) H.out.2.1 rfl ?_) | (refine kldm (n:=3) (H3.out.2.2.rngT (i:=15) (us:=anL y.x) (fun j u h=>wy_res y j u h)) rfl ?_) | (refine kst (n:=3) H3.out.2.1 rfl rfl (an_one y.x) (fun w4 hw4=>?_)) | (go_at_call 26; refine (HD.out _).mono ?_; rintro e w3 ⟨rfl,hb⟩; have H3:=Lh (And.intro (H.out.1.trans (hb.mono H.out.1.size)) (And.intro (H.out.2.2.next hb) (H.out.2.1.next hb))); clear hb H))
  have H4:=setN_all (us:=anL y.x) H3.out.2.1 rfl;have h5:=setN_below (b:=w.heap.size+1) (by omega) (anL y.x) 0 H3.out.1;rw [←hw4.out] at H4 h5;exact bodyPost_ret (res_c (n:=3) H4 rfl) rfl ⟨by rw [HX2.out],h5⟩
end Go.Proofs.YtemicfjmidohfaaGreatDoor
