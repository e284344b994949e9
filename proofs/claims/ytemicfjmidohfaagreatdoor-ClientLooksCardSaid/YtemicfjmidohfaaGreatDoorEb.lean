import Derived.Test.YtemicfjmidohfaaGreatDoorVd8
import Derived.Test.YtemicfjmidohfaaGreatDoorPend
import Derived.Laws.Cover4
import Derived.Lib.DecodeN
import Derived.Deep.CutRange
namespace Go.Proofs.YtemicfjmidohfaaGreatDoor
open Go Go.Proofs Go.RowKit
theorem Sl.kt {α:Type} {t:TypeId} {m:Nat} {f:α→List Value} {W W':World} (hk:KT t W W') {v:Value} {L:List α} (h:Sl t m f W v L):Sl t m f W' v L:=by
 rcases h with h | ⟨g,cap,cur,rfl,hg,h⟩
 ·exact .inl h
 ·exact .inr ⟨g,cap,cur,rfl,hk g cur.toList hg,h⟩
theorem IsV.kt {W W':World} {m l:List Oq} {cs:List Value} (h:IsV W m l cs) (h1:KT 363 W W') (h2:KT 353 W W') (h3:KT 73 W W') (hs:W.heap.size≤W'.heap.size):IsV W' m l cs:=by
 obtain ⟨p,q,T,P,s,a,b,c⟩:=h.ex;exact ⟨p,q,T,P,s,a.kt h1 h2 hs,Sl.kt h3 b,c⟩
theorem Sl.setZ {t:TypeId} {W:World} {b:Nat} (hB:Blk W b (oqL zeroO) t) {v:Value} {L:List Oq} (h:Sl t 6 oqL W v L) (hr:RmO L) (x:Oq):Sl t 6 oqL (setN W b 0 (oqL x)) v L:=by
 rcases h with h | ⟨g,cap,cur,rfl,hg,h1,h2,h3⟩
 ·exact .inl h
 ·by_cases hgb:g=b
  ·subst hgb
   cases L with
   | nil=>exact .inr ⟨g,cap,_,rfl,setN_blk (oqL x) 0 hB,h1,h2,rfl⟩
   | cons y L=>
    exfalso
    have hy:=hr y (List.mem_cons_self ..);unfold Blk at hB
    rw [hB] at hg;simp only [Option.some.injEq,Obj.cells.injEq] at hg
    obtain ⟨hg,_⟩:=hg;rw [←hg] at h3;have h5:(oqL zeroO).take ((y::L).length * 6)=oqL zeroO:=List.take_of_length_le (by rw [oqL_len,List.length_cons]; omega);have h6:oqL zeroO=(y::L).flatMap oqL:=h5.symm.trans h3;have h4:=congrArg (fun l:List Value=>l[1]?) h6;simp [oqL,zeroO] at h4
    rw [mayB] at hy;simp at hy
    omega
  ·exact .inr ⟨g,cap,cur,rfl,by rw [setN_other (oqL x) 0 hgb]; exact hg,h1,h2,h3⟩
theorem IsV.setO {W:World} {b:Nat} {m l:List Oq} {cs:List Value} (hB:Blk W b (oqL zeroO) 73) (h:IsV W m l cs) (hr:RmO l) (x:Oq):IsV (setN W b 0 (oqL x)) m l cs:=by
 obtain ⟨p,q,T,P,s,h1,h2,h3⟩:=h.ex;exact ⟨p,q,T,P,s,h1.kt (KT.setN (by decide) _ 0 hB) (KT.setN (by decide) _ 0 hB) (Nat.le_of_eq (setN_size _ 0).symm),Sl.setZ hB h2 hr x,h3⟩
end Go.Proofs.YtemicfjmidohfaaGreatDoor
namespace Go.Proofs.YtemicfjmidohfaaGreatDoor
open Go Go.Proofs Go.RowKit
structure VAll:Prop where
 rm:VRemoteOk
 ins:VInsertOk
 del:VDeleteOk
 txt:VTextOk
 len:VLenOk
 seq:VSeqOk
 tal:VTallyOk
 bef:VBeforeOk
 nam:VNamedOk
theorem isv_nil (w:World):IsV w [] [] [.pointer none,.pointer none,.int .i64 0,.slice none 0 0,.int .i64 0,.int .i64 0,.complex .f64 0 0,.complex .f64 0 0]:=
 ⟨none,none,.nil,.nil,.slice none 0 0,StO.nil w,.inl ⟨rfl,rfl⟩,by
  have h:fl 0=0:=fl_zero;have hc:cnt .nil=0:=cnt_nil;have e:idsO []=[]:=rfl;rw [hc,e]
  show ([.pointer none,.pointer none,.int .i64 0,.slice none 0 0,.int .i64 0,.int .i64 0,.complex .f64 0 0,.complex .f64 0 0]:List Value)=[.pointer none,.pointer none,.int .i64 0,.slice none 0 0,.int .i64 0,.int .i64 0,.complex .f64 (fl 0) (fl 0),.complex .f64 (fl 0) (fl 0)]
  rw [h]⟩
def Awake8Ok:Prop:=∀ w:World,Pows w→Tabs w→Calls Tryz.prog 139 #[] w (Rt (.bool true) w)
end Go.Proofs.YtemicfjmidohfaaGreatDoor
namespace Go.Proofs.YtemicfjmidohfaaGreatDoor
open Go Go.Proofs Go.RowKit
abbrev StF (c:Value):Prop:=∀ (W:World) (a:Addr) (m:Mode),(store a c m).run Tryz.prog W=match W.cell? a with
 | some _=>if W.frozen? a then .halt (.unsupported (.unsafePointer "a write to bytes that a string shares")) W else .ok () (W.setCell a c)
 | none=>match W.farStore Tryz.prog a c (m == .atomic) with
  | .ok (w',_)=>.ok () w'
  | .error h=>.halt h W
theorem st8 {c0 c1 c2 c3 c4 c5 c6 c7:Value} (h:∀ u∈[c0,c1,c2,c3,c4,c5,c6,c7],u.oneCell'=true):StF c0∧StF c1∧StF c2∧StF c3∧StF c4∧StF c5∧StF c6∧StF c7:=
 have k:∀ u∈[c0,c1,c2,c3,c4,c5,c6,c7],StF u:=fun u hu W a m=>run_store Tryz.prog W a u m (h u hu)
 ⟨k c0 (by simp),k c1 (by simp),k c2 (by simp),k c3 (by simp),k c4 (by simp),k c5 (by simp),k c6 (by simp),k c7 (by simp)⟩
end Go.Proofs.YtemicfjmidohfaaGreatDoor
namespace Go.Proofs.YtemicfjmidohfaaGreatDoor
open Go Go.Proofs Go.RowKit
def aliN (L:List El):Int:=(rkL L (L.length:Int):Int)
def cuE (L:List El) (k:Int):Int:=if k<0∨aliN L<k then 2 else 0
def reE (L:List El) (c s:Int):Int:=if noneB c s=true then 0 else if fnd (elB c s) L 0<0 then 6 else 0
def reN (L:List El) (c s:Int):Int:=if noneB c s=true then aliN L else (rkL L (fnd (elB c s) L 0):Int)
theorem ali_sum (L:List El):aliN L=((L.map El.al).sum:Int):=by unfold aliN; rw [rkL_len]
theorem sl_end:∀ (L:List El) (k:Nat),(L.map El.al).sum≤k→slL L k=L.length
 | [],_,_=>rfl
 | x::L,k,h=>by
  rw [List.map_cons,List.sum_cons] at h;unfold slL
  cases hd:x.d with
  | true=>rw [if_pos rfl,sl_end L k (by omega),List.length_cons]
  | false=>
   have ha:El.al x=1:=by simp [El.al,hd]
   rw [if_neg (by simp),if_neg (by omega),sl_end L (k - 1) (by omega),List.length_cons]
theorem nam_end (L:List El) (k:Int) (h:k<0∨aliN L≤k):namC L k=(0,0):=by
 unfold namC
 split
 ·rfl
 ·rename_i hk
  rw [ali_sum] at h;rw [sl_end L k.toNat (by omega),List.getElem?_eq_none (Nat.le_refl _)]
end Go.Proofs.YtemicfjmidohfaaGreatDoor
namespace Go.Proofs.YtemicfjmidohfaaGreatDoor
open Go Go.Proofs Go.RowKit
def CAtOk:Prop:=∀ (m l:List Oq) (n:Nat) (k:Int) (c0 c1 c2 c3 c4 c5 c6 c7:Value) (w:World),VOk m l n→n≤130 → -9223372036854775808≤k→k≤9223372036854775807→IsV w m l [c0,c1,c2,c3,c4,c5,c6,c7] →
 Calls Tryz.prog 131 #[.agg #[c0,c1,c2,c3,c4,c5,c6,c7],k] w (Rt (.tuple #[.agg #[.int .i64 (namC (docR m) k).1,.int .i64 (namC (docR m) k).2],.int .i64 (cuE (docR m) k)]) w)
def CReOk:Prop:=∀ (m l:List Oq) (n:Nat) (a b:Int) (c0 c1 c2 c3 c4 c5 c6 c7:Value) (w:World),VOk m l n→n≤130→IsV w m l [c0,c1,c2,c3,c4,c5,c6,c7] →
 Calls Tryz.prog 134 #[.agg #[a,b],.agg #[c0,c1,c2,c3,c4,c5,c6,c7]] w (Rt (.tuple #[.int .i64 (reN (docR m) a b),.int .i64 (reE (docR m) a b)]) w)
structure CAll:Prop where
 at_:CAtOk
 re:CReOk
def Awake11Ok:Prop:=∀ w:World,Pows w→Tabs w→Calls Tryz.prog 85 #[] w (Rt (.bool true) w)
end Go.Proofs.YtemicfjmidohfaaGreatDoor
namespace Go.Proofs.YtemicfjmidohfaaGreatDoor
open Go Go.Proofs Go.RowKit
theorem bel1 (w:World) (l:Array Value) (t:TypeId):Below w.heap.size w (w.alloc (.cells l t)):=bA
end Go.Proofs.YtemicfjmidohfaaGreatDoor
namespace Go.Proofs.YtemicfjmidohfaaGreatDoor
open Go Go.Proofs Go.RowKit
theorem bel2 (w:World) (l l':Array Value) (t t':TypeId):Below w.heap.size w ((w.alloc (.cells l t)).alloc (.cells l' t')):=(bel1 w l t).alloc (by simp) _
end Go.Proofs.YtemicfjmidohfaaGreatDoor
