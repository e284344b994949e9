import Derived.Test.YtemicfjmidohfaaGreatDoorRb
import Derived.Test.YtemicfjmidohfaaGreatDoorAwakeB
namespace Go.Proofs.YtemicfjmidohfaaGreatDoor
open Go Go.Proofs Go.RowKit
def idsO (m:List Oq):List (Int×Int):=(m.filter fun x=>decide (x.k=0)).map fun x=>(x.c,x.s)
theorem ids_may {m:List Oq} (h:RmO m):Mays (idsO m):=by
 intro x hx
 unfold idsO at hx
 obtain ⟨y,hy,rfl⟩:=List.mem_map.1 hx;exact h y (List.mem_filter.1 hy).1
theorem ids_len (m:List Oq):(idsO m).length≤m.length:=by
 unfold idsO; rw [List.length_map]; exact List.length_filter_le _ _
structure IsV (W:World) (m l:List Oq) (cs:List Value):Prop where
 ex:∃ (p q:Option Addr) (T:Tr) (P:Pt) (s:Value),StO W m p q T P∧IsP7 W s l∧cs=[.pointer p,.pointer q,.int .i64 (cnt P),s,.int .i64 (m.length:Int),.int .i64 (nL (idsO m)),.complex .f64 (fl (cL (idsO m))) (fl (sL (idsO m))),.complex .f64 (fl (rL (idsO m))) (fl (iL (idsO m)))]
theorem IsV.next {W W':World} {m l:List Oq} {cs:List Value} (h:IsV W m l cs) (hb:Below W.heap.size W W'):IsV W' m l cs:=by
 obtain ⟨p,q,T,P,s,h1,h2,h3⟩:=h.ex;exact ⟨p,q,T,P,s,h1.next hb,h2.next hb,h3⟩
theorem IsV.one {W:World} {m l:List Oq} {cs:List Value} (h:IsV W m l cs):∀ u∈cs,u.oneCell'=true:=by
 obtain ⟨p,q,T,P,s,h1,h2,rfl⟩:=h.ex;obtain ⟨a,c,rfl,-,-⟩:=h2.form;intro u hu
 simp only [List.mem_cons,List.not_mem_nil,or_false] at hu
 rcases hu with rfl | rfl | rfl | rfl | rfl | rfl | rfl | rfl <;> rfl
def IsVC (W:World) (v:Value) (L:List Chg):Prop:=Sl 297 6 chgL W v L
theorem IsVC.next {W W':World} {v:Value} {L:List Chg} (h:IsVC W v L) (hb:Below W.heap.size W W'):IsVC W' v L:=Sl.next h hb
def VTextOk:Prop:=∀ (m l:List Oq) (n:Nat) (c0 c1 c2 c3 c4 c5 c6 c7:Value) (w:World),VOk m l n→n≤130→IsV w m l [c0,c1,c2,c3,c4,c5,c6,c7]→Tabs w→Calls Tryz.prog 127 #[.agg #[c0,c1,c2,c3,c4,c5,c6,c7]] w (Rt (.string (txtS (docR m))) w)
def VLenOk:Prop:=∀ (m l:List Oq) (n:Nat) (c0 c1 c2 c3 c4 c5 c6 c7:Value) (w:World),VOk m l n→n≤130→IsV w m l [c0,c1,c2,c3,c4,c5,c6,c7]→Calls Tryz.prog 129 #[.agg #[c0,c1,c2,c3,c4,c5,c6,c7]] w (Rt (.int .i64 (rkL (docR m) ((docR m).length:Int):Int)) w)
def VSeqOk:Prop:=∀ (m l:List Oq) (n:Nat) (c0 c1 c2 c3 c4 c5 c6 c7:Value) (w:World),VOk m l n→n≤130→IsV w m l [c0,c1,c2,c3,c4,c5,c6,c7]→Calls Tryz.prog 119 #[.agg #[c0,c1,c2,c3,c4,c5,c6,c7]] w (Rt (.int .i64 (m.length:Int)) w)
def VTallyOk:Prop:=∀ (m l:List Oq) (n:Nat) (c0 c1 c2 c3 c4 c5 c6 c7:Value) (w:World),VOk m l n→n≤130→IsV w m l [c0,c1,c2,c3,c4,c5,c6,c7]→Calls Tryz.prog 136 #[.agg #[c0,c1,c2,c3,c4,c5,c6,c7]] w (Rt (.agg #[.int .i64 (nL (idsO m)),.complex .f64 (fl (cL (idsO m))) (fl (sL (idsO m))),.complex .f64 (fl (rL (idsO m))) (fl (iL (idsO m)))]) w)
def VBeforeOk:Prop:=∀ (m l:List Oq) (n:Nat) (a b:Int) (c0 c1 c2 c3 c4 c5 c6 c7:Value) (w:World),VOk m l n→n≤130→IsV w m l [c0,c1,c2,c3,c4,c5,c6,c7]→Calls Tryz.prog 191 #[.agg #[c0,c1,c2,c3,c4,c5,c6,c7],.agg #[a,b]] w (Rt (.tuple #[.int .i64 (rkL (docR m) (fnd (elB a b) (docR m) 0):Int),.bool (decide (0≤fnd (elB a b) (docR m) 0))]) w)
def VNamedOk:Prop:=∀ (m l:List Oq) (n:Nat) (k:Int) (c0 c1 c2 c3 c4 c5 c6 c7:Value) (w:World),VOk m l n→n≤130 → -9223372036854775808≤k→k≤9223372036854775807→IsV w m l [c0,c1,c2,c3,c4,c5,c6,c7]→Calls Tryz.prog 181 #[.agg #[c0,c1,c2,c3,c4,c5,c6,c7],k] w (Rt (.tuple #[.agg #[.int .i64 (namC (docR m) k).1,.int .i64 (namC (docR m) k).2],.bool (!noneB (namC (docR m) k).1 (namC (docR m) k).2)]) w)
def VRemoteOk:Prop:=∀ (m l:List Oq) (n:Nat) (o:Oq) (c0 c1 c2 c3 c4 c5 c6 c7:Value) (w:World),VOk m l n→n≤130→IsV w m l [c0,c1,c2,c3,c4,c5,c6,c7]→Calls Tryz.prog 124 #[.agg #[c0,c1,c2,c3,c4,c5,c6,c7],.agg o] w fun r w'=>Below w.heap.size w w'∧∃ d0 d1 d2 d3 d4 d5 d6 d7 lc,r=.returned (.tuple #[.agg #[d0,d1,d2,d3,d4,d5,d6,d7],lc,.int .i64 (remE m l o)])∧IsV w' (remT m l o).1 (remT m l o).2.1 [d0,d1,d2,d3,d4,d5,d6,d7]∧IsVC w' lc (remT m l o).2.2
def VInsertOk:Prop:=∀ (m l:List Oq) (n:Nat) (site at_ ch:Int) (lo : -2147483648≤ch) (hi:ch≤2147483647) (c0 c1 c2 c3 c4 c5 c6 c7:Value) (w:World),VOk m l n→n≤130 → -9223372036854775808≤at_→at_≤9223372036854775807→IsV w m l [c0,c1,c2,c3,c4,c5,c6,c7]→Calls Tryz.prog 117 #[.agg #[c0,c1,c2,c3,c4,c5,c6,c7],site,at_,.int .i32 ch] w fun r w'=>Below w.heap.size w w'∧∃ d0 d1 d2 d3 d4 d5 d6 d7 lc x,x=opP (inE8 m l site at_ ch lo hi) (inV8 m l site at_ ch lo hi)∧r=.returned (.tuple #[.agg #[d0,d1,d2,d3,d4,d5,d6,d7],.agg x,lc,.int .i64 (inE8 m l site at_ ch lo hi)])∧IsV w' (inT8 m l site at_ ch lo hi).1 (inT8 m l site at_ ch lo hi).2.1 [d0,d1,d2,d3,d4,d5,d6,d7]∧IsVC w' lc (inT8 m l site at_ ch lo hi).2.2
def VDeleteOk:Prop:=∀ (m l:List Oq) (n:Nat) (k:Int) (c0 c1 c2 c3 c4 c5 c6 c7:Value) (w:World),VOk m l n→n≤130 → -9223372036854775808≤k→k≤9223372036854775807→IsV w m l [c0,c1,c2,c3,c4,c5,c6,c7]→Calls Tryz.prog 122 #[.agg #[c0,c1,c2,c3,c4,c5,c6,c7],k] w fun r w'=>Below w.heap.size w w'∧∃ d0 d1 d2 d3 d4 d5 d6 d7 lc x,x=opP (deE8 m l k) (deV8 m k)∧r=.returned (.tuple #[.agg #[d0,d1,d2,d3,d4,d5,d6,d7],.agg x,lc,.int .i64 (deE8 m l k)])∧IsV w' (deT8 m l k).1 (deT8 m l k).2.1 [d0,d1,d2,d3,d4,d5,d6,d7]∧IsVC w' lc (deT8 m l k).2.2
def CC (X:World) (g k:Nat) (y:Chg):Prop:=
 X.cell? ⟨g,k * 6,none⟩=some (.int .i64 y.q)∧X.cell? ⟨g,k * 6+1,none⟩=some (.int .i64 y.a)∧X.cell? ⟨g,k * 6+2,none⟩=some (.int .i64 y.c)∧X.cell? ⟨g,k * 6+3,none⟩=some (.int .i64 y.s)∧X.cell? ⟨g,k * 6+4,none⟩=some (.int .i32 y.ch)∧X.cell? ⟨g,k * 6+5,none⟩=some (.bool y.d)
theorem chg_cell {t:TypeId} {W:World} {a:Option Addr} {n cap:Nat} {L:List Chg} (h:Sl t 6 chgL W (.slice a n cap) L) (k:Nat) (hk:k<L.length):∃ g,a=some ⟨g,0,none⟩∧g<W.heap.size∧∀ X,Below W.heap.size W X→CC X g k L[k]:=by
 obtain ⟨g,e,hg,hj⟩:=Sl.cell chgL_len h k hk;refine ⟨g,e,hg,fun X hb=>?_⟩;have hj':∀ j,j<6→X.cell? ⟨g,k * 6+j,none⟩=(chgL L[k])[j]? := fun j h=>by rw [hb.cell (show (⟨g,k * 6+j,none⟩:Addr).block<_ from hg)]; exact hj j h
 exact ⟨hj' 0 (by omega),hj' 1 (by omega),hj' 2 (by omega),hj' 3 (by omega),hj' 4 (by omega),hj' 5 (by omega)⟩
end Go.Proofs.YtemicfjmidohfaaGreatDoor
