import Derived.Test.YtemicfjmidohfaaGreatDoorLCor
namespace Go.Proofs.YtemicfjmidohfaaGreatDoor
open Go Go.Proofs Go.RowKit
def twB (o x:Oq):Bool:=sameB x o
def clB (o x:Oq):Bool:=decide (x.k=0∧o.k=0∧x.c=o.c∧x.s=o.s)
def addE (l:List Oq) (o:Oq):Int:=
 if chkE o.k o.c o.s o.a o.n o.ch≠0 then chkE o.k o.c o.s o.a o.n o.ch
 else if 0≤fnd (twB o) l 0 then 4 else if 0≤fnd (clB o) l 0 then 5 else if 16≤l.length then 7 else 0
def addL (l:List Oq) (o:Oq):List Oq:=if addE l o=0 then l++[o] else l
def nxB (m:List Oq) (x:Oq):Bool:=decide (wrongE m x≠6)
def nxI (m l:List Oq):Int:=fnd (nxB m) l 0
def topI (l:List Oq):Int:=l.foldl (fun n x=>if n<x.c then x.c else n) 0
section
variable {l:List Oq} {o:Oq}
theorem add_chk (h:chkE o.k o.c o.s o.a o.n o.ch≠0):addE l o=chkE o.k o.c o.s o.a o.n o.ch∧addL l o=l:=by
 have e:addE l o=chkE o.k o.c o.s o.a o.n o.ch:=by unfold addE; rw [if_pos h]
 exact ⟨e,by unfold addL; rw [if_neg (by rw [e]; exact h)]⟩
theorem add_tw (h:chkE o.k o.c o.s o.a o.n o.ch=0) (h1:0≤fnd (twB o) l 0):addE l o=4∧addL l o=l:=by
 have e:addE l o=4:=by unfold addE; rw [if_neg (by simp [h]),if_pos h1]
 exact ⟨e,by unfold addL; rw [if_neg (by rw [e]; decide)]⟩
theorem add_cl (h:chkE o.k o.c o.s o.a o.n o.ch=0) (h1:fnd (twB o) l 0<0) (h2:0≤fnd (clB o) l 0):addE l o=5∧addL l o=l:=by
 have e:addE l o=5:=by unfold addE; rw [if_neg (by simp [h]),if_neg (by omega),if_pos h2]
 exact ⟨e,by unfold addL; rw [if_neg (by rw [e]; decide)]⟩
theorem add_full (h:chkE o.k o.c o.s o.a o.n o.ch=0) (h1:fnd (twB o) l 0<0) (h2:fnd (clB o) l 0<0) (h3:16≤l.length):addE l o=7∧addL l o=l:=by
 have e:addE l o=7:=by unfold addE; rw [if_neg (by simp [h]),if_neg (by omega),if_neg (by omega),if_pos h3]
 exact ⟨e,by unfold addL; rw [if_neg (by rw [e]; decide)]⟩
theorem add_ok (h:chkE o.k o.c o.s o.a o.n o.ch=0) (h1:fnd (twB o) l 0<0) (h2:fnd (clB o) l 0<0) (h3:l.length<16):addE l o=0∧addL l o=l++[o]:=by
 have e:addE l o=0:=by unfold addE; rw [if_neg (by simp [h]),if_neg (by omega),if_neg (by omega),if_neg (by omega)]
 exact ⟨e,by unfold addL; rw [if_pos e]⟩
end
theorem add_len {l:List Oq} {o:Oq} (h:l.length≤16):(addL l o).length≤16:=by
 unfold addL
 split
 ·rename_i he
  have:l.length<16:=by
   rcases Nat.lt_or_ge l.length 16 with h1 | h1
   ·exact h1
   ·unfold addE at he
    split at he
    ·rename_i h2; exact absurd he h2
    ·split at he
     ·cases he
     ·split at he
      ·cases he
      ·first | omega | (split at he <;> first | cases he | omega)
  simp; omega
 ·exact h
theorem top_ge (l:List Oq):0≤topI l:=by
 have H:∀ (l:List Oq) (n:Int),n≤l.foldl (fun n x=>if n<x.c then x.c else n) n:=by
  intro l
  induction l with
  | nil=>intro n; exact Int.le_refl _
  | cons x l ih=>
   intro n
   simp only [List.foldl_cons]
   refine Int.le_trans ?_ (ih _);split <;> omega
 exact H l 0
theorem nx_lt {m l:List Oq} (h:0≤nxI m l):∃ i:Nat,nxI m l=(i:Int)∧i<l.length:=by
 rcases fnd_spec (nxB m) l 0 with ⟨h1,_⟩ | ⟨i,hi,h1,_⟩
 ·unfold nxI at h; omega
 ·exact ⟨i,by unfold nxI; rw [h1]; simp,hi⟩
def IsP7 (W:World) (v:Value) (L:List Oq):Prop:=Sl 73 6 oqL W v L
theorem IsP7.next {W W':World} {v:Value} {L:List Oq} (h:IsP7 W v L) (hb:Below W.heap.size W W'):IsP7 W' v L:=Sl.next h hb
theorem IsP7.at {W:World} {a:Option Addr} {n cap:Nat} {L:List Oq} (h:IsP7 W (.slice a n cap) L) (k:Nat) (hk:k<L.length):∃ g,a=some ⟨g,0,none⟩∧g<W.heap.size∧∀ X,Below W.heap.size W X→OC X g k L[k]:=by
 obtain ⟨g,e,hg,hj⟩:=Sl.cell oqL_len h k hk;refine ⟨g,e,hg,fun X hb=>?_⟩;have hj':∀ j,j<6→X.cell? ⟨g,k * 6+j,none⟩=(oqL L[k])[j]? := fun j h=>by rw [hb.cell (show (⟨g,k * 6+j,none⟩:Addr).block<_ from hg)]; exact hj j h
 exact ⟨hj' 0 (by omega),hj' 1 (by omega),hj' 2 (by omega),hj' 3 (by omega),hj' 4 (by omega),hj' 5 (by omega)⟩
theorem top_take {l:List Oq} {k:Nat} (h:k<l.length):topI (l.take (k+1))=if topI (l.take k)<l[k].c then l[k].c else topI (l.take k):=by
 unfold topI; rw [List.take_succ_eq_append_getElem h,List.foldl_append]; rfl
theorem tw_no {o x:Oq} (h:¬ x=o):twB o x=false:=by
 unfold twB
 cases hb:sameB x o with
 | false=>rfl
 | true=>exact absurd (sameB_iff.1 hb) h
def PLenOk:Prop:=∀ (l:List Oq) (s:Value) (w:World),l.length≤16→IsP7 w s l→Calls Tryz.prog 234 #[.agg #[s]] w (Rt (.int .i64 (l.length:Int)) w)
def PTopOk:Prop:=∀ (l:List Oq) (s:Value) (w:World),l.length≤16→IsP7 w s l→Calls Tryz.prog 209 #[.agg #[s]] w (Rt (.int .i64 (topI l)) w)
def PAddOk:Prop:=∀ (l:List Oq) (o:Oq) (s:Value) (w:World),l.length≤16→IsP7 w s l →
 Calls Tryz.prog 220 #[.agg #[s],.agg o] w fun r w'=>Below w.heap.size w w'∧∃ s',r=.returned (.tuple #[.agg #[s'],.int .i64 (addE l o)])∧IsP7 w' s' (addL l o)
def zeroOq:Oq:=⟨0,0,0,0,0,0,by decide,by decide⟩
def PNextOk (N:Nat):Prop:=∀ (m l:List Oq) (s:Value) (p q:Option Addr) (T:Tr) (P:Pt) (w:World),m.length≤N→OkO m→StO w m p q T P→l.length≤16→IsP7 w s l →
 Calls Tryz.prog 219 #[.agg #[s],.agg #[.pointer p,.pointer q,.int .i64 (cnt P)]] w fun r w'=>Below w.heap.size w w'∧∃ (s':Value) (l':List Oq) (x:Oq),
  r=.returned (.tuple #[.agg #[s'],.agg x,.bool (decide (0≤nxI m l))])∧IsP7 w' s' l' ∧
  ((nxI m l<0∧l'=l∧x=zeroOq)∨∃ (i:Nat) (hi:i<l.length),nxI m l=(i:Int)∧x=l[i]∧l'=l.eraseIdx i)
structure I7 (w:World) (s:Value) (W:World):Prop where
 bel:Below w.heap.size w W
 bs:Blk W w.heap.size [s] 38
end Go.Proofs.YtemicfjmidohfaaGreatDoor
