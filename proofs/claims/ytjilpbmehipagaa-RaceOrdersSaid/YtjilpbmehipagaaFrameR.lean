import Derived.Test.YtjilpbmehipagaaFrameV
import Derived.Test.YtjilpbmehipagaaRw14
import Derived.Deep.Strs
import Derived.Deep.Slices
namespace Go.Proofs.Ytjilpbmehipagaa
open Go Go.Proofs Go.ChangeShapes Go.WideShapes Go.ChangeAt Go.RowKit Go.Joins Go.Deep
section
variable {H:Type} {enc:TypeId×Value→H} {W:World} {base:Nat}
instance:Inhabited Ac:=⟨⟨0,0,0⟩⟩
theorem cellsRa:Try.prog.cellsOf 31=3:=by kernel_rfl
theorem cellsRi:Try.prog.cellsOf 3=1:=by kernel_rfl
theorem cellsRk:Try.prog.cellsOf 29=1:=by kernel_rfl
theorem ra_cells {sp:Nat→Bool} {held:Bool} {n:Nat} {cs:List Value} {y:DataW H×List MemPlace} (h:DataW.trod enc Try.prog W base sp held n 31 cs=some y):∃ x:Ac,cs=acL x ∧ -9223372036854775808≤x.l∧x.l≤9223372036854775807:=by
 obtain ⟨y0,y1,y2,m,_,hl,g0,g1,g2⟩:=trod_struct3 Try.underlying31 h;rw [cellsRa] at hl
 match cs,hl with
 | [c0,c1,c2],_=>
  simp only [cellsRi,cellsRk,List.drop_zero,List.drop_succ_cons,List.take_succ_cons,List.take_zero] at g0 g1 g2
  obtain ⟨t,e0,_,_⟩:=DataW.trod_int Try.underlying3 g0;obtain ⟨k,e1,_,_⟩:=DataW.trod_int Try.underlying29 g1;obtain ⟨l,e2,_,wl⟩:=DataW.trod_int Try.underlying3 g2;simp only [List.cons.injEq,and_true] at e0 e1 e2
  exact ⟨⟨t,k,l⟩,by rw [e0,e1,e2]; rfl,wfi_i64 (n:=l) wl⟩
theorem open_racts {a:Option Addr} {len cap:Nat} {d:DataW H} {p:List MemPlace} {sp:Nat→Bool} {held:Bool}
  (h:DataW.Trod enc Try.prog W base sp held 22 (.slice a len cap) d p):∃ l:List Ac,IsAc W (.slice a len cap) l∧LocOk l:=by
 obtain ⟨fuel,hf⟩:=h;rcases Go.Deep.open_slice Try.underlying22 hf with ⟨hcs,_⟩ | ⟨x,len',cap',m,n,D,Pl,hcs,_,hl,hm,hmm,_,hx⟩
 ·simp [Value.cells] at hcs
  obtain ⟨rfl,rfl,rfl⟩:=hcs;exact ⟨[],⟨none,0,rfl,Nat.le_refl _,by omega,fun h=>absurd rfl h⟩,fun x hx=>by cases hx⟩
 ·simp [Value.cells] at hcs
  obtain ⟨rfl,rfl,rfl⟩:=hcs;have hlm:len≤m:=by rw [hmm]; split <;> omega
  have each:∀ i,i<len→∃ q:Ac,(∀ j,j<3→W.cell? (x.add (i * 3+j))=(acL q)[j]?) ∧ -9223372036854775808≤q.l∧q.l≤9223372036854775807:=fun i hi=>by
   obtain ⟨cs',h1,h2⟩:=hx i (by omega);rw [cellsRa] at h1;obtain ⟨q,rfl,hqr⟩:=ra_cells h2;obtain ⟨_,_,hcell⟩:=World.cells?_some h1;refine ⟨q,fun j hj=>?_,hqr⟩;have:=hcell j hj;rw [add_add] at this;exact this
  obtain ⟨q,hq2⟩:=choose_lt each;have hq:=fun i hi=>(hq2 i hi).1
  refine ⟨(List.range len).map q,⟨some x,cap,by simp,by simpa using hl,by unfold maxLen at hm; omega,?_⟩,?_⟩
  rotate_left
  ·intro y hy
   obtain ⟨i,hi,rfl⟩:=List.mem_map.1 hy;exact (hq2 i (List.mem_range.1 hi)).2
  intro hne
  have hpos:0<len:=by
   rcases Nat.eq_zero_or_pos len with h | h
   ·subst h; simp at hne
   ·exact h
  obtain ⟨b,off,spot⟩:=x;have h00:=hq 0 hpos 0 (by omega);have hspot:spot=none:=by simpa [Addr.add] using World.cell?_spot h00
  subst hspot;simp only [Addr.add_mid] at hq h00
  refine ⟨b,off,rfl,World.block_lt_of_cell? _ _ h00,fun j hj=>?_⟩;have hj':j<len:=by simpa using hj
  have:=hq j hj';simp only [List.getElem_map,List.getElem_range]
  exact ⟨this 0 (by omega),by rw [Nat.add_assoc]; exact this 1 (by omega),by rw [Nat.add_assoc]; exact this 2 (by omega)⟩
end
end Go.Proofs.Ytjilpbmehipagaa
