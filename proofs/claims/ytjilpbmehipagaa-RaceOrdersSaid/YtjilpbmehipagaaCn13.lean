import Derived.Test.YtjilpbmehipagaaVa13
import Derived.Deep.OwnRows
import Derived.Laws.IdiomCopy
namespace Go.Proofs.Ytjilpbmehipagaa
open Go Go.Proofs Go.RowKit
theorem mk_nums (n:Nat) (hn:n≤100000) (W:World):(Instr.makeSlice 49 (.int .i64 (n:Int)) (.int .i64 (n:Int))).run Try.prog W=.ok (.slice (some ⟨W.heap.size,0,none⟩) n n) (W.alloc (.cells ⟨arL (List.replicate n 0)⟩ 3)):=by
 have h:=run_make_row' (P:=Try.prog) 49 3 (.int .i64 0) 8 Try.underlying49 (by kernel_rfl) rfl .i64 .i64 n (by omega) (by omega) W;have e:madeCells #[Value.int .i64 0] n=⟨arL (List.replicate n 0)⟩:=by
  apply Array.ext
  ·simp [size_madeCells,arL]
  ·intro i h1 h2; simp [madeCells,Nat.mod_one,arL]
 rw [h,e]
theorem wpl_cpy {P:Program} {w:World} {ops:Array Oper} {rest:List Oper} {o:Oper} {a:Act} {Q:Exit→Act→World→Prop} {x y:Operand} {t t':TypeId} (hgd:o.guard=none)
  (ho:o.op=.call { callee:=.builtin .copy,args := #[x,y],argTypes := #[t,t'] }) {u v v':Value} {w':World} (hx:a.eval x=u) (hy:a.eval y=v)
  (hr:(Builtin.copy_ #[t,t'] o.type #[u,v]).run P w=.ok v' w') (h:wpList P ops Q rest (a.put o.dst v') w'):wpList P ops Q (o::rest) a w:=
 wpList_plain hgd fun _ hK=>by
  unfold Oper.wp execOp
  simp only [ho,resolve,invoke,builtin,Sem.run_bind,Sem.run_pure,Result.andThen_ok,List.map_toArray,List.map_cons,List.map_nil,hx,hy,hr]
  exact hK _ _ h
theorem cp_nums {A Z:List Int} {n g:Nat} {v:Value} {W:World} {t:TypeId} (hA:IsL W v A) (hB:Blk W g (arL Z) t) (hZ:Z.length=n) (hl:A.length≤n):∃ W2 r,(∀ ty,(Builtin.copy_ #[49,49] ty #[.slice (some ⟨g,0,none⟩) n n,v]).run Try.prog W=.ok r W2)∧Blk W2 g (arL (A++Z.drop A.length)) t∧(∀ B w0,B≤g→Below B w0 W→Below B w0 W2)∧W2.heap.size=W.heap.size:=by
 obtain ⟨ad,cap,rfl,h1,h2,h3⟩:=hA;rcases Nat.eq_zero_or_pos A.length with h0 | h0
 ·have hA0:=List.length_eq_zero_iff.1 h0
  subst hA0;exact ⟨W,_,fun ty=>run_copy_none W _ _ ty 3 _ _ n n 0 cap Try.underlying49 (by kernel_rfl) (by simp),by simpa using hB,fun _ _ _ h=>h,rfl⟩
 ·obtain ⟨b,off,rfl,hb,hc⟩:=h3 (List.length_pos_iff.1 h0)
  have hlz:(arL A).length≤(arL Z).length:=by simp [arL]; omega
  refine ⟨W.setCells g 0 (arL A),_,fun ty=>run_copy_cells W _ _ ty 3 g 0 n n ⟨b,off,none⟩ A.length cap (arL A) Try.underlying49 (by kernel_rfl) (by simp [arL]; exact (Nat.min_eq_left hl).symm) ?_ ?_ (fun j _=>hB.free _) (ar_one A),?_,fun B w0 hg h=>belC hg _ 0 h,?_⟩
  ·intro j u hu
   rw [Addr.add_mid];have hj:j<A.length:=by have:=(List.getElem?_eq_some_iff.1 hu).1; simpa [arL] using this
   rw [hc j hj];simp only [arL,List.getElem?_map,List.getElem?_eq_getElem hj,Option.map_some] at hu
   exact hu
  ·intro j hj
   rw [Nat.zero_add,hB.cell j (List.getElem?_eq_getElem (by omega))]; rfl
  ·have h:=blkC (arL A) (arL Z) 0 W hB (by omega)
   simpa [arL] using h
  ·have:∀ (vs:List Value) (i:Nat) (W:World),(W.setCells g i vs).heap.size=W.heap.size:=by
    intro vs
    induction vs with
    | nil=>intro i W; rfl
    | cons v vs ih=>intro i W; simp only [World.setCells]; rw [ih]; simp
   exact this _ _ _
end Go.Proofs.Ytjilpbmehipagaa
