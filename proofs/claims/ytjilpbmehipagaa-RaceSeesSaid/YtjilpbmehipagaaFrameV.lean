import Derived.Test.YtjilpbmehipagaaRows
import Derived.Test.YtjilpbmehipagaaVw13
import Derived.ProofKit
import Derived.WalkKit
import Derived.OpenShut
import Derived.Outline
import Derived.ChangeOld
import Derived.ChangeSlices
import Derived.Lib.SmallJoins
namespace Go.Proofs.Ytjilpbmehipagaa
open Go Go.Proofs Go.ChangeShapes Go.WideShapes Go.ChangeAt Go.RowKit Go.Joins
theorem own:ownKnob Try.prog.godebug=none:=by kernel_rfl
theorem laidOut:laidOutB Try.prog=true:=by kernel_rfl
theorem wfi_i64 {n:Int} (h:(Lit.int .i64 n).wf=true) : -9223372036854775808≤n∧n≤9223372036854775807:=by
 have:IntKind.i64.min≤n∧n≤IntKind.i64.max:=by simpa [Lit.wf] using h
 exact this
theorem wfi_u8 {n:Int} (h:(Lit.int .u8 n).wf=true):0≤n∧n≤255:=by
 have:IntKind.u8.min≤n∧n≤IntKind.u8.max:=by simpa [Lit.wf] using h
 exact this
section
variable {H:Type} {enc:TypeId×Value→H} {W:World} {base:Nat}
theorem open_nums {a:Option Addr} {len cap:Nat} {d:DataW H} {p:List MemPlace} {held:Bool}
  (h:DataW.Trod enc Try.prog W base (fun _=>true) held 48 (.slice a len cap) d p):∃ l:List Int,IsL W (.slice a len cap) l:=by
 obtain ⟨fuel,hf⟩:=h;rcases open_ints Try.underlying48 Try.underlying3 (by kernel_rfl) hf with ⟨hcs,_⟩ | ⟨x,n,c,zs,hcs,_,hl,hm,hz,_,hc,_⟩
 ·simp [Value.cells] at hcs
  obtain ⟨rfl,rfl,rfl⟩:=hcs;exact ⟨[],none,0,rfl,Nat.le_refl _,by omega,fun h=>absurd rfl h⟩
 ·simp [Value.cells] at hcs
  obtain ⟨rfl,rfl,rfl⟩:=hcs;simp only [if_true] at hz
  have hlt:(zs.take len).length=len:=by rw [List.length_take]; omega
  refine ⟨zs.take len,some x,cap,by rw [hlt],by rw [hlt]; exact hl,by unfold maxLen at hm; omega,fun hne=>?_⟩;have hpos:0<len:=by
   rcases Nat.eq_zero_or_pos len with h | h
   ·subst h; simp at hne
   ·exact h
  obtain ⟨b,off,spot⟩:=x;have h00:=hc 0 (by omega);have hspot:spot=none:=by simpa [Addr.add] using World.cell?_spot h00
  subst hspot;rw [Addr.add_mid] at h00;refine ⟨b,off,rfl,World.block_lt_of_cell? _ _ h00,fun j hj=>?_⟩;have h:=hc j (by omega);rw [Addr.add_mid] at h;rw [h,List.getElem_take,List.getD_eq_getElem?_getD,List.getElem?_eq_getElem (by omega)];rfl
end
end Go.Proofs.Ytjilpbmehipagaa
