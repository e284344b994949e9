/-
  PROVED: the law RaceOrders returns true for every slice of acts and every three small numbers, and each argument reads afterwards as it read before. No condition narrows it.
-/

import Derived.Test.YtjilpbmehipagaaFrameR
import Derived.Test.YtjilpbmehipagaaRck
import Derived.Test.YtjilpbmehipagaaRo14
set_option maxRecDepth 100000
namespace Go.Proofs.Ytjilpbmehipagaa
open Go Go.Proofs Go.ChangeShapes Go.WideShapes Go.ChangeAt Go.RowKit Go.Joins
theorem ror_lifted (os:Os) (started:os.Started) (H:Type) (enc:TypeId×Value→H):
  ReturnsInHanded {} Try.checked os 4 .any (Rows.raceOrdersSpec.pre6 enc Try.prog Try.f4 Rows.raceOrdersRow.domain false) (Rows.raceOrdersSpec.post enc Try.prog Try.f4 false true false false):=by
 refine returnsInHanded_of_change (C:=Try.checked) own started (by kernel_rfl) Try.func4
  (ChangeSpec.witness6 (enc:=enc) (C:=Try.checked) false ⟨#[],#[.slice none 0 0,.int .u8 0,.int .u8 0,.int .u8 0],[]⟩ 8 (by kernel_rfl) (by kernel_rfl) (by kernel_rfl) (by kernel_rfl)) ?_
 intro W base args ds gs before hval0 hW hcnd _
 have hval:∀ (j:Nat) t v,Try.f4.params[j]? = some t→args[j]? = some v→Value.okWide Try.prog W .any base t v:=hval0;have hW':=hW;obtain ⟨p,q,hA0,hV,rfl,hfz,hnd⟩:=hW;have hA:DataW.TrodAll enc Try.prog W 0 (fun _=>true) true Try.f4.params.toList args.toList ds p:=hA0;rw [Try.params4] at hA hval;obtain ⟨v0,v1,v2,v3,d0,d1,d2,d3,p0,p1,p2,p3,rfl,rfl,rfl,h0,h1,h2,h3⟩:=trodAll_four hA;obtain ⟨rfl,rfl⟩:=trodVars_none hV;have lt0:∀ x∈p0,x.block<W.heap.size:=by obtain ⟨m,hm⟩:=h0; exact DataW.trod_lt m _ _ _ hm
 have lt1:∀ x∈p1,x.block<W.heap.size:=by obtain ⟨m,hm⟩:=h1; exact DataW.trod_lt m _ _ _ hm
 have lt2:∀ x∈p2,x.block<W.heap.size:=by obtain ⟨m,hm⟩:=h2; exact DataW.trod_lt m _ _ _ hm
 have lt3:∀ x∈p3,x.block<W.heap.size:=by obtain ⟨m,hm⟩:=h3; exact DataW.trod_lt m _ _ _ hm
 obtain ⟨a0,len0,cap0,rfl⟩:=okWide_slice Try.underlying22 (hval 0 22 v0 rfl rfl);obtain ⟨l0,hl0,hq0⟩:=open_racts h0;obtain ⟨n1,e1,_,wx1⟩:=open_int Try.underlying5 (hval 1 5 v1 rfl rfl) h1;subst e1;have hx1:=wfi_u8 (n:=n1) wx1.2;obtain ⟨n2,e2,_,wx2⟩:=open_int Try.underlying5 (hval 2 5 v2 rfl rfl) h2;subst e2;have hx2:=wfi_u8 (n:=n2) wx2.2;obtain ⟨n3,e3,_,wx3⟩:=open_int Try.underlying5 (hval 3 5 v3 rfl rfl) h3;subst e3;have hx3:=wfi_u8 (n:=n3) wx3.2;clear hA0 hval0;refine (rorders_main rc_ok (awake14_of rc_ok (awake13_of vc_ok)) l0 hq0 _ n1 n2 n3 hx1.1 hx1.2 hx2.1 hx2.2 hx3.1 hx3.2 W hl0).mono fun e W' ⟨he,bel⟩=>?_
 subst he;exact ⟨_,rfl,_,_,_,[],_,[],hW',trodAll_mk1 (shut_bool Try.underlying4 _),trodAll_mk4 (Below.trod laidOut (by kernel_rfl) (of_decide_eq_true (by kernel_rfl)) h0 bel lt0) (Below.trod laidOut (by kernel_rfl) (of_decide_eq_true (by kernel_rfl)) h1 bel lt1) (Below.trod laidOut (by kernel_rfl) (of_decide_eq_true (by kernel_rfl)) h2 bel lt2) (Below.trod laidOut (by kernel_rfl) (of_decide_eq_true (by kernel_rfl)) h3 bel lt3),rfl,bel.frame _,fun h=>by cases h⟩
theorem raceOrders_holds:Rows.RaceOrdersSaid:=
 OpenClaim.holds_of_wide 4 Try.f4 rfl rfl rfl rfl rfl rfl rfl ⟨rfl,rfl,rfl,rfl,rfl⟩ rfl rfl rfl rfl rfl (by kernel_rfl) Try.func4 (by kernel_rfl)
  (of_decide_eq_true (by kernel_rfl)) (by unfold Func.isWrapper; first | (rw [if_pos (by decide +kernel)]; kernel_rfl) | (rw [if_neg (by decide +kernel)]; exact ⟨rfl,rfl⟩))
  (fun os started H enc _=>ror_lifted os started H enc)
end Go.Proofs.Ytjilpbmehipagaa
