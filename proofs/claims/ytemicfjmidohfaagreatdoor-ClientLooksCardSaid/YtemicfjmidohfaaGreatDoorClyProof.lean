/-
 PROVED: the law ClientLooks returns true for every two small numbers and every two calls, and each argument reads afterwards as it read before (the tied card).
 Conditions: the row's own (the library's listed tables read as the program's text lays them; the card ties that).
-/
import Derived.Test.YtemicfjmidohfaaGreatDoorYb
import Derived.Test.YtemicfjmidohfaaGreatDoorJu16
import Derived.Test.YtemicfjmidohfaaGreatDoorJv16
import Derived.Test.YtemicfjmidohfaaGreatDoorYc
import Derived.Test.YtemicfjmidohfaaGreatDoorRy
set_option maxRecDepth 100000
namespace Go.Proofs.YtemicfjmidohfaaGreatDoor
open Go Go.Proofs Go.ChangeShapes Go.WideShapes Go.ChangeAt Go.RowKit Go.Joins Go.Deep
theorem cly_lifted (os:Os) (started:os.Started) (H:Type) (enc:TypeId×Value→H):
  ReturnsInHanded {} Tryz.checked os 5 .any (fun w args=>(Rows.clientLooksSpec.pre enc Tryz.prog Tryz.f5 [] false w args∧laidMetH Tryz.prog laidQ w)∧sizedMet enc Tryz.prog Tryz.f5 (OpenSpec.ofChange Rows.clientLooksSpec) false w args)
   (Rows.clientLooksSpec.post enc Tryz.prog Tryz.f5 false true false false):=by
 refine returnsInHanded_of_change_and (C:=Tryz.checked) (X:=fun w _=>laidMetH Tryz.prog laidQ w) (fun _ _ _ hh h=>h.of_heap hh) own started (by kernel_rfl) Tryz.func5
  (ChangeSpec.witness_shaped (enc:=enc) (C:=Tryz.checked) (os:=os) (X:=fun w _=>laidMetH Tryz.prog laidQ w) false (World.laidAll Tryz.prog os laidQ) #[.int .u8 0,.agg #[.int .i64 0,.int .i64 0,.int .i32 0,.int .i64 0,.int .i64 0,.int .i64 0,.int .i64 0,.int .i64 0,.int .i32 0,.int .i64 0,.int .i64 0],.agg #[.int .i64 0,.int .i64 0,.int .i32 0,.int .i64 0,.int .i64 0,.int .i64 0,.int .i64 0,.int .i64 0,.int .i32 0,.int .i64 0,.int .i64 0],.int .u8 0] 8 (World.laidAll_os _ _ _) (World.shaped_of_ZipB (by kernel_rfl) (by kernel_rfl)) (by kernel_rfl) (by kernel_rfl) (by kernel_rfl) (all_metQ os _)) ?_
 intro W base args ds gs before hval0 hW _ _ hL _
 have hval:∀ (j:Nat) t v,Tryz.f5.params[j]? = some t→args[j]? = some v→Value.okWide Tryz.prog W .any base t v:=hval0;have hW':=hW;obtain ⟨p,q,hA0,hV,rfl,hfz,hnd⟩:=hW;have hA:DataW.TrodAll enc Tryz.prog W 0 (fun _=>true) true Tryz.f5.params.toList args.toList ds p:=hA0;rw [Tryz.params5] at hA hval;obtain ⟨v0,v1,v2,v3,d0,d1,d2,d3,p0,p1,p2,p3,rfl,rfl,rfl,h0,h1,h2,h3⟩:=trodAll_four hA;obtain ⟨rfl,rfl⟩:=trodVars_none hV;have lt0:∀ x∈p0,x.block<W.heap.size:=by obtain ⟨m,hm⟩:=h0; exact DataW.trod_lt m _ _ _ hm
 have lt1:∀ x∈p1,x.block<W.heap.size:=by obtain ⟨m,hm⟩:=h1; exact DataW.trod_lt m _ _ _ hm
 have lt2:∀ x∈p2,x.block<W.heap.size:=by obtain ⟨m,hm⟩:=h2; exact DataW.trod_lt m _ _ _ hm
 have lt3:∀ x∈p3,x.block<W.heap.size:=by obtain ⟨m,hm⟩:=h3; exact DataW.trod_lt m _ _ _ hm
 obtain ⟨s,e0,_,wx0⟩:=open_int Tryz.underlying5 (hval 0 5 v0 rfl rfl) h0;subst e0;have hx0:=wf_b8 (n:=s) wx0.2;obtain ⟨c,rfl⟩:=open_cl16 (hval 1 75 v1 rfl rfl) h1;obtain ⟨d,rfl⟩:=open_cl16 (hval 2 75 v2 rfl rfl) h2;obtain ⟨k,e3,_,wx3⟩:=open_int Tryz.underlying5 (hval 3 5 v3 rfl rfl) h3;subst e3;have hx3:=wf_b8 (n:=k) wx3.2;have hlib:=libsQ_of_laid hL;clear hA0 hval0;refine (clooks_main ball_ok (awake16_any ball_ok (awake15_any ball_ok (awake12_any rpl_ok (awake11_any vall_ok call_ok (awake8_any vall_ok awake7_ok))) (awake14_of rc_ok (awake13_of vc_ok)))) s k hx0.1 hx0.2 hx3.1 hx3.2 c d W hlib.1.1 hlib.1.2 hlib.2).mono fun e W' ⟨he,bel⟩=>?_
 subst he;exact ⟨_,rfl,_,_,_,[],_,[],hW',trodAll_mk1 (shut_bool Tryz.underlying4 _),trodAll_mk4 (Below.trod laidOut (by kernel_rfl) (of_decide_eq_true (by kernel_rfl)) h0 bel lt0) (Below.trod laidOut (by kernel_rfl) (of_decide_eq_true (by kernel_rfl)) h1 bel lt1) (Below.trod laidOut (by kernel_rfl) (of_decide_eq_true (by kernel_rfl)) h2 bel lt2) (Below.trod laidOut (by kernel_rfl) (of_decide_eq_true (by kernel_rfl)) h3 bel lt3),rfl,bel.frame _,fun h=>by cases h⟩
theorem cly_row:Rows.ClientLooksSaid:=
 OpenClaim.holds_of_wide 5 Tryz.f5 rfl rfl rfl rfl rfl rfl rfl ⟨rfl,rfl,rfl,rfl,rfl⟩ rfl rfl rfl rfl rfl (by kernel_rfl) Tryz.func5 jf_all
  (of_decide_eq_true (by kernel_rfl)) (by unfold Func.isWrapper; first | (rw [if_pos (by decide +kernel)]; kernel_rfl) | (rw [if_neg (by decide +kernel)]; exact ⟨rfl,rfl⟩))
  (fun os started H enc _=>cly_lifted os started H enc)
theorem clientLooks_holds:Rows.ClientLooksCardSaid:=
 Claim7.holds_tied_plain_at .later [] [.data,.data,.data,.data,.data,.pinned,.pinned] true Rows.clientLooksCard.stood.harness false
  cly_row (fun _ h=>by cases h) (by kernel_rfl) (fun _ h=>by cases h) clientLooks_row_tie rfl ⟨rfl,rfl⟩ (by kernel_rfl) rfl
  (fun f fn hf hfn=>by
   obtain rfl:f=5:=Option.some.inj ((show Tryz.prog.funcNamed "selvedge/selvedgelaw16.ClientLooks" = some 5 by kernel_rfl).symm.trans hf) |>.symm
   obtain rfl:fn=Tryz.f5:=(Option.some.inj (Tryz.func5.symm.trans hfn)).symm;exact ⟨by kernel_rfl,fun j t ht=>by
    rw [Tryz.params5] at ht;have hm:t∈[5,75,75,5]:=by simpa using Array.mem_of_getElem? ht
    have hall:([5,75,75,5].all fun u => !Tryz.prog.wantsStandIn u)=true:=by kernel_rfl
    exact (show Tryz.prog.wantsStandIn t=false by simpa using List.all_eq_true.1 hall t hm)⟩)
  jc_go
end Go.Proofs.YtemicfjmidohfaaGreatDoor
