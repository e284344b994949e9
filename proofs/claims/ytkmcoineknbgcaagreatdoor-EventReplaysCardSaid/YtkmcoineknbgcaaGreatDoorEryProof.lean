/-
 PROVED: the law EventReplays returns true for every slice of acts and every byte, and each argument reads afterwards as it read before (the tied card).
 Conditions: the row's own (the library's listed tables read as the program's text lays them; the card ties that).
-/
import Derived.Test.YtkmcoineknbgcaaGreatDoorFrameH
import Derived.Test.YtkmcoineknbgcaaGreatDoorEr9
import Derived.Test.YtkmcoineknbgcaaGreatDoorVer
import Derived.Test.YtkmcoineknbgcaaGreatDoorEvt
set_option maxRecDepth 100000
set_option maxHeartbeats 12800000
namespace Go.Proofs.YtkmcoineknbgcaaGreatDoor
open Go Go.Proofs Go.ChangeShapes Go.WideShapes Go.ChangeAt Go.RowKit Go.Joins Go.Deep
theorem ereplays_long (hAw:Awake9Ok) (ad:Option Addr) (n cap:Nat) (fr:Int) (w:World) (h:40<n) (hp:Pows w) (ht:Tabs w):
  Calls Tryz.prog 3 #[.slice ad n cap,.int .u8 fr] w fun e w'=>e=.returned (.bool true)∧Below w.heap.size w w':=by
 have HB:=Lh (And.intro hp ht);have HAW:=Lh hAw;have h':(40:Int)<(n:Int):=by omega
 clear hAw hp ht
 go_enter Tryz.func3,Tryz.ntmps3
 go_wp2_with (go_at_call 4; refine (HAW.out _ HB.out.1 HB.out.2).mono ?_; rintro e w1 ⟨rfl,hb⟩)
 go_ret
 exact ⟨rfl,hb⟩
theorem ereplays_any (H:VAll) (hA7:Awake7Ok) (HE:EAll) (v:Value) (l:List Act8) (fr:Int) (h0:0≤fr) (h1:fr≤255) (w:World) (hl:IsActs w v l) (hp:Pows w) (ht:Tabs w):
  Calls Tryz.prog 3 #[v,.int .u8 fr] w fun e w'=>e=.returned (.bool true)∧Below w.heap.size w w':=by
 obtain ⟨ad,cap,rfl,e1,e2,e3⟩:=hl;by_cases h:l.length≤40
 ·exact ereplays_main H HE (awake9_any HE (awake8_any H hA7)) ad cap l fr h0 h1 w h e1 e2 e3 hp ht
 ·exact ereplays_long (awake9_any HE (awake8_any H hA7)) ad l.length cap fr w (by omega) hp ht
theorem evr_lifted (os:Os) (started:os.Started) (H:Type) (enc:TypeId×Value→H):
  ReturnsInHanded {} Tryz.checked os 3 .any (fun w args=>(Rows.eventReplaysSpec.pre enc Tryz.prog Tryz.f3 [] false w args∧laidMetH Tryz.prog laid6 w)∧sizedMet enc Tryz.prog Tryz.f3 (OpenSpec.ofChange Rows.eventReplaysSpec) false w args)
   (Rows.eventReplaysSpec.post enc Tryz.prog Tryz.f3 false true false false):=by
 refine returnsInHanded_of_change_and (C:=Tryz.checked) (X:=fun w _=>laidMetH Tryz.prog laid6 w) (fun _ _ _ hh h=>h.of_heap hh) own started (by kernel_rfl) Tryz.func3
  (ChangeSpec.witness_shaped (enc:=enc) (C:=Tryz.checked) (os:=os) (X:=fun w _=>laidMetH Tryz.prog laid6 w) false (World.laidAll Tryz.prog os laid6) #[.slice none 0 0,.int .u8 0] 8 (World.laidAll_os _ _ _) (World.shaped_of_ZipB (by kernel_rfl) (by kernel_rfl)) (by kernel_rfl) (by kernel_rfl) (by kernel_rfl) (all_met os _)) ?_
 intro W base args ds gs before hval0 hW _ _ hL _
 have hval:∀ (j:Nat) t v,Tryz.f3.params[j]? = some t→args[j]? = some v→Value.okWide Tryz.prog W .any base t v:=hval0;have hW':=hW;obtain ⟨p,q,hA0,hV,rfl,hfz,hnd⟩:=hW;have hA:DataW.TrodAll enc Tryz.prog W 0 (fun _=>true) true Tryz.f3.params.toList args.toList ds p:=hA0;rw [Tryz.params3] at hA hval;obtain ⟨v0,v1,d0,d1,p0,p1,rfl,rfl,rfl,h0,h1⟩:=trodAll_two hA;obtain ⟨rfl,rfl⟩:=trodVars_none hV;have lt0:∀ x∈p0,x.block<W.heap.size:=by obtain ⟨m,hm⟩:=h0; exact DataW.trod_lt m _ _ _ hm
 have lt1:∀ x∈p1,x.block<W.heap.size:=by obtain ⟨m,hm⟩:=h1; exact DataW.trod_lt m _ _ _ hm
 obtain ⟨a0,len0,cap0,rfl⟩:=okWide_slice Tryz.underlying22 (hval 0 22 v0 rfl rfl);obtain ⟨l,hl⟩:=open_acts h0;obtain ⟨fr,e1,_,wx⟩:=open_int Tryz.underlying5 (hval 1 5 v1 rfl rfl) h1;subst e1;have hx:=wf_u8 (n:=fr) wx.2;have hlib:=libs8_of_laid hL;clear hA0 hval0;refine (ereplays_any vall_ok awake7_ok eall_ok _ l fr hx.1 hx.2 W hl hlib.1 hlib.2).mono fun e W' ⟨he,bel⟩=>?_
 subst he;exact ⟨_,rfl,_,_,_,[],_,[],hW',trodAll_mk1 (shut_bool Tryz.underlying4 _),trodAll_mk2 (Below.trod laidOut (by kernel_rfl) (of_decide_eq_true (by kernel_rfl)) h0 bel lt0) (Below.trod laidOut (by kernel_rfl) (of_decide_eq_true (by kernel_rfl)) h1 bel lt1),rfl,bel.frame _,fun h=>by cases h⟩
theorem evr_row:Rows.EventReplaysSaid:=
 OpenClaim.holds_of_wide 3 Tryz.f3 rfl rfl rfl rfl rfl rfl rfl ⟨rfl,rfl,rfl,rfl,rfl⟩ rfl rfl rfl rfl rfl (by kernel_rfl) Tryz.func3 (by kernel_rfl)
  (of_decide_eq_true (by kernel_rfl)) (by unfold Func.isWrapper; first | (rw [if_pos (by decide +kernel)]; kernel_rfl) | (rw [if_neg (by decide +kernel)]; exact ⟨rfl,rfl⟩))
  (fun os started H enc _=>evr_lifted os started H enc)
theorem eventReplays_holds:Rows.EventReplaysCardSaid:=
 Claim7.holds_tied_plain_at .later [] [.data,.data,.data,.data,.pinned,.pinned] true Rows.eventReplaysCard.stood.harness true
  evr_row (fun _ h=>by cases h) (by kernel_rfl) (fun _ h=>by cases h) eventReplays_row_tie rfl ⟨rfl,rfl⟩ (by kernel_rfl) rfl
  (fun f fn hf hfn=>by
   obtain rfl:f=3:=Option.some.inj ((show Tryz.prog.funcNamed "selvedge/selvedgelaw09.EventReplays" = some 3 by kernel_rfl).symm.trans hf) |>.symm
   obtain rfl:fn=Tryz.f3:=(Option.some.inj (Tryz.func3.symm.trans hfn)).symm;exact ⟨by kernel_rfl,fun j t ht=>by
    rw [Tryz.params3] at ht;have hm:t∈[22,5]:=by simpa using Array.mem_of_getElem? ht
    have hall:([22,5].all fun u => !Tryz.prog.wantsStandIn u)=true:=by kernel_rfl
    exact (show Tryz.prog.wantsStandIn t=false by simpa using List.all_eq_true.1 hall t hm)⟩)
  (by kernel_rfl)
end Go.Proofs.YtkmcoineknbgcaaGreatDoor
