/-
 PROVED: the law VersionEdits returns true for every slice of acts, every two whole numbers and every character, and each argument reads afterwards as it read before (the tied card).
 Conditions: the row's own (the library's listed tables read as the program's text lays them; the card ties that).
-/
import Derived.Test.YtmodpjhffbledaaGreatDoorFrameH
import Derived.Test.YtmodpjhffbledaaGreatDoorVe8
import Derived.Test.YtmodpjhffbledaaGreatDoorVer
set_option maxRecDepth 100000
set_option maxHeartbeats 12800000
namespace Go.Proofs.YtmodpjhffbledaaGreatDoor
open Go Go.Proofs Go.ChangeShapes Go.WideShapes Go.ChangeAt Go.RowKit Go.Joins Go.Deep
theorem vedits_long (hAw : Awake8Ok) (ad : Option Addr) (n cap : Nat) (site at_ ch : Int) (w : World) (h : 40 < n) (hp : Pows w) (ht : Tabs w) :
  Calls Tryz.prog 4 #[.slice ad n cap, .int .i64 site, .int .i64 at_, .int .i32 ch] w fun e w' => e = .returned (.bool true) ∧ Below w.heap.size w w' := by
 have HB := Lh (And.intro hp ht);have HAW := Lh hAw;have h' : (40 : Int) < (n : Int) := by omega
 clear hAw hp ht
 go_enter Tryz.func4, Tryz.ntmps4
 go_wp2_with (go_at_call 5; refine (HAW.out _ HB.out.1 HB.out.2).mono ?_; rintro e w1 ⟨rfl, hb⟩)
 go_ret
 exact ⟨rfl, hb⟩
theorem vedits_any (H : VAll) (hA7 : Awake7Ok) (v : Value) (l : List Act8) (site at_ ch : Int) (h0 : -9223372036854775808 ≤ at_) (h1 : at_ ≤ 9223372036854775807) (lo : -2147483648 ≤ ch) (hi : ch ≤ 2147483647) (w : World) (hl : IsActs w v l) (hp : Pows w) (ht : Tabs w) :
  Calls Tryz.prog 4 #[v, .int .i64 site, .int .i64 at_, .int .i32 ch] w fun e w' => e = .returned (.bool true) ∧ Below w.heap.size w w' := by
 obtain ⟨ad, cap, rfl, e1, e2, e3⟩ := hl;by_cases h : l.length ≤ 40
 ·exact vedits_main H (awake8_any H hA7) ad cap l site at_ ch h0 h1 lo hi w h e1 e2 e3 hp ht
 ·exact vedits_long (awake8_any H hA7) ad l.length cap site at_ ch w (by omega) hp ht
theorem ved_lifted (os : Os) (started : os.Started) (H : Type) (enc : TypeId × Value → H) :
  ReturnsInHanded {} Tryz.checked os 4 .any (fun w args => (Rows.versionEditsSpec.pre enc Tryz.prog Tryz.f4 [] false w args ∧ laidMetH Tryz.prog laid6 w) ∧ sizedMet enc Tryz.prog Tryz.f4 (OpenSpec.ofChange Rows.versionEditsSpec) false w args)
   (Rows.versionEditsSpec.post enc Tryz.prog Tryz.f4 false true false false) := by
 refine returnsInHanded_of_change_and (C := Tryz.checked) (X := fun w _ => laidMetH Tryz.prog laid6 w) (fun _ _ _ hh h => h.of_heap hh) own started (by kernel_rfl) Tryz.func4
  (ChangeSpec.witness_shaped (enc := enc) (C := Tryz.checked) (os := os) (X := fun w _ => laidMetH Tryz.prog laid6 w) false (World.laidAll Tryz.prog os laid6) #[.slice none 0 0, .int .i64 0, .int .i64 0, .int .i32 0] 8 (World.laidAll_os _ _ _) (World.shaped_of_ZipB (by kernel_rfl) (by kernel_rfl)) (by kernel_rfl) (by kernel_rfl) (by kernel_rfl) (all_met os _)) ?_
 intro W base args ds gs before hval0 hW _ _ hL _
 have hval : ∀ (j : Nat) t v, Tryz.f4.params[j]? = some t → args[j]? = some v → Value.okWide Tryz.prog W .any base t v := hval0;have hW' := hW;obtain ⟨p, q, hA0, hV, rfl, hfz, hnd⟩ := hW;have hA : DataW.TrodAll enc Tryz.prog W 0 (fun _ => true) true Tryz.f4.params.toList args.toList ds p := hA0;rw [Tryz.params4] at hA hval;obtain ⟨v0, v1, v2, v3, d0, d1, d2, d3, p0, p1, p2, p3, rfl, rfl, rfl, h0, h1, h2, h3⟩ := trodAll_four hA;obtain ⟨rfl, rfl⟩ := trodVars_none hV;have lt0 : ∀ x ∈ p0, x.block < W.heap.size := by obtain ⟨m, hm⟩ := h0; exact DataW.trod_lt m _ _ _ hm
 have lt1 : ∀ x ∈ p1, x.block < W.heap.size := by obtain ⟨m, hm⟩ := h1; exact DataW.trod_lt m _ _ _ hm
 have lt2 : ∀ x ∈ p2, x.block < W.heap.size := by obtain ⟨m, hm⟩ := h2; exact DataW.trod_lt m _ _ _ hm
 have lt3 : ∀ x ∈ p3, x.block < W.heap.size := by obtain ⟨m, hm⟩ := h3; exact DataW.trod_lt m _ _ _ hm
 obtain ⟨a0, len0, cap0, rfl⟩ := okWide_slice Tryz.underlying22 (hval 0 22 v0 rfl rfl);obtain ⟨l, hl⟩ := open_acts h0;obtain ⟨site, e1, _, _⟩ := open_int Tryz.underlying3 (hval 1 3 v1 rfl rfl) h1;subst e1;obtain ⟨at_, e2, _, wx⟩ := open_int Tryz.underlying3 (hval 2 3 v2 rfl rfl) h2;subst e2;obtain ⟨ch, e3, _, wc⟩ := open_int Tryz.underlying21 (hval 3 21 v3 rfl rfl) h3;subst e3;have hx := wf_i64 (n := at_) wx.2;have hc := wf_i32 (n := ch) wc.2;have hlib := libs8_of_laid hL;clear hA0 hval0;refine (vedits_any vall_ok awake7_ok _ l site at_ ch hx.1 hx.2 hc.1 hc.2 W hl hlib.1 hlib.2).mono fun e W' ⟨he, bel⟩ => ?_
 subst he;exact ⟨_, rfl, _, _, _, [], _, [], hW', trodAll_mk1 (shut_bool Tryz.underlying4 _), trodAll_mk4 (Below.trod laidOut (by kernel_rfl) (of_decide_eq_true (by kernel_rfl)) h0 bel lt0) (Below.trod laidOut (by kernel_rfl) (of_decide_eq_true (by kernel_rfl)) h1 bel lt1) (Below.trod laidOut (by kernel_rfl) (of_decide_eq_true (by kernel_rfl)) h2 bel lt2) (Below.trod laidOut (by kernel_rfl) (of_decide_eq_true (by kernel_rfl)) h3 bel lt3), rfl, bel.frame _, fun h => by cases h⟩
theorem ved_row : Rows.VersionEditsSaid :=
 OpenClaim.holds_of_wide 4 Tryz.f4 rfl rfl rfl rfl rfl rfl rfl ⟨rfl, rfl, rfl, rfl, rfl⟩ rfl rfl rfl rfl rfl (by kernel_rfl) Tryz.func4 (by kernel_rfl)
  (of_decide_eq_true (by kernel_rfl)) (by unfold Func.isWrapper; first | (rw [if_pos (by decide +kernel)]; kernel_rfl) | (rw [if_neg (by decide +kernel)]; exact ⟨rfl, rfl⟩))
  (fun os started H enc _ => ved_lifted os started H enc)
theorem versionEdits_holds : Rows.VersionEditsCardSaid :=
 Claim7.holds_tied_plain_at .later [] [.data, .data, .data, .data, .pinned, .pinned] true Rows.versionEditsCard.stood.harness false
  ved_row (fun _ h => by cases h) (by kernel_rfl) (fun _ h => by cases h) versionEdits_row_tie rfl ⟨rfl, rfl⟩ (by kernel_rfl) rfl
  (fun f fn hf hfn => by
   obtain rfl : f = 4 := Option.some.inj ((show Tryz.prog.funcNamed "selvedge/selvedgelaw08.VersionEdits" = some 4 by kernel_rfl).symm.trans hf) |>.symm
   obtain rfl : fn = Tryz.f4 := (Option.some.inj (Tryz.func4.symm.trans hfn)).symm;exact ⟨by kernel_rfl, fun j t ht => by
    rw [Tryz.params4] at ht;have hm : t ∈ [22, 3, 3, 21] := by simpa using Array.mem_of_getElem? ht
    have hall : ([22, 3, 3, 21].all fun u => !Tryz.prog.wantsStandIn u) = true := by kernel_rfl
    exact (show Tryz.prog.wantsStandIn t = false by simpa using List.all_eq_true.1 hall t hm)⟩)
  (by kernel_rfl)
end Go.Proofs.YtmodpjhffbledaaGreatDoor
