/-
  The contract of the law's Awake of layer 5 (it returns true), and the walk of the law OpChecks: whatever the operation is, it returns true, and nothing that existed has changed.
-/
import Derived.Test.YtbfnehpmlngagaaDoorOpt
import Derived.Test.YtbfnehpmlngagaaDoorAwake
namespace Go.Proofs.YtbfnehpmlngagaaDoor
open Go Go.Proofs Go.RowKit

theorem ok_example : OkIns 2 1 1 3 97 := ⟨by decide, .inr (by decide), by decide, by decide, by decide, by decide⟩
theorem digB_one {c : Int} (h : 0 ≤ c) (h1 : c < 10) : digB c = ⟨#[UInt8.ofNat (48 + c.toNat)]⟩ := by
  unfold digB
  rw [Lib.decDigits_one (by omega)]
theorem txt_21 : txtB 2 1 = ⟨#[50, 46, 49]⟩ := by
  unfold txtB dotB
  rw [digB_one (by omega) (by omega), digB_one (by omega) (by omega)]
  rfl
theorem txt_13 : txtB 1 3 = ⟨#[49, 46, 51]⟩ := by
  unfold txtB dotB
  rw [digB_one (by omega) (by omega), digB_one (by omega) (by omega)]
  rfl
theorem hex_97 : hexB 97 = ⟨#[54, 49]⟩ := by
  unfold hexB
  rw [show (97 : Int).toNat = 97 from rfl, hexD_more (by omega), hexD_one (by omega)]
  rfl
theorem txt_example : insT 2 1 1 3 97 = ⟨#[43, 50, 46, 49, 32, 49, 46, 51, 32, 54, 49]⟩ := by
  have hn : noneB 1 3 = false := by decide
  unfold insT ins4 ins3 ins2 ins1 ancT
  rw [if_neg (by rw [hn]; decide), txt_21, txt_13, hex_97]
  rfl

set_option maxHeartbeats 1600000 in
theorem awake5_any (w : World) (ht : Tabs w) :
    Calls Tryd.prog 5 #[] w fun e w' => e = .returned (.bool true) ∧ Below w.heap.size w w' := by
  have hk := fun W => opcheck_any 0 2 1 1 3 97 W
  rw [chk_ins ok_example] at hk
  have hs := fun W h => opstr_ins 2 1 1 3 97 W ok_example h
  rw [txt_example] at hs
  have HK := Lib.hid hk
  have HSt := Lib.hid hs
  have H0 := Lib.hid (OpTab.start 26 0 2 1 1 3 97 w ht)
  clear ht hk hs
  go_enter Tryd.func5, Tryd.ntmps5
  go_wp2_with (go_at_call 12; refine (awake_any _ H0.out.2.1).mono ?_; rintro e w1 ⟨rfl, hb1⟩; refine Hid.out ?_)
  have H1 := Lib.hid (H0.out.next hb1)
  obtain ⟨c0, c1, c2, c3, c4, c5, -⟩ := (H0.out.next hb1).s
  clear H0 hb1
  refine Lib.hid ?_
  go_wp2_with (go_at_call 6; refine (HK.out _).mono ?_; rintro e w2 ⟨rfl, hb2⟩; refine Hid.out ?_)
  have H2 := Lib.hid (H1.out.next hb2)
  clear c0 c1 c2 c3 c4 c5
  obtain ⟨c0, c1, c2, c3, c4, c5, -⟩ := (H1.out.next hb2).s
  clear H1 hb2
  refine Lib.hid ?_
  go_wp2_with (go_at_call 9; refine (HSt.out _ H2.out.2).mono ?_; rintro e w3 ⟨rfl, hb3⟩)
  go_ret
  exact ⟨rfl, (H2.out.next hb3).1.2.1⟩

set_option maxHeartbeats 3200000 in
set_option maxRecDepth 100000 in
theorem checks_any (k c s a n ch : Int) (w : World) (ht : Tabs w) :
    Calls Tryd.prog 3 #[.agg #[.int .i64 k, .int .i64 c, .int .i64 s, .int .i64 a, .int .i64 n, .int .i32 ch]] w
      fun e w' => e = .returned (.bool true) ∧ Below w.heap.size w w' := by
  have H0 := Lib.hid (OpTab.start 26 k c s a n ch w ht)
  have HC := Lib.hid (fun W => opcheck_any k c s a n ch W)
  have HR := Lib.hid (fun W => refcheck_any k c s a n ch W)
  have HS := Lib.hid (fun W h => opstr_any k c s a n ch W h)
  have HT := Lib.hid (fun W h => optext_any k c s a n ch W h)
  clear ht
  generalize chkE k c s a n ch = e0 at *
  generalize opT k c s a n ch = t0 at *
  go_enter Tryd.func3, Tryd.ntmps3
  go_wp2_with fail
  refine wp_region_noPanic ?_
  refine wp_region_held_drew (S := (fun W => W.cell? ⟨w.heap.size, 0, none⟩ = some (.int .i64 k) ∧ W.cell? ⟨w.heap.size, 1, none⟩ = some (.int .i64 c) ∧ W.cell? ⟨w.heap.size, 2, none⟩ = some (.int .i64 s) ∧ W.cell? ⟨w.heap.size, 3, none⟩ = some (.int .i64 a) ∧ W.cell? ⟨w.heap.size, 4, none⟩ = some (.int .i64 n) ∧ W.cell? ⟨w.heap.size, 5, none⟩ = some (.int .i32 ch) ∧ OpTab w.heap.size w.heap.size 26 k c s a n ch w W)) (by kernel_rfl) ?_ (fun hHeld => ?_)
  · exact (H0.out.next (Below.refl _ _).drew).s
  clear H0
  refine wpAnyH_ready (rs := [0]) (by kernel_rfl) (by simp) ?_
  refine cons1 rfl (fun K hK => ?_) AllReadyH.nil
  go_simp
  refine (awake5_any _ hHeld.2.2.2.2.2.2.2).mono ?_
  rintro e' u1 ⟨rfl, hb⟩
  go_wp2_with fail
  refine hK.out _ _ ((hHeld.2.2.2.2.2.2.next hb).s) (fun hHeld2 => ?_)
  clear hK K hHeld hb
  have hHeld := hHeld2
  clear hHeld2
  try simp only [Act.put, List.setIfInBounds_toArray, List.set_cons_zero, List.set_cons_succ]
  refine take1 (i := 1) (v := .bool true) rfl (by kernel_rfl) (by kernel_rfl) (by kernel_rfl) (fun _ _ _ h => h) (Or.inl ⟨by rfl, fun w hSw => ?_⟩) hHeld ?_
  · (go_simp)
  try simp only [Act.put, List.setIfInBounds_toArray, List.set_cons_zero, List.set_cons_succ]
  refine take1 (i := 2) (v := .agg #[.int .i64 k, .int .i64 c, .int .i64 s, .int .i64 a, .int .i64 n, .int .i32 ch]) rfl (by kernel_rfl) (by kernel_rfl) (by kernel_rfl) (fun _ _ _ h => h) (Or.inl ⟨by rfl, fun w hSw => ?_⟩) hHeld ?_
  · (go_simp)
  try simp only [Act.put, List.setIfInBounds_toArray, List.set_cons_zero, List.set_cons_succ]
  refine take1 (i := 4) (v := .agg #[.int .i64 k, .int .i64 c, .int .i64 s, .int .i64 a, .int .i64 n, .int .i32 ch]) rfl (by kernel_rfl) (by kernel_rfl) (by kernel_rfl) (fun _ _ _ h => h) (Or.inl ⟨by rfl, fun w hSw => ?_⟩) hHeld ?_
  · (go_simp)
  try simp only [Act.put, List.setIfInBounds_toArray, List.set_cons_zero, List.set_cons_succ]
  refine wpAnyH_ready (rs := [3]) (by kernel_rfl) (by simp) ?_
  refine cons1 rfl (fun K hK => ?_) AllReadyH.nil
  go_simp
  refine (HC.out _).mono ?_
  rintro e' u2 ⟨rfl, hb⟩
  go_wp2_with fail
  refine hK.out _ _ ((hHeld.2.2.2.2.2.2.next hb).s) (fun hHeld2 => ?_)
  clear hK K hHeld hb
  have hHeld := hHeld2
  clear hHeld2
  try simp only [Act.put, List.setIfInBounds_toArray, List.set_cons_zero, List.set_cons_succ]
  refine wpAnyH_ready (rs := [5]) (by kernel_rfl) (by simp) ?_
  refine cons1 rfl (fun K hK => ?_) AllReadyH.nil
  go_simp
  refine (of5_any k c s a n ch _).mono ?_
  rintro e' u3 ⟨rfl, hb⟩
  go_wp2_with fail
  refine hK.out _ _ ((hHeld.2.2.2.2.2.2.next hb).s) (fun hHeld2 => ?_)
  clear hK K hHeld hb
  have hHeld := hHeld2
  clear hHeld2
  try simp only [Act.put, List.setIfInBounds_toArray, List.set_cons_zero, List.set_cons_succ]
  refine wpAnyH_ready (rs := [6]) (by kernel_rfl) (by simp) ?_
  refine cons1 rfl (fun K hK => ?_) AllReadyH.nil
  go_simp
  refine (HR.out _).mono ?_
  rintro e' u4 ⟨rfl, hb⟩
  go_wp2_with fail
  refine hK.out _ _ ((hHeld.2.2.2.2.2.2.next hb).s) (fun hHeld2 => ?_)
  clear hK K hHeld hb
  have hHeld := hHeld2
  clear hHeld2
  try simp only [Act.put, List.setIfInBounds_toArray, List.set_cons_zero, List.set_cons_succ]
  refine take1 (i := 7) (v := .bool true) rfl (by kernel_rfl) (by kernel_rfl) (by kernel_rfl) (fun _ _ _ h => h) (Or.inl ⟨by rfl, fun w hSw => ?_⟩) hHeld ?_
  · (go_simp)
  try simp only [Act.put, List.setIfInBounds_toArray, List.set_cons_zero, List.set_cons_succ]
  refine take1 (i := 8) (v := .bool true) rfl (by kernel_rfl) (by kernel_rfl) (by kernel_rfl) (fun _ _ _ h => h) (Or.inl ⟨by rfl, fun w hSw => ?_⟩) hHeld ?_
  · (go_simp)
  try simp only [Act.put, List.setIfInBounds_toArray, List.set_cons_zero, List.set_cons_succ]
  refine take1 (i := 9) (v := .bool true) rfl (by kernel_rfl) (by kernel_rfl) (by kernel_rfl) (fun _ _ _ h => h) (Or.inl ⟨by rfl, fun w hSw => ?_⟩) hHeld ?_
  · (go_simp)
  try simp only [Act.put, List.setIfInBounds_toArray, List.set_cons_zero, List.set_cons_succ]
  refine take1 (i := 10) (v := .agg #[.int .i64 k, .int .i64 c, .int .i64 s, .int .i64 a, .int .i64 n, .int .i32 ch]) rfl (by kernel_rfl) (by kernel_rfl) (by kernel_rfl) (fun _ _ _ h => h) (Or.inl ⟨by rfl, fun w hSw => ?_⟩) hHeld ?_
  · (go_simp)
  try simp only [Act.put, List.setIfInBounds_toArray, List.set_cons_zero, List.set_cons_succ]
  refine take1 (i := 12) (v := .agg #[.int .i64 k, .int .i64 c, .int .i64 s, .int .i64 a, .int .i64 n, .int .i32 ch]) rfl (by kernel_rfl) (by kernel_rfl) (by kernel_rfl) (fun _ _ _ h => h) (Or.inl ⟨by rfl, fun w hSw => ?_⟩) hHeld ?_
  · (go_simp)
  try simp only [Act.put, List.setIfInBounds_toArray, List.set_cons_zero, List.set_cons_succ]
  refine wpAnyH_ready (rs := [11]) (by kernel_rfl) (by simp) ?_
  refine cons1 rfl (fun K hK => ?_) AllReadyH.nil
  go_simp
  refine (HS.out _ hHeld.2.2.2.2.2.2.2).mono ?_
  rintro e' u5 ⟨rfl, hb⟩
  go_wp2_with fail
  refine hK.out _ _ ((hHeld.2.2.2.2.2.2.next hb).s) (fun hHeld2 => ?_)
  clear hK K hHeld hb
  have hHeld := hHeld2
  clear hHeld2
  try simp only [Act.put, List.setIfInBounds_toArray, List.set_cons_zero, List.set_cons_succ]
  refine wpAnyH_ready (rs := [13]) (by kernel_rfl) (by simp) ?_
  refine cons1 rfl (fun K hK => ?_) AllReadyH.nil
  go_simp
  refine (of5_any k c s a n ch _).mono ?_
  rintro e' u6 ⟨rfl, hb⟩
  go_wp2_with fail
  refine hK.out _ _ ((hHeld.2.2.2.2.2.2.next hb).s) (fun hHeld2 => ?_)
  clear hK K hHeld hb
  have hHeld := hHeld2
  clear hHeld2
  try simp only [Act.put, List.setIfInBounds_toArray, List.set_cons_zero, List.set_cons_succ]
  refine wpAnyH_ready (rs := [14]) (by kernel_rfl) (by simp) ?_
  refine cons1 rfl (fun K hK => ?_) AllReadyH.nil
  go_simp
  refine (HT.out _ hHeld.2.2.2.2.2.2.2).mono ?_
  rintro e' u7 ⟨rfl, hb⟩
  go_wp2_with fail
  refine hK.out _ _ ((hHeld.2.2.2.2.2.2.next hb).s) (fun hHeld2 => ?_)
  clear hK K hHeld hb
  have hHeld := hHeld2
  clear hHeld2
  try simp only [Act.put, List.setIfInBounds_toArray, List.set_cons_zero, List.set_cons_succ]
  refine take1 (i := 15) (v := .bool true) rfl (by kernel_rfl) (by kernel_rfl) (by kernel_rfl) (fun _ _ _ h => h) (Or.inl ⟨by rfl, fun w hSw => ?_⟩) hHeld ?_
  · (go_simp)
  try simp only [Act.put, List.setIfInBounds_toArray, List.set_cons_zero, List.set_cons_succ]
  refine take1 (i := 16) (v := .bool true) rfl (by kernel_rfl) (by kernel_rfl) (by kernel_rfl) (fun _ _ _ h => h) (Or.inl ⟨by rfl, fun w hSw => ?_⟩) hHeld ?_
  · (go_simp)
  try simp only [Act.put, List.setIfInBounds_toArray, List.set_cons_zero, List.set_cons_succ]
  refine take1 (i := 17) (v := .bool true) rfl (by kernel_rfl) (by kernel_rfl) (by kernel_rfl) (fun _ _ _ h => h) (Or.inl ⟨by rfl, fun w hSw => ?_⟩) hHeld ?_
  · (go_simp)
  try simp only [Act.put, List.setIfInBounds_toArray, List.set_cons_zero, List.set_cons_succ]
  refine wpAnyH_done (by kernel_rfl) ?_ _
  refine NoPanic.normal ?_
  have HB := Lib.hid hHeld.2.2.2.2.2.2.1.2.1
  clear hHeld
  go_wp2_with fail
  go_ret
  exact ⟨rfl, HB.out⟩
end Go.Proofs.YtbfnehpmlngagaaDoor
