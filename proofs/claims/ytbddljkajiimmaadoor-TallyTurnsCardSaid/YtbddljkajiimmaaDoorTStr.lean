/-
  Contracts of tally's String at the document's example, and of the law's Awake of layer 2: it returns true. Nothing that existed has changed.
-/
import Derived.Test.YtbddljkajiimmaaDoorText2
import Derived.Test.YtbddljkajiimmaaDoorTake
namespace Go.Proofs.YtbddljkajiimmaaDoor
open Go Go.Proofs Go.RowKit

def StrR (w W : World) : Prop := w.heap.size < W.heap.size ∧ Below w.heap.size w W ∧ Pows W ∧ Tab W
/-- What String reads: the tally of 3.2 alone, in its box. -/
def StrS (w W : World) : Prop :=
  W.cell? ⟨w.heap.size, 0, none⟩ = some (.int .i64 1) ∧ W.cell? ⟨w.heap.size, 1, none⟩ = some (.complex .f64 4613937818241073152 4611686018427387904) ∧ W.cell? ⟨w.heap.size, 2, none⟩ = some (.complex .f64 4617315517961601024 4622945017495814144) ∧ StrR w W
theorem strS_keep {w W W' : World} (hb : Below W.heap.size W W') (h : StrS w W) : StrS w W' := by
  obtain ⟨h0, h1, h2, h3, h4, h5, h6⟩ := h
  exact ⟨(hb.cell (p := ⟨_, 0, none⟩) h3).trans h0, (hb.cell (p := ⟨_, 1, none⟩) h3).trans h1, (hb.cell (p := ⟨_, 2, none⟩) h3).trans h2, Nat.lt_of_lt_of_le h3 hb.size, h4.trans (hb.mono h4.size), h5.next hb, h6.next hb⟩
theorem dig_1 : digB 1 = ⟨#[49]⟩ := by
  unfold digB; rw [show (1 : Int).toNat = 1 from rfl, Lib.decDigits_one (by omega)]; rfl
theorem itoa_1 (w : World) (ht : Tab w) : Calls Tryd.prog 19 #[.int .i64 1] w fun e w' => e = .returned (.string ⟨#[49]⟩) ∧ Below w.heap.size w w' := by
  have := itoa_any 1 (by omega) (by omega) w ht
  rw [dig_1] at this; exact this
/-- Joined with blanks. -/
theorem join_ex (w : World) :
    Calls Tryd.prog 18 #[.slice (some ⟨w.heap.size, 0, none⟩) 5 5, .string ⟨#[32]⟩] (w.alloc (.cells #[.string ⟨#[49]⟩, .string ⟨#[51]⟩, .string ⟨#[50]⟩, .string ⟨#[53]⟩, .string ⟨#[49, 50]⟩] 9)) fun e w' => e = .returned (.string ⟨#[49, 32, 51, 32, 50, 32, 53, 32, 49, 50]⟩) ∧ Below (w.alloc (.cells #[.string ⟨#[49]⟩, .string ⟨#[51]⟩, .string ⟨#[50]⟩, .string ⟨#[53]⟩, .string ⟨#[49, 50]⟩] 9)).heap.size (w.alloc (.cells #[.string ⟨#[49]⟩, .string ⟨#[51]⟩, .string ⟨#[50]⟩, .string ⟨#[53]⟩, .string ⟨#[49, 50]⟩] 9)) w' := by
  refine (Tryd.strings_Join w.heap.size 0 5 [⟨#[49]⟩, ⟨#[51]⟩, ⟨#[50]⟩, ⟨#[53]⟩, ⟨#[49, 50]⟩] ⟨#[32]⟩ _ ?_ (by simp) (by simp) (by simp) (by decide)).mono ?_
  · have hB := Blk.start w [.string ⟨#[49]⟩, .string ⟨#[51]⟩, .string ⟨#[50]⟩, .string ⟨#[53]⟩, .string ⟨#[49, 50]⟩] 9
    intro j x hj
    rw [Nat.zero_add]
    rcases j with _ | _ | _ | _ | _ | j
    · cases hj; exact hB.cell 0 rfl
    · cases hj; exact hB.cell 1 rfl
    · cases hj; exact hB.cell 2 rfl
    · cases hj; exact hB.cell 3 rfl
    · cases hj; exact hB.cell 4 rfl
    · simp at hj
  · rintro e w' ⟨rfl, hb⟩
    exact ⟨rfl, hb⟩

set_option maxHeartbeats 1600000 in
theorem string_ex (w : World) (hp : Pows w) (ht : Tab w) :
    Calls Tryd.prog 13 #[.agg #[.int .i64 1, .complex .f64 4613937818241073152 4611686018427387904, .complex .f64 4617315517961601024 4622945017495814144]] w
      fun e w' => e = .returned (.string ⟨#[49, 32, 51, 32, 50, 32, 53, 32, 49, 50]⟩) ∧ Below w.heap.size w w' := by
  have hS : StrS w (w.alloc (.cells #[.int .i64 1, .complex .f64 4613937818241073152 4611686018427387904, .complex .f64 4617315517961601024 4622945017495814144] 28)).drew := by
    have hA := (Below.refl w.heap.size w).alloc (Nat.le_refl _) (.cells #[.int .i64 1, .complex .f64 4613937818241073152 4611686018427387904, .complex .f64 4617315517961601024 4622945017495814144] 28)
    have hB := (Blk.start w [.int .i64 1, .complex .f64 4613937818241073152 4611686018427387904, .complex .f64 4617315517961601024 4622945017495814144] 28)
    exact strS_keep (Below.refl _ _).drew ⟨hB.cell 0 rfl, hB.cell 1 rfl, hB.cell 2 rfl, by simp, hA, hp.next hA, ht.next hA⟩
  clear hp ht
  go_enter Tryd.func13, Tryd.ntmps13
  go_wp2_with fail
  refine wp_region_noPanic ?_
  refine wp_region_held_drew (S := (fun W => W.cell? ⟨w.heap.size, 0, none⟩ = some (.int .i64 1) ∧ W.cell? ⟨w.heap.size, 1, none⟩ = some (.complex .f64 4613937818241073152 4611686018427387904) ∧ W.cell? ⟨w.heap.size, 2, none⟩ = some (.complex .f64 4617315517961601024 4622945017495814144) ∧ StrR w W)) (by kernel_rfl) ?_ (fun hHeld => ?_)
  · exact hS
  clear hS
  refine take1 (i := 0) (v := .pointer (some ⟨w.heap.size, 0, none⟩)) rfl (by kernel_rfl) (by kernel_rfl) (by kernel_rfl) (fun _ _ _ h => h) (Or.inl ⟨by rfl, fun w hSw => ?_⟩) hHeld ?_
  · (go_simp)
  try simp only [Act.put, List.setIfInBounds_toArray, List.set_cons_zero, List.set_cons_succ]
  refine take1 (i := 1) (v := .int .i64 1) rfl (by kernel_rfl) (by kernel_rfl) (by kernel_rfl) (fun _ _ _ h => h) (Or.inl ⟨by rfl, fun w hSw => ?_⟩) hHeld ?_
  · (go_simp)
  try simp only [Act.put, List.setIfInBounds_toArray, List.set_cons_zero, List.set_cons_succ]
  refine take1 (i := 3) (v := .pointer (some ⟨w.heap.size, 1, none⟩)) rfl (by kernel_rfl) (by kernel_rfl) (by kernel_rfl) (fun _ _ _ h => h) (Or.inl ⟨by rfl, fun w hSw => ?_⟩) hHeld ?_
  · (go_simp)
  try simp only [Act.put, List.setIfInBounds_toArray, List.set_cons_zero, List.set_cons_succ]
  refine take1 (i := 4) (v := .complex .f64 4613937818241073152 4611686018427387904) rfl (by kernel_rfl) (by kernel_rfl) (by kernel_rfl) (fun _ _ _ h => h) (Or.inl ⟨by rfl, fun w hSw => ?_⟩) hHeld ?_
  · (go_simp)
  try simp only [Act.put, List.setIfInBounds_toArray, List.set_cons_zero, List.set_cons_succ]
  refine take1 (i := 5) (v := .float .f64 4613937818241073152) rfl (by kernel_rfl) (by kernel_rfl) (by kernel_rfl) (fun _ _ _ h => h) (Or.inl ⟨by rfl, fun w hSw => ?_⟩) hHeld ?_
  · (go_simp)
  try simp only [Act.put, List.setIfInBounds_toArray, List.set_cons_zero, List.set_cons_succ]
  refine take1 (i := 7) (v := .pointer (some ⟨w.heap.size, 1, none⟩)) rfl (by kernel_rfl) (by kernel_rfl) (by kernel_rfl) (fun _ _ _ h => h) (Or.inl ⟨by rfl, fun w hSw => ?_⟩) hHeld ?_
  · (go_simp)
  try simp only [Act.put, List.setIfInBounds_toArray, List.set_cons_zero, List.set_cons_succ]
  refine take1 (i := 8) (v := .complex .f64 4613937818241073152 4611686018427387904) rfl (by kernel_rfl) (by kernel_rfl) (by kernel_rfl) (fun _ _ _ h => h) (Or.inl ⟨by rfl, fun w hSw => ?_⟩) hHeld ?_
  · (go_simp)
  try simp only [Act.put, List.setIfInBounds_toArray, List.set_cons_zero, List.set_cons_succ]
  refine take1 (i := 9) (v := .float .f64 4611686018427387904) rfl (by kernel_rfl) (by kernel_rfl) (by kernel_rfl) (fun _ _ _ h => h) (Or.inl ⟨by rfl, fun w hSw => ?_⟩) hHeld ?_
  · (go_simp)
  try simp only [Act.put, List.setIfInBounds_toArray, List.set_cons_zero, List.set_cons_succ]
  refine take1 (i := 11) (v := .pointer (some ⟨w.heap.size, 2, none⟩)) rfl (by kernel_rfl) (by kernel_rfl) (by kernel_rfl) (fun _ _ _ h => h) (Or.inl ⟨by rfl, fun w hSw => ?_⟩) hHeld ?_
  · (go_simp)
  try simp only [Act.put, List.setIfInBounds_toArray, List.set_cons_zero, List.set_cons_succ]
  refine take1 (i := 12) (v := .complex .f64 4617315517961601024 4622945017495814144) rfl (by kernel_rfl) (by kernel_rfl) (by kernel_rfl) (fun _ _ _ h => h) (Or.inl ⟨by rfl, fun w hSw => ?_⟩) hHeld ?_
  · (go_simp)
  try simp only [Act.put, List.setIfInBounds_toArray, List.set_cons_zero, List.set_cons_succ]
  refine take1 (i := 13) (v := .float .f64 4617315517961601024) rfl (by kernel_rfl) (by kernel_rfl) (by kernel_rfl) (fun _ _ _ h => h) (Or.inl ⟨by rfl, fun w hSw => ?_⟩) hHeld ?_
  · (go_simp)
  try simp only [Act.put, List.setIfInBounds_toArray, List.set_cons_zero, List.set_cons_succ]
  refine take1 (i := 15) (v := .pointer (some ⟨w.heap.size, 2, none⟩)) rfl (by kernel_rfl) (by kernel_rfl) (by kernel_rfl) (fun _ _ _ h => h) (Or.inl ⟨by rfl, fun w hSw => ?_⟩) hHeld ?_
  · (go_simp)
  try simp only [Act.put, List.setIfInBounds_toArray, List.set_cons_zero, List.set_cons_succ]
  refine take1 (i := 16) (v := .complex .f64 4617315517961601024 4622945017495814144) rfl (by kernel_rfl) (by kernel_rfl) (by kernel_rfl) (fun _ _ _ h => h) (Or.inl ⟨by rfl, fun w hSw => ?_⟩) hHeld ?_
  · (go_simp)
  try simp only [Act.put, List.setIfInBounds_toArray, List.set_cons_zero, List.set_cons_succ]
  refine take1 (i := 17) (v := .float .f64 4622945017495814144) rfl (by kernel_rfl) (by kernel_rfl) (by kernel_rfl) (fun _ _ _ h => h) (Or.inl ⟨by rfl, fun w hSw => ?_⟩) hHeld ?_
  · (go_simp)
  try simp only [Act.put, List.setIfInBounds_toArray, List.set_cons_zero, List.set_cons_succ]
  refine wpAnyH_ready (rs := [2]) (by kernel_rfl) (by simp) ?_
  refine cons1 rfl (fun K hK => ?_) AllReadyH.nil
  go_simp
  refine (itoa_1 _ hHeld.2.2.2.2.2.2).mono ?_
  rintro e u1 ⟨rfl, hb⟩
  go_wp2_with fail
  refine hK.out _ _ (strS_keep hb hHeld) (fun hHeld2 => ?_)
  clear hK K hHeld hb
  have hHeld := hHeld2
  clear hHeld2
  try simp only [Act.put, List.setIfInBounds_toArray, List.set_cons_zero, List.set_cons_succ]
  refine wpAnyH_ready (rs := [6]) (by kernel_rfl) (by simp) ?_
  refine cons1 rfl (fun K hK => ?_) AllReadyH.nil
  go_simp
  refine (digits_3 _ hHeld.2.2.2.2.2.1 hHeld.2.2.2.2.2.2).mono ?_
  rintro e u2 ⟨rfl, hb⟩
  go_wp2_with fail
  refine hK.out _ _ (strS_keep hb hHeld) (fun hHeld2 => ?_)
  clear hK K hHeld hb
  have hHeld := hHeld2
  clear hHeld2
  try simp only [Act.put, List.setIfInBounds_toArray, List.set_cons_zero, List.set_cons_succ]
  refine wpAnyH_ready (rs := [10]) (by kernel_rfl) (by simp) ?_
  refine cons1 rfl (fun K hK => ?_) AllReadyH.nil
  go_simp
  refine (digits_2 _ hHeld.2.2.2.2.2.1 hHeld.2.2.2.2.2.2).mono ?_
  rintro e u3 ⟨rfl, hb⟩
  go_wp2_with fail
  refine hK.out _ _ (strS_keep hb hHeld) (fun hHeld2 => ?_)
  clear hK K hHeld hb
  have hHeld := hHeld2
  clear hHeld2
  try simp only [Act.put, List.setIfInBounds_toArray, List.set_cons_zero, List.set_cons_succ]
  refine wpAnyH_ready (rs := [14]) (by kernel_rfl) (by simp) ?_
  refine cons1 rfl (fun K hK => ?_) AllReadyH.nil
  go_simp
  refine (digits_5 _ hHeld.2.2.2.2.2.1 hHeld.2.2.2.2.2.2).mono ?_
  rintro e u4 ⟨rfl, hb⟩
  go_wp2_with fail
  refine hK.out _ _ (strS_keep hb hHeld) (fun hHeld2 => ?_)
  clear hK K hHeld hb
  have hHeld := hHeld2
  clear hHeld2
  try simp only [Act.put, List.setIfInBounds_toArray, List.set_cons_zero, List.set_cons_succ]
  refine wpAnyH_ready (rs := [18]) (by kernel_rfl) (by simp) ?_
  refine cons1 rfl (fun K hK => ?_) AllReadyH.nil
  go_simp
  refine (digits_12 _ hHeld.2.2.2.2.2.1 hHeld.2.2.2.2.2.2).mono ?_
  rintro e u5 ⟨rfl, hb⟩
  go_wp2_with fail
  refine hK.out _ _ (strS_keep hb hHeld) (fun hHeld2 => ?_)
  clear hK K hHeld hb
  have hHeld := hHeld2
  clear hHeld2
  try simp only [Act.put, List.setIfInBounds_toArray, List.set_cons_zero, List.set_cons_succ]
  refine wpAnyH_ready (rs := [19]) (by kernel_rfl) (by simp) ?_
  refine cons1 rfl (fun K hK => ?_) AllReadyH.nil
  go_simp
  go_wp2_with fail
  refine hK.out _ _ (strS_keep ((Below.refl _ _).alloc (Nat.le_refl _) _) hHeld) (fun hHeld2 => ?_)
  clear hK K hHeld 
  have hHeld := hHeld2
  clear hHeld2
  try simp only [Act.put, List.setIfInBounds_toArray, List.set_cons_zero, List.set_cons_succ]
  refine wpAnyH_ready (rs := [20]) (by kernel_rfl) (by simp) ?_
  refine cons1 rfl (fun K hK => ?_) AllReadyH.nil
  go_simp
  refine (join_ex _).mono ?_
  rintro e u6 ⟨rfl, hb⟩
  go_wp2_with fail
  refine hK.out _ _ (strS_keep hb hHeld) (fun hHeld2 => ?_)
  clear hK K hHeld hb
  have hHeld := hHeld2
  clear hHeld2
  try simp only [Act.put, List.setIfInBounds_toArray, List.set_cons_zero, List.set_cons_succ]
  refine take1 (i := 21) (v := .string ⟨#[49, 32, 51, 32, 50, 32, 53, 32, 49, 50]⟩) rfl (by kernel_rfl) (by kernel_rfl) (by kernel_rfl) (fun _ _ _ h => h) (Or.inl ⟨by rfl, fun w hSw => ?_⟩) hHeld ?_
  · (go_simp)
  try simp only [Act.put, List.setIfInBounds_toArray, List.set_cons_zero, List.set_cons_succ]
  refine wpAnyH_done (by kernel_rfl) ?_ _
  refine NoPanic.normal ?_
  go_wp2
  go_ret
  exact ⟨rfl, hHeld.2.2.2.2.1⟩
end Go.Proofs.YtbddljkajiimmaaDoor
