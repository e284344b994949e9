/-
  Contracts of the library's FormatFloat at the numbers that the document's example asks for, of tally's digits and String at the example, and of the law's Awake of layer 2: it returns true. Nothing that existed has changed.
-/
import Derived.Test.YtbddljkajiimmaaDoorFmt
import Derived.Test.YtbddljkajiimmaaDoorTally
import Derived.Laws.IdiomStrings
namespace Go.Proofs.YtbddljkajiimmaaDoor
open Go Go.Proofs Go.RowKit


set_option maxHeartbeats 800000 in
set_option maxRecDepth 100000 in
theorem iff_3 (w : World) (hp : Pows w) (ht : Tab w) :
    Calls Tryd.prog 32 #[.float .f64 4613937818241073152, .int .u8 102, .int .i64 0, .int .i64 64] w fun e w' => e = .returned (.string ⟨#[51]⟩) ∧ Below w.heap.size w w' := by
  have HP := Lib.hid hp
  have HT := Lib.hid ht
  have hmk : ∀ W : World, (Instr.makeSlice 51 (.int .i64 0) (.int .i64 24)).run Tryd.prog W = .ok (.slice (some ⟨W.heap.size, 0, none⟩) 0 24) (W.alloc (.cells #[.int .u8 0, .int .u8 0, .int .u8 0, .int .u8 0, .int .u8 0, .int .u8 0, .int .u8 0, .int .u8 0, .int .u8 0, .int .u8 0, .int .u8 0, .int .u8 0, .int .u8 0, .int .u8 0, .int .u8 0, .int .u8 0, .int .u8 0, .int .u8 0, .int .u8 0, .int .u8 0, .int .u8 0, .int .u8 0, .int .u8 0, .int .u8 0] 5)) := fun _ => by kernel_rfl
  clear hp ht
  go_enter Tryd.func32, Tryd.ntmps32
  have hmx : (max 4 24 : Int) = 24 := by decide
  go_wp2_with (go_at_call 40; refine (ftoa_3 _ _ _ (HP.out.next ((Below.refl _ _).alloc (Nat.le_refl _) _)) (HT.out.next ((Below.refl _ _).alloc (Nat.le_refl _) _)) (by simp) (by simp [go_sem]; rfl) (by simp [go_sem])).mono ?_; rintro e w1 ⟨rfl, ho, hr⟩; refine Hid.out ?_)
  have hB := ho.below w.heap.size w (Nat.le_refl _) (by simp) ((Below.refl _ _).alloc (Nat.le_refl _) _)
  have hcv : (convert 51 9 (.slice (some ⟨w.heap.size, 0, none⟩) 1 24)).run Tryd.prog w1 = .ok (.string ⟨#[51]⟩) w1 := by
    refine run_convert_bytes_back (P := Tryd.prog) w1 51 9 5 ⟨w.heap.size, 0, none⟩ 24 [51] Tryd.underlying51 Tryd.underlying5 Tryd.underlying9 (fun j hj => ?_)
    rcases j with _ | j
    · exact hr
    · simp at hj
  have HB := Lib.hid hB
  clear hB ho
  refine Lib.hid ?_
  go_wp2
  go_ret
  exact ⟨rfl, HB.out⟩

theorem ff_3 (w : World) (hp : Pows w) (ht : Tab w) :
    Calls Tryd.prog 28 #[.float .f64 4613937818241073152, .int .u8 102, .int .i64 0, .int .i64 64] w fun e w' => e = .returned (.string ⟨#[51]⟩) ∧ Below w.heap.size w w' := by
  go_enter Tryd.func28, Tryd.ntmps28
  go_wp2_with (go_at_call 32; refine (iff_3 _ hp ht).mono ?_; rintro e w1 ⟨rfl, hb1⟩)
  go_ret
  exact ⟨rfl, hb1⟩

set_option maxHeartbeats 800000 in
theorem digits_3 (w : World) (hp : Pows w) (ht : Tab w) :
    Calls Tryd.prog 20 #[.float .f64 4613937818241073152] w fun e w' => e = .returned (.string ⟨#[51]⟩) ∧ Below w.heap.size w w' := by
  have h0 : (FloatKind.f64.format.order 4613937818241073152 0 == some Ordering.eq) = false := by decide +kernel
  go_enter Tryd.func20, Tryd.ntmps20
  go_wp2_with (go_at_call 28; refine (ff_3 _ hp ht).mono ?_; rintro e w1 ⟨rfl, hb1⟩)
  go_ret
  exact ⟨rfl, hb1⟩


set_option maxHeartbeats 800000 in
set_option maxRecDepth 100000 in
theorem iff_2 (w : World) (hp : Pows w) (ht : Tab w) :
    Calls Tryd.prog 32 #[.float .f64 4611686018427387904, .int .u8 102, .int .i64 0, .int .i64 64] w fun e w' => e = .returned (.string ⟨#[50]⟩) ∧ Below w.heap.size w w' := by
  have HP := Lib.hid hp
  have HT := Lib.hid ht
  have hmk : ∀ W : World, (Instr.makeSlice 51 (.int .i64 0) (.int .i64 24)).run Tryd.prog W = .ok (.slice (some ⟨W.heap.size, 0, none⟩) 0 24) (W.alloc (.cells #[.int .u8 0, .int .u8 0, .int .u8 0, .int .u8 0, .int .u8 0, .int .u8 0, .int .u8 0, .int .u8 0, .int .u8 0, .int .u8 0, .int .u8 0, .int .u8 0, .int .u8 0, .int .u8 0, .int .u8 0, .int .u8 0, .int .u8 0, .int .u8 0, .int .u8 0, .int .u8 0, .int .u8 0, .int .u8 0, .int .u8 0, .int .u8 0] 5)) := fun _ => by kernel_rfl
  clear hp ht
  go_enter Tryd.func32, Tryd.ntmps32
  have hmx : (max 4 24 : Int) = 24 := by decide
  go_wp2_with (go_at_call 40; refine (ftoa_2 _ _ _ (HP.out.next ((Below.refl _ _).alloc (Nat.le_refl _) _)) (HT.out.next ((Below.refl _ _).alloc (Nat.le_refl _) _)) (by simp) (by simp [go_sem]; rfl) (by simp [go_sem])).mono ?_; rintro e w1 ⟨rfl, ho, hr⟩; refine Hid.out ?_)
  have hB := ho.below w.heap.size w (Nat.le_refl _) (by simp) ((Below.refl _ _).alloc (Nat.le_refl _) _)
  have hcv : (convert 51 9 (.slice (some ⟨w.heap.size, 0, none⟩) 1 24)).run Tryd.prog w1 = .ok (.string ⟨#[50]⟩) w1 := by
    refine run_convert_bytes_back (P := Tryd.prog) w1 51 9 5 ⟨w.heap.size, 0, none⟩ 24 [50] Tryd.underlying51 Tryd.underlying5 Tryd.underlying9 (fun j hj => ?_)
    rcases j with _ | j
    · exact hr
    · simp at hj
  have HB := Lib.hid hB
  clear hB ho
  refine Lib.hid ?_
  go_wp2
  go_ret
  exact ⟨rfl, HB.out⟩

theorem ff_2 (w : World) (hp : Pows w) (ht : Tab w) :
    Calls Tryd.prog 28 #[.float .f64 4611686018427387904, .int .u8 102, .int .i64 0, .int .i64 64] w fun e w' => e = .returned (.string ⟨#[50]⟩) ∧ Below w.heap.size w w' := by
  go_enter Tryd.func28, Tryd.ntmps28
  go_wp2_with (go_at_call 32; refine (iff_2 _ hp ht).mono ?_; rintro e w1 ⟨rfl, hb1⟩)
  go_ret
  exact ⟨rfl, hb1⟩

set_option maxHeartbeats 800000 in
theorem digits_2 (w : World) (hp : Pows w) (ht : Tab w) :
    Calls Tryd.prog 20 #[.float .f64 4611686018427387904] w fun e w' => e = .returned (.string ⟨#[50]⟩) ∧ Below w.heap.size w w' := by
  have h0 : (FloatKind.f64.format.order 4611686018427387904 0 == some Ordering.eq) = false := by decide +kernel
  go_enter Tryd.func20, Tryd.ntmps20
  go_wp2_with (go_at_call 28; refine (ff_2 _ hp ht).mono ?_; rintro e w1 ⟨rfl, hb1⟩)
  go_ret
  exact ⟨rfl, hb1⟩


set_option maxHeartbeats 800000 in
set_option maxRecDepth 100000 in
theorem iff_5 (w : World) (hp : Pows w) (ht : Tab w) :
    Calls Tryd.prog 32 #[.float .f64 4617315517961601024, .int .u8 102, .int .i64 0, .int .i64 64] w fun e w' => e = .returned (.string ⟨#[53]⟩) ∧ Below w.heap.size w w' := by
  have HP := Lib.hid hp
  have HT := Lib.hid ht
  have hmk : ∀ W : World, (Instr.makeSlice 51 (.int .i64 0) (.int .i64 24)).run Tryd.prog W = .ok (.slice (some ⟨W.heap.size, 0, none⟩) 0 24) (W.alloc (.cells #[.int .u8 0, .int .u8 0, .int .u8 0, .int .u8 0, .int .u8 0, .int .u8 0, .int .u8 0, .int .u8 0, .int .u8 0, .int .u8 0, .int .u8 0, .int .u8 0, .int .u8 0, .int .u8 0, .int .u8 0, .int .u8 0, .int .u8 0, .int .u8 0, .int .u8 0, .int .u8 0, .int .u8 0, .int .u8 0, .int .u8 0, .int .u8 0] 5)) := fun _ => by kernel_rfl
  clear hp ht
  go_enter Tryd.func32, Tryd.ntmps32
  have hmx : (max 4 24 : Int) = 24 := by decide
  go_wp2_with (go_at_call 40; refine (ftoa_5 _ _ _ (HP.out.next ((Below.refl _ _).alloc (Nat.le_refl _) _)) (HT.out.next ((Below.refl _ _).alloc (Nat.le_refl _) _)) (by simp) (by simp [go_sem]; rfl) (by simp [go_sem])).mono ?_; rintro e w1 ⟨rfl, ho, hr⟩; refine Hid.out ?_)
  have hB := ho.below w.heap.size w (Nat.le_refl _) (by simp) ((Below.refl _ _).alloc (Nat.le_refl _) _)
  have hcv : (convert 51 9 (.slice (some ⟨w.heap.size, 0, none⟩) 1 24)).run Tryd.prog w1 = .ok (.string ⟨#[53]⟩) w1 := by
    refine run_convert_bytes_back (P := Tryd.prog) w1 51 9 5 ⟨w.heap.size, 0, none⟩ 24 [53] Tryd.underlying51 Tryd.underlying5 Tryd.underlying9 (fun j hj => ?_)
    rcases j with _ | j
    · exact hr
    · simp at hj
  have HB := Lib.hid hB
  clear hB ho
  refine Lib.hid ?_
  go_wp2
  go_ret
  exact ⟨rfl, HB.out⟩

theorem ff_5 (w : World) (hp : Pows w) (ht : Tab w) :
    Calls Tryd.prog 28 #[.float .f64 4617315517961601024, .int .u8 102, .int .i64 0, .int .i64 64] w fun e w' => e = .returned (.string ⟨#[53]⟩) ∧ Below w.heap.size w w' := by
  go_enter Tryd.func28, Tryd.ntmps28
  go_wp2_with (go_at_call 32; refine (iff_5 _ hp ht).mono ?_; rintro e w1 ⟨rfl, hb1⟩)
  go_ret
  exact ⟨rfl, hb1⟩

set_option maxHeartbeats 800000 in
theorem digits_5 (w : World) (hp : Pows w) (ht : Tab w) :
    Calls Tryd.prog 20 #[.float .f64 4617315517961601024] w fun e w' => e = .returned (.string ⟨#[53]⟩) ∧ Below w.heap.size w w' := by
  have h0 : (FloatKind.f64.format.order 4617315517961601024 0 == some Ordering.eq) = false := by decide +kernel
  go_enter Tryd.func20, Tryd.ntmps20
  go_wp2_with (go_at_call 28; refine (ff_5 _ hp ht).mono ?_; rintro e w1 ⟨rfl, hb1⟩)
  go_ret
  exact ⟨rfl, hb1⟩


set_option maxHeartbeats 800000 in
set_option maxRecDepth 100000 in
theorem iff_12 (w : World) (hp : Pows w) (ht : Tab w) :
    Calls Tryd.prog 32 #[.float .f64 4622945017495814144, .int .u8 102, .int .i64 0, .int .i64 64] w fun e w' => e = .returned (.string ⟨#[49, 50]⟩) ∧ Below w.heap.size w w' := by
  have HP := Lib.hid hp
  have HT := Lib.hid ht
  have hmk : ∀ W : World, (Instr.makeSlice 51 (.int .i64 0) (.int .i64 24)).run Tryd.prog W = .ok (.slice (some ⟨W.heap.size, 0, none⟩) 0 24) (W.alloc (.cells #[.int .u8 0, .int .u8 0, .int .u8 0, .int .u8 0, .int .u8 0, .int .u8 0, .int .u8 0, .int .u8 0, .int .u8 0, .int .u8 0, .int .u8 0, .int .u8 0, .int .u8 0, .int .u8 0, .int .u8 0, .int .u8 0, .int .u8 0, .int .u8 0, .int .u8 0, .int .u8 0, .int .u8 0, .int .u8 0, .int .u8 0, .int .u8 0] 5)) := fun _ => by kernel_rfl
  clear hp ht
  go_enter Tryd.func32, Tryd.ntmps32
  have hmx : (max 4 24 : Int) = 24 := by decide
  go_wp2_with (go_at_call 40; refine (ftoa_12 _ _ _ _ (HP.out.next ((Below.refl _ _).alloc (Nat.le_refl _) _)) (HT.out.next ((Below.refl _ _).alloc (Nat.le_refl _) _)) (by simp) (by simp [go_sem]; rfl) (by simp [go_sem]) (by simp [go_sem]; rfl) (by simp [go_sem])).mono ?_; rintro e w1 ⟨rfl, ho, hr0, hr1⟩; refine Hid.out ?_)
  have hB := ho.below w.heap.size w (Nat.le_refl _) (by simp) ((Below.refl _ _).alloc (Nat.le_refl _) _)
  have hcv : (convert 51 9 (.slice (some ⟨w.heap.size, 0, none⟩) 2 24)).run Tryd.prog w1 = .ok (.string ⟨#[49, 50]⟩) w1 := by
    refine run_convert_bytes_back (P := Tryd.prog) w1 51 9 5 ⟨w.heap.size, 0, none⟩ 24 [49, 50] Tryd.underlying51 Tryd.underlying5 Tryd.underlying9 (fun j hj => ?_)
    rcases j with _ | _ | j
    · exact hr0
    · exact hr1
    · simp at hj; omega
  have HB := Lib.hid hB
  clear hB ho
  refine Lib.hid ?_
  go_wp2
  go_ret
  exact ⟨rfl, HB.out⟩

theorem ff_12 (w : World) (hp : Pows w) (ht : Tab w) :
    Calls Tryd.prog 28 #[.float .f64 4622945017495814144, .int .u8 102, .int .i64 0, .int .i64 64] w fun e w' => e = .returned (.string ⟨#[49, 50]⟩) ∧ Below w.heap.size w w' := by
  go_enter Tryd.func28, Tryd.ntmps28
  go_wp2_with (go_at_call 32; refine (iff_12 _ hp ht).mono ?_; rintro e w1 ⟨rfl, hb1⟩)
  go_ret
  exact ⟨rfl, hb1⟩

set_option maxHeartbeats 800000 in
theorem digits_12 (w : World) (hp : Pows w) (ht : Tab w) :
    Calls Tryd.prog 20 #[.float .f64 4622945017495814144] w fun e w' => e = .returned (.string ⟨#[49, 50]⟩) ∧ Below w.heap.size w w' := by
  have h0 : (FloatKind.f64.format.order 4622945017495814144 0 == some Ordering.eq) = false := by decide +kernel
  go_enter Tryd.func20, Tryd.ntmps20
  go_wp2_with (go_at_call 28; refine (ff_12 _ hp ht).mono ?_; rintro e w1 ⟨rfl, hb1⟩)
  go_ret
  exact ⟨rfl, hb1⟩

end Go.Proofs.YtbddljkajiimmaaDoor
