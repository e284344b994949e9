/-
  The contracts of String of package op and of Text of the document's answers of layer 5: the same text, of any operation. Nothing that existed has changed.
-/
import Derived.Test.YtbfnehpmlngagaaDoorOpr
import Derived.Test.YtbfnehpmlngagaaDoorHexF
import Derived.Laws.Concat
namespace Go.Proofs.YtbfnehpmlngagaaDoor
open Go Go.Proofs Go.RowKit

/-- The text of an Anchor: None's, or an id's. -/
def ancT (a n : Int) : ByteArray := if noneB a n = true then ⟨#[45]⟩ else txtB a n
/-- The hexadecimal digits of a Char. -/
def hexB (ch : Int) : ByteArray := ⟨(hexD ch.toNat).toArray⟩
def ins1 (c s : Int) : ByteArray := ⟨#[43]⟩ ++ txtB c s
def ins2 (c s : Int) : ByteArray := ins1 c s ++ ⟨#[32]⟩
def ins3 (c s a n : Int) : ByteArray := ins2 c s ++ ancT a n
def ins4 (c s a n : Int) : ByteArray := ins3 c s a n ++ ⟨#[32]⟩
/-- The text of an Insert. -/
def insT (c s a n ch : Int) : ByteArray := ins4 c s a n ++ hexB ch
/-- The text of a Delete. -/
def delT (c s : Int) : ByteArray := ⟨#[45]⟩ ++ txtB c s
/-- The text of any operation. -/
def opT (k c s a n ch : Int) : ByteArray := if chkE k c s a n ch = 0 then (if k = 1 then delT c s else insT c s a n ch) else ⟨#[63]⟩

theorem may_all {c s : Int} (h : mayB c s = true) : 1 ≤ c ∧ c ≤ 1048576 ∧ 1 ≤ s ∧ s ≤ 1000 := by simpa [mayB] using h
theorem txt_small {c s : Int} (h : mayB c s = true) : (txtB c s).size ≤ 43 := by
  obtain ⟨h1, h2, h3, h4⟩ := may_all h
  have e1 := dotB_size (c := c) (by omega) (by omega)
  have e2 := digB_size (c := s) (by omega) (by omega)
  unfold txtB
  rw [ByteArray.size_append]; omega
theorem one_size (b : UInt8) : (⟨#[b]⟩ : ByteArray).size = 1 := rfl
theorem anc_small {a n : Int} (h : noneB a n = true ∨ mayB a n = true) : (ancT a n).size ≤ 43 := by
  unfold ancT
  by_cases hn : noneB a n = true
  · rw [if_pos hn, one_size]; omega
  · rw [if_neg hn]; exact txt_small (h.resolve_left hn)
theorem hex_small {ch : Int} (h : ch ≤ 1114111) : (hexB ch).size ≤ 6 := by
  have := hexD_six (u := ch.toNat) (by omega)
  show (hexD ch.toNat).toArray.size ≤ 6
  simpa using this
theorem ins1_small {c s : Int} (h : mayB c s = true) : (ins1 c s).size ≤ 44 := by
  have := txt_small h
  unfold ins1
  rw [ByteArray.size_append, one_size]; omega
theorem ins2_small {c s : Int} (h : mayB c s = true) : (ins2 c s).size ≤ 45 := by
  have := ins1_small h
  unfold ins2
  rw [ByteArray.size_append, one_size]; omega
theorem ins3_small {c s a n : Int} (h : mayB c s = true) (h' : noneB a n = true ∨ mayB a n = true) : (ins3 c s a n).size ≤ 88 := by
  have := ins2_small h
  have := anc_small h'
  unfold ins3
  rw [ByteArray.size_append]; omega
theorem ins4_small {c s a n : Int} (h : mayB c s = true) (h' : noneB a n = true ∨ mayB a n = true) : (ins4 c s a n).size ≤ 89 := by
  have := ins3_small h h'
  unfold ins4
  rw [ByteArray.size_append, one_size]; omega
theorem add_ins1 {c s : Int} (h : mayB c s = true) (W : World) : (Op.stringOp .add ⟨#[43]⟩ (txtB c s)).run Tryd.prog W = .ok (.string (ins1 c s)) W := by
  have := txt_small h
  exact run_string_add_sum W _ _ (by rw [one_size]; omega)
theorem add_del {c s : Int} (h : mayB c s = true) (W : World) : (Op.stringOp .add ⟨#[45]⟩ (txtB c s)).run Tryd.prog W = .ok (.string (delT c s)) W := by
  have := txt_small h
  exact run_string_add_sum W _ _ (by rw [one_size]; omega)
theorem add_ins2 {c s : Int} (h : mayB c s = true) (W : World) : (Op.stringOp .add (ins1 c s) ⟨#[32]⟩).run Tryd.prog W = .ok (.string (ins2 c s)) W := by
  have := ins1_small h
  exact run_string_add_sum W _ _ (by rw [one_size]; omega)
theorem add_ins3 {c s a n : Int} (h : mayB c s = true) (h' : noneB a n = true ∨ mayB a n = true) (W : World) : (Op.stringOp .add (ins2 c s) (ancT a n)).run Tryd.prog W = .ok (.string (ins3 c s a n)) W := by
  have := ins2_small h
  have := anc_small h'
  exact run_string_add_sum W _ _ (by omega)
theorem add_ins4 {c s a n : Int} (h : mayB c s = true) (h' : noneB a n = true ∨ mayB a n = true) (W : World) : (Op.stringOp .add (ins3 c s a n) ⟨#[32]⟩).run Tryd.prog W = .ok (.string (ins4 c s a n)) W := by
  have := ins3_small h h'
  exact run_string_add_sum W _ _ (by rw [one_size]; omega)
theorem add_insT {c s a n ch : Int} (h : mayB c s = true) (h' : noneB a n = true ∨ mayB a n = true) (hc : ch ≤ 1114111) (W : World) : (Op.stringOp .add (ins4 c s a n) (hexB ch)).run Tryd.prog W = .ok (.string (insT c s a n ch)) W := by
  have := ins4_small h h'
  have := hex_small hc
  exact run_string_add_sum W _ _ (by omega)

theorem ancStr_any (a n : Int) (w : World) (h : noneB a n = true ∨ mayB a n = true) (ht : Tabs w) :
    Calls Tryd.prog 21 #[.agg #[.int .i64 a, .int .i64 n]] w
      fun e w' => e = .returned (.string (ancT a n)) ∧ Below w.heap.size w w' := by
  by_cases hn : noneB a n = true
  · unfold ancT
    rw [if_pos hn]
    obtain ⟨rfl, rfl⟩ := none_yes hn
    exact string_none w
  · unfold ancT
    rw [if_neg hn]
    exact string_yes a n w (h.resolve_left hn) ht.1
theorem ancText_any (a n : Int) (w : World) (h : noneB a n = true ∨ mayB a n = true) (ht : Tabs w) :
    Calls Tryd.prog 23 #[.agg #[.int .i64 a, .int .i64 n]] w
      fun e w' => e = .returned (.string (ancT a n)) ∧ Below w.heap.size w w' := by
  by_cases hn : noneB a n = true
  · unfold ancT
    rw [if_pos hn]
    obtain ⟨rfl, rfl⟩ := none_yes hn
    exact text_none w
  · unfold ancT
    rw [if_neg hn]
    exact text_yes a n w (h.resolve_left hn) ht.1
theorem fmtHexB (ch : Int) (h0 : 0 ≤ ch) (h1 : ch ≤ 1114111) (w : World) (ht : Tabs w) :
    Calls Tryd.prog 22 #[.int .i64 ch, .int .i64 16] w
      fun e w' => e = .returned (.string (hexB ch)) ∧ Below w.heap.size w w' := by
  have h := fmtHex ch.toNat (by omega) w ht
  rw [Int.toNat_of_nonneg h0] at h
  exact h

/-- What an operation that may be is. -/
structure OkIns (c s a n ch : Int) : Prop where
  may : mayB c s = true
  anc : noneB a n = true ∨ mayB a n = true
  lt : a < c
  lo : 32 ≤ ch
  hi : ch ≤ 1114111
  rn : runeB ch = true
theorem firstE_zero {l : List Int} (h : firstE l = 0) : ∀ x ∈ l, x = 0 := by
  induction l with
  | nil => intro x hx; cases hx
  | cons y l ih =>
    intro x hx
    unfold firstE at h
    by_cases hy : y = 0
    · rw [if_pos hy] at h
      rcases List.mem_cons.1 hx with rfl | hx
      · exact hy
      · exact ih h x hx
    · rw [if_neg hy] at h; exact absurd h hy
theorem chk_ok {k c s a n ch : Int} (h : chkE k c s a n ch = 0) : (k = 0 ∧ OkIns c s a n ch) ∨ (k = 1 ∧ a = 0 ∧ n = 0 ∧ ch = 0 ∧ mayB c s = true) := by
  have hz := firstE_zero h
  have h1 := hz (kindE k a n ch) (by simp)
  have h2 := hz (idE c s) (by simp)
  have h3 := hz (ancE a n) (by simp)
  have h4 := hz (ordE c a) (by simp)
  have h5 := hz (chrE k ch) (by simp)
  have m1 : mayB c s = true := by
    unfold idE at h2
    split at h2
    · assumption
    · cases h2
  rcases kind_zero h1 with rfl | ⟨rfl, rfl, rfl, rfl⟩
  · have m2 : noneB a n = true ∨ mayB a n = true := by
      unfold ancE idE at h3
      split at h3
      · exact .inl (by assumption)
      · split at h3
        · exact .inr (by assumption)
        · cases h3
    have m3 : a < c := by
      unfold ordE at h4
      split at h4
      · cases h4
      · omega
    have m4 : ¬ (ch < 32 ∨ runeB ch = false) := by
      intro e
      unfold chrE at h5
      rw [if_pos ⟨rfl, e⟩] at h5
      cases h5
    have m5 : runeB ch = true := by
      rcases hr : runeB ch with _ | _
      · exact absurd (.inr hr) m4
      · rfl
    refine .inl ⟨rfl, m1, m2, m3, by omega, ?_, m5⟩
    simp [runeB] at m5
    omega
  · exact .inr ⟨rfl, rfl, rfl, rfl, m1⟩
theorem chk_del {c s : Int} (h : mayB c s = true) : chkE 1 c s 0 0 0 = 0 := by
  have := may_pos h
  have h2 : noneB 0 0 = true := by decide
  have h3 : ¬ c ≤ 0 := by omega
  simp [chkE, firstE, kindE, idE, h, ancE, h2, ordE, h3, chrE]
theorem chk_ins {c s a n ch : Int} (h : OkIns c s a n ch) : chkE 0 c s a n ch = 0 := by
  have h3 : ¬ c ≤ a := by have := h.lt; omega
  have h4 : ¬ ch < 32 := by have := h.lo; omega
  have h5 := h.rn
  have h6 : ancE a n = 0 := by
    unfold ancE idE
    by_cases hn : noneB a n = true
    · rw [if_pos hn]
    · rw [if_neg hn, if_pos (h.anc.resolve_left hn)]
  simp [chkE, firstE, kindE, idE, h.may, h6, ordE, h3, chrE, h4, h5]

/-- A box in block b holds an operation, the tables read as they should; below B all is as it was in w. -/
def OpTab (B b : Nat) (t : TypeId) (k c s a n ch : Int) (w W : World) : Prop := OpIn B b t k c s a n ch w W ∧ Tabs W
theorem OpTab.next {B b : Nat} {t : TypeId} {k c s a n ch : Int} {w W W' : World} (h : OpTab B b t k c s a n ch w W) (hb : Below W.heap.size W W') : OpTab B b t k c s a n ch w W' := ⟨h.1.next hb, h.2.next hb⟩
theorem OpTab.start (t : TypeId) (k c s a n ch : Int) (w : World) (ht : Tabs w) : OpTab w.heap.size w.heap.size t k c s a n ch w (w.alloc (.cells #[.int .i64 k, .int .i64 c, .int .i64 s, .int .i64 a, .int .i64 n, .int .i32 ch] t)) := ⟨OpIn.start t k c s a n ch w, ht.alloc _⟩
theorem OpTab.s {B b : Nat} {t : TypeId} {k c s a n ch : Int} {w W : World} (h : OpTab B b t k c s a n ch w W) :
    W.cell? ⟨b, 0, none⟩ = some (.int .i64 k) ∧ W.cell? ⟨b, 1, none⟩ = some (.int .i64 c) ∧ W.cell? ⟨b, 2, none⟩ = some (.int .i64 s) ∧ W.cell? ⟨b, 3, none⟩ = some (.int .i64 a) ∧ W.cell? ⟨b, 4, none⟩ = some (.int .i64 n) ∧ W.cell? ⟨b, 5, none⟩ = some (.int .i32 ch) ∧ OpTab B b t k c s a n ch w W :=
  let x := h.1.s; ⟨x.1, x.2.1, x.2.2.1, x.2.2.2.1, x.2.2.2.2.1, x.2.2.2.2.2.1, h⟩

theorem opT_wrong {k c s a n ch : Int} (h : ¬ chkE k c s a n ch = 0) : opT k c s a n ch = ⟨#[63]⟩ := by unfold opT; rw [if_neg h]
theorem opT_del {c s : Int} (h : mayB c s = true) : opT 1 c s 0 0 0 = delT c s := by unfold opT; rw [if_pos (chk_del h), if_pos rfl]
theorem opT_ins {c s a n ch : Int} (h : OkIns c s a n ch) : opT 0 c s a n ch = insT c s a n ch := by unfold opT; rw [if_pos (chk_ins h), if_neg (by decide)]

set_option maxHeartbeats 800000 in
theorem opstr_wrong (k c s a n ch : Int) (w : World) (h : ¬ chkE k c s a n ch = 0) :
    Calls Tryd.prog 9 #[.agg #[.int .i64 k, .int .i64 c, .int .i64 s, .int .i64 a, .int .i64 n, .int .i32 ch]] w
      fun e w' => e = .returned (.string ⟨#[63]⟩) ∧ Below w.heap.size w w' := by
  have HC := Lib.hid (fun W => opcheck_any k c s a n ch W)
  have hb0 : (chkE k c s a n ch != 0) = true := by simpa using h
  generalize chkE k c s a n ch = e0 at *
  clear h
  go_enter Tryd.func9, Tryd.ntmps9
  go_wp2_with (go_at_call 6; refine (HC.out _).mono ?_; rintro e w1 ⟨rfl, hb1⟩)
  go_ret
  exact ⟨rfl, ((Below.refl _ _).alloc (Nat.le_refl _) _).trans (hb1.mono (by simp))⟩

set_option maxHeartbeats 800000 in
theorem opstr_del (c s : Int) (w : World) (h : mayB c s = true) (ht : Tabs w) :
    Calls Tryd.prog 9 #[.agg #[.int .i64 1, .int .i64 c, .int .i64 s, .int .i64 0, .int .i64 0, .int .i32 0]] w
      fun e w' => e = .returned (.string (delT c s)) ∧ Below w.heap.size w w' := by
  have hk := opcheck_any 1 c s 0 0 0 (w.alloc (.cells #[.int .i64 1, .int .i64 c, .int .i64 s, .int .i64 0, .int .i64 0, .int .i32 0] 26))
  rw [chk_del h] at hk
  have HK := Lib.hid hk
  have hadd := fun W => add_del h W
  have H0 := Lib.hid (OpTab.start 26 1 c s 0 0 0 w ht)
  have HM := Lib.hid h
  clear hk ht h
  go_enter Tryd.func9, Tryd.ntmps9
  go_wp2_with (go_at_call 6; refine HK.out.mono ?_; rintro e w1 ⟨rfl, hb1⟩; refine Hid.out ?_)
  have H1 := Lib.hid (H0.out.next hb1)
  obtain ⟨c0, c1, c2, -⟩ := (H0.out.next hb1).s
  clear H0 hb1 HK
  refine Lib.hid ?_
  go_wp2_with (go_at_call 21; refine (string_yes c s _ HM.out H1.out.2.1).mono ?_; rintro e w2 ⟨rfl, hb2⟩)
  go_ret
  exact ⟨rfl, (H1.out.next hb2).1.2.1⟩

set_option maxHeartbeats 1600000 in
set_option maxRecDepth 100000 in
theorem opstr_ins (c s a n ch : Int) (w : World) (h : OkIns c s a n ch) (ht : Tabs w) :
    Calls Tryd.prog 9 #[.agg #[.int .i64 0, .int .i64 c, .int .i64 s, .int .i64 a, .int .i64 n, .int .i32 ch]] w
      fun e w' => e = .returned (.string (insT c s a n ch)) ∧ Below w.heap.size w w' := by
  have hk := opcheck_any 0 c s a n ch (w.alloc (.cells #[.int .i64 0, .int .i64 c, .int .i64 s, .int .i64 a, .int .i64 n, .int .i32 ch] 26))
  rw [chk_ins h] at hk
  have HK := Lib.hid hk
  have hadd1 := fun W => add_ins1 h.may W
  have hadd2 := fun W => add_ins2 h.may W
  have hadd3 := fun W => add_ins3 h.may h.anc W
  have hadd4 := fun W => add_ins4 h.may h.anc W
  have hadd5 := fun W => add_insT h.may h.anc h.hi W
  have hlo := h.lo
  have hhi := h.hi
  have s1 : IntKind.i64.wrap ch = ch := IntWalk.i64_in _ (by omega)
  have H0 := Lib.hid (OpTab.start 26 0 c s a n ch w ht)
  have HM := Lib.hid h
  clear hk ht h
  go_enter Tryd.func9, Tryd.ntmps9
  go_wp2_with (go_at_call 6; refine HK.out.mono ?_; rintro e w1 ⟨rfl, hb1⟩; refine Hid.out ?_)
  have H1 := Lib.hid (H0.out.next hb1)
  obtain ⟨c0, -⟩ := (H0.out.next hb1).s
  clear H0 hb1 HK
  refine Lib.hid ?_
  go_wp2_with fail
  refine wp_region_noPanic ?_
  refine wp_region_held_drew (S := (fun W => W.cell? ⟨w.heap.size, 0, none⟩ = some (.int .i64 0) ∧ W.cell? ⟨w.heap.size, 1, none⟩ = some (.int .i64 c) ∧ W.cell? ⟨w.heap.size, 2, none⟩ = some (.int .i64 s) ∧ W.cell? ⟨w.heap.size, 3, none⟩ = some (.int .i64 a) ∧ W.cell? ⟨w.heap.size, 4, none⟩ = some (.int .i64 n) ∧ W.cell? ⟨w.heap.size, 5, none⟩ = some (.int .i32 ch) ∧ OpTab w.heap.size w.heap.size 26 0 c s a n ch w W)) (by kernel_rfl) ?_ (fun hHeld => ?_)
  · exact (H1.out.next (Below.refl _ _).drew).s
  clear H1 c0
  refine take1 (i := 0) (v := .pointer (some ⟨w.heap.size, 1, none⟩)) rfl (by kernel_rfl) (by kernel_rfl) (by kernel_rfl) (fun _ _ _ h => h) (Or.inl ⟨by rfl, fun w hSw => ?_⟩) hHeld ?_
  · (go_simp)
  try simp only [Act.put, List.setIfInBounds_toArray, List.set_cons_zero, List.set_cons_succ]
  refine take1 (i := 1) (v := .agg #[.int .i64 c, .int .i64 s]) rfl (by kernel_rfl) (by kernel_rfl) (by kernel_rfl) (fun _ _ _ h => h) (Or.inl ⟨by rfl, fun w hSw => ?_⟩) hHeld ?_
  · (go_simp)
  try simp only [Act.put, List.setIfInBounds_toArray, List.set_cons_zero, List.set_cons_succ]
  refine take1 (i := 5) (v := .pointer (some ⟨w.heap.size, 3, none⟩)) rfl (by kernel_rfl) (by kernel_rfl) (by kernel_rfl) (fun _ _ _ h => h) (Or.inl ⟨by rfl, fun w hSw => ?_⟩) hHeld ?_
  · (go_simp)
  try simp only [Act.put, List.setIfInBounds_toArray, List.set_cons_zero, List.set_cons_succ]
  refine take1 (i := 6) (v := .agg #[.int .i64 a, .int .i64 n]) rfl (by kernel_rfl) (by kernel_rfl) (by kernel_rfl) (fun _ _ _ h => h) (Or.inl ⟨by rfl, fun w hSw => ?_⟩) hHeld ?_
  · (go_simp)
  try simp only [Act.put, List.setIfInBounds_toArray, List.set_cons_zero, List.set_cons_succ]
  refine take1 (i := 10) (v := .pointer (some ⟨w.heap.size, 5, none⟩)) rfl (by kernel_rfl) (by kernel_rfl) (by kernel_rfl) (fun _ _ _ h => h) (Or.inl ⟨by rfl, fun w hSw => ?_⟩) hHeld ?_
  · (go_simp)
  try simp only [Act.put, List.setIfInBounds_toArray, List.set_cons_zero, List.set_cons_succ]
  refine take1 (i := 11) (v := .int .i32 ch) rfl (by kernel_rfl) (by kernel_rfl) (by kernel_rfl) (fun _ _ _ h => h) (Or.inl ⟨by rfl, fun w hSw => ?_⟩) hHeld ?_
  · (go_simp)
  try simp only [Act.put, List.setIfInBounds_toArray, List.set_cons_zero, List.set_cons_succ]
  refine take1 (i := 12) (v := .int .i64 ch) rfl (by kernel_rfl) (by kernel_rfl) (by kernel_rfl) (fun _ _ _ h => h) (Or.inl ⟨by rfl, fun w hSw => ?_⟩) hHeld ?_
  · (go_simp)
  try simp only [Act.put, List.setIfInBounds_toArray, List.set_cons_zero, List.set_cons_succ]
  refine wpAnyH_ready (rs := [2]) (by kernel_rfl) (by simp) ?_
  refine cons1 rfl (fun K hK => ?_) AllReadyH.nil
  go_simp
  refine (string_yes c s _ HM.out.may hHeld.2.2.2.2.2.2.2.1).mono ?_
  rintro e' u1 ⟨rfl, hb⟩
  go_wp2_with fail
  refine hK.out _ _ ((hHeld.2.2.2.2.2.2.next hb).s) (fun hHeld2 => ?_)
  clear hK K hHeld hb
  have hHeld := hHeld2
  clear hHeld2
  try simp only [Act.put, List.setIfInBounds_toArray, List.set_cons_zero, List.set_cons_succ]
  refine take1 (i := 3) (v := .string (ins1 c s)) rfl (by kernel_rfl) (by kernel_rfl) (by kernel_rfl) (fun _ _ _ h => h) (Or.inl ⟨by rfl, fun w hSw => ?_⟩) hHeld ?_
  · (go_simp)
  try simp only [Act.put, List.setIfInBounds_toArray, List.set_cons_zero, List.set_cons_succ]
  refine take1 (i := 4) (v := .string (ins2 c s)) rfl (by kernel_rfl) (by kernel_rfl) (by kernel_rfl) (fun _ _ _ h => h) (Or.inl ⟨by rfl, fun w hSw => ?_⟩) hHeld ?_
  · (go_simp)
  try simp only [Act.put, List.setIfInBounds_toArray, List.set_cons_zero, List.set_cons_succ]
  refine wpAnyH_ready (rs := [7]) (by kernel_rfl) (by simp) ?_
  refine cons1 rfl (fun K hK => ?_) AllReadyH.nil
  go_simp
  refine (ancStr_any a n _ HM.out.anc hHeld.2.2.2.2.2.2.2).mono ?_
  rintro e' u2 ⟨rfl, hb⟩
  go_wp2_with fail
  refine hK.out _ _ ((hHeld.2.2.2.2.2.2.next hb).s) (fun hHeld2 => ?_)
  clear hK K hHeld hb
  have hHeld := hHeld2
  clear hHeld2
  try simp only [Act.put, List.setIfInBounds_toArray, List.set_cons_zero, List.set_cons_succ]
  refine take1 (i := 8) (v := .string (ins3 c s a n)) rfl (by kernel_rfl) (by kernel_rfl) (by kernel_rfl) (fun _ _ _ h => h) (Or.inl ⟨by rfl, fun w hSw => ?_⟩) hHeld ?_
  · (go_simp)
  try simp only [Act.put, List.setIfInBounds_toArray, List.set_cons_zero, List.set_cons_succ]
  refine take1 (i := 9) (v := .string (ins4 c s a n)) rfl (by kernel_rfl) (by kernel_rfl) (by kernel_rfl) (fun _ _ _ h => h) (Or.inl ⟨by rfl, fun w hSw => ?_⟩) hHeld ?_
  · (go_simp)
  try simp only [Act.put, List.setIfInBounds_toArray, List.set_cons_zero, List.set_cons_succ]
  refine wpAnyH_ready (rs := [13]) (by kernel_rfl) (by simp) ?_
  refine cons1 rfl (fun K hK => ?_) AllReadyH.nil
  go_simp
  refine (fmtHexB ch (by omega) (by omega) _ hHeld.2.2.2.2.2.2.2).mono ?_
  rintro e' u3 ⟨rfl, hb⟩
  go_wp2_with fail
  refine hK.out _ _ ((hHeld.2.2.2.2.2.2.next hb).s) (fun hHeld2 => ?_)
  clear hK K hHeld hb
  have hHeld := hHeld2
  clear hHeld2
  try simp only [Act.put, List.setIfInBounds_toArray, List.set_cons_zero, List.set_cons_succ]
  refine take1 (i := 14) (v := .string (insT c s a n ch)) rfl (by kernel_rfl) (by kernel_rfl) (by kernel_rfl) (fun _ _ _ h => h) (Or.inl ⟨by rfl, fun w hSw => ?_⟩) hHeld ?_
  · (go_simp)
  try simp only [Act.put, List.setIfInBounds_toArray, List.set_cons_zero, List.set_cons_succ]
  refine take1 (i := 15) (v := .string (insT c s a n ch)) rfl (by kernel_rfl) (by kernel_rfl) (by kernel_rfl) (fun _ _ _ h => h) (Or.inl ⟨by rfl, fun w hSw => ?_⟩) hHeld ?_
  · (go_simp)
  try simp only [Act.put, List.setIfInBounds_toArray, List.set_cons_zero, List.set_cons_succ]
  refine wpAnyH_done (by kernel_rfl) ?_ _
  refine NoPanic.normal ?_
  have HB := Lib.hid hHeld.2.2.2.2.2.2.1.2.1
  clear hHeld
  go_wp2_with fail
  go_ret
  exact ⟨rfl, HB.out⟩
theorem opstr_any (k c s a n ch : Int) (w : World) (ht : Tabs w) :
    Calls Tryd.prog 9 #[.agg #[.int .i64 k, .int .i64 c, .int .i64 s, .int .i64 a, .int .i64 n, .int .i32 ch]] w
      fun e w' => e = .returned (.string (opT k c s a n ch)) ∧ Below w.heap.size w w' := by
  by_cases h : chkE k c s a n ch = 0
  · rcases chk_ok h with ⟨rfl, hk⟩ | ⟨rfl, rfl, rfl, rfl, hm⟩
    · rw [opT_ins hk]; exact opstr_ins c s a n ch w hk ht
    · rw [opT_del hm]; exact opstr_del c s w hm ht
  · rw [opT_wrong h]; exact opstr_wrong k c s a n ch w h
end Go.Proofs.YtbfnehpmlngagaaDoor
