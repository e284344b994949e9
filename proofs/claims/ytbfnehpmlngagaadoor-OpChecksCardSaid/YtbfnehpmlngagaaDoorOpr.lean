/-
  The contracts of Check of the document's answers of layer 5 (the same as the program's Check), and of the law's Of (an operation as the document has it). Nothing that existed has changed.
-/
import Derived.Test.YtbfnehpmlngagaaDoorOpl
namespace Go.Proofs.YtbfnehpmlngagaaDoor
open Go Go.Proofs Go.RowKit

theorem chk_kind {k c s a n ch : Int} (h : kindE k a n ch = 1) : chkE k c s a n ch = 1 := by simp [chkE, firstE, h]
theorem chk_id {k c s a n ch : Int} (h : kindE k a n ch = 0) (h1 : mayB c s = false) : chkE k c s a n ch = 2 := by simp [chkE, firstE, h, idE, h1]
theorem chk_anc {k c s a n ch : Int} (h : kindE k a n ch = 0) (h1 : mayB c s = true) (h2 : noneB a n = false) (h3 : mayB a n = false) : chkE k c s a n ch = 2 := by simp [chkE, firstE, h, idE, h1, ancE, h2, h3]
theorem chk_ord {k c s a n ch : Int} (h : kindE k a n ch = 0) (h1 : mayB c s = true) (h2 : noneB a n = false) (h3 : mayB a n = true) (h4 : c ≤ a) : chkE k c s a n ch = 3 := by simp [chkE, firstE, h, idE, h1, ancE, h2, h3, ordE, h4]
theorem may_pos {c s : Int} (h : mayB c s = true) : 1 ≤ c := by simp [mayB] at h; omega
theorem chk_none {k c s ch : Int} (h : kindE k 0 0 ch = 0) (h1 : mayB c s = true) : chkE k c s 0 0 ch = chrE k ch := by
  have := may_pos h1
  have h2 : noneB 0 0 = true := by decide
  have h3 : ¬ c ≤ 0 := by omega
  simp [chkE, firstE, h, idE, h1, ancE, h2, ordE, h3]
  intro h; rw [h]
theorem chk_some {k c s a n ch : Int} (h : kindE k a n ch = 0) (h1 : mayB c s = true) (h2 : noneB a n = false) (h3 : mayB a n = true) (h4 : ¬ c ≤ a) : chkE k c s a n ch = chrE k ch := by
  simp [chkE, firstE, h, idE, h1, ancE, h2, h3, ordE, h4]
  intro h; rw [h]
theorem none_no {a n : Int} (h : noneB a n = false) : (a = 0 ∧ (n == 0) = false ∧ ¬ n = 0) ∨ ((a == 0) = false ∧ ¬ a = 0) := by
  simp only [noneB, decide_eq_false_iff_not] at h
  by_cases ha : a = 0
  · exact .inl ⟨ha, by simp; omega, by omega⟩
  · exact .inr ⟨by simpa using ha, ha⟩
theorem none_yes {a n : Int} (h : noneB a n = true) : a = 0 ∧ n = 0 := by simpa [noneB] using h
theorem char_cases (ch : Int) : (ch < 32) ∨ (32 ≤ ch ∧ ch < 55296) ∨ (55296 ≤ ch ∧ ch ≤ 57343) ∨ (57343 < ch ∧ ch ≤ 1114111) ∨ 1114111 < ch := by omega

set_option maxHeartbeats 3200000 in
set_option maxRecDepth 100000 in
theorem refcheck_early (k c s a n ch : Int) (w : World) (h : kindE k a n ch = 1) :
    Calls Tryd.prog 7 #[.agg #[.int .i64 k, .int .i64 c, .int .i64 s, .int .i64 a, .int .i64 n, .int .i32 ch]] w
      fun e w' => e = .returned (.int .i64 (chkE k c s a n ch)) ∧ Below w.heap.size w w' := by
  rw [chk_kind h]
  by_cases h0 : k = 0
  · simp [kindE, h0] at h
  by_cases h1 : k = 1
  · subst h1
    rcases hn : noneB a n with _ | _
    · clear h h0
      rcases none_no hn with ⟨rfl, h1, h2⟩ | ⟨h1, h2⟩
      all_goals
        clear hn
        go_enter Tryd.func7, Tryd.ntmps7
        go_wp2
        go_ret
        exact ⟨rfl, (Below.refl _ _).alloc (Nat.le_refl _) _⟩
    · obtain ⟨rfl, rfl⟩ := none_yes hn
      have hc : ¬ ch = 0 := by intro e; simp [kindE, hn, e] at h
      have hcb : (ch == 0) = false := by simpa using hc
      clear h h0 hn
      go_enter Tryd.func7, Tryd.ntmps7
      go_wp2
      go_ret
      exact ⟨rfl, (Below.refl _ _).alloc (Nat.le_refl _) _⟩
  · have b0 : (k == 0) = false := by simpa using h0
    have b1 : (k == 1) = false := by simpa using h1
    have b2 : (k != 0) = true := by simpa using h0
    have b3 : (k != 1) = true := by simpa using h1
    clear h
    rcases hn : noneB a n with _ | _
    · rcases none_no hn with ⟨rfl, h1, h2⟩ | ⟨h1, h2⟩
      all_goals
        clear hn
        go_enter Tryd.func7, Tryd.ntmps7
        go_wp2
        go_ret
        exact ⟨rfl, (Below.refl _ _).alloc (Nat.le_refl _) _⟩
    · obtain ⟨rfl, rfl⟩ := none_yes hn
      clear hn
      go_enter Tryd.func7, Tryd.ntmps7
      go_wp2
      go_ret
      exact ⟨rfl, (Below.refl _ _).alloc (Nat.le_refl _) _⟩

/-- An operation whose kind's check passes. -/
theorem kind_zero {k a n ch : Int} (h : kindE k a n ch = 0) : k = 0 ∨ (k = 1 ∧ a = 0 ∧ n = 0 ∧ ch = 0) := by
  unfold kindE at h
  split at h
  · exact .inl (by assumption)
  · split at h
    · rename_i h2
      obtain ⟨h2, h3, h4⟩ := h2
      obtain ⟨h5, h6⟩ := none_yes h3
      exact .inr ⟨h2, h5, h6, h4⟩
    · cases h

set_option maxHeartbeats 3200000 in
set_option maxRecDepth 100000 in
theorem refcheck_id (k c s a n ch : Int) (w : World) (h : kindE k a n ch = 0) (hm : mayB c s = false) :
    Calls Tryd.prog 7 #[.agg #[.int .i64 k, .int .i64 c, .int .i64 s, .int .i64 a, .int .i64 n, .int .i32 ch]] w
      fun e w' => e = .returned (.int .i64 (chkE k c s a n ch)) ∧ Below w.heap.size w w' := by
  rw [chk_id h hm]
  rcases kind_zero h with rfl | ⟨rfl, rfl, rfl, rfl⟩
  · rcases hn : noneB a n with _ | _
    · rcases none_no hn with ⟨rfl, h1, h2⟩ | ⟨h1, h2⟩
      all_goals
        clear hn h
        go_enter Tryd.func7, Tryd.ntmps7
        go_wp2_with (go_at_call 19; refine (may_any _ _ _).mono ?_; rintro e w1 ⟨rfl, hb1⟩)
        go_ret
        exact ⟨rfl, ((Below.refl _ _).alloc (Nat.le_refl _) _).trans (hb1.mono (by simp))⟩
    · obtain ⟨rfl, rfl⟩ := none_yes hn
      clear hn h
      go_enter Tryd.func7, Tryd.ntmps7
      go_wp2_with (go_at_call 19; refine (may_any _ _ _).mono ?_; rintro e w1 ⟨rfl, hb1⟩)
      go_ret
      exact ⟨rfl, ((Below.refl _ _).alloc (Nat.le_refl _) _).trans (hb1.mono (by simp))⟩
  · clear h
    go_enter Tryd.func7, Tryd.ntmps7
    go_wp2_with (go_at_call 19; refine (may_any _ _ _).mono ?_; rintro e w1 ⟨rfl, hb1⟩)
    go_ret
    exact ⟨rfl, ((Below.refl _ _).alloc (Nat.le_refl _) _).trans (hb1.mono (by simp))⟩

theorem chr_one {ch : Int} (h : ch < 32 ∨ (55296 ≤ ch ∧ ch ≤ 57343) ∨ 1114111 < ch) : chrE 0 ch = 1 := by
  have : ch < 32 ∨ runeB ch = false := by simp [runeB]; omega
  simp [chrE, this]
theorem chr_zero {ch : Int} (h : (32 ≤ ch ∧ ch < 55296) ∨ (57343 < ch ∧ ch ≤ 1114111)) : chrE 0 ch = 0 := by
  have : ¬ (ch < 32 ∨ runeB ch = false) := by simp [runeB]; omega
  simp [chrE, this]

set_option maxHeartbeats 3200000 in
set_option maxRecDepth 100000 in
theorem refcheck_none (c s ch : Int) (w : World) (hm : mayB c s = true) :
    Calls Tryd.prog 7 #[.agg #[.int .i64 0, .int .i64 c, .int .i64 s, .int .i64 0, .int .i64 0, .int .i32 ch]] w
      fun e w' => e = .returned (.int .i64 (chkE 0 c s 0 0 ch)) ∧ Below w.heap.size w w' := by
  rw [chk_none (by simp [kindE]) hm]
  have HS := Lib.hid (Blk.start w [.int .i64 0, .int .i64 c, .int .i64 s, .int .i64 0, .int .i64 0, .int .i32 ch] 33)
  rcases char_cases ch with h | ⟨h, h'⟩ | ⟨h, h'⟩ | ⟨h, h'⟩ | h
  all_goals
    first
      | rw [chr_one (by omega)]
      | rw [chr_zero (by omega)]
    go_enter Tryd.func7, Tryd.ntmps7
    go_wp2_with (go_at_call 19; refine (may_any _ _ _).mono ?_; rintro e w1 ⟨rfl, hb1⟩; refine Hid.out ?_)
    have hs := HS.out.next hb1
    have c0 := hs.cell 0 rfl
    have c3 := hs.cell 3 rfl
    have c4 := hs.cell 4 rfl
    have c5 := hs.cell 5 rfl
    clear hs
    refine Lib.hid ?_
    go_wp2
    go_ret
    exact ⟨rfl, ((Below.refl _ _).alloc (Nat.le_refl _) _).trans (hb1.mono (by simp))⟩

set_option maxHeartbeats 3200000 in
set_option maxRecDepth 100000 in
theorem refcheck_del (c s : Int) (w : World) (hm : mayB c s = true) :
    Calls Tryd.prog 7 #[.agg #[.int .i64 1, .int .i64 c, .int .i64 s, .int .i64 0, .int .i64 0, .int .i32 0]] w
      fun e w' => e = .returned (.int .i64 (chkE 1 c s 0 0 0)) ∧ Below w.heap.size w w' := by
  rw [chk_none (by simp [kindE, noneB]) hm, show chrE 1 0 = 0 by simp [chrE]]
  have HS := Lib.hid (Blk.start w [.int .i64 1, .int .i64 c, .int .i64 s, .int .i64 0, .int .i64 0, .int .i32 0] 33)
  go_enter Tryd.func7, Tryd.ntmps7
  go_wp2_with (go_at_call 19; refine (may_any _ _ _).mono ?_; rintro e w1 ⟨rfl, hb1⟩; refine Hid.out ?_)
  have hs := HS.out.next hb1
  have c0 := hs.cell 0 rfl
  have c3 := hs.cell 3 rfl
  have c4 := hs.cell 4 rfl
  have c5 := hs.cell 5 rfl
  clear hs
  refine Lib.hid ?_
  go_wp2
  go_ret
  exact ⟨rfl, ((Below.refl _ _).alloc (Nat.le_refl _) _).trans (hb1.mono (by simp))⟩

set_option maxHeartbeats 3200000 in
set_option maxRecDepth 100000 in
theorem refcheck_some (c s a n ch : Int) (w : World) (hm : mayB c s = true) (hn : noneB a n = false) :
    Calls Tryd.prog 7 #[.agg #[.int .i64 0, .int .i64 c, .int .i64 s, .int .i64 a, .int .i64 n, .int .i32 ch]] w
      fun e w' => e = .returned (.int .i64 (chkE 0 c s a n ch)) ∧ Below w.heap.size w w' := by
  have HS := Lib.hid (Blk.start w [.int .i64 0, .int .i64 c, .int .i64 s, .int .i64 a, .int .i64 n, .int .i32 ch] 33)
  rcases hma : mayB a n with _ | _
  · rw [chk_anc (by simp [kindE]) hm hn hma]
    rcases none_no hn with ⟨rfl, h1, h2⟩ | ⟨h1, h2⟩
    all_goals
      clear hn
      go_enter Tryd.func7, Tryd.ntmps7
      go_wp2_with (go_at_call 19; refine (may_any _ _ _).mono ?_; rintro e w1 ⟨rfl, hb1⟩; refine Hid.out ?_)
      have hs := HS.out.next hb1
      have c3 := hs.cell 3 rfl
      have c4 := hs.cell 4 rfl
      clear hs
      refine Lib.hid ?_
      go_wp2_with (go_at_call 19; refine (may_any _ _ _).mono ?_; rintro e w2 ⟨rfl, hb2⟩)
      go_ret
      exact ⟨rfl, (((Below.refl _ _).alloc (Nat.le_refl _) _).trans (hb1.mono (by simp))).trans (hb2.mono (by have := hb1.size; simp at this; omega))⟩
  · have ha := may_pos hma
    have h1 : (a == 0) = false := by simp; omega
    have h2 : ¬ a = 0 := by omega
    by_cases ho : c ≤ a
    · rw [chk_ord (by simp [kindE]) hm hn hma ho]
      clear hn ha
      go_enter Tryd.func7, Tryd.ntmps7
      go_wp2_with (go_at_call 19; refine (may_any _ _ _).mono ?_; rintro e w1 ⟨rfl, hb1⟩; refine Hid.out ?_)
      have hs := HS.out.next hb1
      have c3 := hs.cell 3 rfl
      have c4 := hs.cell 4 rfl
      refine Lib.hid ?_
      go_wp2_with (go_at_call 19; refine (may_any _ _ _).mono ?_; rintro e w2 ⟨rfl, hb2⟩; refine Hid.out ?_)
      have hs' := hs.next hb2
      have d1 := hs'.cell 1 rfl
      have d3 := hs'.cell 3 rfl
      refine Lib.hid ?_
      go_wp2
      go_ret
      exact ⟨rfl, (((Below.refl _ _).alloc (Nat.le_refl _) _).trans (hb1.mono (by simp))).trans (hb2.mono (by have := hb1.size; simp at this; omega))⟩
    · rw [chk_some (by simp [kindE]) hm hn hma ho]
      clear hn ha
      rcases char_cases ch with h | ⟨h, h'⟩ | ⟨h, h'⟩ | ⟨h, h'⟩ | h
      all_goals
        first
          | rw [chr_one (by omega)]
          | rw [chr_zero (by omega)]
        go_enter Tryd.func7, Tryd.ntmps7
        go_wp2_with (go_at_call 19; refine (may_any _ _ _).mono ?_; rintro e w1 ⟨rfl, hb1⟩; refine Hid.out ?_)
        have hs := HS.out.next hb1
        have c3 := hs.cell 3 rfl
        have c4 := hs.cell 4 rfl
        refine Lib.hid ?_
        go_wp2_with (go_at_call 19; refine (may_any _ _ _).mono ?_; rintro e w2 ⟨rfl, hb2⟩; refine Hid.out ?_)
        have hs' := hs.next hb2
        have d0 := hs'.cell 0 rfl
        have d1 := hs'.cell 1 rfl
        have d3 := hs'.cell 3 rfl
        have d5 := hs'.cell 5 rfl
        refine Lib.hid ?_
        go_wp2
        go_ret
        exact ⟨rfl, (((Below.refl _ _).alloc (Nat.le_refl _) _).trans (hb1.mono (by simp))).trans (hb2.mono (by have := hb1.size; simp at this; omega))⟩

theorem kind_two (k a n ch : Int) : kindE k a n ch = 1 ∨ kindE k a n ch = 0 := by
  unfold kindE
  split
  · exact .inr rfl
  · split
    · exact .inr rfl
    · exact .inl rfl
theorem refcheck_any (k c s a n ch : Int) (w : World) :
    Calls Tryd.prog 7 #[.agg #[.int .i64 k, .int .i64 c, .int .i64 s, .int .i64 a, .int .i64 n, .int .i32 ch]] w
      fun e w' => e = .returned (.int .i64 (chkE k c s a n ch)) ∧ Below w.heap.size w w' := by
  rcases kind_two k a n ch with h | h
  · exact refcheck_early k c s a n ch w h
  · rcases hm : mayB c s with _ | _
    · exact refcheck_id k c s a n ch w h hm
    · rcases kind_zero h with rfl | ⟨rfl, rfl, rfl, rfl⟩
      · rcases hn : noneB a n with _ | _
        · exact refcheck_some c s a n ch w hm hn
        · obtain ⟨rfl, rfl⟩ := none_yes hn
          exact refcheck_none c s ch w hm
      · exact refcheck_del c s w hm

/-- The boxes of Of. -/
structure OfB (w : World) (k c s a n ch : Int) (vs : List Value) (W : World) : Prop where
  bel : Below w.heap.size w W
  ba : Blk W w.heap.size [.int .i64 k, .int .i64 c, .int .i64 s, .int .i64 a, .int .i64 n, .int .i32 ch] 26
  br : Blk W (w.heap.size + 1) vs 33
theorem OfB.next {w : World} {k c s a n ch : Int} {vs : List Value} {W W' : World} (h : OfB w k c s a n ch vs W) (hb : Below W.heap.size W W') : OfB w k c s a n ch vs W' :=
  ⟨h.bel.trans (hb.mono h.bel.size), h.ba.next hb, h.br.next hb⟩
theorem OfB.s {w : World} {k c s a n ch : Int} {vs : List Value} {W : World} (h : OfB w k c s a n ch vs W) :
    W.cell? ⟨w.heap.size, 0, none⟩ = some (.int .i64 k) ∧ W.cell? ⟨w.heap.size, 1, none⟩ = some (.int .i64 c) ∧ W.cell? ⟨w.heap.size, 2, none⟩ = some (.int .i64 s) ∧ W.cell? ⟨w.heap.size, 3, none⟩ = some (.int .i64 a) ∧ W.cell? ⟨w.heap.size, 4, none⟩ = some (.int .i64 n) ∧ W.cell? ⟨w.heap.size, 5, none⟩ = some (.int .i32 ch) ∧ OfB w k c s a n ch vs W :=
  ⟨h.ba.cell 0 rfl, h.ba.cell 1 rfl, h.ba.cell 2 rfl, h.ba.cell 3 rfl, h.ba.cell 4 rfl, h.ba.cell 5 rfl, h⟩
theorem OfB.start {w : World} {k c s a n ch : Int} : OfB w k c s a n ch [.int .i64 0, .int .i64 0, .int .i64 0, .int .i64 0, .int .i64 0, .int .i32 0] ((w.alloc (.cells #[.int .i64 k, .int .i64 c, .int .i64 s, .int .i64 a, .int .i64 n, .int .i32 ch] 26)).alloc (.cells #[.int .i64 0, .int .i64 0, .int .i64 0, .int .i64 0, .int .i64 0, .int .i32 0] 33)) :=
  ⟨((Below.refl _ _).alloc (Nat.le_refl _) _).alloc (by simp) _, (Blk.start w _ _).alloc _, Blk.startAt (by simp)⟩
theorem OfB.put {w : World} {k c s a n ch : Int} {vs : List Value} {W : World} (h : OfB w k c s a n ch vs W) (hl : vs.length = 6) :
    OfB w k c s a n ch [.int .i64 k, .int .i64 c, .int .i64 s, .int .i64 a, .int .i64 n, .int .i32 ch] ((((((W.setCell ⟨w.heap.size + 1, 0, none⟩ (.int .i64 k)).setCell ⟨w.heap.size + 1, 1, none⟩ (.int .i64 c)).setCell ⟨w.heap.size + 1, 2, none⟩ (.int .i64 s)).setCell ⟨w.heap.size + 1, 3, none⟩ (.int .i64 a)).setCell ⟨w.heap.size + 1, 4, none⟩ (.int .i64 n)).setCell ⟨w.heap.size + 1, 5, none⟩ (.int .i32 ch)) := by
  have n0 : w.heap.size ≠ w.heap.size + 1 := by omega
  have hle : w.heap.size ≤ w.heap.size + 1 := by omega
  have hs := (((((h.br.set 0 (.int .i64 k)).set 1 (.int .i64 c)).set 2 (.int .i64 s)).set 3 (.int .i64 a)).set 4 (.int .i64 n)).set 5 (.int .i32 ch)
  refine ⟨(((((h.bel.setCell (p := ⟨w.heap.size + 1, 0, none⟩) hle _).setCell (p := ⟨w.heap.size + 1, 1, none⟩) hle _).setCell (p := ⟨w.heap.size + 1, 2, none⟩) hle _).setCell (p := ⟨w.heap.size + 1, 3, none⟩) hle _).setCell (p := ⟨w.heap.size + 1, 4, none⟩) hle _).setCell (p := ⟨w.heap.size + 1, 5, none⟩) hle _,
    (((((h.ba.other _ n0 _).other _ n0 _).other _ n0 _).other _ n0 _).other _ n0 _).other _ n0 _, ?_⟩
  match vs, hl, hs with
  | [_, _, _, _, _, _], _, hs => exact hs

set_option maxHeartbeats 1600000 in
set_option maxRecDepth 100000 in
theorem of5_any (k c s a n ch : Int) (w : World) :
    Calls Tryd.prog 8 #[.agg #[.int .i64 k, .int .i64 c, .int .i64 s, .int .i64 a, .int .i64 n, .int .i32 ch]] w
      fun r w' => r = .returned (.agg #[.int .i64 k, .int .i64 c, .int .i64 s, .int .i64 a, .int .i64 n, .int .i32 ch]) ∧ Below w.heap.size w w' := by
  have H0 := Lib.hid (OfB.start (w := w) (k := k) (c := c) (s := s) (a := a) (n := n) (ch := ch))
  go_enter Tryd.func8, Tryd.ntmps8
  go_wp2_with fail
  refine wp_region_noPanic ?_
  refine wp_region_held_drew (S := (fun W => W.cell? ⟨w.heap.size, 0, none⟩ = some (.int .i64 k) ∧ W.cell? ⟨w.heap.size, 1, none⟩ = some (.int .i64 c) ∧ W.cell? ⟨w.heap.size, 2, none⟩ = some (.int .i64 s) ∧ W.cell? ⟨w.heap.size, 3, none⟩ = some (.int .i64 a) ∧ W.cell? ⟨w.heap.size, 4, none⟩ = some (.int .i64 n) ∧ W.cell? ⟨w.heap.size, 5, none⟩ = some (.int .i32 ch) ∧ ∃ vs, vs.length = 6 ∧ OfB w k c s a n ch vs W)) (by kernel_rfl) ?_ (fun hHeld => ?_)
  · exact let h := (H0.out.next (Below.refl _ _).drew).s; ⟨h.1, h.2.1, h.2.2.1, h.2.2.2.1, h.2.2.2.2.1, h.2.2.2.2.2.1, _, rfl, h.2.2.2.2.2.2⟩
  clear H0
  refine take1 (i := 0) (v := .pointer (some ⟨w.heap.size, 0, none⟩)) rfl (by kernel_rfl) (by kernel_rfl) (by kernel_rfl) (fun _ _ _ h => h) (Or.inl ⟨by rfl, fun w hSw => ?_⟩) hHeld ?_
  · (go_simp)
  try simp only [Act.put, List.setIfInBounds_toArray, List.set_cons_zero, List.set_cons_succ]
  refine take1 (i := 1) (v := .int .i64 k) rfl (by kernel_rfl) (by kernel_rfl) (by kernel_rfl) (fun _ _ _ h => h) (Or.inl ⟨by rfl, fun w hSw => ?_⟩) hHeld ?_
  · (go_simp)
  try simp only [Act.put, List.setIfInBounds_toArray, List.set_cons_zero, List.set_cons_succ]
  refine take1 (i := 2) (v := .pointer (some ⟨w.heap.size, 1, none⟩)) rfl (by kernel_rfl) (by kernel_rfl) (by kernel_rfl) (fun _ _ _ h => h) (Or.inl ⟨by rfl, fun w hSw => ?_⟩) hHeld ?_
  · (go_simp)
  try simp only [Act.put, List.setIfInBounds_toArray, List.set_cons_zero, List.set_cons_succ]
  refine take1 (i := 3) (v := .agg #[.int .i64 c, .int .i64 s]) rfl (by kernel_rfl) (by kernel_rfl) (by kernel_rfl) (fun _ _ _ h => h) (Or.inl ⟨by rfl, fun w hSw => ?_⟩) hHeld ?_
  · (go_simp)
  try simp only [Act.put, List.setIfInBounds_toArray, List.set_cons_zero, List.set_cons_succ]
  refine take1 (i := 5) (v := .pointer (some ⟨w.heap.size, 3, none⟩)) rfl (by kernel_rfl) (by kernel_rfl) (by kernel_rfl) (fun _ _ _ h => h) (Or.inl ⟨by rfl, fun w hSw => ?_⟩) hHeld ?_
  · (go_simp)
  try simp only [Act.put, List.setIfInBounds_toArray, List.set_cons_zero, List.set_cons_succ]
  refine take1 (i := 6) (v := .agg #[.int .i64 a, .int .i64 n]) rfl (by kernel_rfl) (by kernel_rfl) (by kernel_rfl) (fun _ _ _ h => h) (Or.inl ⟨by rfl, fun w hSw => ?_⟩) hHeld ?_
  · (go_simp)
  try simp only [Act.put, List.setIfInBounds_toArray, List.set_cons_zero, List.set_cons_succ]
  refine take1 (i := 8) (v := .pointer (some ⟨w.heap.size, 5, none⟩)) rfl (by kernel_rfl) (by kernel_rfl) (by kernel_rfl) (fun _ _ _ h => h) (Or.inl ⟨by rfl, fun w hSw => ?_⟩) hHeld ?_
  · (go_simp)
  try simp only [Act.put, List.setIfInBounds_toArray, List.set_cons_zero, List.set_cons_succ]
  refine take1 (i := 9) (v := .int .i32 ch) rfl (by kernel_rfl) (by kernel_rfl) (by kernel_rfl) (fun _ _ _ h => h) (Or.inl ⟨by rfl, fun w hSw => ?_⟩) hHeld ?_
  · (go_simp)
  try simp only [Act.put, List.setIfInBounds_toArray, List.set_cons_zero, List.set_cons_succ]
  refine wpAnyH_ready (rs := [4]) (by kernel_rfl) (by simp) ?_
  refine cons1 rfl (fun K hK => ?_) AllReadyH.nil
  go_simp
  refine (of_any c s _).mono ?_
  rintro e' u1 ⟨rfl, hb⟩
  go_wp2_with fail
  refine hK.out _ _ ((let ⟨vs, hl, hB⟩ := hHeld.2.2.2.2.2.2; let h := (hB.next hb).s; ⟨h.1, h.2.1, h.2.2.1, h.2.2.2.1, h.2.2.2.2.1, h.2.2.2.2.2.1, vs, hl, h.2.2.2.2.2.2⟩)) (fun hHeld2 => ?_)
  clear hK K hHeld hb
  have hHeld := hHeld2
  clear hHeld2
  try simp only [Act.put, List.setIfInBounds_toArray, List.set_cons_zero, List.set_cons_succ]
  refine wpAnyH_ready (rs := [7]) (by kernel_rfl) (by simp) ?_
  refine cons1 rfl (fun K hK => ?_) AllReadyH.nil
  go_simp
  refine (of_any a n _).mono ?_
  rintro e' u2 ⟨rfl, hb⟩
  go_wp2_with fail
  refine hK.out _ _ ((let ⟨vs, hl, hB⟩ := hHeld.2.2.2.2.2.2; let h := (hB.next hb).s; ⟨h.1, h.2.1, h.2.2.1, h.2.2.2.1, h.2.2.2.2.1, h.2.2.2.2.2.1, vs, hl, h.2.2.2.2.2.2⟩)) (fun hHeld2 => ?_)
  clear hK K hHeld hb
  have hHeld := hHeld2
  clear hHeld2
  try simp only [Act.put, List.setIfInBounds_toArray, List.set_cons_zero, List.set_cons_succ]
  obtain ⟨vs, hl, hB⟩ := hHeld.2.2.2.2.2.2
  obtain ⟨k0, f0⟩ := hB.br.live 0 (by omega)
  obtain ⟨k1, f1⟩ := hB.br.live 1 (by omega)
  obtain ⟨k2, f2⟩ := hB.br.live 2 (by omega)
  obtain ⟨k3, f3⟩ := hB.br.live 3 (by omega)
  obtain ⟨k4, f4⟩ := hB.br.live 4 (by omega)
  obtain ⟨k5, f5⟩ := hB.br.live 5 (by omega)
  have HB := Lib.hid hB
  have HL := Lib.hid hl
  clear hB hl
  refine take1 (i := 10) (v := .agg #[.int .i64 k, .int .i64 c, .int .i64 s, .int .i64 a, .int .i64 n, .int .i32 ch]) rfl (by kernel_rfl) (by kernel_rfl) (by kernel_rfl) (fun _ _ _ h => h) (Or.inl ⟨by rfl, fun w hSw => ?_⟩) hHeld ?_
  · (go_simp)
  try simp only [Act.put, List.setIfInBounds_toArray, List.set_cons_zero, List.set_cons_succ]
  refine wpAnyH_ready (rs := [11]) (by kernel_rfl) (by simp) ?_
  refine cons1 rfl (fun K hK => ?_) AllReadyH.nil
  go_simp
  go_wp2_with fail
  refine hK.out _ _ ((let h := (HB.out.put HL.out).s; ⟨h.1, h.2.1, h.2.2.1, h.2.2.2.1, h.2.2.2.2.1, h.2.2.2.2.2.1, [.int .i64 k, .int .i64 c, .int .i64 s, .int .i64 a, .int .i64 n, .int .i32 ch], rfl, h.2.2.2.2.2.2⟩)) (fun hHeld2 => ?_)
  clear hK K hHeld k0 k1 k2 k3 k4 k5 f0 f1 f2 f3 f4 f5
  have hHeld := hHeld2
  clear hHeld2
  try simp only [Act.put, List.setIfInBounds_toArray, List.set_cons_zero, List.set_cons_succ]
  have HP := Lib.hid (HB.out.put HL.out)
  clear HB HL
  refine wpAnyH_done (by kernel_rfl) ?_ _
  refine NoPanic.normal ?_
  clear hHeld
  have y0 := HP.out.br.cell 0 rfl
  have y1 := HP.out.br.cell 1 rfl
  have y2 := HP.out.br.cell 2 rfl
  have y3 := HP.out.br.cell 3 rfl
  have y4 := HP.out.br.cell 4 rfl
  have y5 := HP.out.br.cell 5 rfl
  have HY := Lib.hid (And.intro y0 (And.intro y1 (And.intro y2 (And.intro y3 (And.intro y4 y5)))))
  clear y0 y1 y2 y3 y4 y5
  go_wp2_with fail
  exact bodyPost_ret (v := .agg #[.int .i64 k, .int .i64 c, .int .i64 s, .int .i64 a, .int .i64 n, .int .i32 ch]) (by obtain ⟨y0, y1, y2, y3, y4, y5⟩ := HY.out; simp [results, Tryd.results8, go_sem, y0, y1, y2, y3, y4, y5]) rfl ⟨rfl, HP.out.bel⟩
end Go.Proofs.YtbfnehpmlngagaaDoor
