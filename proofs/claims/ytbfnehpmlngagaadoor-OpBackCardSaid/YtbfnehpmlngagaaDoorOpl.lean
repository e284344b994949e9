/-
  Contracts of the leaves of layer 5: first, checkKind, checkAnchor, checkOrder, checkChar, Check of package op, the library's ValidRune, Check of the document's answers: each returns what its plain Lean function says, and nothing that existed has changed.
-/
import Derived.Test.YtbfnehpmlngagaaDoorBlk
import Derived.Test.YtbfnehpmlngagaaDoorTake
import Derived.Test.YtbfnehpmlngagaaDoorLeaf
import Derived.Deep.LoopGhost
import Derived.Lib.Hide
namespace Go.Proofs.YtbfnehpmlngagaaDoor
open Go Go.Proofs Go.RowKit

/-- The first of some errors that isn't OK; OK, if there is none. -/
def firstE : List Int → Int
  | [] => 0
  | x :: l => if x = 0 then firstE l else x
/-- The errors l lie from the beginning of block b on. -/
def Errs (w : World) (b : Nat) (l : List Int) : Prop := ∀ i (hi : i < l.length), w.cell? ⟨b, i, none⟩ = some (.int .i64 l[i])
theorem firstE_drop {l : List Int} {k : Nat} (h : k < l.length) : firstE (l.drop k) = if l[k] = 0 then firstE (l.drop (k + 1)) else l[k] := by
  rw [List.drop_eq_getElem_cons h]; rfl
theorem ret_int {a b : Int} (h : a = b) : Ending.returned (.int .i64 a) = .returned (.int .i64 b) := by rw [h]

set_option maxHeartbeats 800000 in
theorem first_any (b cap : Nat) (l : List Int) (w : World) (hcap : l.length ≤ cap) (hmax : cap ≤ 9223372036854775807) (h : Errs w b l) :
    Calls Tryd.prog 13 #[.slice (some ⟨b, 0, none⟩) l.length cap] w
      fun e w' => e = .returned (.int .i64 (firstE l)) ∧ w = w' := by
  have HL := Lib.hid h
  clear h
  go_enter Tryd.func13, Tryd.ntmps13
  go_wp2
  go_loopg [7] l.length (fun g i wr => w = wr ∧ ∃ k : Nat, k ≤ l.length ∧ g = l.length - k ∧ i = .int .i64 k ∧ firstE (l.drop k) = firstE l)
  case atStart => exact ⟨rfl, 0, Nat.zero_le _, rfl, rfl, rfl⟩
  case round =>
    obtain ⟨rfl, k, hk, rfl, rfl, hf⟩ := hrel
    by_cases hlt : k < l.length
    · have hc := HL.out k hlt
      rw [firstE_drop hlt] at hf
      by_cases h0 : l[k] = 0
      · rw [if_pos h0] at hf
        rw [h0] at hc
        have HF := Lib.hid hf
        clear hf h0
        go_wp2
        go_roundg (l.length - (k + 1))
        case measure => omega
        case rel => exact ⟨rfl, k + 1, by omega, rfl, by go_num, HF.out⟩
      · rw [if_neg h0] at hf
        have HF := Lib.hid hf
        have hb : (l[k] == 0) = false := by simpa using h0
        clear hf
        generalize l[k] = y at *
        go_wp2
        go_ret
        exact ⟨ret_int HF.out, rfl⟩
    · have e : l.drop k = [] := List.drop_eq_nil_of_le (by omega)
      rw [e] at hf
      have HF := Lib.hid hf
      clear hf e
      go_wp2
      go_ret
      exact ⟨ret_int HF.out, rfl⟩

/-- What checkKind says. -/
def kindE (k a n ch : Int) : Int := if k = 0 then 0 else if k = 1 ∧ noneB a n = true ∧ ch = 0 then 0 else 1
/-- What Check of an id says. -/
def idE (c s : Int) : Int := if mayB c s = true then 0 else 2
/-- What checkAnchor says. -/
def ancE (a n : Int) : Int := if noneB a n = true then 0 else idE a n
/-- What checkOrder says. -/
def ordE (c a : Int) : Int := if c ≤ a then 3 else 0
/-- A rune that there is. -/
def runeB (ch : Int) : Bool := decide ((0 ≤ ch ∧ ch < 55296) ∨ (57343 < ch ∧ ch ≤ 1114111))
/-- What checkChar says. -/
def chrE (k ch : Int) : Int := if k = 0 ∧ (ch < 32 ∨ runeB ch = false) then 1 else 0
/-- What Check of an operation says. -/
def chkE (k c s a n ch : Int) : Int := firstE [kindE k a n ch, idE c s, ancE a n, ordE c a, chrE k ch]

theorem idcheck_any (c s : Int) (w : World) :
    Calls Tryd.prog 15 #[.agg #[.int .i64 c, .int .i64 s]] w
      fun e w' => e = .returned (.int .i64 (idE c s)) ∧ Below w.heap.size w w' := by
  rcases h : mayB c s with _ | _
  · have := check_no c s w h
    simpa [idE, h] using this
  · have := check_yes c s w h
    simpa [idE, h] using this

set_option maxHeartbeats 800000 in
theorem kind_any (k c s a n ch : Int) (w : World) :
    Calls Tryd.prog 14 #[.agg #[.int .i64 k, .int .i64 c, .int .i64 s, .int .i64 a, .int .i64 n, .int .i32 ch]] w
      fun e w' => e = .returned (.int .i64 (kindE k a n ch)) ∧ Below w.heap.size w w' := by
  by_cases h0 : k = 0
  · subst h0
    have e : kindE 0 a n ch = 0 := by simp [kindE]
    rw [e]; clear e
    go_enter Tryd.func14, Tryd.ntmps14
    go_wp2
    go_ret
    exact ⟨rfl, (Below.refl _ _).alloc (Nat.le_refl _) _⟩
  · have b0 : (k == 0) = false := by simpa using h0
    by_cases h1 : k = 1
    · subst h1
      have HS := Lib.hid (Blk.start w [.int .i64 1, .int .i64 c, .int .i64 s, .int .i64 a, .int .i64 n, .int .i32 ch] 26)
      rcases hn : noneB a n with _ | _
      · have e : kindE 1 a n ch = 1 := by simp [kindE, hn]
        rw [e]; clear e b0 h0
        go_enter Tryd.func14, Tryd.ntmps14
        go_wp2_with (go_at_call 27; refine (none_any _ _ _).mono ?_; rintro e w1 ⟨rfl, hb1⟩)
        go_ret
        exact ⟨rfl, ((Below.refl _ _).alloc (Nat.le_refl _) _).trans (hb1.mono (by simp))⟩
      · by_cases hch : ch = 0
        · subst hch
          have e : kindE 1 a n 0 = 0 := by simp [kindE, hn]
          rw [e]; clear e b0 h0
          go_enter Tryd.func14, Tryd.ntmps14
          go_wp2_with (go_at_call 27; refine (none_any _ _ _).mono ?_; rintro e w1 ⟨rfl, hb1⟩; refine Hid.out ?_)
          have c5 := (HS.out.next hb1).cell 5 rfl
          refine Lib.hid ?_
          go_wp2
          go_ret
          exact ⟨rfl, ((Below.refl _ _).alloc (Nat.le_refl _) _).trans (hb1.mono (by simp))⟩
        · have e : kindE 1 a n ch = 1 := by simp [kindE, hn, hch]
          have bch : (ch == 0) = false := by simpa using hch
          rw [e]; clear e b0 h0 hch
          go_enter Tryd.func14, Tryd.ntmps14
          go_wp2_with (go_at_call 27; refine (none_any _ _ _).mono ?_; rintro e w1 ⟨rfl, hb1⟩; refine Hid.out ?_)
          have c5 := (HS.out.next hb1).cell 5 rfl
          refine Lib.hid ?_
          go_wp2
          go_ret
          exact ⟨rfl, ((Below.refl _ _).alloc (Nat.le_refl _) _).trans (hb1.mono (by simp))⟩
    · have b1 : (k == 1) = false := by simpa using h1
      have e : kindE k a n ch = 1 := by simp [kindE, h0, h1]
      rw [e]; clear e
      go_enter Tryd.func14, Tryd.ntmps14
      go_wp2
      go_ret
      exact ⟨rfl, (Below.refl _ _).alloc (Nat.le_refl _) _⟩

set_option maxHeartbeats 800000 in
theorem anchor_any (k c s a n ch : Int) (w : World) :
    Calls Tryd.prog 16 #[.agg #[.int .i64 k, .int .i64 c, .int .i64 s, .int .i64 a, .int .i64 n, .int .i32 ch]] w
      fun e w' => e = .returned (.int .i64 (ancE a n)) ∧ Below w.heap.size w w' := by
  have HS := Lib.hid (Blk.start w [.int .i64 k, .int .i64 c, .int .i64 s, .int .i64 a, .int .i64 n, .int .i32 ch] 26)
  rcases hn : noneB a n with _ | _
  · have e : ancE a n = idE a n := by simp [ancE, hn]
    rw [e]; clear e
    go_enter Tryd.func16, Tryd.ntmps16
    go_wp2_with (go_at_call 27; refine (none_any _ _ _).mono ?_; rintro e w1 ⟨rfl, hb1⟩; refine Hid.out ?_)
    have c3 := (HS.out.next hb1).cell 3 rfl
    have c4 := (HS.out.next hb1).cell 4 rfl
    refine Lib.hid ?_
    go_wp2_with (go_at_call 15; refine (idcheck_any _ _ _).mono ?_; rintro e w2 ⟨rfl, hb2⟩)
    go_ret
    exact ⟨rfl, (((Below.refl _ _).alloc (Nat.le_refl _) _).trans (hb1.mono (by simp))).trans (hb2.mono (by have := hb1.size; simp at this; omega))⟩
  · have e : ancE a n = 0 := by simp [ancE, hn]
    rw [e]; clear e
    go_enter Tryd.func16, Tryd.ntmps16
    go_wp2_with (go_at_call 27; refine (none_any _ _ _).mono ?_; rintro e w1 ⟨rfl, hb1⟩)
    go_ret
    exact ⟨rfl, ((Below.refl _ _).alloc (Nat.le_refl _) _).trans (hb1.mono (by simp))⟩

set_option maxHeartbeats 800000 in
theorem order_any (k c s a n ch : Int) (w : World) :
    Calls Tryd.prog 17 #[.agg #[.int .i64 k, .int .i64 c, .int .i64 s, .int .i64 a, .int .i64 n, .int .i32 ch]] w
      fun e w' => e = .returned (.int .i64 (ordE c a)) ∧ Below w.heap.size w w' := by
  by_cases h : c ≤ a
  · have e : ordE c a = 3 := by simp [ordE, h]
    rw [e]; clear e
    go_enter Tryd.func17, Tryd.ntmps17
    go_wp2
    go_ret
    exact ⟨rfl, (Below.refl _ _).alloc (Nat.le_refl _) _⟩
  · have e : ordE c a = 0 := by simp [ordE, h]
    rw [e]; clear e
    go_enter Tryd.func17, Tryd.ntmps17
    go_wp2
    go_ret
    exact ⟨rfl, (Below.refl _ _).alloc (Nat.le_refl _) _⟩

theorem rune_cases (ch : Int) : (ch < 0) ∨ (0 ≤ ch ∧ ch < 55296) ∨ (55296 ≤ ch ∧ ch ≤ 57343) ∨ (57343 < ch ∧ ch ≤ 1114111) ∨ 1114111 < ch := by omega
set_option maxHeartbeats 800000 in
theorem rune_any (ch : Int) (w : World) :
    Calls Tryd.prog 28 #[.int .i32 ch] w
      fun e w' => e = .returned (.bool (runeB ch)) ∧ w = w' := by
  rcases rune_cases ch with h | ⟨h1, h2⟩ | ⟨h1, h2⟩ | ⟨h1, h2⟩ | h
  all_goals
    go_enter Tryd.func28, Tryd.ntmps28
    go_wp2
    go_ret
    exact ⟨ret_bool (by simp [runeB]; omega), rfl⟩

set_option maxHeartbeats 800000 in
theorem char_any (k c s a n ch : Int) (w : World) :
    Calls Tryd.prog 18 #[.agg #[.int .i64 k, .int .i64 c, .int .i64 s, .int .i64 a, .int .i64 n, .int .i32 ch]] w
      fun e w' => e = .returned (.int .i64 (chrE k ch)) ∧ Below w.heap.size w w' := by
  by_cases h0 : k = 0
  · subst h0
    by_cases hl : ch < 32
    · have e : chrE 0 ch = 1 := by simp [chrE, hl]
      rw [e]; clear e
      go_enter Tryd.func18, Tryd.ntmps18
      go_wp2
      go_ret
      exact ⟨rfl, (Below.refl _ _).alloc (Nat.le_refl _) _⟩
    · rcases hr : runeB ch with _ | _
      · have e : chrE 0 ch = 1 := by simp [chrE, hr]
        rw [e]; clear e
        go_enter Tryd.func18, Tryd.ntmps18
        go_wp2_with (go_at_call 28; refine (rune_any _ _).mono ?_; rintro e w1 ⟨rfl, rfl⟩)
        go_ret
        exact ⟨rfl, (Below.refl _ _).alloc (Nat.le_refl _) _⟩
      · have e : chrE 0 ch = 0 := by simp [chrE, hr, hl]
        rw [e]; clear e
        go_enter Tryd.func18, Tryd.ntmps18
        go_wp2_with (go_at_call 28; refine (rune_any _ _).mono ?_; rintro e w1 ⟨rfl, rfl⟩)
        go_ret
        exact ⟨rfl, (Below.refl _ _).alloc (Nat.le_refl _) _⟩
  · have b0 : (k == 0) = false := by simpa using h0
    have e : chrE k ch = 0 := by simp [chrE, h0]
    rw [e]; clear e
    go_enter Tryd.func18, Tryd.ntmps18
    go_wp2
    go_ret
    exact ⟨rfl, (Below.refl _ _).alloc (Nat.le_refl _) _⟩

/-- A box in block b holds an operation; below B all is as it was in w. -/
def OpIn (B b : Nat) (t : TypeId) (k c s a n ch : Int) (w W : World) : Prop := Blk W b [.int .i64 k, .int .i64 c, .int .i64 s, .int .i64 a, .int .i64 n, .int .i32 ch] t ∧ Below B w W ∧ B ≤ W.heap.size
theorem OpIn.next {B b : Nat} {t : TypeId} {k c s a n ch : Int} {w W W' : World} (h : OpIn B b t k c s a n ch w W) (hb : Below W.heap.size W W') : OpIn B b t k c s a n ch w W' :=
  ⟨h.1.next hb, h.2.1.trans (hb.mono h.2.2), Nat.le_trans h.2.2 hb.size⟩
theorem OpIn.start (t : TypeId) (k c s a n ch : Int) (w : World) : OpIn w.heap.size w.heap.size t k c s a n ch w (w.alloc (.cells #[.int .i64 k, .int .i64 c, .int .i64 s, .int .i64 a, .int .i64 n, .int .i32 ch] t)) :=
  ⟨Blk.start _ _ _, (Below.refl _ _).alloc (Nat.le_refl _) _, by simp⟩
/-- The same, with the cells laid out. -/
def OpS (B b : Nat) (t : TypeId) (k c s a n ch : Int) (w W : World) : Prop :=
  W.cell? ⟨b, 0, none⟩ = some (.int .i64 k) ∧ W.cell? ⟨b, 1, none⟩ = some (.int .i64 c) ∧ W.cell? ⟨b, 2, none⟩ = some (.int .i64 s) ∧ W.cell? ⟨b, 3, none⟩ = some (.int .i64 a) ∧ W.cell? ⟨b, 4, none⟩ = some (.int .i64 n) ∧ W.cell? ⟨b, 5, none⟩ = some (.int .i32 ch) ∧ OpIn B b t k c s a n ch w W
theorem OpIn.s {B b : Nat} {t : TypeId} {k c s a n ch : Int} {w W : World} (h : OpIn B b t k c s a n ch w W) : OpS B b t k c s a n ch w W :=
  ⟨h.1.cell 0 rfl, h.1.cell 1 rfl, h.1.cell 2 rfl, h.1.cell 3 rfl, h.1.cell 4 rfl, h.1.cell 5 rfl, h⟩
theorem OpS.into {B b : Nat} {t : TypeId} {k c s a n ch : Int} {w W : World} (h : OpS B b t k c s a n ch w W) : OpIn B b t k c s a n ch w W := h.2.2.2.2.2.2

theorem errs_five {W : World} {b : Nat} {t : TypeId} {e0 e1 e2 e3 e4 : Int} (h : Blk W b [.int .i64 e0, .int .i64 e1, .int .i64 e2, .int .i64 e3, .int .i64 e4] t) : Errs W b [e0, e1, e2, e3, e4] := by
  intro i hi
  have hi' : i < 5 := hi
  match i, hi' with
  | 0, _ => exact h.cell 0 rfl
  | 1, _ => exact h.cell 1 rfl
  | 2, _ => exact h.cell 2 rfl
  | 3, _ => exact h.cell 3 rfl
  | 4, _ => exact h.cell 4 rfl
theorem first_five (b : Nat) (t : TypeId) (e0 e1 e2 e3 e4 : Int) (w : World) (h : Blk w b [.int .i64 e0, .int .i64 e1, .int .i64 e2, .int .i64 e3, .int .i64 e4] t) :
    Calls Tryd.prog 13 #[.slice (some ⟨b, 0, none⟩) 5 5] w
      fun e w' => e = .returned (.int .i64 (firstE [e0, e1, e2, e3, e4])) ∧ w = w' :=
  first_any b 5 [e0, e1, e2, e3, e4] w (Nat.le_refl 5) (by omega) (errs_five h)

set_option maxHeartbeats 1600000 in
set_option maxRecDepth 100000 in
theorem opcheck_any (k c s a n ch : Int) (w : World) :
    Calls Tryd.prog 6 #[.agg #[.int .i64 k, .int .i64 c, .int .i64 s, .int .i64 a, .int .i64 n, .int .i32 ch]] w
      fun e w' => e = .returned (.int .i64 (chkE k c s a n ch)) ∧ Below w.heap.size w w' := by
  have H0 := Lib.hid (OpIn.start 26 k c s a n ch w)
  go_enter Tryd.func6, Tryd.ntmps6
  go_wp2_with fail
  refine wp_region_noPanic ?_
  refine wp_region_held_drew (S := (fun W => W.cell? ⟨w.heap.size, 0, none⟩ = some (.int .i64 k) ∧ W.cell? ⟨w.heap.size, 1, none⟩ = some (.int .i64 c) ∧ W.cell? ⟨w.heap.size, 2, none⟩ = some (.int .i64 s) ∧ W.cell? ⟨w.heap.size, 3, none⟩ = some (.int .i64 a) ∧ W.cell? ⟨w.heap.size, 4, none⟩ = some (.int .i64 n) ∧ W.cell? ⟨w.heap.size, 5, none⟩ = some (.int .i32 ch) ∧ OpIn w.heap.size w.heap.size 26 k c s a n ch w W)) (by kernel_rfl) ?_ (fun hHeld => ?_)
  · exact (H0.out.next (Below.refl _ _).drew).s
  clear H0
  refine take1 (i := 0) (v := .agg #[.int .i64 k, .int .i64 c, .int .i64 s, .int .i64 a, .int .i64 n, .int .i32 ch]) rfl (by kernel_rfl) (by kernel_rfl) (by kernel_rfl) (fun _ _ _ h => h) (Or.inl ⟨by rfl, fun w hSw => ?_⟩) hHeld ?_
  · (go_simp)
  try simp only [Act.put, List.setIfInBounds_toArray, List.set_cons_zero, List.set_cons_succ]
  refine take1 (i := 2) (v := .pointer (some ⟨w.heap.size, 1, none⟩)) rfl (by kernel_rfl) (by kernel_rfl) (by kernel_rfl) (fun _ _ _ h => h) (Or.inl ⟨by rfl, fun w hSw => ?_⟩) hHeld ?_
  · (go_simp)
  try simp only [Act.put, List.setIfInBounds_toArray, List.set_cons_zero, List.set_cons_succ]
  refine take1 (i := 3) (v := .agg #[.int .i64 c, .int .i64 s]) rfl (by kernel_rfl) (by kernel_rfl) (by kernel_rfl) (fun _ _ _ h => h) (Or.inl ⟨by rfl, fun w hSw => ?_⟩) hHeld ?_
  · (go_simp)
  try simp only [Act.put, List.setIfInBounds_toArray, List.set_cons_zero, List.set_cons_succ]
  refine take1 (i := 5) (v := .agg #[.int .i64 k, .int .i64 c, .int .i64 s, .int .i64 a, .int .i64 n, .int .i32 ch]) rfl (by kernel_rfl) (by kernel_rfl) (by kernel_rfl) (fun _ _ _ h => h) (Or.inl ⟨by rfl, fun w hSw => ?_⟩) hHeld ?_
  · (go_simp)
  try simp only [Act.put, List.setIfInBounds_toArray, List.set_cons_zero, List.set_cons_succ]
  refine take1 (i := 7) (v := .agg #[.int .i64 k, .int .i64 c, .int .i64 s, .int .i64 a, .int .i64 n, .int .i32 ch]) rfl (by kernel_rfl) (by kernel_rfl) (by kernel_rfl) (fun _ _ _ h => h) (Or.inl ⟨by rfl, fun w hSw => ?_⟩) hHeld ?_
  · (go_simp)
  try simp only [Act.put, List.setIfInBounds_toArray, List.set_cons_zero, List.set_cons_succ]
  refine take1 (i := 9) (v := .agg #[.int .i64 k, .int .i64 c, .int .i64 s, .int .i64 a, .int .i64 n, .int .i32 ch]) rfl (by kernel_rfl) (by kernel_rfl) (by kernel_rfl) (fun _ _ _ h => h) (Or.inl ⟨by rfl, fun w hSw => ?_⟩) hHeld ?_
  · (go_simp)
  try simp only [Act.put, List.setIfInBounds_toArray, List.set_cons_zero, List.set_cons_succ]
  refine wpAnyH_ready (rs := [1]) (by kernel_rfl) (by simp) ?_
  refine cons1 rfl (fun K hK => ?_) AllReadyH.nil
  go_simp
  refine (kind_any k c s a n ch _).mono ?_
  rintro e' u1 ⟨rfl, hb⟩
  go_wp2_with fail
  refine hK.out _ _ ((hHeld.2.2.2.2.2.2.next hb).s) (fun hHeld2 => ?_)
  clear hK K hHeld hb
  have hHeld := hHeld2
  clear hHeld2
  try simp only [Act.put, List.setIfInBounds_toArray, List.set_cons_zero, List.set_cons_succ]
  refine wpAnyH_ready (rs := [4]) (by kernel_rfl) (by simp) ?_
  refine cons1 rfl (fun K hK => ?_) AllReadyH.nil
  go_simp
  refine (idcheck_any c s _).mono ?_
  rintro e' u2 ⟨rfl, hb⟩
  go_wp2_with fail
  refine hK.out _ _ ((hHeld.2.2.2.2.2.2.next hb).s) (fun hHeld2 => ?_)
  clear hK K hHeld hb
  have hHeld := hHeld2
  clear hHeld2
  try simp only [Act.put, List.setIfInBounds_toArray, List.set_cons_zero, List.set_cons_succ]
  refine wpAnyH_ready (rs := [6]) (by kernel_rfl) (by simp) ?_
  refine cons1 rfl (fun K hK => ?_) AllReadyH.nil
  go_simp
  refine (anchor_any k c s a n ch _).mono ?_
  rintro e' u3 ⟨rfl, hb⟩
  go_wp2_with fail
  refine hK.out _ _ ((hHeld.2.2.2.2.2.2.next hb).s) (fun hHeld2 => ?_)
  clear hK K hHeld hb
  have hHeld := hHeld2
  clear hHeld2
  try simp only [Act.put, List.setIfInBounds_toArray, List.set_cons_zero, List.set_cons_succ]
  refine wpAnyH_ready (rs := [8]) (by kernel_rfl) (by simp) ?_
  refine cons1 rfl (fun K hK => ?_) AllReadyH.nil
  go_simp
  refine (order_any k c s a n ch _).mono ?_
  rintro e' u4 ⟨rfl, hb⟩
  go_wp2_with fail
  refine hK.out _ _ ((hHeld.2.2.2.2.2.2.next hb).s) (fun hHeld2 => ?_)
  clear hK K hHeld hb
  have hHeld := hHeld2
  clear hHeld2
  try simp only [Act.put, List.setIfInBounds_toArray, List.set_cons_zero, List.set_cons_succ]
  refine wpAnyH_ready (rs := [10]) (by kernel_rfl) (by simp) ?_
  refine cons1 rfl (fun K hK => ?_) AllReadyH.nil
  go_simp
  refine (char_any k c s a n ch _).mono ?_
  rintro e' u5 ⟨rfl, hb⟩
  go_wp2_with fail
  refine hK.out _ _ ((hHeld.2.2.2.2.2.2.next hb).s) (fun hHeld2 => ?_)
  clear hK K hHeld hb
  have hHeld := hHeld2
  clear hHeld2
  try simp only [Act.put, List.setIfInBounds_toArray, List.set_cons_zero, List.set_cons_succ]
  refine wpAnyH_ready (rs := [11]) (by kernel_rfl) (by simp) ?_
  refine cons1 rfl (fun K hK => ?_) AllReadyH.nil
  go_simp
  go_wp2_with fail
  refine hK.out _ _ ((hHeld.2.2.2.2.2.2.next ((Below.refl _ _).alloc (Nat.le_refl _) _)).s) (fun hHeld2 => ?_)
  clear hK K hHeld 
  have hHeld := hHeld2
  clear hHeld2
  try simp only [Act.put, List.setIfInBounds_toArray, List.set_cons_zero, List.set_cons_succ]
  refine wpAnyH_ready (rs := [12]) (by kernel_rfl) (by simp) ?_
  refine cons1 rfl (fun K hK => ?_) AllReadyH.nil
  go_simp
  refine (first_five _ 28 (kindE k a n ch) (idE c s) (ancE a n) (ordE c a) (chrE k ch) _ (Blk.start _ _ _)).mono ?_
  rintro e' u6 ⟨rfl, rfl⟩
  go_wp2_with fail
  refine hK.out _ _ (hHeld) (fun hHeld2 => ?_)
  clear hK K hHeld 
  have hHeld := hHeld2
  clear hHeld2
  try simp only [Act.put, List.setIfInBounds_toArray, List.set_cons_zero, List.set_cons_succ]
  refine take1 (i := 13) (v := .int .i64 (firstE [kindE k a n ch, idE c s, ancE a n, ordE c a, chrE k ch])) rfl (by kernel_rfl) (by kernel_rfl) (by kernel_rfl) (fun _ _ _ h => h) (Or.inl ⟨by rfl, fun w hSw => ?_⟩) hHeld ?_
  · (go_simp)
  try simp only [Act.put, List.setIfInBounds_toArray, List.set_cons_zero, List.set_cons_succ]
  refine wpAnyH_done (by kernel_rfl) ?_ _
  refine NoPanic.normal ?_
  have HB := Lib.hid hHeld.2.2.2.2.2.2.2.1
  clear hHeld
  go_wp2_with fail
  go_ret
  exact ⟨rfl, HB.out⟩
end Go.Proofs.YtbfnehpmlngagaaDoor
