/-
  The contracts of readInsert, read and Parse of package op at the texts that String writes: what is written is read as it was.
-/
import Derived.Test.YtbfnehpmlngagaaDoorOpp
namespace Go.Proofs.YtbfnehpmlngagaaDoor
open Go Go.Proofs Go.RowKit

/-! Texts, as lists of bytes. -/
theorem byt_ext {x y : ByteArray} (h : x.data.toList = y.data.toList) : x = y := by
  apply ByteArray.ext
  exact Array.toList_inj.1 h
theorem txt_no {c s : Int} (x : UInt8) (hx : x.toNat < 46) : ∀ b ∈ (txtB c s).data.toList, b ≠ x := by
  intro b hb
  rw [txtB_list] at hb
  rintro rfl
  rcases List.mem_append.1 hb with h | h
  · have := (dec_digit _ _ h).1; omega
  · rcases List.mem_cons.1 h with h | h
    · rw [h] at hx; revert hx; decide
    · have := (dec_digit _ _ h).1; omega
theorem anc_no {a n : Int} : ∀ b ∈ (ancT a n).data.toList, b ≠ 32 := by
  intro b hb
  unfold ancT at hb
  split at hb
  · rw [show (⟨#[45]⟩ : ByteArray).data.toList = [45] from rfl] at hb
    simp at hb
    subst hb
    decide
  · exact txt_no 32 (by decide) b hb
/-- What is behind the sign of an Insert. -/
def restL (c s a n ch : Int) : List UInt8 := (txtB c s).data.toList ++ 32 :: ((ancT a n).data.toList ++ 32 :: (hexB ch).data.toList)
theorem ins_list (c s a n ch : Int) : (insT c s a n ch).data.toList = 43 :: restL c s a n ch := by
  unfold insT ins4 ins3 ins2 ins1 restL
  simp [ByteArray.data_append]
theorem del_list (c s : Int) : (delT c s).data.toList = 45 :: (txtB c s).data.toList := by
  unfold delT
  simp [ByteArray.data_append]
theorem back (x : ByteArray) : (⟨x.data.toList.toArray⟩ : ByteArray) = x := by
  apply byt_ext; simp
theorem rest_small {c s a n ch : Int} (h : OkIns c s a n ch) : (restL c s a n ch).length ≤ 94 := by
  have h1 := ins4_small h.may h.anc
  have h2 := hex_small h.hi
  have e : (insT c s a n ch).size = (insT c s a n ch).data.toList.length := by simp
  have e2 : (insT c s a n ch).size ≤ 95 := by unfold insT; rw [ByteArray.size_append]; omega
  rw [e, ins_list] at e2
  simp at e2
  omega
theorem index_of (c : UInt8) (l m : List UInt8) (h : ∀ b ∈ l, b ≠ c) : Lib.indexByte (l ++ c :: m) c = (l.length : Int) := by
  induction l with
  | nil => simp [Lib.indexByte]
  | cons x l ih =>
    have hne : (x == c) = false := by
      rw [beq_eq_false_iff_ne]
      exact h x (by simp)
    have := ih (fun b hb => h b (by simp [hb]))
    simp only [List.cons_append, Lib.indexByte, hne, this]
    have h1 : ((l.length : Int) == -1) = false := by simp
    simp [h1]
theorem cut_list (S : ByteArray) (c : UInt8) (l m : List UInt8) (w : World) (hS : S.data.toList = l ++ c :: m) (hno : ∀ b ∈ l, b ≠ c) (hmax : S.size ≤ 100) :
    Calls Tryd.prog 41 #[.string S, .string ⟨#[c]⟩] w
      fun e w' => e = .returned (.tuple #[.string ⟨l.toArray⟩, .string ⟨m.toArray⟩, .bool true]) ∧ Below w.heap.size w w' := by
  have hl : S.size = l.length + 1 + m.length := by
    have : S.size = S.data.toList.length := by simp
    rw [this, hS]; simp; omega
  have h := cut_any S c l.length w (by rw [hS]; exact index_of c l m hno) (by omega) hmax
  have e1 : S.extract 0 l.length = ⟨l.toArray⟩ := by
    apply byt_ext
    rw [Lib.extract_data, hS]
    simp
  have e2 : S.extract (l.length + 1) S.size = ⟨m.toArray⟩ := by
    apply byt_ext
    rw [Lib.extract_data, hS, hl]
    have e : (l ++ c :: m).drop (l.length + 1) = m := by rw [← List.drop_drop, List.drop_left]; rfl
    rw [e, List.take_of_length_le (by omega)]
  rw [e1, e2] at h
  exact h
theorem pre_yes (S : ByteArray) (b : UInt8) (l : List UInt8) (w : World) (hS : S.data.toList = b :: l) :
    Calls Tryd.prog 32 #[.string S, .string ⟨#[b]⟩] w
      fun e w' => e = .returned (.tuple #[.string ⟨l.toArray⟩, .bool true]) ∧ w = w' := by
  refine (Tryd.strings_CutPrefix S ⟨#[b]⟩ w).mono ?_
  rintro e w' ⟨rfl, rfl⟩
  refine ⟨?_, rfl⟩
  have e2 : Lib.hasPrefix S.data.toList [b] = true := by rw [hS]; simp [Lib.hasPrefix, List.isPrefixOf]
  have e1 : Lib.trimPrefix S.data.toList [b] = l := by unfold Lib.trimPrefix; rw [e2, hS]; simp
  show Ending.returned (.tuple #[.string ⟨(Lib.trimPrefix S.data.toList [b]).toArray⟩, .bool (Lib.hasPrefix S.data.toList [b])]) = _
  rw [e1, e2]
theorem pre_no (S : ByteArray) (b x : UInt8) (l : List UInt8) (w : World) (hne : (b == x) = false) (hS : S.data.toList = x :: l) :
    Calls Tryd.prog 32 #[.string S, .string ⟨#[b]⟩] w
      fun e w' => e = .returned (.tuple #[.string S, .bool false]) ∧ w = w' := by
  refine (Tryd.strings_CutPrefix S ⟨#[b]⟩ w).mono ?_
  rintro e w' ⟨rfl, rfl⟩
  refine ⟨?_, rfl⟩
  have e2 : Lib.hasPrefix S.data.toList [b] = false := by rw [hS]; simp [Lib.hasPrefix, List.isPrefixOf, hne]
  have e1 : Lib.trimPrefix S.data.toList [b] = S.data.toList := by unfold Lib.trimPrefix; rw [e2]; rfl
  show Ending.returned (.tuple #[.string ⟨(Lib.trimPrefix S.data.toList [b]).toArray⟩, .bool (Lib.hasPrefix S.data.toList [b])]) = _
  rw [e1, e2, back]

set_option maxHeartbeats 800000 in
theorem parse_none (w : World) :
    Calls Tryd.prog 34 #[.string ⟨#[45]⟩] w
      fun e w' => e = .returned (.tuple #[.agg #[.int .i64 0, .int .i64 0], .int .i64 0]) ∧ Below w.heap.size w w' := by
  have hQ := Two.start w 24 0 0
  have cc := hQ.c0
  have cd := hQ.c1
  have fa := hQ.f0
  have fb := hQ.f1
  have HB := Lib.hid (show Below w.heap.size w (w.alloc (.cells #[.int .i64 0, .int .i64 0] 24)) from (Below.refl _ _).alloc (Nat.le_refl _) _)
  clear hQ
  go_enter Tryd.func34, Tryd.ntmps34
  go_wp2_with fail
  exact bodyPost_ret (v := .tuple #[.agg #[.int .i64 0, .int .i64 0], .int .i64 0]) (by simp [results, Tryd.results34, go_sem, cc, cd]) rfl ⟨rfl, by first | exact (HB.out.setCell (Nat.le_refl _) _).setCell (Nat.le_refl _) _ | exact HB.out⟩
theorem parse_anc (a n : Int) (w : World) (h : noneB a n = true ∨ mayB a n = true) :
    Calls Tryd.prog 34 #[.string (ancT a n)] w
      fun e w' => e = .returned (.tuple #[.agg #[.int .i64 a, .int .i64 n], .int .i64 0]) ∧ Below w.heap.size w w' := by
  by_cases hn : noneB a n = true
  · unfold ancT
    rw [if_pos hn]
    obtain ⟨rfl, rfl⟩ := none_yes hn
    exact parse_none w
  · unfold ancT
    rw [if_neg hn]
    exact parse_txt a n w (h.resolve_left hn)

theorem errs_two {W : World} {b : Nat} {t : TypeId} {e0 e1 : Int} (h : Blk W b [.int .i64 e0, .int .i64 e1] t) : Errs W b [e0, e1] := by
  intro i hi
  have hi' : i < 2 := hi
  match i, hi' with
  | 0, _ => exact h.cell 0 rfl
  | 1, _ => exact h.cell 1 rfl
theorem first_two (b : Nat) (t : TypeId) (e0 e1 : Int) (w : World) (h : Blk w b [.int .i64 e0, .int .i64 e1] t) :
    Calls Tryd.prog 13 #[.slice (some ⟨b, 0, none⟩) 2 2] w
      fun e w' => e = .returned (.int .i64 (firstE [e0, e1])) ∧ w = w' :=
  first_any b 2 [e0, e1] w (Nat.le_refl 2) (by omega) (errs_two h)
theorem first_ok (b : Nat) (t : TypeId) (w : World) (h : Blk w b [.int .i64 0, .int .i64 0] t) :
    Calls Tryd.prog 13 #[.slice (some ⟨b, 0, none⟩) 2 2] w
      fun e w' => e = .returned (.int .i64 0) ∧ w = w' := first_two b t 0 0 w h

/-- The cells of no operation. -/
def zeroL : List Value := [.int .i64 0, .int .i64 0, .int .i64 0, .int .i64 0, .int .i64 0, .int .i32 0]
/-- The boxes of readInsert. -/
structure RiB (w : World) (A B : Nat) (c s a n : Int) (vs : List Value) (W : World) : Prop where
  bel : Below w.heap.size w W
  br : Blk W w.heap.size vs 26
  ba : Blk W A [.int .i64 c, .int .i64 s] 24
  bb : Blk W B [.int .i64 a, .int .i64 n] 24
  na : A ≠ w.heap.size
  nb : B ≠ w.heap.size
theorem RiB.next {w : World} {A B : Nat} {c s a n : Int} {vs : List Value} {W W' : World} (h : RiB w A B c s a n vs W) (hb : Below W.heap.size W W') : RiB w A B c s a n vs W' :=
  ⟨h.bel.trans (hb.mono h.bel.size), h.br.next hb, h.ba.next hb, h.bb.next hb, h.na, h.nb⟩
theorem RiB.s {w : World} {A B : Nat} {c s a n : Int} {vs : List Value} {W : World} (h : RiB w A B c s a n vs W) :
    W.cell? ⟨A, 0, none⟩ = some (.int .i64 c) ∧ W.cell? ⟨A, 1, none⟩ = some (.int .i64 s) ∧ W.cell? ⟨B, 0, none⟩ = some (.int .i64 a) ∧ W.cell? ⟨B, 1, none⟩ = some (.int .i64 n) ∧ RiB w A B c s a n vs W :=
  ⟨h.ba.cell 0 rfl, h.ba.cell 1 rfl, h.bb.cell 0 rfl, h.bb.cell 1 rfl, h⟩
theorem blk_six {W : World} {b : Nat} {vs : List Value} {t : TypeId} (h : Blk W b vs t) (hl : vs.length = 6) (k c s a n ch : Int) :
    Blk ((((((W.setCell ⟨b, 0, none⟩ (.int .i64 k)).setCell ⟨b, 1, none⟩ (.int .i64 c)).setCell ⟨b, 2, none⟩ (.int .i64 s)).setCell ⟨b, 3, none⟩ (.int .i64 a)).setCell ⟨b, 4, none⟩ (.int .i64 n)).setCell ⟨b, 5, none⟩ (.int .i32 ch)) b [.int .i64 k, .int .i64 c, .int .i64 s, .int .i64 a, .int .i64 n, .int .i32 ch] t := by
  have hs := (((((h.set 0 (.int .i64 k)).set 1 (.int .i64 c)).set 2 (.int .i64 s)).set 3 (.int .i64 a)).set 4 (.int .i64 n)).set 5 (.int .i32 ch)
  match vs, hl, hs with
  | [_, _, _, _, _, _], _, hs => exact hs
theorem below_six {W W0 : World} {b B : Nat} (h : Below B W0 W) (hb : B ≤ b) (k c s a n ch : Int) :
    Below B W0 ((((((W.setCell ⟨b, 0, none⟩ (.int .i64 k)).setCell ⟨b, 1, none⟩ (.int .i64 c)).setCell ⟨b, 2, none⟩ (.int .i64 s)).setCell ⟨b, 3, none⟩ (.int .i64 a)).setCell ⟨b, 4, none⟩ (.int .i64 n)).setCell ⟨b, 5, none⟩ (.int .i32 ch)) :=
  (((((h.setCell (p := ⟨b, 0, none⟩) hb _).setCell (p := ⟨b, 1, none⟩) hb _).setCell (p := ⟨b, 2, none⟩) hb _).setCell (p := ⟨b, 3, none⟩) hb _).setCell (p := ⟨b, 4, none⟩) hb _).setCell (p := ⟨b, 5, none⟩) hb _
theorem RiB.put {w : World} {A B : Nat} {c s a n : Int} {vs : List Value} {W : World} (h : RiB w A B c s a n vs W) (hl : vs.length = 6) (k0 c0 s0 a0 n0 ch0 : Int) :
    RiB w A B c s a n [.int .i64 k0, .int .i64 c0, .int .i64 s0, .int .i64 a0, .int .i64 n0, .int .i32 ch0] ((((((W.setCell ⟨w.heap.size, 0, none⟩ (.int .i64 k0)).setCell ⟨w.heap.size, 1, none⟩ (.int .i64 c0)).setCell ⟨w.heap.size, 2, none⟩ (.int .i64 s0)).setCell ⟨w.heap.size, 3, none⟩ (.int .i64 a0)).setCell ⟨w.heap.size, 4, none⟩ (.int .i64 n0)).setCell ⟨w.heap.size, 5, none⟩ (.int .i32 ch0)) :=
  ⟨below_six h.bel (Nat.le_refl _) _ _ _ _ _ _, blk_six h.br hl _ _ _ _ _ _,
    (((((h.ba.other _ h.na _).other _ h.na _).other _ h.na _).other _ h.na _).other _ h.na _).other _ h.na _,
    (((((h.bb.other _ h.nb _).other _ h.nb _).other _ h.nb _).other _ h.nb _).other _ h.nb _).other _ h.nb _, h.na, h.nb⟩

set_option maxHeartbeats 3200000 in
set_option maxRecDepth 100000 in
theorem readInsert_ins (c s a n ch : Int) (w : World) (h : OkIns c s a n ch) :
    Calls Tryd.prog 33 #[.string ⟨(restL c s a n ch).toArray⟩] w
      fun e w' => e = .returned (.tuple #[.agg #[.int .i64 0, .int .i64 c, .int .i64 s, .int .i64 a, .int .i64 n, .int .i32 ch], .int .i64 0]) ∧ Below w.heap.size w w' := by
  have hsm := rest_small h
  have hlo := h.lo
  have hhi := h.hi
  have hc1 := fun W => cut_list ⟨(restL c s a n ch).toArray⟩ 32 (txtB c s).data.toList ((ancT a n).data.toList ++ 32 :: (hexB ch).data.toList) W (by simp [restL]) (txt_no 32 (by decide)) (by show (restL c s a n ch).toArray.size ≤ 100; simp; omega)
  have hc2 := fun W => cut_list ⟨((ancT a n).data.toList ++ 32 :: (hexB ch).data.toList).toArray⟩ 32 (ancT a n).data.toList (hexB ch).data.toList W (by simp) anc_no (by
    show ((ancT a n).data.toList ++ 32 :: (hexB ch).data.toList).toArray.size ≤ 100
    have : (restL c s a n ch).length = (txtB c s).data.toList.length + 1 + ((ancT a n).data.toList ++ 32 :: (hexB ch).data.toList).length := by simp [restL]; omega
    simp only [List.size_toArray]
    omega)
  rw [back] at hc1
  rw [back, back] at hc2
  have HC1 := Lib.hid hc1
  have HC2 := Lib.hid hc2
  have HM := Lib.hid h
  have H0 := Lib.hid (Blk.start w zeroL 26)
  have HB0 := Lib.hid (show Below w.heap.size w (w.alloc (.cells ⟨zeroL⟩ 26)) from (Below.refl _ _).alloc (Nat.le_refl _) _)
  clear hc1 hc2 h hsm
  generalize restL c s a n ch = rl at *
  go_enter Tryd.func33, Tryd.ntmps33
  go_wp2_with (go_at_call 41; refine (HC1.out _).mono ?_; rintro e w1 ⟨rfl, hb1⟩; refine Hid.out ?_)
  have H1 := Lib.hid (And.intro (H0.out.next hb1) (HB0.out.trans (hb1.mono (by simp))))
  clear H0 HB0 hb1
  refine Lib.hid ?_
  go_wp2_with (go_at_call 41; refine (HC2.out _).mono ?_; rintro e w2 ⟨rfl, hb2⟩; refine Hid.out ?_)
  have H2 := Lib.hid (And.intro (H1.out.1.next hb2) (H1.out.2.trans (hb2.mono H1.out.2.size)))
  clear H1 hb2
  refine Lib.hid ?_
  go_wp2_with (first | (go_at_call 42; refine (readChar_hex ch _ (by omega) hhi).mono ?_; rintro e w' ⟨rfl, rfl⟩) | (go_at_call 34; refine (parse_txt c s _ HM.out.may).mono ?_; rintro e w3 ⟨rfl, hb3⟩; refine Hid.out ?_))
  have H3 := Lib.hid (And.intro (H2.out.1.next hb3) (H2.out.2.trans (hb3.mono H2.out.2.size)))
  have hA3 : w.heap.size < w3.heap.size := Nat.lt_of_lt_of_le H2.out.1.lt hb3.size
  clear H2 hb3
  refine Lib.hid ?_
  go_wp2_with (go_at_call 34; refine (parse_anc a n _ HM.out.anc).mono ?_; rintro e w4 ⟨rfl, hb4⟩; refine Hid.out ?_)
  have hb4' : Below w3.heap.size w3 w4 := ((Below.refl _ _).alloc (Nat.le_refl _) _).trans (hb4.mono (by simp))
  have hA4 : w3.heap.size < w4.heap.size := by have := hb4.size; simp at this; omega
  have hlast : Below w4.heap.size w4 (w4.alloc (.cells #[.int .i64 a, .int .i64 n] 24)) := (Below.refl _ _).alloc (Nat.le_refl _) _
  have H4 := Lib.hid (show RiB w w3.heap.size w4.heap.size c s a n zeroL (w4.alloc (.cells #[.int .i64 a, .int .i64 n] 24)) from
    ⟨(H3.out.2.trans (hb4'.mono H3.out.2.size)).trans (hlast.mono (Nat.le_trans H3.out.2.size hb4'.size)), (H3.out.1.next hb4').next hlast, ((Blk.start _ _ _).next hb4).next hlast, Blk.start _ _ _, by omega, by omega⟩)
  clear H3 hb4 hb4' hA3 hA4 hlast
  generalize hAA : w3.heap.size = A at *
  refine Lib.hid ?_
  go_wp2_with fail
  generalize hBB : w4.heap.size = B at *
  generalize w4.alloc (.cells #[.int .i64 a, .int .i64 n] 24) = w5 at *
  refine wp_region_noPanic ?_
  refine wp_region_held_drew (S := (fun W => W.cell? ⟨A, 0, none⟩ = some (.int .i64 c) ∧ W.cell? ⟨A, 1, none⟩ = some (.int .i64 s) ∧ W.cell? ⟨B, 0, none⟩ = some (.int .i64 a) ∧ W.cell? ⟨B, 1, none⟩ = some (.int .i64 n) ∧ ∃ vs, vs.length = 6 ∧ RiB w A B c s a n vs W)) (by kernel_rfl) ?_ (fun hHeld => ?_)
  · exact let h := (H4.out.next (Below.refl _ _).drew).s; ⟨h.1, h.2.1, h.2.2.1, h.2.2.2.1, _, rfl, h.2.2.2.2⟩
  clear H4
  refine take1 (i := 0) (v := .agg #[.int .i64 c, .int .i64 s]) rfl (by kernel_rfl) (by kernel_rfl) (by kernel_rfl) (fun _ _ _ h => h) (Or.inl ⟨by rfl, fun w hSw => ?_⟩) hHeld ?_
  · (go_simp)
  try simp only [Act.put, List.setIfInBounds_toArray, List.set_cons_zero, List.set_cons_succ]
  refine take1 (i := 1) (v := .agg #[.int .i64 a, .int .i64 n]) rfl (by kernel_rfl) (by kernel_rfl) (by kernel_rfl) (fun _ _ _ h => h) (Or.inl ⟨by rfl, fun w hSw => ?_⟩) hHeld ?_
  · (go_simp)
  try simp only [Act.put, List.setIfInBounds_toArray, List.set_cons_zero, List.set_cons_succ]
  refine take1 (i := 2) (v := .int .i32 ch) rfl (by kernel_rfl) (by kernel_rfl) (by kernel_rfl) (fun _ _ _ h => h) (Or.inl ⟨by rfl, fun w hSw => ?_⟩) hHeld ?_
  · (go_simp)
  try simp only [Act.put, List.setIfInBounds_toArray, List.set_cons_zero, List.set_cons_succ]
  refine take1 (i := 3) (v := .agg #[.int .i64 0, .int .i64 c, .int .i64 s, .int .i64 a, .int .i64 n, .int .i32 ch]) rfl (by kernel_rfl) (by kernel_rfl) (by kernel_rfl) (fun _ _ _ h => h) (Or.inl ⟨by rfl, fun w hSw => ?_⟩) hHeld ?_
  · (go_simp)
  try simp only [Act.put, List.setIfInBounds_toArray, List.set_cons_zero, List.set_cons_succ]
  refine take1 (i := 4) (v := .int .i64 0) rfl (by kernel_rfl) (by kernel_rfl) (by kernel_rfl) (fun _ _ _ h => h) (Or.inl ⟨by rfl, fun w hSw => ?_⟩) hHeld ?_
  · (go_simp)
  try simp only [Act.put, List.setIfInBounds_toArray, List.set_cons_zero, List.set_cons_succ]
  refine take1 (i := 5) (v := .int .i64 0) rfl (by kernel_rfl) (by kernel_rfl) (by kernel_rfl) (fun _ _ _ h => h) (Or.inl ⟨by rfl, fun w hSw => ?_⟩) hHeld ?_
  · (go_simp)
  try simp only [Act.put, List.setIfInBounds_toArray, List.set_cons_zero, List.set_cons_succ]
  refine wpAnyH_ready (rs := [6]) (by kernel_rfl) (by simp) ?_
  refine cons1 rfl (fun K hK => ?_) AllReadyH.nil
  go_simp
  go_wp2_with fail
  refine hK.out _ _ ((let ⟨vs, hl, hB⟩ := hHeld.2.2.2.2; let h := (hB.next ((Below.refl _ _).alloc (Nat.le_refl _) _)).s; ⟨h.1, h.2.1, h.2.2.1, h.2.2.2.1, vs, hl, h.2.2.2.2⟩)) (fun hHeld2 => ?_)
  clear hK K hHeld 
  have hHeld := hHeld2
  clear hHeld2
  try simp only [Act.put, List.setIfInBounds_toArray, List.set_cons_zero, List.set_cons_succ]
  have hF : Blk (w5.alloc (.cells #[.int .i64 0, .int .i64 0] 28)).drew w5.heap.size [.int .i64 0, .int .i64 0] 28 := Blk.drew (Blk.start w5 _ _)
  generalize (w5.alloc (.cells #[.int .i64 0, .int .i64 0] 28)).drew = w6 at *
  refine wpAnyH_ready (rs := [7]) (by kernel_rfl) (by simp) ?_
  refine cons1 rfl (fun K hK => ?_) AllReadyH.nil
  go_simp
  refine (first_ok _ 28 _ hF).mono ?_
  rintro e' u2 ⟨rfl, rfl⟩
  go_wp2_with fail
  refine hK.out _ _ (hHeld) (fun hHeld2 => ?_)
  clear hK K hHeld 
  have hHeld := hHeld2
  clear hHeld2
  try simp only [Act.put, List.setIfInBounds_toArray, List.set_cons_zero, List.set_cons_succ]
  obtain ⟨vs, hl, hB⟩ := hHeld.2.2.2.2
  obtain ⟨k0, f0⟩ := hB.br.live 0 (by omega)
  obtain ⟨k1, f1⟩ := hB.br.live 1 (by omega)
  obtain ⟨k2, f2⟩ := hB.br.live 2 (by omega)
  obtain ⟨k3, f3⟩ := hB.br.live 3 (by omega)
  obtain ⟨k4, f4⟩ := hB.br.live 4 (by omega)
  obtain ⟨k5, f5⟩ := hB.br.live 5 (by omega)
  have HB := Lib.hid hB
  have HL := Lib.hid hl
  clear hB hl
  refine wpAnyH_ready (rs := [8]) (by kernel_rfl) (by simp) ?_
  refine cons1 rfl (fun K hK => ?_) AllReadyH.nil
  go_simp
  go_wp2_with fail
  refine hK.out _ _ ((let h := (HB.out.put HL.out 0 c s a n ch).s; ⟨h.1, h.2.1, h.2.2.1, h.2.2.2.1, _, rfl, h.2.2.2.2⟩)) (fun hHeld2 => ?_)
  clear hK K hHeld k0 k1 k2 k3 k4 k5 f0 f1 f2 f3 f4 f5
  have hHeld := hHeld2
  clear hHeld2
  try simp only [Act.put, List.setIfInBounds_toArray, List.set_cons_zero, List.set_cons_succ]
  have HP := Lib.hid (HB.out.put HL.out 0 c s a n ch)
  clear HB HL
  refine take1 (i := 9) (v := .int .i64 0) rfl (by kernel_rfl) (by kernel_rfl) (by kernel_rfl) (fun _ _ _ h => h) (Or.inl ⟨by rfl, fun w hSw => ?_⟩) hHeld ?_
  · (go_simp)
  try simp only [Act.put, List.setIfInBounds_toArray, List.set_cons_zero, List.set_cons_succ]
  refine wpAnyH_done (by kernel_rfl) ?_ _
  refine NoPanic.normal ?_
  clear hHeld
  have HB := Lib.hid HP.out.bel
  have hbl := HP.out.br
  have y0 := hbl.cell 0 rfl
  have y1 := hbl.cell 1 rfl
  have y2 := hbl.cell 2 rfl
  have y3 := hbl.cell 3 rfl
  have y4 := hbl.cell 4 rfl
  have y5 := hbl.cell 5 rfl
  have HY := Lib.hid (And.intro y0 (And.intro y1 (And.intro y2 (And.intro y3 (And.intro y4 y5)))))
  clear y0 y1 y2 y3 y4 y5 hbl
  go_wp2_with fail
  exact bodyPost_ret (v := .tuple #[.agg #[.int .i64 0, .int .i64 c, .int .i64 s, .int .i64 a, .int .i64 n, .int .i32 ch], .int .i64 0]) (by obtain ⟨y0, y1, y2, y3, y4, y5⟩ := HY.out; simp [results, Tryd.results33, go_sem, y0, y1, y2, y3, y4, y5]) rfl ⟨rfl, HB.out⟩
end Go.Proofs.YtbfnehpmlngagaaDoor
