/-
  The contracts of read and Parse of package op at the texts that String writes; and that unlike operations that may be have unlike texts.
-/
import Derived.Test.YtbfnehpmlngagaaDoorOpq
namespace Go.Proofs.YtbfnehpmlngagaaDoor
open Go Go.Proofs Go.RowKit

set_option maxHeartbeats 1600000 in
theorem read_ins (c s a n ch : Int) (w : World) (h : OkIns c s a n ch) :
    Calls Tryd.prog 25 #[.string (insT c s a n ch)] w
      fun e w' => e = .returned (.tuple #[.agg #[.int .i64 0, .int .i64 c, .int .i64 s, .int .i64 a, .int .i64 n, .int .i32 ch], .int .i64 0]) ∧ Below w.heap.size w w' := by
  have HP := Lib.hid (fun W => pre_yes (insT c s a n ch) 43 (restL c s a n ch) W (ins_list c s a n ch))
  have HM := Lib.hid h
  have H0 := Lib.hid (Blk.start w zeroL 26)
  have HB0 := Lib.hid (show Below w.heap.size w (w.alloc (.cells ⟨zeroL⟩ 26)) from (Below.refl _ _).alloc (Nat.le_refl _) _)
  clear h
  generalize hrl : insT c s a n ch = rl at *
  clear hrl
  go_enter Tryd.func25, Tryd.ntmps25
  go_wp2_with (first | (go_at_call 32; refine (HP.out _).mono ?_; rintro e w' ⟨rfl, rfl⟩) | (go_at_call 33; refine (readInsert_ins c s a n ch _ HM.out).mono ?_; rintro e w1 ⟨rfl, hb1⟩; refine Hid.out ?_))
  have hr := H0.out.next hb1
  have H1 := Lib.hid (And.intro (below_six (HB0.out.trans (hb1.mono (by simp))) (Nat.le_refl _) 0 c s a n ch) (blk_six hr rfl 0 c s a n ch))
  have k0 := hr.cell 0 rfl
  have f0 := hr.free 0
  have k1 := hr.cell 1 rfl
  have f1 := hr.free 1
  have k2 := hr.cell 2 rfl
  have f2 := hr.free 2
  have k3 := hr.cell 3 rfl
  have f3 := hr.free 3
  have k4 := hr.cell 4 rfl
  have f4 := hr.free 4
  have k5 := hr.cell 5 rfl
  have f5 := hr.free 5
  clear hr hb1 H0 HB0
  refine Lib.hid ?_
  go_wp2_with fail
  clear k0 f0 k1 f1 k2 f2 k3 f3 k4 f4 k5 f5
  try generalize ((((((w1.setCell ⟨w.heap.size, 0, none⟩ (.int .i64 0)).setCell ⟨w.heap.size, 1, none⟩ (.int .i64 c)).setCell ⟨w.heap.size, 2, none⟩ (.int .i64 s)).setCell ⟨w.heap.size, 3, none⟩ (.int .i64 a)).setCell ⟨w.heap.size, 4, none⟩ (.int .i64 n)).setCell ⟨w.heap.size, 5, none⟩ (.int .i32 ch)) = w2 at *
  have HB := Lib.hid (H1.out).1
  have hbl := (H1.out).2
  have y0 := hbl.cell 0 rfl
  have y1 := hbl.cell 1 rfl
  have y2 := hbl.cell 2 rfl
  have y3 := hbl.cell 3 rfl
  have y4 := hbl.cell 4 rfl
  have y5 := hbl.cell 5 rfl
  have HY := Lib.hid (And.intro y0 (And.intro y1 (And.intro y2 (And.intro y3 (And.intro y4 y5)))))
  clear y0 y1 y2 y3 y4 y5 hbl
  go_wp2_with fail
  exact bodyPost_ret (v := .tuple #[.agg #[.int .i64 0, .int .i64 c, .int .i64 s, .int .i64 a, .int .i64 n, .int .i32 ch], .int .i64 0]) (by obtain ⟨y0, y1, y2, y3, y4, y5⟩ := HY.out; simp [results, Tryd.results25, go_sem, y0, y1, y2, y3, y4, y5]) rfl ⟨rfl, HB.out⟩

set_option maxHeartbeats 1600000 in
theorem read_del (c s : Int) (w : World) (h : mayB c s = true) :
    Calls Tryd.prog 25 #[.string (delT c s)] w
      fun e w' => e = .returned (.tuple #[.agg #[.int .i64 1, .int .i64 c, .int .i64 s, .int .i64 0, .int .i64 0, .int .i32 0], .int .i64 0]) ∧ Below w.heap.size w w' := by
  have hp := fun W => pre_yes (delT c s) 45 (txtB c s).data.toList W (del_list c s)
  have hq := fun W => pre_no (delT c s) 43 45 (txtB c s).data.toList W (by decide) (del_list c s)
  simp only [back] at hp
  have HP := Lib.hid hp
  have HQ := Lib.hid hq
  have HM := Lib.hid h
  have H0 := Lib.hid (Blk.start w zeroL 26)
  have HB0 := Lib.hid (show Below w.heap.size w (w.alloc (.cells ⟨zeroL⟩ 26)) from (Below.refl _ _).alloc (Nat.le_refl _) _)
  clear h hp hq
  generalize hrl : delT c s = rl at *
  clear hrl
  go_enter Tryd.func25, Tryd.ntmps25
  go_wp2_with (go_at_call 32; refine (HQ.out _).mono ?_; rintro e w' ⟨rfl, rfl⟩; refine Hid.out ?_)
  refine Lib.hid ?_
  go_wp2_with (first | (go_at_call 32; refine (HP.out _).mono ?_; rintro e w' ⟨rfl, rfl⟩) | (go_at_call 34; refine (parse_txt c s _ HM.out).mono ?_; rintro e w1 ⟨rfl, hb1⟩; refine Hid.out ?_))
  have hal : Below w1.heap.size w1 (w1.alloc (.cells #[.int .i64 c, .int .i64 s] 24)) := (Below.refl _ _).alloc (Nat.le_refl _) _
  have hr := (H0.out.next hb1).next hal
  have H1 := Lib.hid (And.intro (below_six ((HB0.out.trans (hb1.mono (by simp))).trans (hal.mono (Nat.le_trans HB0.out.size hb1.size))) (Nat.le_refl _) 1 c s 0 0 0) (blk_six hr rfl 1 c s 0 0 0))
  have ca := (Blk.start w1 [.int .i64 c, .int .i64 s] 24).cell 0 rfl
  have cb := (Blk.start w1 [.int .i64 c, .int .i64 s] 24).cell 1 rfl
  have k0 := hr.cell 0 rfl
  have f0 := hr.free 0
  have k1 := hr.cell 1 rfl
  have f1 := hr.free 1
  have k2 := hr.cell 2 rfl
  have f2 := hr.free 2
  have k3 := hr.cell 3 rfl
  have f3 := hr.free 3
  have k4 := hr.cell 4 rfl
  have f4 := hr.free 4
  have k5 := hr.cell 5 rfl
  have f5 := hr.free 5
  clear hr hb1 H0 HB0 hal
  refine Lib.hid ?_
  go_wp2_with fail
  clear k0 f0 k1 f1 k2 f2 k3 f3 k4 f4 k5 f5
  clear ca cb
  have HB := Lib.hid (H1.out).1
  have hbl := (H1.out).2
  have y0 := hbl.cell 0 rfl
  have y1 := hbl.cell 1 rfl
  have y2 := hbl.cell 2 rfl
  have y3 := hbl.cell 3 rfl
  have y4 := hbl.cell 4 rfl
  have y5 := hbl.cell 5 rfl
  have HY := Lib.hid (And.intro y0 (And.intro y1 (And.intro y2 (And.intro y3 (And.intro y4 y5)))))
  clear y0 y1 y2 y3 y4 y5 hbl
  go_wp2_with fail
  exact bodyPost_ret (v := .tuple #[.agg #[.int .i64 1, .int .i64 c, .int .i64 s, .int .i64 0, .int .i64 0, .int .i32 0], .int .i64 0]) (by obtain ⟨y0, y1, y2, y3, y4, y5⟩ := HY.out; simp [results, Tryd.results25, go_sem, y0, y1, y2, y3, y4, y5]) rfl ⟨rfl, HB.out⟩

set_option maxHeartbeats 1600000 in
theorem parse_op (S : ByteArray) (k c s a n ch : Int) (w : World) (hread : ∀ W : World, Calls Tryd.prog 25 #[.string S] W
      fun e w' => e = .returned (.tuple #[.agg #[.int .i64 k, .int .i64 c, .int .i64 s, .int .i64 a, .int .i64 n, .int .i32 ch], .int .i64 0]) ∧ Below W.heap.size W w') (hchk : chkE k c s a n ch = 0) :
    Calls Tryd.prog 11 #[.string S] w
      fun e w' => e = .returned (.tuple #[.agg #[.int .i64 k, .int .i64 c, .int .i64 s, .int .i64 a, .int .i64 n, .int .i32 ch], .int .i64 0]) ∧ Below w.heap.size w w' := by
  have hk := fun W => opcheck_any k c s a n ch W
  rw [hchk] at hk
  have HK := Lib.hid hk
  have HR := Lib.hid hread
  have H0 := Lib.hid (Blk.start w zeroL 26)
  have HB0 := Lib.hid (show Below w.heap.size w (w.alloc (.cells ⟨zeroL⟩ 26)) from (Below.refl _ _).alloc (Nat.le_refl _) _)
  clear hk hread hchk
  go_enter Tryd.func11, Tryd.ntmps11
  go_wp2_with (go_at_call 25; refine (HR.out _).mono ?_; rintro e w1 ⟨rfl, hb1⟩; refine Hid.out ?_)
  have hal : Below w1.heap.size w1 (w1.alloc (.cells #[.int .i64 k, .int .i64 c, .int .i64 s, .int .i64 a, .int .i64 n, .int .i32 ch] 26)) := (Below.refl _ _).alloc (Nat.le_refl _) _
  have H1 := Lib.hid (And.intro ((H0.out.next hb1).next hal) ((HB0.out.trans (hb1.mono (by simp))).trans (hal.mono (Nat.le_trans HB0.out.size hb1.size))))
  have H1o := Lib.hid (Blk.start w1 [.int .i64 k, .int .i64 c, .int .i64 s, .int .i64 a, .int .i64 n, .int .i32 ch] 26)
  clear H0 HB0 hb1 hal
  refine Lib.hid ?_
  go_wp2_with (go_at_call 6; refine (HK.out _).mono ?_; rintro e w2 ⟨rfl, hb2⟩; refine Hid.out ?_)
  have hal : Below w2.heap.size w2 (w2.alloc (.cells #[.int .i64 0, .int .i64 0] 28)) := (Below.refl _ _).alloc (Nat.le_refl _) _
  have hr := (H1.out.1.next hb2).next hal
  have ho := (H1o.out.next hb2).next hal
  have hB := (H1.out.2.trans (hb2.mono H1.out.2.size)).trans (hal.mono (Nat.le_trans H1.out.2.size hb2.size))
  have H2 := Lib.hid (And.intro (below_six hB (Nat.le_refl _) k c s a n ch) (blk_six hr rfl k c s a n ch))
  clear H1 H1o hb2 hal
  refine Lib.hid ?_
  have hF : Blk (w2.alloc (.cells #[.int .i64 0, .int .i64 0] 28)) w2.heap.size [.int .i64 0, .int .i64 0] 28 := Blk.start w2 _ _
  go_wp2_with (go_at_call 13; refine (first_ok _ 28 _ hF).mono ?_; rintro e w' ⟨rfl, rfl⟩; refine Hid.out ?_)
  clear hB hF
  generalize w2.alloc (.cells #[.int .i64 0, .int .i64 0] 28) = w3 at *
  have k0 := hr.cell 0 rfl
  have f0 := hr.free 0
  have k1 := hr.cell 1 rfl
  have f1 := hr.free 1
  have k2 := hr.cell 2 rfl
  have f2 := hr.free 2
  have k3 := hr.cell 3 rfl
  have f3 := hr.free 3
  have k4 := hr.cell 4 rfl
  have f4 := hr.free 4
  have k5 := hr.cell 5 rfl
  have f5 := hr.free 5
  have o0 := ho.cell 0 rfl
  have o1 := ho.cell 1 rfl
  have o2 := ho.cell 2 rfl
  have o3 := ho.cell 3 rfl
  have o4 := ho.cell 4 rfl
  have o5 := ho.cell 5 rfl
  clear hr ho
  refine Lib.hid ?_
  go_wp2_with fail
  clear k0 f0 k1 f1 k2 f2 k3 f3 k4 f4 k5 f5
  clear o0 o1 o2 o3 o4 o5
  have HB := Lib.hid (H2.out).1
  have hbl := (H2.out).2
  have y0 := hbl.cell 0 rfl
  have y1 := hbl.cell 1 rfl
  have y2 := hbl.cell 2 rfl
  have y3 := hbl.cell 3 rfl
  have y4 := hbl.cell 4 rfl
  have y5 := hbl.cell 5 rfl
  have HY := Lib.hid (And.intro y0 (And.intro y1 (And.intro y2 (And.intro y3 (And.intro y4 y5)))))
  clear y0 y1 y2 y3 y4 y5 hbl
  go_wp2_with fail
  exact bodyPost_ret (v := .tuple #[.agg #[.int .i64 k, .int .i64 c, .int .i64 s, .int .i64 a, .int .i64 n, .int .i32 ch], .int .i64 0]) (by obtain ⟨y0, y1, y2, y3, y4, y5⟩ := HY.out; simp [results, Tryd.results11, go_sem, y0, y1, y2, y3, y4, y5]) rfl ⟨rfl, HB.out⟩

theorem parse_back (k c s a n ch : Int) (w : World) (h : chkE k c s a n ch = 0) :
    Calls Tryd.prog 11 #[.string (opT k c s a n ch)] w
      fun e w' => e = .returned (.tuple #[.agg #[.int .i64 k, .int .i64 c, .int .i64 s, .int .i64 a, .int .i64 n, .int .i32 ch], .int .i64 0]) ∧ Below w.heap.size w w' := by
  rcases chk_ok h with ⟨rfl, hk⟩ | ⟨rfl, rfl, rfl, rfl, hm⟩
  · rw [opT_ins hk]; exact parse_op _ _ _ _ _ _ _ w (fun W => read_ins c s a n ch W hk) h
  · rw [opT_del hm]; exact parse_op _ _ _ _ _ _ _ w (fun W => read_del c s W hm) h

/-! Unlike operations have unlike texts. -/
theorem split_eq {x : UInt8} {l : List UInt8} : ∀ {l' m m' : List UInt8}, l ++ x :: m = l' ++ x :: m' → (∀ b ∈ l, b ≠ x) → (∀ b ∈ l', b ≠ x) → l = l' ∧ m = m' := by
  induction l with
  | nil =>
    intro l' m m' h _ h2
    cases l' with
    | nil => simp at h; exact ⟨rfl, h⟩
    | cons y l' =>
      simp at h
      exact absurd h.1.symm (h2 y (by simp))
  | cons z l ih =>
    intro l' m m' h h1 h2
    cases l' with
    | nil =>
      simp at h
      exact absurd h.1 (h1 z (by simp))
    | cons y l' =>
      simp at h
      obtain ⟨e1, e2⟩ := ih h.2 (fun b hb => h1 b (by simp [hb])) (fun b hb => h2 b (by simp [hb]))
      exact ⟨by rw [h.1, e1], e2⟩
theorem dec_inj {c d : Int} (hc : 0 ≤ c) (hd : 0 ≤ d) (h : Lib.decDigits c.toNat = Lib.decDigits d.toNat) : c = d := by
  have := congrArg valL h
  rw [dec_val, dec_val] at this
  omega
theorem txt_inj {c s d t : Int} (h1 : mayB c s = true) (h2 : mayB d t = true) (h : (txtB c s).data.toList = (txtB d t).data.toList) : c = d ∧ s = t := by
  obtain ⟨a1, a2, a3, a4⟩ := may_all h1
  obtain ⟨b1, b2, b3, b4⟩ := may_all h2
  rw [txtB_list, txtB_list] at h
  have hno : ∀ u : Nat, ∀ b ∈ Lib.decDigits u, b ≠ 46 := by
    intro u b hb e
    have := (dec_digit u b hb).1
    rw [e] at this
    revert this; decide
  obtain ⟨e1, e2⟩ := split_eq h (hno _) (hno _)
  exact ⟨dec_inj (by omega) (by omega) e1, dec_inj (by omega) (by omega) e2⟩
theorem txt_ne_none {c s : Int} : (txtB c s).data.toList ≠ [45] := by
  have := txtB_ne c s
  rwa [ByteArray.toList_eq] at this
theorem anc_inj {a n b m : Int} (h1 : noneB a n = true ∨ mayB a n = true) (h2 : noneB b m = true ∨ mayB b m = true) (h : (ancT a n).data.toList = (ancT b m).data.toList) : a = b ∧ n = m := by
  unfold ancT at h
  by_cases e1 : noneB a n = true
  · by_cases e2 : noneB b m = true
    · obtain ⟨rfl, rfl⟩ := none_yes e1
      obtain ⟨rfl, rfl⟩ := none_yes e2
      exact ⟨rfl, rfl⟩
    · rw [if_pos e1, if_neg e2] at h
      exact absurd h.symm txt_ne_none
  · by_cases e2 : noneB b m = true
    · rw [if_neg e1, if_pos e2] at h
      exact absurd h txt_ne_none
    · rw [if_neg e1, if_neg e2] at h
      exact txt_inj (h1.resolve_left e1) (h2.resolve_left e2) h
theorem hex_inj {x y : Int} (hx : 0 ≤ x) (hy : 0 ≤ y) (h : (hexB x).data.toList = (hexB y).data.toList) : x = y := by
  have hm : ∀ {l m : List Nat}, (∀ d ∈ l, d < 16) → (∀ d ∈ m, d < 16) → l.map hxU = m.map hxU → l = m := by
    intro l
    induction l with
    | nil => intro m _ _ h; simpa using h.symm
    | cons a l ih =>
      intro m h1 h2 h
      cases m with
      | nil => simp at h
      | cons b m =>
        simp at h
        have ha := h1 a (by simp)
        have hb := h2 b (by simp)
        have e := congrArg UInt8.toNat h.1
        rw [hxU_nat ha, hxU_nat hb] at e
        have : a = b := by split at e <;> split at e <;> omega
        rw [this, ih (fun d hd => h1 d (by simp [hd])) (fun d hd => h2 d (by simp [hd])) h.2]
  have e : hexN x.toNat = hexN y.toNat := by
    refine hm (hexN_lt _) (hexN_lt _) ?_
    rw [← hexD_map, ← hexD_map]
    unfold hexB at h
    simpa using h
  have := congrArg valN e
  rw [hexN_val, hexN_val] at this
  omega
theorem opT_inj {k c s a n ch k' c' s' a' n' ch' : Int} (h : chkE k c s a n ch = 0) (h' : chkE k' c' s' a' n' ch' = 0) (he : opT k c s a n ch = opT k' c' s' a' n' ch') :
    k = k' ∧ c = c' ∧ s = s' ∧ a = a' ∧ n = n' ∧ ch = ch' := by
  have he : (opT k c s a n ch).data.toList = (opT k' c' s' a' n' ch').data.toList := congrArg (fun x : ByteArray => x.data.toList) he
  rcases chk_ok h with ⟨rfl, h1⟩ | ⟨rfl, rfl, rfl, rfl, h1⟩ <;> rcases chk_ok h' with ⟨rfl, h2⟩ | ⟨rfl, rfl, rfl, rfl, h2⟩
  · rw [opT_ins h1, opT_ins h2, ins_list, ins_list] at he
    have he := (List.cons.inj he).2
    unfold restL at he
    obtain ⟨e1, e2⟩ := split_eq he (txt_no 32 (by decide)) (txt_no 32 (by decide))
    obtain ⟨e3, e4⟩ := split_eq e2 anc_no anc_no
    obtain ⟨f1, f2⟩ := txt_inj h1.may h2.may e1
    obtain ⟨f3, f4⟩ := anc_inj h1.anc h2.anc e3
    have l1 := h1.lo
    have l2 := h2.lo
    exact ⟨rfl, f1, f2, f3, f4, hex_inj (by omega) (by omega) e4⟩
  · rw [opT_ins h1, opT_del h2, ins_list, del_list] at he
    have := (List.cons.inj he).1
    exact absurd this (by decide)
  · rw [opT_del h1, opT_ins h2, ins_list, del_list] at he
    have := (List.cons.inj he).1
    exact absurd this (by decide)
  · rw [opT_del h1, opT_del h2, del_list, del_list] at he
    obtain ⟨f1, f2⟩ := txt_inj h1 h2 (List.cons.inj he).2
    exact ⟨rfl, f1, f2, rfl, rfl, rfl⟩
end Go.Proofs.YtbfnehpmlngagaaDoor
