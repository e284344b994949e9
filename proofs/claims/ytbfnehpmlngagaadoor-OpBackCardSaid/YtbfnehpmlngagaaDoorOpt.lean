/-
  The contract of Text of the document's answers of layer 5: the same text as String's, of any operation. Nothing that existed has changed.
-/
import Derived.Test.YtbfnehpmlngagaaDoorOps
namespace Go.Proofs.YtbfnehpmlngagaaDoor
open Go Go.Proofs Go.RowKit

theorem ret_u8 {a b : Int} (h : a = b) : Ending.returned (.int .u8 a) = .returned (.int .u8 b) := by rw [h]
set_option maxHeartbeats 400000 in
theorem digit_any (d : Nat) (h : d < 16) (w : World) :
    Calls Tryd.prog 24 #[.int .i64 (d : Int)] w
      fun e w' => e = .returned (.int .u8 (hxU d).toNat) ∧ w = w' := by
  rw [hxU_nat h]
  by_cases hd : d < 10
  · rw [if_pos hd]
    have s1 : IntKind.u8.wrap (48 + (d : Int)) = 48 + (d : Int) := IntWalk.u8_in _ (by omega)
    go_enter Tryd.func24, Tryd.ntmps24
    go_wp2
    go_ret
    exact ⟨ret_u8 (by omega), rfl⟩
  · rw [if_neg hd]
    have s1 : IntKind.u8.wrap (87 + (d : Int)) = 87 + (d : Int) := IntWalk.u8_in _ (by omega)
    go_enter Tryd.func24, Tryd.ntmps24
    go_wp2
    go_ret
    exact ⟨ret_u8 (by omega), rfl⟩

theorem digit_mod (m : Nat) (w : World) :
    Calls Tryd.prog 24 #[.int .i64 ((m : Int) % 16)] w
      fun e w' => e = .returned (.int .u8 (hxU (m % 16)).toNat) ∧ w = w' := digit_any (m % 16) (Nat.mod_lt _ (by omega)) w

/-- What holds at the head of each round of Text: m is still to be written, suf has been. -/
def HexInv (u m : Nat) (suf : List UInt8) : Prop := hexD u = (if m = 0 then [] else hexD m) ++ suf ∧ m ≤ u
theorem HexInv.next {u m : Nat} {suf : List UInt8} (h : HexInv u m suf) (hm : ¬ m = 0) : HexInv u (m / 16) (hxU (m % 16) :: suf) := by
  obtain ⟨h1, h2⟩ := h
  refine ⟨?_, Nat.le_trans (Nat.div_le_self _ _) h2⟩
  rw [h1, if_neg hm]
  by_cases hs : m < 16
  · rw [hexD_one hs, if_pos (by omega), Nat.mod_eq_of_lt hs]; rfl
  · rw [hexD_more hs, if_neg (by omega)]; simp
theorem HexInv.few {u m : Nat} {suf : List UInt8} (h : HexInv u m suf) (hu : u ≤ 1114111) : suf.length ≤ 6 := by
  have h1 := hexD_six hu
  rw [h.1] at h1
  simp at h1
  omega
theorem conv_hex (d : Nat) (wr : World) :
    (convert 47 9 (.slice (some ⟨wr.heap.size, 0, none⟩) 1 1)).run Tryd.prog (wr.alloc (.cells #[.int .u8 (hxU d).toNat] 5)) =
      .ok (.string ⟨#[hxU d]⟩) (wr.alloc (.cells #[.int .u8 (hxU d).toNat] 5)) := by
  have h := run_convert_bytes_back (P := Tryd.prog) (wr.alloc (.cells #[.int .u8 (hxU d).toNat] 5)) 47 9 5 ⟨wr.heap.size, 0, none⟩ 1 [hxU d]
    Tryd.underlying47 Tryd.underlying5 Tryd.underlying9 (fun j hj => by
      have hj0 : j = 0 := by simpa using hj
      subst hj0
      simp [Addr.add, go_sem])
  exact h

set_option maxHeartbeats 800000 in
theorem optext_wrong (k c s a n ch : Int) (w : World) (h : ¬ chkE k c s a n ch = 0) :
    Calls Tryd.prog 10 #[.agg #[.int .i64 k, .int .i64 c, .int .i64 s, .int .i64 a, .int .i64 n, .int .i32 ch]] w
      fun e w' => e = .returned (.string ⟨#[63]⟩) ∧ Below w.heap.size w w' := by
  have HC := Lib.hid (fun W => refcheck_any k c s a n ch W)
  have hb0 : (chkE k c s a n ch != 0) = true := by simpa using h
  generalize chkE k c s a n ch = e0 at *
  clear h
  go_enter Tryd.func10, Tryd.ntmps10
  go_wp2_with (go_at_call 7; refine (HC.out _).mono ?_; rintro e w1 ⟨rfl, hb1⟩)
  go_ret
  exact ⟨rfl, ((Below.refl _ _).alloc (Nat.le_refl _) _).trans (hb1.mono (by simp))⟩

set_option maxHeartbeats 800000 in
theorem optext_del (c s : Int) (w : World) (h : mayB c s = true) (ht : Tabs w) :
    Calls Tryd.prog 10 #[.agg #[.int .i64 1, .int .i64 c, .int .i64 s, .int .i64 0, .int .i64 0, .int .i32 0]] w
      fun e w' => e = .returned (.string (delT c s)) ∧ Below w.heap.size w w' := by
  have hk := refcheck_any 1 c s 0 0 0 (w.alloc (.cells #[.int .i64 1, .int .i64 c, .int .i64 s, .int .i64 0, .int .i64 0, .int .i32 0] 33))
  rw [chk_del h] at hk
  have HK := Lib.hid hk
  have hadd := fun W => add_del h W
  have H0 := Lib.hid (OpTab.start 33 1 c s 0 0 0 w ht)
  have HM := Lib.hid h
  clear hk ht h
  go_enter Tryd.func10, Tryd.ntmps10
  go_wp2_with (go_at_call 7; refine HK.out.mono ?_; rintro e w1 ⟨rfl, hb1⟩; refine Hid.out ?_)
  have H1 := Lib.hid (H0.out.next hb1)
  obtain ⟨c0, c1, c2, -⟩ := (H0.out.next hb1).s
  clear H0 hb1 HK
  refine Lib.hid ?_
  go_wp2_with (go_at_call 23; refine (text_yes c s _ HM.out H1.out.2.1).mono ?_; rintro e w2 ⟨rfl, hb2⟩)
  go_ret
  exact ⟨rfl, (H1.out.next hb2).1.2.1⟩

set_option maxHeartbeats 1600000 in
set_option maxRecDepth 100000 in
theorem optext_ins (c s a n ch : Int) (w : World) (h : OkIns c s a n ch) (ht : Tabs w) :
    Calls Tryd.prog 10 #[.agg #[.int .i64 0, .int .i64 c, .int .i64 s, .int .i64 a, .int .i64 n, .int .i32 ch]] w
      fun e w' => e = .returned (.string (insT c s a n ch)) ∧ Below w.heap.size w w' := by
  have hk := refcheck_any 0 c s a n ch (w.alloc (.cells #[.int .i64 0, .int .i64 c, .int .i64 s, .int .i64 a, .int .i64 n, .int .i32 ch] 33))
  rw [chk_ins h] at hk
  have HK := Lib.hid hk
  have hadd1 := fun W => add_ins1 h.may W
  have hadd2 := fun W => add_ins2 h.may W
  have hadd3 := fun W => add_ins3 h.may h.anc W
  have hadd4 := fun W => add_ins4 h.may h.anc W
  have hadd5 := fun W => add_insT h.may h.anc h.hi W
  have hlo := h.lo
  have hhi := h.hi
  have s1 : IntKind.i64.wrap ch = ch := IntWalk.i64_in _ (by omega)
  have H0 := Lib.hid (OpTab.start 33 0 c s a n ch w ht)
  have HM := Lib.hid h
  clear hk ht h
  go_enter Tryd.func10, Tryd.ntmps10
  go_wp2_with (go_at_call 7; refine HK.out.mono ?_; rintro e w1 ⟨rfl, hb1⟩; refine Hid.out ?_)
  have H1 := Lib.hid (H0.out.next hb1)
  obtain ⟨c0, -, -, -, -, c5, -⟩ := (H0.out.next hb1).s
  clear H0 hb1 HK
  refine Lib.hid ?_
  go_wp2_with fail
  clear c0 c5
  go_loopg [3, 4] ch.toNat (fun g sv nv wr => ∃ (m : Nat) (suf : List UInt8), sv = .string ⟨suf.toArray⟩ ∧ nv = .int .i64 (m : Int) ∧ m = g ∧ HexInv ch.toNat m suf ∧ OpTab w.heap.size w.heap.size 33 0 c s a n ch w wr)
  case atStart => exact ⟨ch.toNat, [], rfl, by rw [Int.toNat_of_nonneg (by omega)], rfl, ⟨by rw [if_neg (by omega)]; simp, Nat.le_refl _⟩, H1.out⟩
  case round =>
    obtain ⟨m, suf, rfl, rfl, hg, hI, hO⟩ := hrel
    have hfew := hI.few (by omega)
    have hle := hI.2
    have HG := Lib.hid hg
    have HI := Lib.hid hI
    have HO := Lib.hid hO
    clear hg hI hO H1
    by_cases hm : 1 ≤ m
    · have hcv := conv_hex (m % 16) wr
      go_wp2_with (go_at_call 24; refine (digit_mod m _).mono ?_; rintro e w2 ⟨rfl, rfl⟩)
      go_roundg (m / 16)
      case measure => have := HG.out; omega
      case rel => exact ⟨m / 16, hxU (m % 16) :: suf, congrArg Value.string (str_cons _ _), by go_num, rfl, HI.out.next (by omega), HO.out.next ((Below.refl _ _).alloc (Nat.le_refl _) _)⟩
    · obtain rfl : m = 0 := by omega
      have hsuf : (⟨suf.toArray⟩ : ByteArray) = hexB ch := by
        have := HI.out.1
        simp at this
        unfold hexB
        rw [this]
      rw [hsuf]
      clear hsuf HI HG hfew hle
      go_wp2_with fail
      refine wp_region_noPanic ?_
      refine wp_region_held_drew (S := (fun W => W.cell? ⟨w.heap.size, 0, none⟩ = some (.int .i64 0) ∧ W.cell? ⟨w.heap.size, 1, none⟩ = some (.int .i64 c) ∧ W.cell? ⟨w.heap.size, 2, none⟩ = some (.int .i64 s) ∧ W.cell? ⟨w.heap.size, 3, none⟩ = some (.int .i64 a) ∧ W.cell? ⟨w.heap.size, 4, none⟩ = some (.int .i64 n) ∧ W.cell? ⟨w.heap.size, 5, none⟩ = some (.int .i32 ch) ∧ OpTab w.heap.size w.heap.size 33 0 c s a n ch w W)) (by kernel_rfl) ?_ (fun hHeld => ?_)
      · exact (HO.out.next (Below.refl _ _).drew).s
      clear HO
      refine take1 (i := 0) (v := .pointer (some ⟨w.heap.size, 1, none⟩)) rfl (by kernel_rfl) (by kernel_rfl) (by kernel_rfl) (fun _ _ _ h => h) (Or.inl ⟨by rfl, fun w hSw => ?_⟩) hHeld ?_
      · (go_simp)
      try simp only [Act.put, List.setIfInBounds_toArray, List.set_cons_zero, List.set_cons_succ]
      refine take1 (i := 1) (v := .agg #[.int .i64 c, .int .i64 s]) rfl (by kernel_rfl) (by kernel_rfl) (by kernel_rfl) (fun _ _ _ h => h) (Or.inl ⟨by rfl, fun w hSw => ?_⟩) hHeld ?_
      · (go_simp)
      try simp only [Act.put, List.setIfInBounds_toArray, List.set_cons_zero, List.set_cons_succ]
      refine take1 (i := 5) (v := .pointer (some ⟨w.heap.size, 3, none⟩)) rfl (by kernel_rfl) (by kernel_rfl) (by kernel_rfl) (fun _ _ _ h => h) (Or.inl ⟨by rfl, fun w hSw => ?_⟩) hHeld ?_
      · (go_simp)
      try simp only [Act.put, List.setIfInBounds_toArray, List.set_cons_zero, List.set_cons_succ]
      refine take1 (i := 6) (v := .agg #[.int .i64 a, .int .i64 n]) rfl (by kernel_rfl) (by kernel_rfl) (by kernel_rfl) (fun _ _ _ h => h) (Or.inl ⟨by rfl, fun w hSw => ?_⟩) hHeld ?_
      · (go_simp)
      try simp only [Act.put, List.setIfInBounds_toArray, List.set_cons_zero, List.set_cons_succ]
      refine take1 (i := 10) (v := .string (hexB ch)) rfl (by kernel_rfl) (by kernel_rfl) (by kernel_rfl) (fun _ _ _ h => h) (Or.inl ⟨by rfl, fun w hSw => ?_⟩) hHeld ?_
      · (go_simp)
      try simp only [Act.put, List.setIfInBounds_toArray, List.set_cons_zero, List.set_cons_succ]
      refine wpAnyH_ready (rs := [2]) (by kernel_rfl) (by simp) ?_
      refine cons1 rfl (fun K hK => ?_) AllReadyH.nil
      go_simp
      refine (text_yes c s _ HM.out.may hHeld.2.2.2.2.2.2.2.1).mono ?_
      rintro e' u1 ⟨rfl, hb⟩
      go_wp2_with fail
      refine hK.out _ _ ((hHeld.2.2.2.2.2.2.next hb).s) (fun hHeld2 => ?_)
      clear hK K hHeld hb
      have hHeld := hHeld2
      clear hHeld2
      try simp only [Act.put, List.setIfInBounds_toArray, List.set_cons_zero, List.set_cons_succ]
      refine take1 (i := 3) (v := .string (ins1 c s)) rfl (by kernel_rfl) (by kernel_rfl) (by kernel_rfl) (fun _ _ _ h => h) (Or.inl ⟨by rfl, fun w hSw => ?_⟩) hHeld ?_
      · (go_simp)
      try simp only [Act.put, List.setIfInBounds_toArray, List.set_cons_zero, List.set_cons_succ]
      refine take1 (i := 4) (v := .string (ins2 c s)) rfl (by kernel_rfl) (by kernel_rfl) (by kernel_rfl) (fun _ _ _ h => h) (Or.inl ⟨by rfl, fun w hSw => ?_⟩) hHeld ?_
      · (go_simp)
      try simp only [Act.put, List.setIfInBounds_toArray, List.set_cons_zero, List.set_cons_succ]
      refine wpAnyH_ready (rs := [7]) (by kernel_rfl) (by simp) ?_
      refine cons1 rfl (fun K hK => ?_) AllReadyH.nil
      go_simp
      refine (ancText_any a n _ HM.out.anc hHeld.2.2.2.2.2.2.2).mono ?_
      rintro e' u2 ⟨rfl, hb⟩
      go_wp2_with fail
      refine hK.out _ _ ((hHeld.2.2.2.2.2.2.next hb).s) (fun hHeld2 => ?_)
      clear hK K hHeld hb
      have hHeld := hHeld2
      clear hHeld2
      try simp only [Act.put, List.setIfInBounds_toArray, List.set_cons_zero, List.set_cons_succ]
      refine take1 (i := 8) (v := .string (ins3 c s a n)) rfl (by kernel_rfl) (by kernel_rfl) (by kernel_rfl) (fun _ _ _ h => h) (Or.inl ⟨by rfl, fun w hSw => ?_⟩) hHeld ?_
      · (go_simp)
      try simp only [Act.put, List.setIfInBounds_toArray, List.set_cons_zero, List.set_cons_succ]
      refine take1 (i := 9) (v := .string (ins4 c s a n)) rfl (by kernel_rfl) (by kernel_rfl) (by kernel_rfl) (fun _ _ _ h => h) (Or.inl ⟨by rfl, fun w hSw => ?_⟩) hHeld ?_
      · (go_simp)
      try simp only [Act.put, List.setIfInBounds_toArray, List.set_cons_zero, List.set_cons_succ]
      refine take1 (i := 11) (v := .string (insT c s a n ch)) rfl (by kernel_rfl) (by kernel_rfl) (by kernel_rfl) (fun _ _ _ h => h) (Or.inl ⟨by rfl, fun w hSw => ?_⟩) hHeld ?_
      · (go_simp)
      try simp only [Act.put, List.setIfInBounds_toArray, List.set_cons_zero, List.set_cons_succ]
      refine take1 (i := 12) (v := .string (insT c s a n ch)) rfl (by kernel_rfl) (by kernel_rfl) (by kernel_rfl) (fun _ _ _ h => h) (Or.inl ⟨by rfl, fun w hSw => ?_⟩) hHeld ?_
      · (go_simp)
      try simp only [Act.put, List.setIfInBounds_toArray, List.set_cons_zero, List.set_cons_succ]
      refine wpAnyH_done (by kernel_rfl) ?_ _
      refine NoPanic.normal ?_
      have HB := Lib.hid hHeld.2.2.2.2.2.2.1.2.1
      clear hHeld
      go_wp2_with fail
      go_ret
      exact ⟨rfl, HB.out⟩
theorem optext_any (k c s a n ch : Int) (w : World) (ht : Tabs w) :
    Calls Tryd.prog 10 #[.agg #[.int .i64 k, .int .i64 c, .int .i64 s, .int .i64 a, .int .i64 n, .int .i32 ch]] w
      fun e w' => e = .returned (.string (opT k c s a n ch)) ∧ Below w.heap.size w w' := by
  by_cases h : chkE k c s a n ch = 0
  · rcases chk_ok h with ⟨rfl, hk⟩ | ⟨rfl, rfl, rfl, rfl, hm⟩
    · rw [opT_ins hk]; exact optext_ins c s a n ch w hk ht
    · rw [opT_del hm]; exact optext_del c s w hm ht
  · rw [opT_wrong h]; exact optext_wrong k c s a n ch w h
end Go.Proofs.YtbfnehpmlngagaaDoor
