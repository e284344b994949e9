/-
  The walk of the law TallyFull: whatever the id is, it returns true, and nothing that existed has changed.
-/
import Derived.Test.YtbddljkajiimmaaDoorAwakeB
import Derived.Deep.LoopGhost
namespace Go.Proofs.YtbddljkajiimmaaDoor
open Go Go.Proofs Go.RowKit

theorem mul_bd {m x B : Int} (h0 : 0 ≤ m) (h1 : m ≤ 4096) (hB : 0 ≤ B) (h2 : -B ≤ x) (h3 : x ≤ B) : -(4096 * B) ≤ m * x ∧ m * x ≤ 4096 * B := by
  constructor
  · have a1 : m * (-B) ≤ m * x := Int.mul_le_mul_of_nonneg_left h2 h0
    have a2 : m * B ≤ 4096 * B := Int.mul_le_mul_of_nonneg_right h1 hB
    rw [Int.mul_neg] at a1
    omega
  · have a1 : m * x ≤ m * B := Int.mul_le_mul_of_nonneg_left h3 h0
    have a2 : m * B ≤ 4096 * B := Int.mul_le_mul_of_nonneg_right h1 hB
    omega
theorem sums_scale {c s m : Int} (h : mayB c s = true) (h0 : 0 ≤ m) (h1 : m ≤ 4096) : Sums (m * c) (m * s) (m * sqR c s) (m * sqI c s) := by
  obtain ⟨b1, b2, b3, b4, b5, b6, b7, b8⟩ := sq_bd h
  have k1 := mul_bd (x := c) (B := 1048576) h0 h1 (by omega) (by omega) (by omega)
  have k2 := mul_bd (x := s) (B := 1048576) h0 h1 (by omega) (by omega) (by omega)
  have k3 := mul_bd (x := sqR c s) (B := 1099511627776) h0 h1 (by omega) (by omega) (by omega)
  have k4 := mul_bd (x := sqI c s) (B := 1099511627776) h0 h1 (by omega) (by omega) (by omega)
  exact ⟨small_of (by omega) (by omega), small_of (by omega) (by omega), small_of (by omega) (by omega), small_of (by omega) (by omega)⟩

/-- The tally of m times one id, as cells. -/
def tcs (m c s : Int) : List Value := [.int .i64 m, .complex .f64 (fl (m * c)) (fl (m * s)), .complex .f64 (fl (m * sqR c s)) (fl (m * sqI c s))]

theorem and_scale {c s m : Int} (w : World) (h : mayB c s = true) (h0 : 0 ≤ m) (h1 : m + m ≤ 4096) :
    Calls Tryd.prog 9 #[.agg #[.int .i64 m, .complex .f64 (fl (m * c)) (fl (m * s)), .complex .f64 (fl (m * sqR c s)) (fl (m * sqI c s))], .agg #[.int .i64 m, .complex .f64 (fl (m * c)) (fl (m * s)), .complex .f64 (fl (m * sqR c s)) (fl (m * sqI c s))]] w
      fun e w' => e = .returned (.tuple #[.agg #[.int .i64 (m + m), .complex .f64 (fl ((m + m) * c)) (fl ((m + m) * s)), .complex .f64 (fl ((m + m) * sqR c s)) (fl ((m + m) * sqI c s))], .int .i64 0]) ∧ Below w.heap.size w w' := by
  have hs := sums_scale (m := m) h h0 (by omega)
  have hs' := sums_scale (m := m + m) h (by omega) (by omega)
  simp only [Int.add_mul] at hs' ⊢
  exact and_ok w h0 h0 h1 hs hs hs'

set_option maxHeartbeats 800000 in
theorem full_no (n c s : Int) (w : World) (hm : mayB c s = false) (hl : Libs w) :
    Calls Tryd.prog 4 #[.int .u8 n, .agg #[.int .i64 c, .int .i64 s]] w fun e w' => e = .returned (.bool true) ∧ Below w.heap.size w w' := by
  have HL := Lib.hid hl
  clear hl
  go_enter Tryd.func4, Tryd.ntmps4
  go_wp2_with (first | (go_at_call 7; refine (of_any _ _ _).mono ?_; rintro e w1 ⟨rfl, hb1⟩; refine Hid.out ?_))
  have HB := Lib.hid (((Below.refl w.heap.size w).alloc (Nat.le_refl _) _).trans (hb1.mono (by simp)))
  clear hb1
  refine Lib.hid ?_
  go_wp2_with (first | (go_at_call 6; refine (may_any _ _ _).mono ?_; rintro e w2 ⟨rfl, hb2⟩; refine Hid.out ?_))
  have HB2 := Lib.hid (HB.out.trans (hb2.mono HB.out.size))
  clear hb2 HB
  refine Lib.hid ?_
  go_wp2_with (first | (go_at_call 5; refine (awakeB_any _ (HL.out.next HB2.out)).mono ?_; rintro e w3 ⟨rfl, hb3⟩))
  go_ret
  exact ⟨rfl, HB2.out.trans (hb3.mono HB2.out.size)⟩

theorem pow_step {k : Nat} (h : k < 12) : ((2 ^ k : Nat) : Int) + ((2 ^ k : Nat) : Int) = ((2 ^ (k + 1) : Nat) : Int) ∧ ((2 ^ k : Nat) : Int) + ((2 ^ k : Nat) : Int) ≤ 4096 ∧ (0 : Int) ≤ ((2 ^ k : Nat) : Int) := by
  have h1 : (2 : Nat) ^ (k + 1) ≤ 2 ^ 12 := Nat.pow_le_pow_right (by omega) (by omega)
  have h2 : (2 : Nat) ^ (k + 1) = 2 ^ k * 2 := Nat.pow_succ ..
  have h3 : (2 : Nat) ^ 12 = 4096 := by decide
  omega
/-- What the walk knows at the head of each round. -/
def FullAt (w wr : World) (bt : Nat) (m c s : Int) : Prop := Blk wr bt (tcs m c s) 28 ∧ Blk wr w.heap.size [.int .i64 c, .int .i64 s] 24 ∧ Below w.heap.size w wr ∧ w.heap.size < bt

theorem FullAt.next {w W W' : World} {bt : Nat} {m c s : Int} (h : FullAt w W bt m c s) (hb : Below W.heap.size W W') : FullAt w W' bt m c s :=
  ⟨h.1.next hb, h.2.1.next hb, h.2.2.1.trans (hb.mono h.2.2.1.size), h.2.2.2⟩
theorem take_scale {c s : Int} (w : World) (h : mayB c s = true) :
    Calls Tryd.prog 11 #[.agg #[.int .i64 4096, .complex .f64 (fl (4096 * c)) (fl (4096 * s)), .complex .f64 (fl (4096 * sqR c s)) (fl (4096 * sqI c s))], .agg #[.int .i64 c, .int .i64 s]] w
      fun e w' => e = .returned (.tuple #[.agg #[.int .i64 4095, .complex .f64 (fl (4095 * c)) (fl (4095 * s)), .complex .f64 (fl (4095 * sqR c s)) (fl (4095 * sqI c s))], .int .i64 0]) ∧ Below w.heap.size w w' := by
  have hs := sums_scale (m := 4096) h (by omega) (by omega)
  have hs' := sums_scale (m := 4095) h (by omega) (by omega)
  have e1 : 4096 * c - c = 4095 * c := by omega
  have e2 : 4096 * s - s = 4095 * s := by omega
  have e3 : 4096 * sqR c s - sqR c s = 4095 * sqR c s := by omega
  have e4 : 4096 * sqI c s - sqI c s = 4095 * sqI c s := by omega
  have ht := take_ok (N := 4096) w h (by omega) (by omega) hs (sums_of h) (by rw [e1, e2, e3, e4]; exact hs')
  rw [e1, e2, e3, e4] at ht
  exact ht
theorem put_scale {c s : Int} (w : World) (h : mayB c s = true) :
    Calls Tryd.prog 8 #[.agg #[.int .i64 4095, .complex .f64 (fl (4095 * c)) (fl (4095 * s)), .complex .f64 (fl (4095 * sqR c s)) (fl (4095 * sqI c s))], .agg #[.int .i64 c, .int .i64 s]] w
      fun e w' => e = .returned (.tuple #[.agg #[.int .i64 4096, .complex .f64 (fl (4096 * c)) (fl (4096 * s)), .complex .f64 (fl (4096 * sqR c s)) (fl (4096 * sqI c s))], .int .i64 0]) ∧ Below w.heap.size w w' := by
  have hs := sums_scale (m := 4095) h (by omega) (by omega)
  have hs' := sums_scale (m := 4096) h (by omega) (by omega)
  have e1 : 4095 * c + c = 4096 * c := by omega
  have e2 : 4095 * s + s = 4096 * s := by omega
  have e3 : 4095 * sqR c s + sqR c s = 4096 * sqR c s := by omega
  have e4 : 4095 * sqI c s + sqI c s = 4096 * sqI c s := by omega
  have ht := put_ok (N := 4095) w h (by omega) (by omega) hs (sums_of h) (by rw [e1, e2, e3, e4]; exact hs')
  rw [e1, e2, e3, e4] at ht
  exact ht
theorem same_scale {c s : Int} (w : World) (h : mayB c s = true) :
    Calls Tryd.prog 10 #[.agg #[.int .i64 4096, .complex .f64 (fl (4096 * c)) (fl (4096 * s)), .complex .f64 (fl (4096 * sqR c s)) (fl (4096 * sqI c s))], .agg #[.int .i64 4096, .complex .f64 (fl (4096 * c)) (fl (4096 * s)), .complex .f64 (fl (4096 * sqR c s)) (fl (4096 * sqI c s))]] w
      fun e w' => e = .returned (.bool true) ∧ Below w.heap.size w w' := by
  have hs := sums_scale (m := 4096) h (by omega) (by omega)
  have ht := same_any (N := 4096) (N' := 4096) hs.1 hs.2.1 hs.2.2.1 hs.2.2.2 hs.1 hs.2.1 hs.2.2.1 hs.2.2.2 w
  have e : sameB 4096 (4096 * c) (4096 * s) (4096 * sqR c s) (4096 * sqI c s) 4096 (4096 * c) (4096 * s) (4096 * sqR c s) (4096 * sqI c s) = true := by unfold sameB; simp
  rw [e] at ht
  exact ht
theorem fl_4096 : fl 4096 = 4661225614328463360 := by decide +kernel
theorem real_run {c s : Int} (h : mayB c s = true) (W : World) : (binOp .mul 38 (.float .f64 4661225614328463360) (.float .f64 (floatOfInt .f64 c))).run Tryd.prog W = .ok (.float .f64 (fl (4096 * c))) W := by
  obtain ⟨h1, h2, h3, h4⟩ := may_bd h
  have := fl_mul (m := 4096) (n := c) (small_of (by omega) (by omega)) (small_of (by omega) (by omega)) (by omega) (by omega) (small_of (by omega) (by omega))
  rw [fl_4096] at this
  exact run_float_arith W .mul _ _ _ _ _ this
theorem real_eq {c s : Int} (h : mayB c s = true) : (FloatKind.f64.format.order (fl (4096 * c)) (fl (4096 * c)) == some Ordering.eq) = true := by
  obtain ⟨h1, h2, h3, h4⟩ := may_bd h
  rw [beq_iff_eq, fl_iff (small_of (by omega) (by omega)) (small_of (by omega) (by omega))]

set_option maxHeartbeats 1600000 in
set_option maxRecDepth 100000 in
theorem full_yes (n c s : Int) (w : World) (hm : mayB c s = true) (hl : Libs w) :
    Calls Tryd.prog 4 #[.int .u8 n, .agg #[.int .i64 c, .int .i64 s]] w fun e w' => e = .returned (.bool true) ∧ Below w.heap.size w w' := by
  have HL := Lib.hid hl
  have HM := Lib.hid hm
  have hst := st_complex
  clear hl
  go_enter Tryd.func4, Tryd.ntmps4
  go_wp2_with (first | (go_at_call 7; refine (of_any _ _ _).mono ?_; rintro e w1 ⟨rfl, hb1⟩; refine Hid.out ?_))
  have HB := Lib.hid (((Below.refl w.heap.size w).alloc (Nat.le_refl _) _).trans (hb1.mono (by simp)))
  have HI := Lib.hid ((Blk.start w [.int .i64 c, .int .i64 s] 24).next hb1)
  clear hb1
  refine Lib.hid ?_
  go_wp2_with (first | (go_at_call 6; refine (may_any _ _ _).mono ?_; rintro e w2 ⟨rfl, hb2⟩; refine Hid.out ?_))
  have HB2 := Lib.hid (HB.out.trans (hb2.mono HB.out.size))
  have hI2 := HI.out.next hb2
  have i0 := hI2.cell 0 rfl
  have i1 := hI2.cell 1 rfl
  have HI2 := Lib.hid hI2
  clear hb2 HB HI hI2
  refine Lib.hid ?_
  go_wp2_with (first | (go_at_call 8; refine (put_first _ HM.out).mono ?_; rintro e w3 ⟨rfl, hb3⟩; refine Hid.out ?_))
  have HR : Hid (FullAt w (w3.alloc (.cells #[.int .i64 1, .complex .f64 (fl c) (fl s), .complex .f64 (fl (sqR c s)) (fl (sqI c s))] 28)) w3.heap.size 1 c s) := by
    refine Lib.hid ⟨?_, (HI2.out.next hb3).alloc _, (HB2.out.trans (hb3.mono HB2.out.size)).alloc (Nat.le_trans HB2.out.size hb3.size) _, (HI2.out.next hb3).lt⟩
    unfold tcs
    rw [Int.one_mul, Int.one_mul, Int.one_mul, Int.one_mul]
    exact Blk.start _ _ _
  clear hb3 HB2 HI2 i0 i1
  refine Lib.hid ?_
  go_wp2
  generalize w3.alloc (.cells #[.int .i64 1, .complex .f64 (fl c) (fl s), .complex .f64 (fl (sqR c s)) (fl (sqI c s))] 28) = wA at *
  generalize w3.heap.size = bt at *
  go_loopg [24] 12 (fun g i wr => ∃ k : Nat, k ≤ 12 ∧ g = 12 - k ∧ i = .int .i64 k ∧ FullAt w wr bt ((2 ^ k : Nat) : Int) c s)
  case atStart => exact ⟨0, by omega, rfl, rfl, HR.out⟩
  case round =>
    obtain ⟨k, hk, rfl, rfl, hF⟩ := hrel
    obtain ⟨hT, hI, hB, hlt⟩ := hF
    by_cases hk' : k < 12
    · obtain ⟨e1, e2, e3⟩ := pow_step hk'
      obtain ⟨t0, t1, t2, f0, f1, f2⟩ := hT.has3
      have HE := Lib.hid (And.intro e1 (And.intro e2 e3))
      have HF := Lib.hid (And.intro hT (And.intro hI (And.intro hB hlt)))
      clear e1 e2 e3 hT hI hB hlt f0 f1 f2
      generalize ((2 ^ k : Nat) : Int) = m at *
      go_wp2_with (go_at_call 9; refine (and_scale _ HM.out HE.out.2.2 HE.out.2.1).mono ?_; rintro e w4 ⟨rfl, hb4⟩; refine Hid.out ?_)
      obtain ⟨hT, hI, hB, hlt⟩ := HF.out
      have hT4 := hT.next hb4
      have hI4 := hI.next hb4
      have hB4 := hB.trans (hb4.mono hB.size)
      obtain ⟨t0, t1, t2, f0, f1, f2⟩ := hT4.has3
      have HF4 := Lib.hid (And.intro hT4 (And.intro hI4 (And.intro hB4 hlt)))
      clear hT hI hB hlt hT4 hI4 hB4 hb4 HF
      refine Lib.hid ?_
      go_wp2
      go_roundg (12 - (k + 1))
      case measure => omega
      case rel =>
        obtain ⟨hT4, hI4, hB4, hlt⟩ := HF4.out
        refine ⟨k + 1, by omega, rfl, by go_num, ?_⟩
        rw [← HE.out.1]
        exact ⟨((hT4.set 0 _).set 1 _).set 2 _, ((hI4.other _ (by simp; omega) _).other _ (by simp; omega) _).other _ (by simp; omega) _, ((hB4.setCell (by simp; omega) _).setCell (by simp; omega) _).setCell (by simp; omega) _, hlt⟩
    · obtain rfl : k = 12 := by omega
      have hF : FullAt w wr bt 4096 c s := ⟨hT, hI, hB, hlt⟩
      clear hT hI hB hlt
      have hrr := fun W => real_run HM.out W
      have hre := real_eq HM.out
      obtain ⟨t0, t1, t2, _⟩ := hF.1.has3
      have i0 := hF.2.1.cell 0 rfl
      have i1 := hF.2.1.cell 1 rfl
      have HF := Lib.hid hF
      clear hF
      go_upto_region 11 with (go_at_call 8; refine (put_full _ HM.out).mono ?_; rintro e w5 ⟨rfl, hb5⟩)
      have hF := HF.out.next (hb5.alloc hb5.size (.cells #[.int .i64 0, .complex .f64 0 0, .complex .f64 0 0] 28))
      clear HF hb5 t0 t1 t2 i0 i1
      generalize w5.alloc (.cells #[.int .i64 0, .complex .f64 0 0, .complex .f64 0 0] 28) = w6 at *
      obtain ⟨t0, t1, t2, _⟩ := hF.1.has3
      have i0 := hF.2.1.cell 0 rfl
      have i1 := hF.2.1.cell 1 rfl
      have HF := Lib.hid hF
      clear hF
      go_upto_region 12 with (go_at_call 11; refine (take_scale _ HM.out).mono ?_; rintro e w7 ⟨rfl, hb7⟩)
      have hF := HF.out.next (hb7.alloc hb7.size (.cells #[.int .i64 4095, .complex .f64 (fl (4095 * c)) (fl (4095 * s)), .complex .f64 (fl (4095 * sqR c s)) (fl (4095 * sqI c s))] 28))
      have hU := Blk.start w7 (tcs 4095 c s) 28
      have hU : Blk (w7.alloc (.cells #[.int .i64 4095, .complex .f64 (fl (4095 * c)) (fl (4095 * s)), .complex .f64 (fl (4095 * sqR c s)) (fl (4095 * sqI c s))] 28)) w7.heap.size (tcs 4095 c s) 28 := hU
      clear HF hb7 t0 t1 t2 i0 i1
      generalize w7.alloc (.cells #[.int .i64 4095, .complex .f64 (fl (4095 * c)) (fl (4095 * s)), .complex .f64 (fl (4095 * sqR c s)) (fl (4095 * sqI c s))] 28) = w8 at *
      generalize w7.heap.size = bu at *
      obtain ⟨u0, u1, u2, _⟩ := hU.has3
      have i0 := hF.2.1.cell 0 rfl
      have i1 := hF.2.1.cell 1 rfl
      have HF := Lib.hid hF
      clear hF hU
      go_upto_region 13 with (go_at_call 8; refine (put_scale _ HM.out).mono ?_; rintro e w9 ⟨rfl, hb9⟩)
      have hF := HF.out.next (hb9.alloc hb9.size (.cells #[.int .i64 4096, .complex .f64 (fl (4096 * c)) (fl (4096 * s)), .complex .f64 (fl (4096 * sqR c s)) (fl (4096 * sqI c s))] 28))
      have hV : Blk (w9.alloc (.cells #[.int .i64 4096, .complex .f64 (fl (4096 * c)) (fl (4096 * s)), .complex .f64 (fl (4096 * sqR c s)) (fl (4096 * sqI c s))] 28)) w9.heap.size (tcs 4096 c s) 28 := Blk.start w9 (tcs 4096 c s) 28
      clear HF hb9 u0 u1 u2 i0 i1
      generalize w9.alloc (.cells #[.int .i64 4096, .complex .f64 (fl (4096 * c)) (fl (4096 * s)), .complex .f64 (fl (4096 * sqR c s)) (fl (4096 * sqI c s))] 28) = wa at *
      generalize w9.heap.size = bv at *
      have HF := Lib.hid hF
      have HV := Lib.hid hV
      clear hF hV
      go_wp2_with (go_at_call 5; refine (awakeB_any _ (HL.out.next HF.out.2.2.1)).mono ?_; rintro e wb ⟨rfl, hbb⟩; refine Hid.out ?_)
      have hF := HF.out.next hbb
      have hV := HV.out.next hbb
      clear HF HV hbb
      obtain ⟨t0, t1, t2, _⟩ := hF.1.has3
      obtain ⟨v0, v1, v2, _⟩ := hV.has3
      have HF := Lib.hid hF
      clear hF hV
      refine Lib.hid ?_
      go_wp2_with (go_at_call 10; refine (same_scale _ HM.out).mono ?_; rintro e wc ⟨rfl, hbc⟩; refine Hid.out ?_)
      have hF := HF.out.next hbc
      clear HF hbc t0 t1 t2 v0 v1 v2
      obtain ⟨t0, t1, t2, _⟩ := hF.1.has3
      have i0 := hF.2.1.cell 0 rfl
      have HF := Lib.hid hF
      clear hF
      refine Lib.hid ?_
      go_wp2
      go_ret
      exact ⟨rfl, HF.out.2.2.1⟩

theorem full_any (n c s : Int) (w : World) (hl : Libs w) :
    Calls Tryd.prog 4 #[.int .u8 n, .agg #[.int .i64 c, .int .i64 s]] w fun e w' => e = .returned (.bool true) ∧ Below w.heap.size w w' := by
  rcases h : mayB c s with _ | _
  · exact full_no n c s w h hl
  · exact full_yes n c s w h hl
end Go.Proofs.YtbddljkajiimmaaDoor
