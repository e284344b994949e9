/-
  The contract of the law's Awake of layer 2: it returns true, and nothing that existed has changed.
-/
import Derived.Test.YtbddljkajiimmaaDoorTStr
namespace Go.Proofs.YtbddljkajiimmaaDoor
open Go Go.Proofs Go.RowKit

/-- What an id that may be adds to the sums. -/
theorem sq_bd {p q : Int} (h : mayB p q = true) : 1 ≤ p ∧ p ≤ 1048576 ∧ 1 ≤ q ∧ q ≤ 1000 ∧ -1000000 ≤ sqR p q ∧ sqR p q ≤ 1099511627776 ∧ 2 ≤ sqI p q ∧ sqI p q ≤ 2097152000 := by
  obtain ⟨h1, h2, h3, h4⟩ := may_bd h
  have haa : p * p ≤ 1048576 * 1048576 := Int.mul_le_mul h2 h2 (by omega) (by omega)
  have hbb : q * q ≤ 1000 * 1000 := Int.mul_le_mul h4 h4 (by omega) (by omega)
  have hab : p * q ≤ 1048576 * 1000 := Int.mul_le_mul h2 h4 (by omega) (by omega)
  have paa := Int.mul_pos (show 0 < p by omega) (show 0 < p by omega)
  have pbb := Int.mul_pos (show 0 < q by omega) (show 0 < q by omega)
  have pab := Int.mul_pos (show 0 < p by omega) (show 0 < q by omega)
  have e : q * p = p * q := Int.mul_comm _ _
  unfold sqR sqI
  rw [e]
  omega
theorem small_of {n : Int} (h1 : -4503599627370496 ≤ n) (h2 : n ≤ 4503599627370496) : Small n := by
  unfold Small
  have : (2 : Nat) ^ 53 = 9007199254740992 := by decide
  omega
theorem sums_of {p q : Int} (h : mayB p q = true) : Sums p q (sqR p q) (sqI p q) := by
  obtain ⟨h1, h2, h3, h4, h5, h6, h7, h8⟩ := sq_bd h
  exact ⟨small_of (by omega) (by omega), small_of (by omega) (by omega), small_of (by omega) (by omega), small_of (by omega) (by omega)⟩
theorem sums_zero : Sums 0 0 0 0 := ⟨small_of (by omega) (by omega), small_of (by omega) (by omega), small_of (by omega) (by omega), small_of (by omega) (by omega)⟩

/-- The first id that is put in. -/
theorem put_first {p q : Int} (w : World) (h : mayB p q = true) :
    Calls Tryd.prog 8 #[.agg #[.int .i64 0, .complex .f64 0 0, .complex .f64 0 0], .agg #[.int .i64 p, .int .i64 q]] w
      fun e w' => e = .returned (.tuple #[.agg #[.int .i64 1, .complex .f64 (fl p) (fl q), .complex .f64 (fl (sqR p q)) (fl (sqI p q))], .int .i64 0]) ∧ Below w.heap.size w w' := by
  have hp := put_ok (N := 0) (a := 0) (b := 0) (c := 0) (d := 0) w h (by omega) (by omega) sums_zero (sums_of h) (by simpa using sums_of h)
  rw [fl_zero] at hp
  simpa using hp
theorem fl_3 : fl 3 = 4613937818241073152 := by decide +kernel
theorem fl_2 : fl 2 = 4611686018427387904 := by decide +kernel
theorem fl_5 : fl (sqR 3 2) = 4617315517961601024 := by decide +kernel
theorem fl_12 : fl (sqI 3 2) = 4622945017495814144 := by decide +kernel
theorem put_ex (w : World) :
    Calls Tryd.prog 8 #[.agg #[.int .i64 0, .complex .f64 0 0, .complex .f64 0 0], .agg #[.int .i64 3, .int .i64 2]] w
      fun e w' => e = .returned (.tuple #[.agg #[.int .i64 1, .complex .f64 4613937818241073152 4611686018427387904, .complex .f64 4617315517961601024 4622945017495814144], .int .i64 0]) ∧ Below w.heap.size w w' := by
  have hp := put_first (p := 3) (q := 2) w (by decide)
  rw [fl_3, fl_2, fl_5, fl_12] at hp
  exact hp

/-- The library's tables read as their initialisers lay them. -/
structure Libs (w : World) : Prop where
  pows : Pows w
  tab : Tab w
theorem Libs.next {w w' : World} (h : Libs w) (hb : Below w.heap.size w w') : Libs w' := ⟨h.pows.next hb, h.tab.next hb⟩

set_option maxHeartbeats 800000 in
theorem awakeB_any (w : World) (hl : Libs w) :
    Calls Tryd.prog 5 #[] w fun e w' => e = .returned (.bool true) ∧ Below w.heap.size w w' := by
  have HL := Lib.hid hl
  have hst := st_complex
  clear hl
  go_enter Tryd.func5, Tryd.ntmps5
  go_wp2_with (go_at_call 8; refine (put_ex _).mono ?_; rintro e w1 ⟨rfl, hb1⟩; refine Hid.out ?_)
  have HB1 := Lib.hid hb1
  clear hb1
  refine Lib.hid ?_
  go_wp2_with (go_at_call 12; refine (awake_any _ (HL.out.tab.next (HB1.out.alloc HB1.out.size _))).mono ?_; rintro e w2 ⟨rfl, hb2⟩; refine Hid.out ?_)
  have hB := (HB1.out.alloc HB1.out.size _).trans (hb2.mono (by have := HB1.out.size; simp; omega))
  have hT := (Blk.start w1 [.int .i64 1, .complex .f64 4613937818241073152 4611686018427387904, .complex .f64 4617315517961601024 4622945017495814144] 28).next hb2
  obtain ⟨t0, t1, t2, _⟩ := hT.has3
  have HB := Lib.hid hB
  clear hB hT hb2 HB1
  refine Lib.hid ?_
  go_wp2_with (go_at_call 13; refine (string_ex _ (HL.out.pows.next HB.out) (HL.out.tab.next HB.out)).mono ?_; rintro e w3 ⟨rfl, hb3⟩)
  go_ret
  exact ⟨rfl, HB.out.trans (hb3.mono HB.out.size)⟩
end Go.Proofs.YtbddljkajiimmaaDoor
