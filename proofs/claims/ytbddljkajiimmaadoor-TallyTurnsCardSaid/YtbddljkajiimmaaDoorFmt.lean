/-
  Contracts of the library's formatBase10, setDigits, fmtEFG, ftoa64 and FormatFloat at the numbers that the document's example asks for.
-/
import Derived.Test.YtbddljkajiimmaaDoorFtoa
import Derived.RegionTactic
import Derived.ChangeAlike
namespace Go.Proofs.YtbddljkajiimmaaDoor
open Go Go.Proofs Go.RowKit

set_option maxHeartbeats 800000 in
set_option maxRecDepth 100000 in
theorem base_one (b cap : Nat) (d : Int) (x : Value) (w : World) (h0 : 0 ≤ d) (h9 : d ≤ 9) (c0 : w.cell? ⟨b, 0, none⟩ = some x) (f0 : w.frozen? ⟨b, 0, none⟩ = false) :
    Calls Tryd.prog 35 #[.slice (some ⟨b, 0, none⟩) 1 cap, .int .u64 d] w fun e w' => e = .returned (.tuple #[]) ∧ w' = w.setCell ⟨b, 0, none⟩ (.int .u8 (48 + d)) := by
  go_enter Tryd.func35, Tryd.ntmps35
  go_wp2
  refine wp_loop_rounds 1 ?_
  rw [rounds_succ]
  go_wp2
  go_end0
  exact ⟨rfl, rfl⟩

set_option maxHeartbeats 800000 in
set_option maxRecDepth 100000 in
theorem base_two (b cap : Nat) (x y : Value) (w : World) (c0 : w.cell? ⟨b, 0, none⟩ = some x) (f0 : w.frozen? ⟨b, 0, none⟩ = false) (c1 : w.cell? ⟨b, 1, none⟩ = some y) (f1 : w.frozen? ⟨b, 1, none⟩ = false) :
    Calls Tryd.prog 35 #[.slice (some ⟨b, 0, none⟩) 2 cap, .int .u64 12] w fun e w' => e = .returned (.tuple #[]) ∧ Off b w w' ∧ w'.cell? ⟨b, 0, none⟩ = some (.int .u8 49) ∧ w'.cell? ⟨b, 1, none⟩ = some (.int .u8 50) := by
  go_enter Tryd.func35, Tryd.ntmps35
  go_wp2
  refine wp_loop_rounds 1 ?_
  rw [rounds_succ]
  go_wp2
  go_region
  go_wp2
  go_end0
  exact ⟨rfl, ((Off.store b _ _ _).trans (Off.store b _ _ _)).trans (Off.drew _ _), by simp [go_sem, c0]; rfl, by simp [go_sem, c1]; rfl⟩

set_option maxHeartbeats 800000 in
theorem digs_one (b : Nat) (d : Int) (x : Value) (w : World) (h0 : 1 ≤ d) (h9 : d ≤ 9) (c0 : w.cell? ⟨b, 0, none⟩ = some x) (f0 : w.frozen? ⟨b, 0, none⟩ = false) :
    Calls Tryd.prog 52 #[.slice (some ⟨b, 0, none⟩) 24 24, .int .u64 d, .int .i64 0, .int .i64 1] w fun e w' => e = .returned (.tuple #[.int .i64 1, .int .i64 1]) ∧ w' = w.setCell ⟨b, 0, none⟩ (.int .u8 (48 + d)) := by
  have c0' : (w.setCell ⟨b, 0, none⟩ (.int .u8 (48 + d))).cell? ⟨b, 0, none⟩ = some (.int .u8 (48 + d)) := World.cell?_setCell_same _ _ _ c0
  have hne : ((48 + d : Int) == 48) = false := by simp; omega
  go_enter Tryd.func52, Tryd.ntmps52
  go_wp2_with (go_at_call 35; refine (base_one _ _ _ _ _ (by omega) (by omega) c0 f0).mono ?_; rintro e w' ⟨rfl, rfl⟩)
  refine wp_loop_rounds 1 ?_
  rw [rounds_succ]
  go_wp2
  go_ret2
  exact ⟨rfl, rfl⟩

set_option maxHeartbeats 1600000 in
set_option maxRecDepth 100000 in
theorem efg_one (b s : Nat) (d : Int) (x : Value) (w : World) (hb : b < w.heap.size) (cs : w.cell? ⟨s, 0, none⟩ = some (.int .u8 (48 + d))) (c0 : w.cell? ⟨b, 0, none⟩ = some x) (f0 : w.frozen? ⟨b, 0, none⟩ = false) :
    Calls Tryd.prog 50 #[.slice (some ⟨b, 0, none⟩) 0 24, .bool false, .slice (some ⟨s, 0, none⟩) 24 24, .int .i64 1, .int .i64 1, .int .i64 0, .int .u8 102, .bool false] w
      fun e w' => e = .returned (.slice (some ⟨b, 0, none⟩) 1 24) ∧ Off b w w' ∧ w'.cell? ⟨b, 0, none⟩ = some (.int .u8 (48 + d)) := by
  go_enter Tryd.func50, Tryd.ntmps50
  go_wp2
  refine wp_loop_rounds 2 ?_
  rw [rounds_succ]
  go_wp2
  rw [rounds_succ]
  go_wp2
  refine wp_loop_rounds 1 ?_
  rw [rounds_succ]
  go_wp2
  go_ret
  exact ⟨rfl, (Off.store b 0 w _).trans (.of ((Below.refl _ _).alloc (Nat.le_refl _) _)), by rw [World.cell?_alloc_old _ _ _ (by simp; omega)]; exact World.cell?_setCell_same _ _ _ c0⟩

set_option maxHeartbeats 800000 in
theorem digs_two (b : Nat) (x y : Value) (w : World) (c0 : w.cell? ⟨b, 0, none⟩ = some x) (f0 : w.frozen? ⟨b, 0, none⟩ = false) (c1 : w.cell? ⟨b, 1, none⟩ = some y) (f1 : w.frozen? ⟨b, 1, none⟩ = false) :
    Calls Tryd.prog 52 #[.slice (some ⟨b, 0, none⟩) 24 24, .int .u64 12, .int .i64 0, .int .i64 2] w fun e w' => e = .returned (.tuple #[.int .i64 2, .int .i64 2]) ∧ Off b w w' ∧ w'.cell? ⟨b, 0, none⟩ = some (.int .u8 49) ∧ w'.cell? ⟨b, 1, none⟩ = some (.int .u8 50) := by
  go_enter Tryd.func52, Tryd.ntmps52
  go_wp2_with (go_at_call 35; refine (base_two _ _ _ _ _ c0 f0 c1 f1).mono ?_; rintro e w' ⟨rfl, ho, d0, d1⟩; refine Hid.out ?_)
  have HO := Lib.hid ho
  clear ho
  refine Lib.hid ?_
  go_wp2
  refine wp_loop_rounds 1 ?_
  rw [rounds_succ]
  go_wp2
  go_ret2
  exact ⟨rfl, HO.out, d0, d1⟩

set_option maxHeartbeats 1600000 in
set_option maxRecDepth 100000 in
theorem efg_two (b s : Nat) (x y : Value) (w : World) (hb : b < w.heap.size) (hs : s < w.heap.size) (_hbs : b ≠ s) (cs : w.cell? ⟨s, 0, none⟩ = some (.int .u8 49)) (ct : w.cell? ⟨s, 1, none⟩ = some (.int .u8 50)) (c0 : w.cell? ⟨b, 0, none⟩ = some x) (f0 : w.frozen? ⟨b, 0, none⟩ = false) (c1 : w.cell? ⟨b, 1, none⟩ = some y) (f1 : w.frozen? ⟨b, 1, none⟩ = false) :
    Calls Tryd.prog 50 #[.slice (some ⟨b, 0, none⟩) 0 24, .bool false, .slice (some ⟨s, 0, none⟩) 24 24, .int .i64 2, .int .i64 2, .int .i64 0, .int .u8 102, .bool false] w
      fun e w' => e = .returned (.slice (some ⟨b, 0, none⟩) 2 24) ∧ Off b w w' ∧ w'.cell? ⟨b, 0, none⟩ = some (.int .u8 49) ∧ w'.cell? ⟨b, 1, none⟩ = some (.int .u8 50) := by
  go_enter Tryd.func50, Tryd.ntmps50
  go_wp2
  refine wp_loop_rounds 3 ?_
  rw [rounds_succ]
  go_wp2
  rw [rounds_succ]
  go_wp2
  rw [rounds_succ]
  go_wp2
  refine wp_loop_rounds 1 ?_
  rw [rounds_succ]
  go_wp2
  go_ret
  exact ⟨rfl, ((Off.store b 0 w _).trans (Off.store b 1 _ _)).trans (.of (((Below.refl _ _).alloc (Nat.le_refl _) _).alloc (by simp) _)),
    by rw [World.cell?_alloc_old _ _ _ (by simp; omega), World.cell?_alloc_old _ _ _ (by simp; omega), World.cell?_setCell_other _ _ _ _ (by simp)]; exact World.cell?_setCell_same _ _ _ c0,
    by rw [World.cell?_alloc_old _ _ _ (by simp; omega), World.cell?_alloc_old _ _ _ (by simp; omega)]; exact World.cell?_setCell_same _ _ _ (u := y) (by rw [World.cell?_setCell_other _ _ _ _ (by simp)]; exact c1)⟩

theorem bits_run (b : Nat) (W : World) : (callFunc 47 #[.float .f64 b]).run Tryd.prog W = .ok (.value (.int .u64 b)) W := by
  rw [run_callFunc_extern Tryd.func47 (by kernel_rfl) (by kernel_rfl) (by kernel_rfl) (e := Extern.MathFloatBits.float64bits) (by kernel_rfl)]
  rfl


set_option maxHeartbeats 1600000 in
set_option maxRecDepth 100000 in
theorem ftoa_3 (b : Nat) (x : Value) (w : World) (hp : Pows w) (ht : Tab w) (hb : b < w.heap.size) (c0 : w.cell? ⟨b, 0, none⟩ = some x) (f0 : w.frozen? ⟨b, 0, none⟩ = false) :
    Calls Tryd.prog 40 #[.slice (some ⟨b, 0, none⟩) 0 24, .float .f64 4613937818241073152, .int .u8 102, .int .i64 0] w
      fun e w' => e = .returned (.slice (some ⟨b, 0, none⟩) 1 24) ∧ Off b w w' ∧ w'.cell? ⟨b, 0, none⟩ = some (.int .u8 51) := by
  have hbits : ∀ W : World, (callFunc 47 #[.float .f64 4613937818241073152]).run Tryd.prog W = .ok (.value (.int .u64 4613937818241073152)) W := fun W => bits_run _ W
  have b1 : Go.bits .and .i64 1024 2047 = 1024 := by decide
  have b2 : Go.bits .and .u64 4613937818241073152 4503599627370495 = 2251799813685248 := by decide
  have b3 : Go.bits .or .u64 2251799813685248 4503599627370496 = 6755399441055744 := by decide
  have l1 : Lib.l10 2 = 0 := by decide
  have L1 := Lib.hid (fun W => Tryd.internal_strconv_log10Pow2 2 (by decide) W)
  have l2 : Lib.bitLen 6755399441055744 = 53 := by decide
  have L2 := Lib.hid (fun W => Tryd.bits_Len64 6755399441055744 W (by decide) (by decide))
  have ho := hp.opt
  have HP := Lib.hid hp
  have HT := Lib.hid ht
  have HC := Lib.hid (And.intro c0 f0)

  clear hp ht c0 f0
  go_enter Tryd.func40, Tryd.ntmps40
  go_wp2
  go_quiet (fail)
  go_wp2_with (first
    | (go_at_call 41; refine (L1.out _).mono ?_; rintro e w' ⟨rfl, rfl⟩)
    | (go_at_call 42; refine (L2.out _).mono ?_; rintro e w' ⟨rfl, rfl⟩)
    | (go_at_call 53; refine (fwf_3 _ (HP.out.next ((below_drewN (Below.refl _ _) _).alloc (by simp) _)) (HT.out.next ((below_drewN (Below.refl _ _) _).alloc (by simp) _))).mono ?_; rintro e w1 ⟨rfl, hb1⟩; refine Hid.out ?_))
  have hB : Below w.heap.size w w1 := ((below_drewN (Below.refl _ _) _).alloc (by simp) _).trans (hb1.mono (by simp))
  have hBuf := (Blk.startAt (b := w.heap.size) (by simp)).next hb1
  have z0 : w1.drew.cell? ⟨w.heap.size, 0, none⟩ = some (.int .u8 0) := hBuf.drew.cell 0 rfl
  have g0 : w1.drew.frozen? ⟨w.heap.size, 0, none⟩ = false := hBuf.drew.free 0

  have hbl := hBuf.lt
  have c0 : w1.cell? ⟨b, 0, none⟩ = some x := (hB.cell (p := ⟨b, 0, none⟩) hb).trans HC.out.1
  have f0 : w1.frozen? ⟨b, 0, none⟩ = false := (hB.frozen (p := ⟨b, 0, none⟩) hb).trans HC.out.2
  have hT1 := Lib.hid (HT.out.next hB)
  have HB := Lib.hid (And.intro hB hbl)
  have d1 : Lib.nDigits 3 = 1 := by decide +kernel
  have N1 := Lib.hid (fun W => Tryd.internal_strconv_numDigits 3 (by decide) (by decide) W)
  clear hb1 hB HP HC HT hBuf hbits ho b1 b2 b3 hbl
  refine Lib.hid ?_
  go_upto_region 74 with fail
  go_region_with (first
    | (go_at_call 34; refine (N1.out _ ?_).mono ?_; (exact hT1.out.next (Below.refl _ _).drew); rintro e w' ⟨rfl, rfl⟩)
    | (go_at_call 52; refine (digs_one _ _ _ _ (by omega) (by omega) z0 g0).mono ?_; rintro e w' ⟨rfl, rfl⟩))
  have hb1 : b < w1.heap.size := by have := HB.out.2; omega
  have z1 : w1.cell? ⟨w.heap.size, 0, none⟩ = some (.int .u8 0) := z0
  have k0 : (w1.setCell ⟨w.heap.size, 0, none⟩ (.int .u8 51)).cell? ⟨w.heap.size, 0, none⟩ = some (.int .u8 51) := World.cell?_setCell_same _ _ _ z1
  have k1 : (w1.setCell ⟨w.heap.size, 0, none⟩ (.int .u8 51)).cell? ⟨b, 0, none⟩ = some x := (World.cell?_setCell_other _ _ _ _ (by simp <;> omega)).trans c0
  clear z0 g0 c0 z1
  go_wp2_with (go_at_call 50; refine (efg_one b w.heap.size 3 x _ ?_ ?_ ?_ ?_).mono ?_; (simpa using hb1); (exact k0); (exact k1); (simpa using f0); rintro e w' ⟨rfl, ho, hr⟩)
  go_ret
  exact ⟨rfl, (Off.of ((HB.out.1.setCell (p := ⟨w.heap.size, 0, none⟩) (Nat.le_refl _) _).drew)).trans ho, hr⟩

set_option maxHeartbeats 1600000 in
set_option maxRecDepth 100000 in
theorem ftoa_2 (b : Nat) (x : Value) (w : World) (hp : Pows w) (ht : Tab w) (hb : b < w.heap.size) (c0 : w.cell? ⟨b, 0, none⟩ = some x) (f0 : w.frozen? ⟨b, 0, none⟩ = false) :
    Calls Tryd.prog 40 #[.slice (some ⟨b, 0, none⟩) 0 24, .float .f64 4611686018427387904, .int .u8 102, .int .i64 0] w
      fun e w' => e = .returned (.slice (some ⟨b, 0, none⟩) 1 24) ∧ Off b w w' ∧ w'.cell? ⟨b, 0, none⟩ = some (.int .u8 50) := by
  have hbits : ∀ W : World, (callFunc 47 #[.float .f64 4611686018427387904]).run Tryd.prog W = .ok (.value (.int .u64 4611686018427387904)) W := fun W => bits_run _ W
  have b1 : Go.bits .and .i64 1024 2047 = 1024 := by decide
  have b2 : Go.bits .and .u64 4611686018427387904 4503599627370495 = 0 := by decide
  have b3 : Go.bits .or .u64 0 4503599627370496 = 4503599627370496 := by decide
  have l1 : Lib.l10 2 = 0 := by decide
  have L1 := Lib.hid (fun W => Tryd.internal_strconv_log10Pow2 2 (by decide) W)
  have l2 : Lib.bitLen 4503599627370496 = 53 := by decide
  have L2 := Lib.hid (fun W => Tryd.bits_Len64 4503599627370496 W (by decide) (by decide))
  have ho := hp.opt
  have HP := Lib.hid hp
  have HT := Lib.hid ht
  have HC := Lib.hid (And.intro c0 f0)

  clear hp ht c0 f0
  go_enter Tryd.func40, Tryd.ntmps40
  go_wp2
  go_quiet (fail)
  go_wp2_with (first
    | (go_at_call 41; refine (L1.out _).mono ?_; rintro e w' ⟨rfl, rfl⟩)
    | (go_at_call 42; refine (L2.out _).mono ?_; rintro e w' ⟨rfl, rfl⟩)
    | (go_at_call 53; refine (fwf_2 _ (HP.out.next ((below_drewN (Below.refl _ _) _).alloc (by simp) _)) (HT.out.next ((below_drewN (Below.refl _ _) _).alloc (by simp) _))).mono ?_; rintro e w1 ⟨rfl, hb1⟩; refine Hid.out ?_))
  have hB : Below w.heap.size w w1 := ((below_drewN (Below.refl _ _) _).alloc (by simp) _).trans (hb1.mono (by simp))
  have hBuf := (Blk.startAt (b := w.heap.size) (by simp)).next hb1
  have z0 : w1.drew.cell? ⟨w.heap.size, 0, none⟩ = some (.int .u8 0) := hBuf.drew.cell 0 rfl
  have g0 : w1.drew.frozen? ⟨w.heap.size, 0, none⟩ = false := hBuf.drew.free 0

  have hbl := hBuf.lt
  have c0 : w1.cell? ⟨b, 0, none⟩ = some x := (hB.cell (p := ⟨b, 0, none⟩) hb).trans HC.out.1
  have f0 : w1.frozen? ⟨b, 0, none⟩ = false := (hB.frozen (p := ⟨b, 0, none⟩) hb).trans HC.out.2
  have hT1 := Lib.hid (HT.out.next hB)
  have HB := Lib.hid (And.intro hB hbl)
  have d1 : Lib.nDigits 2 = 1 := by decide +kernel
  have N1 := Lib.hid (fun W => Tryd.internal_strconv_numDigits 2 (by decide) (by decide) W)
  clear hb1 hB HP HC HT hBuf hbits ho b1 b2 b3 hbl
  refine Lib.hid ?_
  go_upto_region 74 with fail
  go_region_with (first
    | (go_at_call 34; refine (N1.out _ ?_).mono ?_; (exact hT1.out.next (Below.refl _ _).drew); rintro e w' ⟨rfl, rfl⟩)
    | (go_at_call 52; refine (digs_one _ _ _ _ (by omega) (by omega) z0 g0).mono ?_; rintro e w' ⟨rfl, rfl⟩))
  have hb1 : b < w1.heap.size := by have := HB.out.2; omega
  have z1 : w1.cell? ⟨w.heap.size, 0, none⟩ = some (.int .u8 0) := z0
  have k0 : (w1.setCell ⟨w.heap.size, 0, none⟩ (.int .u8 50)).cell? ⟨w.heap.size, 0, none⟩ = some (.int .u8 50) := World.cell?_setCell_same _ _ _ z1
  have k1 : (w1.setCell ⟨w.heap.size, 0, none⟩ (.int .u8 50)).cell? ⟨b, 0, none⟩ = some x := (World.cell?_setCell_other _ _ _ _ (by simp <;> omega)).trans c0
  clear z0 g0 c0 z1
  go_wp2_with (go_at_call 50; refine (efg_one b w.heap.size 2 x _ ?_ ?_ ?_ ?_).mono ?_; (simpa using hb1); (exact k0); (exact k1); (simpa using f0); rintro e w' ⟨rfl, ho, hr⟩)
  go_ret
  exact ⟨rfl, (Off.of ((HB.out.1.setCell (p := ⟨w.heap.size, 0, none⟩) (Nat.le_refl _) _).drew)).trans ho, hr⟩

set_option maxHeartbeats 1600000 in
set_option maxRecDepth 100000 in
theorem ftoa_5 (b : Nat) (x : Value) (w : World) (hp : Pows w) (ht : Tab w) (hb : b < w.heap.size) (c0 : w.cell? ⟨b, 0, none⟩ = some x) (f0 : w.frozen? ⟨b, 0, none⟩ = false) :
    Calls Tryd.prog 40 #[.slice (some ⟨b, 0, none⟩) 0 24, .float .f64 4617315517961601024, .int .u8 102, .int .i64 0] w
      fun e w' => e = .returned (.slice (some ⟨b, 0, none⟩) 1 24) ∧ Off b w w' ∧ w'.cell? ⟨b, 0, none⟩ = some (.int .u8 53) := by
  have hbits : ∀ W : World, (callFunc 47 #[.float .f64 4617315517961601024]).run Tryd.prog W = .ok (.value (.int .u64 4617315517961601024)) W := fun W => bits_run _ W
  have b1 : Go.bits .and .i64 1025 2047 = 1025 := by decide
  have b2 : Go.bits .and .u64 4617315517961601024 4503599627370495 = 1125899906842624 := by decide
  have b3 : Go.bits .or .u64 1125899906842624 4503599627370496 = 5629499534213120 := by decide
  have l1 : Lib.l10 3 = 0 := by decide
  have L1 := Lib.hid (fun W => Tryd.internal_strconv_log10Pow2 3 (by decide) W)
  have l2 : Lib.bitLen 5629499534213120 = 53 := by decide
  have L2 := Lib.hid (fun W => Tryd.bits_Len64 5629499534213120 W (by decide) (by decide))
  have ho := hp.opt
  have HP := Lib.hid hp
  have HT := Lib.hid ht
  have HC := Lib.hid (And.intro c0 f0)

  clear hp ht c0 f0
  go_enter Tryd.func40, Tryd.ntmps40
  go_wp2
  go_quiet (fail)
  go_wp2_with (first
    | (go_at_call 41; refine (L1.out _).mono ?_; rintro e w' ⟨rfl, rfl⟩)
    | (go_at_call 42; refine (L2.out _).mono ?_; rintro e w' ⟨rfl, rfl⟩)
    | (go_at_call 53; refine (fwf_5 _ (HP.out.next ((below_drewN (Below.refl _ _) _).alloc (by simp) _)) (HT.out.next ((below_drewN (Below.refl _ _) _).alloc (by simp) _))).mono ?_; rintro e w1 ⟨rfl, hb1⟩; refine Hid.out ?_))
  have hB : Below w.heap.size w w1 := ((below_drewN (Below.refl _ _) _).alloc (by simp) _).trans (hb1.mono (by simp))
  have hBuf := (Blk.startAt (b := w.heap.size) (by simp)).next hb1
  have z0 : w1.drew.cell? ⟨w.heap.size, 0, none⟩ = some (.int .u8 0) := hBuf.drew.cell 0 rfl
  have g0 : w1.drew.frozen? ⟨w.heap.size, 0, none⟩ = false := hBuf.drew.free 0

  have hbl := hBuf.lt
  have c0 : w1.cell? ⟨b, 0, none⟩ = some x := (hB.cell (p := ⟨b, 0, none⟩) hb).trans HC.out.1
  have f0 : w1.frozen? ⟨b, 0, none⟩ = false := (hB.frozen (p := ⟨b, 0, none⟩) hb).trans HC.out.2
  have hT1 := Lib.hid (HT.out.next hB)
  have HB := Lib.hid (And.intro hB hbl)
  have d1 : Lib.nDigits 5 = 1 := by decide +kernel
  have N1 := Lib.hid (fun W => Tryd.internal_strconv_numDigits 5 (by decide) (by decide) W)
  clear hb1 hB HP HC HT hBuf hbits ho b1 b2 b3 hbl
  refine Lib.hid ?_
  go_upto_region 74 with fail
  go_region_with (first
    | (go_at_call 34; refine (N1.out _ ?_).mono ?_; (exact hT1.out.next (Below.refl _ _).drew); rintro e w' ⟨rfl, rfl⟩)
    | (go_at_call 52; refine (digs_one _ _ _ _ (by omega) (by omega) z0 g0).mono ?_; rintro e w' ⟨rfl, rfl⟩))
  have hb1 : b < w1.heap.size := by have := HB.out.2; omega
  have z1 : w1.cell? ⟨w.heap.size, 0, none⟩ = some (.int .u8 0) := z0
  have k0 : (w1.setCell ⟨w.heap.size, 0, none⟩ (.int .u8 53)).cell? ⟨w.heap.size, 0, none⟩ = some (.int .u8 53) := World.cell?_setCell_same _ _ _ z1
  have k1 : (w1.setCell ⟨w.heap.size, 0, none⟩ (.int .u8 53)).cell? ⟨b, 0, none⟩ = some x := (World.cell?_setCell_other _ _ _ _ (by simp <;> omega)).trans c0
  clear z0 g0 c0 z1
  go_wp2_with (go_at_call 50; refine (efg_one b w.heap.size 5 x _ ?_ ?_ ?_ ?_).mono ?_; (simpa using hb1); (exact k0); (exact k1); (simpa using f0); rintro e w' ⟨rfl, ho, hr⟩)
  go_ret
  exact ⟨rfl, (Off.of ((HB.out.1.setCell (p := ⟨w.heap.size, 0, none⟩) (Nat.le_refl _) _).drew)).trans ho, hr⟩

set_option maxHeartbeats 1600000 in
set_option maxRecDepth 100000 in
theorem ftoa_12 (b : Nat) (x y : Value) (w : World) (hp : Pows w) (ht : Tab w) (hb : b < w.heap.size) (c0 : w.cell? ⟨b, 0, none⟩ = some x) (f0 : w.frozen? ⟨b, 0, none⟩ = false) (c1 : w.cell? ⟨b, 1, none⟩ = some y) (f1 : w.frozen? ⟨b, 1, none⟩ = false) :
    Calls Tryd.prog 40 #[.slice (some ⟨b, 0, none⟩) 0 24, .float .f64 4622945017495814144, .int .u8 102, .int .i64 0] w
      fun e w' => e = .returned (.slice (some ⟨b, 0, none⟩) 2 24) ∧ Off b w w' ∧ w'.cell? ⟨b, 0, none⟩ = some (.int .u8 49) ∧ w'.cell? ⟨b, 1, none⟩ = some (.int .u8 50) := by
  have hbits : ∀ W : World, (callFunc 47 #[.float .f64 4622945017495814144]).run Tryd.prog W = .ok (.value (.int .u64 4622945017495814144)) W := fun W => bits_run _ W
  have b1 : Go.bits .and .i64 1026 2047 = 1026 := by decide
  have b2 : Go.bits .and .u64 4622945017495814144 4503599627370495 = 2251799813685248 := by decide
  have b3 : Go.bits .or .u64 2251799813685248 4503599627370496 = 6755399441055744 := by decide
  have l1 : Lib.l10 4 = 1 := by decide
  have L1 := Lib.hid (fun W => Tryd.internal_strconv_log10Pow2 4 (by decide) W)
  have l2 : Lib.bitLen 6755399441055744 = 53 := by decide
  have L2 := Lib.hid (fun W => Tryd.bits_Len64 6755399441055744 W (by decide) (by decide))
  have ho := hp.opt
  have HP := Lib.hid hp
  have HT := Lib.hid ht
  have HC := Lib.hid (And.intro c0 f0)
  have HC1 := Lib.hid (And.intro c1 f1)
  clear hp ht c0 f0 c1 f1
  go_enter Tryd.func40, Tryd.ntmps40
  go_wp2
  go_quiet (fail)
  go_wp2_with (first
    | (go_at_call 41; refine (L1.out _).mono ?_; rintro e w' ⟨rfl, rfl⟩)
    | (go_at_call 42; refine (L2.out _).mono ?_; rintro e w' ⟨rfl, rfl⟩)
    | (go_at_call 53; refine (fwf_12 _ (HP.out.next ((below_drewN (Below.refl _ _) _).alloc (by simp) _)) (HT.out.next ((below_drewN (Below.refl _ _) _).alloc (by simp) _))).mono ?_; rintro e w1 ⟨rfl, hb1⟩; refine Hid.out ?_))
  have hB : Below w.heap.size w w1 := ((below_drewN (Below.refl _ _) _).alloc (by simp) _).trans (hb1.mono (by simp))
  have hBuf := (Blk.startAt (b := w.heap.size) (by simp)).next hb1
  have z0 : w1.drew.cell? ⟨w.heap.size, 0, none⟩ = some (.int .u8 0) := hBuf.drew.cell 0 rfl
  have g0 : w1.drew.frozen? ⟨w.heap.size, 0, none⟩ = false := hBuf.drew.free 0
  have z1 : w1.drew.cell? ⟨w.heap.size, 1, none⟩ = some (.int .u8 0) := hBuf.drew.cell 1 rfl
  have g1 : w1.drew.frozen? ⟨w.heap.size, 1, none⟩ = false := hBuf.drew.free 1
  have c1 : w1.cell? ⟨b, 1, none⟩ = some y := (hB.cell (p := ⟨b, 1, none⟩) hb).trans HC1.out.1
  have f1 : w1.frozen? ⟨b, 1, none⟩ = false := (hB.frozen (p := ⟨b, 1, none⟩) hb).trans HC1.out.2
  clear HC1
  have hbl := hBuf.lt
  have c0 : w1.cell? ⟨b, 0, none⟩ = some x := (hB.cell (p := ⟨b, 0, none⟩) hb).trans HC.out.1
  have f0 : w1.frozen? ⟨b, 0, none⟩ = false := (hB.frozen (p := ⟨b, 0, none⟩) hb).trans HC.out.2
  have hT1 := Lib.hid (HT.out.next hB)
  have HB := Lib.hid (And.intro hB hbl)
  have d1 : Lib.nDigits 12 = 2 := by decide +kernel
  have N1 := Lib.hid (fun W => Tryd.internal_strconv_numDigits 12 (by decide) (by decide) W)
  clear hb1 hB HP HC HT hBuf hbits ho b1 b2 b3 hbl
  refine Lib.hid ?_
  go_upto_region 74 with fail
  go_region_with (first
    | (go_at_call 34; refine (N1.out _ ?_).mono ?_; (exact hT1.out.next (Below.refl _ _).drew); rintro e w' ⟨rfl, rfl⟩)
    | (go_at_call 52; refine (digs_two _ _ _ _ z0 g0 z1 g1).mono ?_; rintro e w2 ⟨rfl, ho2, hd0, hd1⟩))
  have hb1 : b < w1.heap.size := by have := HB.out.2; omega
  have hbs : w.heap.size < w1.heap.size := HB.out.2
  have hb2 : b < w2.heap.size := Nat.lt_of_lt_of_le hb1 ho2.size
  have hs2 : w.heap.size < w2.heap.size := Nat.lt_of_lt_of_le hbs ho2.size
  have k0 : w2.cell? ⟨b, 0, none⟩ = some x := (ho2.cell ⟨b, 0, none⟩ hb1 (by simp; omega)).trans c0
  have k1 : w2.cell? ⟨b, 1, none⟩ = some y := (ho2.cell ⟨b, 1, none⟩ hb1 (by simp; omega)).trans c1
  have m0 : w2.frozen? ⟨b, 0, none⟩ = false := (ho2.frozen ⟨b, 0, none⟩ hb1).trans f0
  have m1 : w2.frozen? ⟨b, 1, none⟩ = false := (ho2.frozen ⟨b, 1, none⟩ hb1).trans f1
  have HO := Lib.hid ho2
  clear z0 g0 c0 z1 g1 c1 ho2
  go_wp2_with (go_at_call 50; refine (efg_two b w.heap.size x y _ hb2 hs2 (by omega) hd0 hd1 k0 m0 k1 m1).mono ?_; rintro e w' ⟨rfl, ho, hr0, hr1⟩)
  go_ret
  exact ⟨rfl, (Off.of (HO.out.below w.heap.size w (Nat.le_refl _) (by have := hbs; simp; omega) (HB.out.1.drew))).trans ho, hr0, hr1⟩
end Go.Proofs.YtbddljkajiimmaaDoor
