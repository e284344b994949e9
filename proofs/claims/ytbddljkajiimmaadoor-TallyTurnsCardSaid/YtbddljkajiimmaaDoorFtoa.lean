/-
  Contracts of what the library's FormatFloat calls, at the numbers that the document's example asks for.
-/
import Derived.Test.YtbddljkajiimmaaDoorBlk
import Derived.Test.YtbddljkajiimmaaDoorShelf
import Derived.Test.YtbddljkajiimmaaDoorString
import Derived.WalkLawsBesides
import Derived.Outline
import Derived.Deep.DeepCutAuto
import Derived.Lib.Hide
import Derived.IntWalk
namespace Go.Proofs.YtbddljkajiimmaaDoor
open Go Go.Proofs Go.RowKit

theorem b2u (b : Bool) (w : World) : Calls Tryd.prog 80 #[.bool b] w fun e w' => e = .returned (.int .u64 (if b then 1 else 0)) ∧ w' = w := by
  cases b
  all_goals
    go_enter Tryd.func80, Tryd.ntmps80
    go_wp2
    go_ret
    exact ⟨rfl, rfl⟩

theorem b2r (b : Bool) (w : World) : Calls Tryd.prog 81 #[.bool b] w fun e w' => e = .returned (.int .u64 (if b then 1 else 0)) ∧ w' = w := by
  cases b
  all_goals
    go_enter Tryd.func81, Tryd.ntmps81
    go_wp2
    go_ret
    exact ⟨rfl, rfl⟩

theorem round_12 (w : World) : Calls Tryd.prog 70 #[.int .u64 12] w fun e w' => e = .returned (.int .u64 3) ∧ w' = w := by
  have h1 : bits .and .u64 3 1 = 1 := by decide
  go_enter Tryd.func70, Tryd.ntmps70
  go_wp2
  go_ret
  exact ⟨rfl, rfl⟩

theorem round_8 (w : World) : Calls Tryd.prog 70 #[.int .u64 8] w fun e w' => e = .returned (.int .u64 2) ∧ w' = w := by
  have h1 : bits .and .u64 2 1 = 0 := by decide
  go_enter Tryd.func70, Tryd.ntmps70
  go_wp2
  go_ret
  exact ⟨rfl, rfl⟩

theorem round_20 (w : World) : Calls Tryd.prog 70 #[.int .u64 20] w fun e w' => e = .returned (.int .u64 5) ∧ w' = w := by
  have h1 : bits .and .u64 5 1 = 1 := by decide
  go_enter Tryd.func70, Tryd.ntmps70
  go_wp2
  go_ret
  exact ⟨rfl, rfl⟩

theorem round_48 (w : World) : Calls Tryd.prog 70 #[.int .u64 48] w fun e w' => e = .returned (.int .u64 12) ∧ w' = w := by
  have h1 : bits .and .u64 12 1 = 0 := by decide
  go_enter Tryd.func70, Tryd.ntmps70
  go_wp2
  go_ret
  exact ⟨rfl, rfl⟩

theorem unmin_10 (w : World) : Calls Tryd.prog 71 #[.int .u64 10] w fun e w' => e = .returned (.int .u64 38) ∧ w' = w := by
  go_enter Tryd.func71, Tryd.ntmps71
  go_wp2
  go_ret
  exact ⟨rfl, rfl⟩

theorem unmin_100 (w : World) : Calls Tryd.prog 71 #[.int .u64 100] w fun e w' => e = .returned (.int .u64 398) ∧ w' = w := by
  go_enter Tryd.func71, Tryd.ntmps71
  go_wp2
  go_ret
  exact ⟨rfl, rfl⟩

theorem div_480 (w : World) : Calls Tryd.prog 72 #[.int .u64 480, .int .u64 10] w fun e w' => e = .returned (.int .u64 48) ∧ ∃ n, w' = w.drewN n := by
  have h1 : bits .and .u64 480 1 = 0 := by decide
  have h2 : bits .or .u64 48 0 = 48 := by decide
  go_enter Tryd.func72, Tryd.ntmps72
  go_wp2
  go_quiet ((go_at_call 81; exact Calls.quiet_of_same (b2r _ _)))
  go_wp2
  go_ret
  exact ⟨rfl, _, rfl⟩

theorem log2_0 (w : World) : Calls Tryd.prog 65 #[.int .i64 0] w fun e w' => e = .returned (.int .i64 0) ∧ w' = w := by
  go_enter Tryd.func65, Tryd.ntmps65
  go_wp2
  go_ret
  exact ⟨rfl, rfl⟩

theorem log2_1 (w : World) : Calls Tryd.prog 65 #[.int .i64 1] w fun e w' => e = .returned (.int .i64 3) ∧ w' = w := by
  go_enter Tryd.func65, Tryd.ntmps65
  go_wp2
  go_ret
  exact ⟨rfl, rfl⟩

set_option maxHeartbeats 800000 in
theorem uscale_3 (b : Nat) (w : World) (h0 : w.cell? ⟨b, 0, none⟩ = some (.int .u64 9223372036854775808)) (h1 : w.cell? ⟨b, 1, none⟩ = some (.int .u64 0)) (h2 : w.cell? ⟨b, 2, none⟩ = some (.int .i64 59)) :
    Calls Tryd.prog 66 #[.int .u64 13835058055282163712, .pointer (some ⟨b, 0, none⟩)] w fun e w' => e = .returned (.int .u64 12) ∧ ∃ n, w' = w.drewN n := by
  have b1 : bits .and .i64 59 63 = 59 := by decide
  have b2 : bits .or .u64 12 0 = 12 := by decide
  have m1 := Tryd.bits_Mul64 13835058055282163712 9223372036854775808 (by decide) (by decide) w
  have m2 := Tryd.bits_Mul64 13835058055282163712 0 (by decide) (by decide) w
  have M1 : Hid (Calls Tryd.prog 79 #[.int .u64 13835058055282163712, .int .u64 9223372036854775808] w fun e w' => e = .returned (.tuple #[.int .u64 6917529027641081856, .int .u64 0]) ∧ w' = w) := Lib.hid (by simpa using m1)
  have M2 : Hid (Calls Tryd.prog 79 #[.int .u64 13835058055282163712, .int .u64 0] w fun e w' => e = .returned (.tuple #[.int .u64 0, .int .u64 0]) ∧ w' = w) := Lib.hid (by simpa using m2)
  clear m1 m2
  go_enter Tryd.func66, Tryd.ntmps66
  go_wp2_with (go_at_call 79; refine M1.out.mono ?_; rintro e w' ⟨rfl, rfl⟩; refine Hid.out ?_)
  refine Lib.hid ?_
  go_wp2_with (first | (go_at_call 79; refine M2.out.mono ?_; rintro e w' ⟨rfl, rfl⟩) | (go_at_call 80; refine (b2u _ _).mono ?_; rintro e w' ⟨rfl, rfl⟩))
  go_quiet ((go_at_call 80; exact Calls.quiet_of_same (b2u _ _)))
  go_wp2
  go_ret
  exact ⟨rfl, _, rfl⟩

set_option maxHeartbeats 800000 in
theorem uscale_2 (b : Nat) (w : World) (h0 : w.cell? ⟨b, 0, none⟩ = some (.int .u64 9223372036854775808)) (h1 : w.cell? ⟨b, 1, none⟩ = some (.int .u64 0)) (h2 : w.cell? ⟨b, 2, none⟩ = some (.int .i64 59)) :
    Calls Tryd.prog 66 #[.int .u64 9223372036854775808, .pointer (some ⟨b, 0, none⟩)] w fun e w' => e = .returned (.int .u64 8) ∧ ∃ n, w' = w.drewN n := by
  have b1 : bits .and .i64 59 63 = 59 := by decide
  have b2 : bits .or .u64 8 0 = 8 := by decide
  have m1 := Tryd.bits_Mul64 9223372036854775808 9223372036854775808 (by decide) (by decide) w
  have m2 := Tryd.bits_Mul64 9223372036854775808 0 (by decide) (by decide) w
  have M1 : Hid (Calls Tryd.prog 79 #[.int .u64 9223372036854775808, .int .u64 9223372036854775808] w fun e w' => e = .returned (.tuple #[.int .u64 4611686018427387904, .int .u64 0]) ∧ w' = w) := Lib.hid (by simpa using m1)
  have M2 : Hid (Calls Tryd.prog 79 #[.int .u64 9223372036854775808, .int .u64 0] w fun e w' => e = .returned (.tuple #[.int .u64 0, .int .u64 0]) ∧ w' = w) := Lib.hid (by simpa using m2)
  clear m1 m2
  go_enter Tryd.func66, Tryd.ntmps66
  go_wp2_with (go_at_call 79; refine M1.out.mono ?_; rintro e w' ⟨rfl, rfl⟩; refine Hid.out ?_)
  refine Lib.hid ?_
  go_wp2_with (first | (go_at_call 79; refine M2.out.mono ?_; rintro e w' ⟨rfl, rfl⟩) | (go_at_call 80; refine (b2u _ _).mono ?_; rintro e w' ⟨rfl, rfl⟩))
  go_quiet ((go_at_call 80; exact Calls.quiet_of_same (b2u _ _)))
  go_wp2
  go_ret
  exact ⟨rfl, _, rfl⟩

set_option maxHeartbeats 800000 in
theorem uscale_5 (b : Nat) (w : World) (h0 : w.cell? ⟨b, 0, none⟩ = some (.int .u64 9223372036854775808)) (h1 : w.cell? ⟨b, 1, none⟩ = some (.int .u64 0)) (h2 : w.cell? ⟨b, 2, none⟩ = some (.int .i64 58)) :
    Calls Tryd.prog 66 #[.int .u64 11529215046068469760, .pointer (some ⟨b, 0, none⟩)] w fun e w' => e = .returned (.int .u64 20) ∧ ∃ n, w' = w.drewN n := by
  have b1 : bits .and .i64 58 63 = 58 := by decide
  have b2 : bits .or .u64 20 0 = 20 := by decide
  have m1 := Tryd.bits_Mul64 11529215046068469760 9223372036854775808 (by decide) (by decide) w
  have m2 := Tryd.bits_Mul64 11529215046068469760 0 (by decide) (by decide) w
  have M1 : Hid (Calls Tryd.prog 79 #[.int .u64 11529215046068469760, .int .u64 9223372036854775808] w fun e w' => e = .returned (.tuple #[.int .u64 5764607523034234880, .int .u64 0]) ∧ w' = w) := Lib.hid (by simpa using m1)
  have M2 : Hid (Calls Tryd.prog 79 #[.int .u64 11529215046068469760, .int .u64 0] w fun e w' => e = .returned (.tuple #[.int .u64 0, .int .u64 0]) ∧ w' = w) := Lib.hid (by simpa using m2)
  clear m1 m2
  go_enter Tryd.func66, Tryd.ntmps66
  go_wp2_with (go_at_call 79; refine M1.out.mono ?_; rintro e w' ⟨rfl, rfl⟩; refine Hid.out ?_)
  refine Lib.hid ?_
  go_wp2_with (first | (go_at_call 79; refine M2.out.mono ?_; rintro e w' ⟨rfl, rfl⟩) | (go_at_call 80; refine (b2u _ _).mono ?_; rintro e w' ⟨rfl, rfl⟩))
  go_quiet ((go_at_call 80; exact Calls.quiet_of_same (b2u _ _)))
  go_wp2
  go_ret
  exact ⟨rfl, _, rfl⟩

set_option maxHeartbeats 800000 in
theorem uscale_12 (b : Nat) (w : World) (h0 : w.cell? ⟨b, 0, none⟩ = some (.int .u64 11529215046068469760)) (h1 : w.cell? ⟨b, 1, none⟩ = some (.int .u64 0)) (h2 : w.cell? ⟨b, 2, none⟩ = some (.int .i64 54)) :
    Calls Tryd.prog 66 #[.int .u64 13835058055282163712, .pointer (some ⟨b, 0, none⟩)] w fun e w' => e = .returned (.int .u64 480) ∧ ∃ n, w' = w.drewN n := by
  have b1 : bits .and .i64 54 63 = 54 := by decide
  have b2 : bits .or .u64 480 0 = 480 := by decide
  have m1 := Tryd.bits_Mul64 13835058055282163712 11529215046068469760 (by decide) (by decide) w
  have m2 := Tryd.bits_Mul64 13835058055282163712 0 (by decide) (by decide) w
  have M1 : Hid (Calls Tryd.prog 79 #[.int .u64 13835058055282163712, .int .u64 11529215046068469760] w fun e w' => e = .returned (.tuple #[.int .u64 8646911284551352320, .int .u64 0]) ∧ w' = w) := Lib.hid (by simpa using m1)
  have M2 : Hid (Calls Tryd.prog 79 #[.int .u64 13835058055282163712, .int .u64 0] w fun e w' => e = .returned (.tuple #[.int .u64 0, .int .u64 0]) ∧ w' = w) := Lib.hid (by simpa using m2)
  clear m1 m2
  go_enter Tryd.func66, Tryd.ntmps66
  go_wp2_with (go_at_call 79; refine M1.out.mono ?_; rintro e w' ⟨rfl, rfl⟩; refine Hid.out ?_)
  refine Lib.hid ?_
  go_wp2_with (first | (go_at_call 79; refine M2.out.mono ?_; rintro e w' ⟨rfl, rfl⟩) | (go_at_call 80; refine (b2u _ _).mono ?_; rintro e w' ⟨rfl, rfl⟩))
  go_quiet ((go_at_call 80; exact Calls.quiet_of_same (b2u _ _)))
  go_wp2
  go_ret
  exact ⟨rfl, _, rfl⟩

/-- The two entries of the library's table of powers that the example reads, and that the switch 'optimize' is on. -/
structure Pows (w : World) : Prop where
  a0 : w.cell? ⟨5, 696, none⟩ = some (.int .u64 9223372036854775808)
  a1 : w.cell? ⟨5, 697, none⟩ = some (.int .u64 0)
  b0 : w.cell? ⟨5, 698, none⟩ = some (.int .u64 11529215046068469760)
  b1 : w.cell? ⟨5, 699, none⟩ = some (.int .u64 0)
  opt : w.cell? ⟨2, 0, none⟩ = some (.bool true)
theorem Pows.lt {w : World} (h : Pows w) : 5 < w.heap.size ∧ 2 < w.heap.size := ⟨World.block_lt_of_cell? _ _ h.a0, World.block_lt_of_cell? _ _ h.opt⟩
theorem Pows.next {w w' : World} (h : Pows w) (hb : Below w.heap.size w w') : Pows w' where
  a0 := (hb.cell (p := ⟨_, 696, none⟩) h.lt.1).trans h.a0
  a1 := (hb.cell (p := ⟨_, 697, none⟩) h.lt.1).trans h.a1
  b0 := (hb.cell (p := ⟨_, 698, none⟩) h.lt.1).trans h.b0
  b1 := (hb.cell (p := ⟨_, 699, none⟩) h.lt.1).trans h.b1
  opt := (hb.cell (p := ⟨_, 0, none⟩) h.lt.2).trans h.opt

set_option maxHeartbeats 800000 in
theorem prescale_62 (w : World) (hp : Pows w) :
    Calls Tryd.prog 64 #[.pointer (some ⟨w.heap.size, 0, none⟩), .int .i64 (-62), .int .i64 0, .int .i64 0] (w.alloc (.cells #[.int .u64 0, .int .u64 0, .int .i64 0] 102)) fun e w' => e = .returned (.tuple #[]) ∧ w' = w.alloc (.cells #[.int .u64 9223372036854775808, .int .u64 0, .int .i64 59] 102) := by
  have hl := hp.lt.1
  have c0 : ∀ o, (w.alloc o).cell? ⟨5, 696, none⟩ = some (.int .u64 9223372036854775808) := fun o => (((Below.refl _ _).alloc (Nat.le_refl _) o).cell (p := ⟨_, 696, none⟩) hl).trans hp.a0
  have c1 : ∀ o, (w.alloc o).cell? ⟨5, 697, none⟩ = some (.int .u64 0) := fun o => (((Below.refl _ _).alloc (Nat.le_refl _) o).cell (p := ⟨_, 697, none⟩) hl).trans hp.a1
  clear hp
  go_enter Tryd.func64, Tryd.ntmps64
  go_wp2
  go_end0
  exact ⟨rfl, rfl⟩

set_option maxHeartbeats 800000 in
theorem prescale_61 (w : World) (hp : Pows w) :
    Calls Tryd.prog 64 #[.pointer (some ⟨w.heap.size, 0, none⟩), .int .i64 (-61), .int .i64 0, .int .i64 0] (w.alloc (.cells #[.int .u64 0, .int .u64 0, .int .i64 0] 102)) fun e w' => e = .returned (.tuple #[]) ∧ w' = w.alloc (.cells #[.int .u64 9223372036854775808, .int .u64 0, .int .i64 58] 102) := by
  have hl := hp.lt.1
  have c0 : ∀ o, (w.alloc o).cell? ⟨5, 696, none⟩ = some (.int .u64 9223372036854775808) := fun o => (((Below.refl _ _).alloc (Nat.le_refl _) o).cell (p := ⟨_, 696, none⟩) hl).trans hp.a0
  have c1 : ∀ o, (w.alloc o).cell? ⟨5, 697, none⟩ = some (.int .u64 0) := fun o => (((Below.refl _ _).alloc (Nat.le_refl _) o).cell (p := ⟨_, 697, none⟩) hl).trans hp.a1
  clear hp
  go_enter Tryd.func64, Tryd.ntmps64
  go_wp2
  go_end0
  exact ⟨rfl, rfl⟩

set_option maxHeartbeats 800000 in
theorem prescale_60 (w : World) (hp : Pows w) :
    Calls Tryd.prog 64 #[.pointer (some ⟨w.heap.size, 0, none⟩), .int .i64 (-60), .int .i64 1, .int .i64 3] (w.alloc (.cells #[.int .u64 0, .int .u64 0, .int .i64 0] 102)) fun e w' => e = .returned (.tuple #[]) ∧ w' = w.alloc (.cells #[.int .u64 11529215046068469760, .int .u64 0, .int .i64 54] 102) := by
  have hl := hp.lt.1
  have c0 : ∀ o, (w.alloc o).cell? ⟨5, 698, none⟩ = some (.int .u64 11529215046068469760) := fun o => (((Below.refl _ _).alloc (Nat.le_refl _) o).cell (p := ⟨_, 698, none⟩) hl).trans hp.b0
  have c1 : ∀ o, (w.alloc o).cell? ⟨5, 699, none⟩ = some (.int .u64 0) := fun o => (((Below.refl _ _).alloc (Nat.le_refl _) o).cell (p := ⟨_, 699, none⟩) hl).trans hp.b1
  clear hp
  go_enter Tryd.func64, Tryd.ntmps64
  go_wp2
  go_end0
  exact ⟨rfl, rfl⟩

set_option maxHeartbeats 800000 in
theorem fwf_3 (w : World) (hp : Pows w) (ht : Tab w) :
    Calls Tryd.prog 53 #[.int .u64 13835058055282163712, .int .i64 (-62), .int .i64 1, .int .i64 0, .int .u8 102] w fun e w' => e = .returned (.tuple #[.int .u64 3, .int .i64 0]) ∧ Below w.heap.size w w' := by
  have l1 : Lib.l10 1 = 0 := by decide
  have L1 := Lib.hid (fun W => Tryd.internal_strconv_log10Pow2 1 (by decide) W)
  have hT := Lib.TabIs.cell ht gTab 1 (by decide)
  have hl := ht.lt
  have ct : ∀ o k, ((w.alloc o).drewN k).cell? ⟨0, 1, none⟩ = some (.int .u64 10) := fun o k => ((below_drewN ((Below.refl w.heap.size w).alloc (Nat.le_refl _) o) k).cell (p := ⟨_, 1, none⟩) hl).trans hT
  have HP := Lib.hid hp
  clear hp ht hT
  go_enter Tryd.func53, Tryd.ntmps53
  go_wp2_with (first
    | (go_at_call 41; refine (L1.out _).mono ?_; rintro e w' ⟨rfl, rfl⟩)
    | (go_at_call 65; refine (log2_0 _).mono ?_; rintro e w' ⟨rfl, rfl⟩)
    | (go_at_call 64; refine (prescale_62 _ HP.out).mono ?_; rintro e w' ⟨rfl, rfl⟩)
    | (go_at_call 66; refine (uscale_3 _ _ (by simp [go_sem]) (by simp [go_sem]) (by simp [go_sem])).mono ?_; rintro e w' ⟨rfl, k, rfl⟩)
    | (go_at_call 71; refine (unmin_10 _).mono ?_; rintro e w' ⟨rfl, rfl⟩))
  refine wp_loop_rounds 1 ?_
  rw [rounds_succ]
  go_wp2_with (go_at_call 70; refine (round_12 _).mono ?_; rintro e w' ⟨rfl, rfl⟩)
  go_ret2
  exact ⟨rfl, below_drewN ((Below.refl _ _).alloc (Nat.le_refl _) _) _⟩

set_option maxHeartbeats 800000 in
theorem fwf_2 (w : World) (hp : Pows w) (ht : Tab w) :
    Calls Tryd.prog 53 #[.int .u64 9223372036854775808, .int .i64 (-62), .int .i64 1, .int .i64 0, .int .u8 102] w fun e w' => e = .returned (.tuple #[.int .u64 2, .int .i64 0]) ∧ Below w.heap.size w w' := by
  have l1 : Lib.l10 1 = 0 := by decide
  have L1 := Lib.hid (fun W => Tryd.internal_strconv_log10Pow2 1 (by decide) W)
  have hT := Lib.TabIs.cell ht gTab 1 (by decide)
  have hl := ht.lt
  have ct : ∀ o k, ((w.alloc o).drewN k).cell? ⟨0, 1, none⟩ = some (.int .u64 10) := fun o k => ((below_drewN ((Below.refl w.heap.size w).alloc (Nat.le_refl _) o) k).cell (p := ⟨_, 1, none⟩) hl).trans hT
  have HP := Lib.hid hp
  clear hp ht hT
  go_enter Tryd.func53, Tryd.ntmps53
  go_wp2_with (first
    | (go_at_call 41; refine (L1.out _).mono ?_; rintro e w' ⟨rfl, rfl⟩)
    | (go_at_call 65; refine (log2_0 _).mono ?_; rintro e w' ⟨rfl, rfl⟩)
    | (go_at_call 64; refine (prescale_62 _ HP.out).mono ?_; rintro e w' ⟨rfl, rfl⟩)
    | (go_at_call 66; refine (uscale_2 _ _ (by simp [go_sem]) (by simp [go_sem]) (by simp [go_sem])).mono ?_; rintro e w' ⟨rfl, k, rfl⟩)
    | (go_at_call 71; refine (unmin_10 _).mono ?_; rintro e w' ⟨rfl, rfl⟩))
  refine wp_loop_rounds 1 ?_
  rw [rounds_succ]
  go_wp2_with (go_at_call 70; refine (round_8 _).mono ?_; rintro e w' ⟨rfl, rfl⟩)
  go_ret2
  exact ⟨rfl, below_drewN ((Below.refl _ _).alloc (Nat.le_refl _) _) _⟩

set_option maxHeartbeats 800000 in
theorem fwf_5 (w : World) (hp : Pows w) (ht : Tab w) :
    Calls Tryd.prog 53 #[.int .u64 11529215046068469760, .int .i64 (-61), .int .i64 1, .int .i64 0, .int .u8 102] w fun e w' => e = .returned (.tuple #[.int .u64 5, .int .i64 0]) ∧ Below w.heap.size w w' := by
  have l1 : Lib.l10 2 = 0 := by decide
  have L1 := Lib.hid (fun W => Tryd.internal_strconv_log10Pow2 2 (by decide) W)
  have hT := Lib.TabIs.cell ht gTab 1 (by decide)
  have hl := ht.lt
  have ct : ∀ o k, ((w.alloc o).drewN k).cell? ⟨0, 1, none⟩ = some (.int .u64 10) := fun o k => ((below_drewN ((Below.refl w.heap.size w).alloc (Nat.le_refl _) o) k).cell (p := ⟨_, 1, none⟩) hl).trans hT
  have HP := Lib.hid hp
  clear hp ht hT
  go_enter Tryd.func53, Tryd.ntmps53
  go_wp2_with (first
    | (go_at_call 41; refine (L1.out _).mono ?_; rintro e w' ⟨rfl, rfl⟩)
    | (go_at_call 65; refine (log2_0 _).mono ?_; rintro e w' ⟨rfl, rfl⟩)
    | (go_at_call 64; refine (prescale_61 _ HP.out).mono ?_; rintro e w' ⟨rfl, rfl⟩)
    | (go_at_call 66; refine (uscale_5 _ _ (by simp [go_sem]) (by simp [go_sem]) (by simp [go_sem])).mono ?_; rintro e w' ⟨rfl, k, rfl⟩)
    | (go_at_call 71; refine (unmin_10 _).mono ?_; rintro e w' ⟨rfl, rfl⟩))
  refine wp_loop_rounds 1 ?_
  rw [rounds_succ]
  go_wp2_with (go_at_call 70; refine (round_20 _).mono ?_; rintro e w' ⟨rfl, rfl⟩)
  go_ret2
  exact ⟨rfl, below_drewN ((Below.refl _ _).alloc (Nat.le_refl _) _) _⟩

set_option maxHeartbeats 800000 in
theorem fwf_12 (w : World) (hp : Pows w) (ht : Tab w) :
    Calls Tryd.prog 53 #[.int .u64 13835058055282163712, .int .i64 (-60), .int .i64 2, .int .i64 0, .int .u8 102] w fun e w' => e = .returned (.tuple #[.int .u64 12, .int .i64 0]) ∧ Below w.heap.size w w' := by
  have l1 : Lib.l10 3 = 0 := by decide
  have L1 := Lib.hid (fun W => Tryd.internal_strconv_log10Pow2 3 (by decide) W)
  have hT := Lib.TabIs.cell ht gTab 2 (by decide)
  have hl := ht.lt
  have ct : ∀ o k, ((w.alloc o).drewN k).cell? ⟨0, 2, none⟩ = some (.int .u64 100) := fun o k => ((below_drewN ((Below.refl w.heap.size w).alloc (Nat.le_refl _) o) k).cell (p := ⟨_, 2, none⟩) hl).trans hT
  have HP := Lib.hid hp
  clear hp ht hT
  go_enter Tryd.func53, Tryd.ntmps53
  go_wp2_with (first
    | (go_at_call 41; refine (L1.out _).mono ?_; rintro e w' ⟨rfl, rfl⟩)
    | (go_at_call 65; refine (log2_1 _).mono ?_; rintro e w' ⟨rfl, rfl⟩)
    | (go_at_call 64; refine (prescale_60 _ HP.out).mono ?_; rintro e w' ⟨rfl, rfl⟩)
    | (go_at_call 66; refine (uscale_12 _ _ (by simp [go_sem]) (by simp [go_sem]) (by simp [go_sem])).mono ?_; rintro e w' ⟨rfl, k, rfl⟩)
    | (go_at_call 71; refine (unmin_100 _).mono ?_; rintro e w' ⟨rfl, rfl⟩) | (go_at_call 72; refine (div_480 _).mono ?_; rintro e w' ⟨rfl, k2, rfl⟩))
  refine wp_loop_rounds 1 ?_
  rw [rounds_succ]
  go_wp2_with (go_at_call 70; refine (round_48 _).mono ?_; rintro e w' ⟨rfl, rfl⟩)
  go_ret2
  exact ⟨rfl, below_drewN ((Below.refl _ _).alloc (Nat.le_refl _) _) _⟩

end Go.Proofs.YtbddljkajiimmaaDoor
