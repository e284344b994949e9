/-
  Hexadecimal digits, plain: those of a number, how many, and that they begin with no 0. And the contracts of the library's TrailingZeros and isPowerOfTwo at 16, formatBits and FormatInt in hexadecimal.
-/
import Derived.Test.YtbfnehpmlngagaaDoorOpl
import Derived.Test.YtbfnehpmlngagaaDoorString
import Derived.Laws.BitsLemmas
import Derived.Laws.IdiomStrings
namespace Go.Proofs.YtbfnehpmlngagaaDoor
open Go Go.Proofs Go.RowKit

/-- A hexadecimal digit. -/
def hxU (d : Nat) : UInt8 := if d < 10 then UInt8.ofNat (48 + d) else UInt8.ofNat (87 + d)
/-- The hexadecimal digits of a number. -/
def hexD (u : Nat) : List UInt8 := if u < 16 then [hxU u] else hexD (u / 16) ++ [hxU (u % 16)]
theorem hexD_one {u : Nat} (h : u < 16) : hexD u = [hxU u] := by rw [hexD, if_pos h]
theorem hexD_more {u : Nat} (h : ¬ u < 16) : hexD u = hexD (u / 16) ++ [hxU (u % 16)] := by rw [hexD, if_neg h]
theorem hexD_pos (u : Nat) : 0 < (hexD u).length := by
  by_cases h : u < 16
  · rw [hexD_one h]; simp
  · rw [hexD_more h]; simp
theorem hexD_few (k : Nat) : ∀ u, u < 16 ^ (k + 1) → (hexD u).length ≤ k + 1 := by
  induction k with
  | zero =>
    intro u h
    rw [hexD_one (by simpa using h)]
    simp
  | succ k ih =>
    intro u h
    by_cases h1 : u < 16
    · rw [hexD_one h1]; simp
    · rw [hexD_more h1]
      have := ih (u / 16) (by rw [Nat.pow_succ] at h; omega)
      simp only [List.length_append, List.length_singleton]
      omega
theorem hexD_six {u : Nat} (h : u ≤ 1114111) : (hexD u).length ≤ 6 := hexD_few 5 u (by omega)
theorem hxU_nat {d : Nat} (h : d < 16) : (hxU d).toNat = if d < 10 then 48 + d else 87 + d := by
  unfold hxU
  split
  · rw [UInt8.toNat_ofNat']; omega
  · rw [UInt8.toNat_ofNat']; omega

/-- The table of powers of ten, and the one place of the table of trailing zeros that 16 leads to. -/
def Tabs (w : World) : Prop := Tab w ∧ w.cell? ⟨2, 15, none⟩ = some (.int .u8 4)
theorem Tabs.next {w w' : World} (h : Tabs w) (hb : Below w.heap.size w w') : Tabs w' :=
  ⟨h.1.next hb, by rw [hb.cell (p := ⟨2, 15, none⟩) (World.block_lt_of_cell? _ _ h.2)]; exact h.2⟩
theorem Tabs.alloc {w : World} (h : Tabs w) (o : Obj) : Tabs (w.alloc o) := h.next ((Below.refl _ _).alloc (Nat.le_refl _) _)

theorem and_tz : bits .and .u64 16 18446744073709551600 = 16 := by decide
theorem wrap_tz : IntKind.u64.wrap (-16) = 18446744073709551600 := by decide
theorem wrap_mul : IntKind.u64.wrap 4573923408821661840 = 4573923408821661840 := by decide
theorem and_pow : bits .and .i64 16 15 = 0 := by decide

set_option maxHeartbeats 400000 in
theorem tz64 (w : World) (h : Tabs w) :
    Calls Tryd.prog 54 #[.int .u64 16] w fun e w' => e = .returned (.int .i64 4) ∧ w = w' := by
  have hc := h.2
  have ha := and_tz
  have hw := wrap_tz
  have hm := wrap_mul
  clear h
  go_enter Tryd.func54, Tryd.ntmps54
  go_wp2
  go_ret
  exact ⟨rfl, rfl⟩

set_option maxHeartbeats 400000 in
theorem tz (w : World) (h : Tabs w) :
    Calls Tryd.prog 49 #[.int .u64 16] w fun e w' => e = .returned (.int .i64 4) ∧ w = w' := by
  have HT := Lib.hid h
  clear h
  go_enter Tryd.func49, Tryd.ntmps49
  go_wp2_with (go_at_call 54; refine (tz64 _ HT.out).mono ?_; rintro e w' ⟨rfl, rfl⟩)
  go_ret
  exact ⟨rfl, rfl⟩

set_option maxHeartbeats 400000 in
theorem isPow (w : World) :
    Calls Tryd.prog 48 #[.int .i64 16] w fun e w' => e = .returned (.bool true) ∧ w = w' := by
  have ha := and_pow
  go_enter Tryd.func48, Tryd.ntmps48
  go_wp2
  go_ret
  exact ⟨rfl, rfl⟩
end Go.Proofs.YtbfnehpmlngagaaDoor
