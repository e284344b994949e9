/-
  The contract of the document's Digits: of a number from 0 to 1048576 it returns the decimal digits, and nothing that existed has changed.
-/
import Derived.Test.YtbfnehpmlngagaaDoorLeaf
import Derived.Deep.LoopGhost
import Derived.Lib.ItoaNum
import Derived.Lib.Hide
import Derived.Laws.IdiomStrings
namespace Go.Proofs.YtbfnehpmlngagaaDoor
open Go Go.Proofs Go.RowKit

/-- The last digit of a number, as a byte. -/
def digU (m : Nat) : UInt8 := UInt8.ofNat (48 + m % 10)
/-- What holds at the head of each round of Digits: m is still to be written, suf has been. -/
def DigInv (u g m : Nat) (suf : List UInt8) : Prop :=
  ((suf = [] ∧ m = u) ∨ (suf ≠ [] ∧ Lib.decDigits u = (if m = 0 then [] else Lib.decDigits m) ++ suf)) ∧ g = m + (if suf = [] then 1 else 0) ∧ m ≤ u ∧ suf.length + g ≤ u + 1

theorem DigInv.start (u : Nat) : DigInv u (u + 1) u [] := ⟨.inl ⟨rfl, rfl⟩, by simp, Nat.le_refl _, by simp⟩
theorem DigInv.next {u g m : Nat} {suf : List UInt8} (h : DigInv u g m suf) (hm : m ≠ 0 ∨ suf = []) :
    DigInv u (m / 10) (m / 10) (digU m :: suf) ∧ m / 10 < g := by
  obtain ⟨h1, h2, h3, h4⟩ := h
  have hlt : m / 10 < g := by
    by_cases e : suf = []
    · rw [if_pos e] at h2; omega
    · rw [if_neg e] at h2
      have : m ≠ 0 := by rcases hm with h | h; exact h; exact absurd h e
      omega
  refine ⟨⟨.inr ⟨by simp, ?_⟩, by simp, by omega, by simp only [List.length_cons]; omega⟩, hlt⟩
  have key : Lib.decDigits m = (if m / 10 = 0 then [] else Lib.decDigits (m / 10)) ++ [digU m] := by
    by_cases h10 : m < 10
    · rw [Lib.decDigits_one h10, if_pos (by omega), digU, Nat.mod_eq_of_lt h10]; rfl
    · rw [Lib.decDigits, dif_neg h10, if_neg (by omega)]; rfl
  rcases h1 with ⟨rfl, rfl⟩ | ⟨hs, h1⟩
  · rw [key]
  · have hm0 : m ≠ 0 := by rcases hm with h | h; exact h; exact absurd h hs
    rw [h1, if_neg hm0, key, List.append_assoc]; rfl
theorem DigInv.stop {u g : Nat} {suf : List UInt8} (h : DigInv u g 0 suf) (hs : suf ≠ []) : Lib.decDigits u = suf := by
  obtain ⟨h1, _, _, _⟩ := h
  rcases h1 with ⟨h, _⟩ | ⟨_, h⟩
  · exact absurd h hs
  · simpa using h
theorem ret_str {a b : List UInt8} (h : a = b) : Ending.returned (.string ⟨a.toArray⟩) = .returned (.string ⟨b.toArray⟩) := by rw [h]

theorem digit_nat (m : Nat) : ((digU m).toNat : Int) = 48 + (m : Int) % 10 := by
  unfold digU
  rw [UInt8.toNat_ofNat']
  omega

/-- 'string([]byte{c})' of the digit just made. -/
theorem conv_digit (m : Nat) (wr : World) :
    (convert 47 9 (.slice (some ⟨wr.heap.size, 0, none⟩) 1 1)).run Tryd.prog (wr.alloc (.cells #[.int .u8 (48 + (m : Int) % 10)] 5)) =
      .ok (.string ⟨#[digU m]⟩) (wr.alloc (.cells #[.int .u8 (48 + (m : Int) % 10)] 5)) := by
  have h := run_convert_bytes_back (P := Tryd.prog) (wr.alloc (.cells #[.int .u8 (48 + (m : Int) % 10)] 5)) 47 9 5 ⟨wr.heap.size, 0, none⟩ 1 [digU m]
    Tryd.underlying47 Tryd.underlying5 Tryd.underlying9 (fun j hj => by
      have hj0 : j = 0 := by simpa using hj
      subst hj0
      simp only [List.getElem_cons_zero, digit_nat]
      simp [Addr.add, go_sem])
  exact h

theorem str_cons (c : UInt8) (l : List UInt8) : (⟨#[c]⟩ : ByteArray) ++ ⟨l.toArray⟩ = ⟨(c :: l).toArray⟩ := by
  apply ByteArray.ext
  simp [ByteArray.data_append]

set_option maxHeartbeats 400000 in
theorem digits_any (u : Nat) (hu : u ≤ 1048576) (w : World) :
    Calls Tryd.prog 31 #[.int .i64 u] w
      fun e w' => e = .returned (.string ⟨(Lib.decDigits u).toArray⟩) ∧ Below w.heap.size w w' := by
  go_enter Tryd.func31, Tryd.ntmps31
  go_wp2
  go_loopg [0, 3] (u + 1) (fun g n s wr => ∃ (m : Nat) (suf : List UInt8), n = .int .i64 m ∧ s = .string ⟨suf.toArray⟩ ∧ DigInv u g m suf ∧ Below w.heap.size w wr)
  case atStart => exact ⟨u, [], rfl, rfl, DigInv.start u, Below.refl _ _⟩
  case round =>
    obtain ⟨m, suf, rfl, rfl, hI, hB⟩ := hrel
    have hmu : m ≤ u := hI.2.2.1
    have hlen : suf.length ≤ u + 1 := by have := hI.2.2.2; omega
    by_cases hm : 1 ≤ m
    · have hN := hI.next (.inl (by omega))
      have HN := Lib.hid hN
      have HI := Lib.hid hI
      have hcv := conv_digit m wr
      clear hN hI
      go_wp2
      go_roundg (m / 10)
      case measure => exact HN.out.2
      case rel => exact ⟨m / 10, digU m :: suf, by go_num, congrArg Value.string (str_cons _ _), HN.out.1, hB.alloc hB.size _⟩
    · obtain rfl : m = 0 := by omega
      cases suf with
      | nil =>
        have hN := hI.next (.inr rfl)
        have HN := Lib.hid hN
        have hcv := conv_digit 0 wr
        rw [show (48 + ((0 : Nat) : Int) % 10) = 48 from rfl] at hcv
        clear hN hI
        go_wp2
        go_roundg 0
        case measure => exact HN.out.2
        case rel => exact ⟨0, [digU 0], rfl, rfl, HN.out.1, hB.alloc hB.size _⟩
      | cons x l =>
        have hs := Lib.hid (hI.stop (by simp))
        clear hI
        go_wp2
        go_ret
        exact ⟨ret_str hs.out.symm, hB⟩
end Go.Proofs.YtbfnehpmlngagaaDoor
