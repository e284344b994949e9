/-
  Plain facts on decimal digits: each is a digit, the first of a number from 1 on is not 0, they come to the number again, and there are few of them. No program stands in it.
-/
import Derived.Lib.ItoaNum
import Derived.Lib.IndexLaws
namespace Go.Proofs.YtbfnehpmlngagaaDoor
open Go

/-- The number that some digits come to. -/
def valL (l : List UInt8) : Nat := l.foldl (fun n b => n * 10 + (b.toNat - 48)) 0
theorem valL_snoc (l : List UInt8) (b : UInt8) : valL (l ++ [b]) = valL l * 10 + (b.toNat - 48) := by unfold valL; rw [List.foldl_append]; rfl
theorem dig_toNat {u : Nat} (h : u < 10) : (UInt8.ofNat (48 + u)).toNat = 48 + u := by rw [UInt8.toNat_ofNat']; omega

theorem dec_digit (u : Nat) : ∀ b ∈ Lib.decDigits u, 48 ≤ b.toNat ∧ b.toNat ≤ 57 := by
  induction u using Nat.strongRecOn with
  | _ u ih =>
    intro b hb
    by_cases h : u < 10
    · rw [Lib.decDigits_one h] at hb
      simp only [List.mem_singleton] at hb
      subst hb
      rw [dig_toNat h]; omega
    · rw [Lib.decDigits, dif_neg h] at hb
      rcases List.mem_append.1 hb with hb | hb
      · exact ih (u / 10) (by omega) b hb
      · simp only [List.mem_singleton] at hb
        subst hb
        rw [dig_toNat (by omega)]; omega
theorem dec_pos (u : Nat) : 0 < (Lib.decDigits u).length := by
  rw [Lib.decDigits_length]
  by_cases h : u < 10
  · rw [Lib.nDigits_small h]; omega
  · rw [Lib.nDigits_big h]; omega
theorem dec_head (u : Nat) (h1 : 1 ≤ u) (h : 0 < (Lib.decDigits u).length) : (Lib.decDigits u)[0].toNat ≠ 48 := by
  induction u using Nat.strongRecOn with
  | _ u ih =>
    by_cases h10 : u < 10
    · have e := Lib.decDigits_one h10
      simp only [e, List.getElem_cons_zero]
      rw [dig_toNat h10]; omega
    · have e : Lib.decDigits u = Lib.decDigits (u / 10) ++ [UInt8.ofNat (48 + u % 10)] := by rw [Lib.decDigits, dif_neg h10]
      have hp := dec_pos (u / 10)
      have := ih (u / 10) (by omega) (by omega) hp
      simp only [e]
      rw [List.getElem_append_left hp]
      exact this
theorem dec_val (u : Nat) : valL (Lib.decDigits u) = u := by
  induction u using Nat.strongRecOn with
  | _ u ih =>
    by_cases h : u < 10
    · rw [Lib.decDigits_one h]
      show 0 * 10 + ((UInt8.ofNat (48 + u)).toNat - 48) = u
      rw [dig_toNat h]; omega
    · rw [Lib.decDigits, dif_neg h, valL_snoc, ih (u / 10) (by omega), dig_toNat (by omega)]
      omega
theorem dec_few (k : Nat) : ∀ u, u < 10 ^ (k + 1) → (Lib.decDigits u).length ≤ k + 1 := by
  induction k with
  | zero =>
    intro u h
    rw [Lib.decDigits_one (by simpa using h)]
    simp
  | succ k ih =>
    intro u h
    by_cases h10 : u < 10
    · rw [Lib.decDigits_one h10]; simp
    · rw [Lib.decDigits, dif_neg h10]
      have := ih (u / 10) (by rw [Nat.pow_succ] at h; omega)
      simp only [List.length_append, List.length_singleton]
      omega
theorem dec_seven (u : Nat) (h : u ≤ 1048576) : (Lib.decDigits u).length ≤ 7 := dec_few 6 u (by omega)

/-- Of digits, a point and more the first point stands behind the digits. -/
theorem index_dot (l m : List UInt8) (h : ∀ b ∈ l, 48 ≤ b.toNat ∧ b.toNat ≤ 57) : Lib.indexByte (l ++ 46 :: m) 46 = (l.length : Int) := by
  induction l with
  | nil => simp [Lib.indexByte]
  | cons x l ih =>
    have hx := h x (by simp)
    have hne : (x == 46) = false := by
      rw [beq_eq_false_iff_ne]
      rintro rfl
      simp at hx
    have := ih (fun b hb => h b (by simp [hb]))
    simp only [List.cons_append, Lib.indexByte, hne, this]
    have h1 : ((l.length : Int) == -1) = false := by simp
    simp [h1]

/-- What some digits come to is small. -/
theorem fold_small (l : List UInt8) : ∀ acc : Nat, (∀ b ∈ l, 48 ≤ b.toNat ∧ b.toNat ≤ 57) → l.foldl (fun n b => n * 10 + (b.toNat - 48)) acc < (acc + 1) * 10 ^ l.length := by
  induction l with
  | nil => intro acc _; simp
  | cons b l ih =>
    intro acc h
    have hb := h b (by simp)
    have h2 := ih (acc * 10 + (b.toNat - 48)) (fun x hx => h x (by simp [hx]))
    simp only [List.foldl_cons, List.length_cons, Nat.pow_succ]
    refine Nat.lt_of_lt_of_le h2 ?_
    have e : (acc + 1) * (10 ^ l.length * 10) = ((acc + 1) * 10) * 10 ^ l.length := by rw [Nat.mul_comm (10 ^ l.length) 10, Nat.mul_assoc]
    rw [e]
    exact Nat.mul_le_mul_right _ (by omega)
theorem valL_small (l : List UInt8) (h : ∀ b ∈ l, 48 ≤ b.toNat ∧ b.toNat ≤ 57) (h7 : l.length ≤ 7) : valL l < 10000000 := by
  have h1 := fold_small l 0 h
  have h2 : 10 ^ l.length ≤ 10 ^ 7 := Nat.pow_le_pow_right (by omega) h7
  unfold valL
  omega
end Go.Proofs.YtbfnehpmlngagaaDoor
