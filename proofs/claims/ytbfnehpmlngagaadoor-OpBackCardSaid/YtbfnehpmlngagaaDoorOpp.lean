/-
  The contract of readChar of package op at the digits that String writes: the number that they say. With plain facts on hexadecimal digits.
-/
import Derived.Test.YtbfnehpmlngagaaDoorOps
import Derived.Test.YtbfnehpmlngagaaDoorParse
namespace Go.Proofs.YtbfnehpmlngagaaDoor
open Go Go.Proofs Go.RowKit

/-- The hexadecimal digits of a number, as numbers. -/
def hexN (u : Nat) : List Nat := if u < 16 then [u] else hexN (u / 16) ++ [u % 16]
theorem hexN_one {u : Nat} (h : u < 16) : hexN u = [u] := by rw [hexN, if_pos h]
theorem hexN_more {u : Nat} (h : ¬ u < 16) : hexN u = hexN (u / 16) ++ [u % 16] := by rw [hexN, if_neg h]
theorem hexD_map (u : Nat) : hexD u = (hexN u).map hxU := by
  induction u using Nat.strongRecOn with
  | _ u ih =>
    by_cases h : u < 16
    · rw [hexD_one h, hexN_one h]; rfl
    · rw [hexD_more h, hexN_more h, ih (u / 16) (by omega)]; simp
theorem hexN_lt (u : Nat) : ∀ d ∈ hexN u, d < 16 := by
  induction u using Nat.strongRecOn with
  | _ u ih =>
    intro d hd
    by_cases h : u < 16
    · rw [hexN_one h] at hd
      simp at hd
      omega
    · rw [hexN_more h] at hd
      rcases List.mem_append.1 hd with hd | hd
      · exact ih (u / 16) (by omega) d hd
      · simp at hd
        omega
theorem hexN_pos (u : Nat) : 0 < (hexN u).length := by
  have := hexD_pos u
  rw [hexD_map] at this
  simpa using this
theorem hexN_head (u : Nat) (h1 : 1 ≤ u) (h : 0 < (hexN u).length) : (hexN u)[0] ≠ 0 := by
  induction u using Nat.strongRecOn with
  | _ u ih =>
    by_cases h16 : u < 16
    · have e := hexN_one h16
      simp only [e, List.getElem_cons_zero]
      omega
    · have e := hexN_more h16
      have hp := hexN_pos (u / 16)
      have := ih (u / 16) (by omega) (by omega) hp
      simp only [e]
      rw [List.getElem_append_left hp]
      exact this
/-- The number that some hexadecimal digits come to. -/
def valN (l : List Nat) : Nat := l.foldl (fun n d => n * 16 + d) 0
theorem valN_snoc (l : List Nat) (d : Nat) : valN (l ++ [d]) = valN l * 16 + d := by unfold valN; rw [List.foldl_append]; rfl
theorem hexN_val (u : Nat) : valN (hexN u) = u := by
  induction u using Nat.strongRecOn with
  | _ u ih =>
    by_cases h : u < 16
    · rw [hexN_one h]; show 0 * 16 + u = u; omega
    · rw [hexN_more h, valN_snoc, ih (u / 16) (by omega)]
      omega
theorem foldN_small (l : List Nat) : ∀ acc : Nat, (∀ b ∈ l, b < 16) → l.foldl (fun n d => n * 16 + d) acc < (acc + 1) * 16 ^ l.length := by
  induction l with
  | nil => intro acc _; simp
  | cons b l ih =>
    intro acc h
    have hb := h b (by simp)
    have h2 := ih (acc * 16 + b) (fun x hx => h x (by simp [hx]))
    simp only [List.foldl_cons, List.length_cons, Nat.pow_succ]
    refine Nat.lt_of_lt_of_le h2 ?_
    have e : (acc + 1) * (16 ^ l.length * 16) = ((acc + 1) * 16) * 16 ^ l.length := by rw [Nat.mul_comm (16 ^ l.length) 16, Nat.mul_assoc]
    rw [e]
    exact Nat.mul_le_mul_right _ (by omega)
theorem valN_small (l : List Nat) (h : ∀ b ∈ l, b < 16) (h6 : l.length ≤ 6) : valN l < 16777216 := by
  have h1 := foldN_small l 0 h
  have h2 : 16 ^ l.length ≤ 16 ^ 6 := Nat.pow_le_pow_right (by omega) h6
  unfold valN
  omega

/-- A string of one to six hexadecimal digits, the first not 0. -/
structure IsHex (s : ByteArray) (l : List Nat) : Prop where
  len : s.size = l.length
  pos : 1 ≤ l.length
  few : l.length ≤ 6
  digit : ∀ i (h : i < l.length), s[i]'(by omega) = hxU l[i]
  lt : ∀ d ∈ l, d < 16
  head : l[0] ≠ 0
theorem isHex_of {ch : Int} (h0 : 1 ≤ ch) (h1 : ch ≤ 1114111) : IsHex (hexB ch) (hexN ch.toNat) := by
  have hp := hexN_pos ch.toNat
  have e : (hexB ch).data.toList = (hexN ch.toNat).map hxU := by
    unfold hexB
    rw [← hexD_map]
  have hl : (hexB ch).size = (hexN ch.toNat).length := by
    have : (hexB ch).size = (hexB ch).data.toList.length := by simp
    rw [this, e]; simp
  refine ⟨hl, hp, ?_, fun i h => ?_, hexN_lt _, hexN_head _ (by omega) hp⟩
  · have := hexD_six (u := ch.toNat) (by omega)
    rw [hexD_map] at this
    simpa using this
  · have hi : i < (hexB ch).data.toList.length := by rw [e]; simpa using h
    show (hexB ch).data.toList[i]'hi = _
    simp only [e, List.getElem_map]
theorem takeN (l : List Nat) (k : Nat) (h : k < l.length) : l.take (k + 1) = l.take k ++ [l[k]] := List.take_succ_eq_append_getElem h
theorem IsHex.part {s : ByteArray} {l : List Nat} (h : IsHex s l) (k : Nat) (hk : k < l.length) : valN (l.take k) < 1048576 := by
  have h1 := foldN_small (l.take k) 0 (fun b hb => h.lt b (List.mem_of_mem_take hb))
  have h2 : (l.take k).length ≤ 5 := by rw [List.length_take]; have := h.few; omega
  have h3 : 16 ^ (l.take k).length ≤ 16 ^ 5 := Nat.pow_le_pow_right (by omega) h2
  unfold valN
  omega

theorem idx_at (d : Nat) (h : d < 16) : Lib.indexByte [48, 49, 50, 51, 52, 53, 54, 55, 56, 57, 97, 98, 99, 100, 101, 102] (hxU d) = (d : Int) := by
  have : ∀ d : Fin 16, Lib.indexByte [48, 49, 50, 51, 52, 53, 54, 55, 56, 57, 97, 98, 99, 100, 101, 102] (hxU d.val) = (d.val : Int) := by decide
  exact this ⟨d, h⟩
theorem idx_hex (d : Nat) (h : d < 16) (w : World) :
    Calls Tryd.prog 52 #[.string ⟨#[48, 49, 50, 51, 52, 53, 54, 55, 56, 57, 97, 98, 99, 100, 101, 102]⟩, .int .u8 ((hxU d).toNat : Int)] w
      fun e w' => e = .returned (.int .i64 (d : Int)) ∧ w = w' := by
  refine (Tryd.strings_IndexByte _ _ w).mono ?_
  rintro e w' ⟨rfl, rfl⟩
  refine ⟨?_, rfl⟩
  have e1 : ((hxU d).toNat : Int).toNat.toUInt8 = hxU d := by simp
  rw [e1]
  exact congrArg (fun x => Ending.returned (.int .i64 x)) (idx_at d h)

theorem wraps_i32' (n : Int) (h₀ : 0 ≤ n) (h₁ : n < 2 ^ 30) : IntKind.i32.wrap n = n := IntWalk.i32_in _ (by omega)
theorem or16 (x y : Int) (h₀ : 0 ≤ x) (h₁ : x < 1048576) (h₂ : 0 ≤ y) (h₃ : y < 16) : bits .or .i32 (x * 16) y = x * 16 + y :=
  bits_join .i32 30 (by decide) wraps_i32' 4 (x * 16) y (by omega) (by omega) (by omega) h₂ (by omega) (by omega)

set_option maxHeartbeats 800000 in
theorem readChar_yes (s : ByteArray) (l : List Nat) (w : World) (h : IsHex s l) :
    Calls Tryd.prog 42 #[.string s] w fun e w' => e = .returned (.tuple #[.int .i32 (valN l : Nat), .bool true]) ∧ w = w' := by
  have hsz := h.len
  have h1 : 1 ≤ s.size := by rw [hsz]; exact h.pos
  have h2 : s.size ≤ 6 := by rw [hsz]; exact h.few
  have hE : ¬ s.toList = [] := by
    intro e
    have : s.toList.length = 0 := by rw [e]; rfl
    rw [ByteArray.toList_eq] at this
    have h3 : s.data.size = 0 := by simpa using this
    have : s.size = s.data.size := rfl
    omega
  have hE2 : s.toList.isEmpty = false := by simpa using hE
  have h0 : ((s[0].toNat : Int) == 48) = false := by
    have hd := h.digit 0 h.pos
    have hh := h.head
    have hlt := h.lt l[0] (List.getElem_mem _)
    have hn := hxU_nat hlt
    rw [hd, hn]
    simp
    split <;> omega
  have HD := Lib.hid h
  have HS := Lib.hid hsz
  clear h hsz
  by_cases hl : 1 < s.size
  all_goals
    go_enter Tryd.func42, Tryd.ntmps42
    go_wp2
    go_loopg [4, 26] s.size (fun g nv iv wr => w = wr ∧ ∃ k : Nat, k ≤ s.size ∧ g = s.size - k ∧ iv = .int .i64 k ∧ nv = .int .i32 (valN (l.take k) : Nat))
    case atStart => exact ⟨rfl, 0, Nat.zero_le _, rfl, rfl, rfl⟩
    case round =>
      obtain ⟨rfl, k, hk, rfl, rfl, rfl⟩ := hrel
      by_cases hlt : k < s.size
      · have hlt' : k < l.length := by rw [← HS.out]; exact hlt
        have hp := HD.out.part k hlt'
        have hb := HD.out.digit k hlt'
        have hd := HD.out.lt l[k] (List.getElem_mem _)
        have HV := Lib.hid (show valN (l.take (k + 1)) = valN (l.take k) * 16 + l[k] by rw [takeN l k hlt', valN_snoc])
        generalize valN (l.take k) = z at *
        generalize l[k] = d at *
        have s1 : IntKind.i32.wrap ((z : Int) * 16) = (z : Int) * 16 := IntWalk.i32_in _ (by omega)
        have s2 : bits .or .i32 ((z : Int) * 16) (d : Int) = (z : Int) * 16 + (d : Int) := or16 _ _ (by omega) (by omega) (by omega) (by omega)
        have s3 : IntKind.i32.wrap (d : Int) = (d : Int) := IntWalk.i32_in _ (by omega)
        go_wp2_with (go_at_call 52; refine (idx_hex d hd _).mono ?_; rintro e w' ⟨rfl, rfl⟩)
        go_roundg (s.size - (k + 1))
        case measure => omega
        case rel => exact ⟨rfl, k + 1, by omega, rfl, by go_num, by rw [HV.out]; go_num⟩
      · have e : l.take k = l := List.take_of_length_le (by rw [← HS.out]; omega)
        rw [e]
        clear e
        go_wp2
        go_ret2
        exact ⟨rfl, rfl⟩
theorem readChar_hex (ch : Int) (w : World) (h0 : 1 ≤ ch) (h1 : ch ≤ 1114111) :
    Calls Tryd.prog 42 #[.string (hexB ch)] w fun e w' => e = .returned (.tuple #[.int .i32 ch, .bool true]) ∧ w = w' := by
  have h := readChar_yes (hexB ch) (hexN ch.toNat) w (isHex_of h0 h1)
  rw [hexN_val, Int.toNat_of_nonneg (by omega)] at h
  exact h
end Go.Proofs.YtbfnehpmlngagaaDoor
