/-
  Maps of ids in the heap: what a part's block holds; the contracts of mayBe, place, digit, named, renew, Len.
-/
import Derived.Test.YtkhggojghjociaaDoorBlk
import Derived.Test.YtkhggojghjociaaDoorTake
import Derived.Test.YtkhggojghjociaaDoorPt
import Derived.Lib.Hide
import Derived.Laws.BitsLemmas
import Derived.WalkSmall
namespace Go.Proofs.YtkhggojghjociaaDoor
open Go Go.Proofs Go.RowKit

theorem Blk.put4 {W : World} {b : Nat} {a0 a1 a2 a3 : Value} {t : TypeId} (h : Blk W b [a0, a1, a2, a3] t) (x0 x1 x2 x3 : Value) :
    Blk ((((W.setCell ⟨b, 0, none⟩ x0).setCell ⟨b, 1, none⟩ x1).setCell ⟨b, 2, none⟩ x2).setCell ⟨b, 3, none⟩ x3) b [x0, x1, x2, x3] t := (((h.set 0 x0).set 1 x1).set 2 x2).set 3 x3
theorem below_put4 {B : Nat} {W0 W : World} (h : Below B W0 W) {b : Nat} (hb : B ≤ b) (i : Nat) (x0 x1 x2 x3 : Value) :
    Below B W0 ((((W.setCell ⟨b, i, none⟩ x0).setCell ⟨b, i + 1, none⟩ x1).setCell ⟨b, i + 2, none⟩ x2).setCell ⟨b, i + 3, none⟩ x3) :=
  (((h.setCell (p := ⟨b, i, none⟩) hb _).setCell (p := ⟨b, i + 1, none⟩) hb _).setCell (p := ⟨b, i + 2, none⟩) hb _).setCell (p := ⟨b, i + 3, none⟩) hb _

def enL (e : En) : List Value := [.int .i64 e.ac, .int .i64 e.an, .int .i32 e.ch, .bool e.d]
/-- What a part's block holds. -/
def ptL (ps : Nat → Option Addr) (e : En) : List Value :=
  [.pointer (ps 0), .pointer (ps 1), .pointer (ps 2), .pointer (ps 3), .pointer (ps 4), .pointer (ps 5), .pointer (ps 6), .pointer (ps 7), .int .i64 e.ac, .int .i64 e.an, .int .i32 e.ch, .bool e.d]
theorem ptL_ptr (ps : Nat → Option Addr) (e : En) {d : Nat} (h : d < 8) : (ptL ps e)[d]? = some (.pointer (ps d)) := by
  match d, h with
  | 0, _ => rfl
  | 1, _ => rfl
  | 2, _ => rfl
  | 3, _ => rfl
  | 4, _ => rfl
  | 5, _ => rfl
  | 6, _ => rfl
  | 7, _ => rfl
theorem ptL_set (ps : Nat → Option Addr) (e : En) (q : Option Addr) {d : Nat} (h : d < 8) : (ptL ps e).set d (.pointer q) = ptL (fun j => if j = d then q else ps j) e := by
  match d, h with
  | 0, _ => rfl
  | 1, _ => rfl
  | 2, _ => rfl
  | 3, _ => rfl
  | 4, _ => rfl
  | 5, _ => rfl
  | 6, _ => rfl
  | 7, _ => rfl
theorem ptL_en (ps : Nat → Option Addr) (e f : En) : (((((ptL ps e).set 8 (.int .i64 f.ac)).set 9 (.int .i64 f.an)).set 10 (.int .i32 f.ch)).set 11 (.bool f.d)) = ptL ps f := rfl
/-- The heap holds the trie at p, in blocks below n. -/
def IsP (n : Nat) (W : World) : Option Addr → Pt → Prop
  | p, .nil => p = none
  | p, .part nx e => ∃ (b : Nat) (ps : Nat → Option Addr), p = some ⟨b, 0, none⟩ ∧ b < n ∧ Blk W b (ptL ps e) 63 ∧ ∀ d, d < 8 → IsP n W (ps d) (nx d)
theorem IsP.same {n : Nat} {W W' : World} (hb : ∀ b, b < n → W'.heap[b]? = W.heap[b]?) : ∀ {T : Pt} {p : Option Addr}, IsP n W p T → IsP n W' p T
  | .nil, _, h => h
  | .part _ _, _, ⟨b, ps, hp, hn, hB, hc⟩ => ⟨b, ps, hp, hn, by unfold Blk at hB ⊢; rw [hb b hn]; exact hB, fun d hd => IsP.same hb (hc d hd)⟩
theorem IsP.below {n : Nat} {W W' : World} (hb : Below n W W') {p : Option Addr} {T : Pt} (h : IsP n W p T) : IsP n W' p T := h.same hb.block
theorem IsP.mono {n m : Nat} (hm : n ≤ m) {W : World} : ∀ {T : Pt} {p : Option Addr}, IsP n W p T → IsP m W p T
  | .nil, _, h => h
  | .part _ _, _, ⟨b, ps, hp, hn, hB, hc⟩ => ⟨b, ps, hp, Nat.lt_of_lt_of_le hn hm, hB, fun d hd => IsP.mono hm (hc d hd)⟩
/-- The trie in the heap as it stands. -/
abbrev IsM (W : World) (p : Option Addr) (T : Pt) : Prop := IsP W.heap.size W p T
theorem IsP.is {n : Nat} {W : World} : ∀ {T : Pt} {p : Option Addr}, IsP n W p T → IsM W p T
  | .nil, _, h => h
  | .part _ _, _, ⟨b, ps, hp, _, hB, hc⟩ => ⟨b, ps, hp, hB.lt, hB, fun d hd => IsP.is (hc d hd)⟩
theorem IsM.next {W W' : World} {p : Option Addr} {T : Pt} (h : IsM W p T) (hb : Below W.heap.size W W') : IsM W' p T := (IsP.below hb h).mono hb.size
/-- What a pointer to a part leads to. -/
theorem IsP.cases {n : Nat} {W : World} {p : Option Addr} {T : Pt} (h : IsP n W p T) :
    (p = none ∧ T = .nil) ∨ ∃ b ps, p = some ⟨b, 0, none⟩ ∧ b < n ∧ Blk W b (ptL ps T.en) 63 ∧ T.isNil = false ∧ ∀ d, d < 8 → IsP n W (ps d) (T.nx d) := by
  cases T with
  | nil => exact .inl ⟨h, rfl⟩
  | part f e =>
    obtain ⟨b, ps, hp, hn, hB, hc⟩ := h
    exact .inr ⟨b, ps, hp, hn, hB, rfl, hc⟩

theorem wraps_i64 (n : Int) (h₀ : 0 ≤ n) (h₁ : n < 2 ^ 62) : IntKind.i64.wrap n = n := IntWalk.i64_in _ (by omega)
theorem and7 (x : Int) (h₀ : 0 ≤ x) (h₁ : x < 4611686018427387904) : bits .and .i64 x 7 = x % 8 := bits_mask .i64 62 (by decide) wraps_i64 3 (by decide) x h₀ h₁
theorem and1023 (x : Int) (h₀ : 0 ≤ x) (h₁ : x < 4611686018427387904) : bits .and .i64 x 1023 = x % 1024 := bits_mask .i64 62 (by decide) wraps_i64 10 (by decide) x h₀ h₁
theorem or8 (x y : Int) (h₀ : 0 ≤ x) (h₁ : x < 1152921504606846976) (hx : x % 8 = 0) (h₂ : 0 ≤ y) (h₃ : y < 8) : bits .or .i64 x y = x + y :=
  bits_join .i64 62 (by decide) wraps_i64 3 x y h₀ hx (by omega) h₂ (by omega) (by omega)
theorem or1024 (x y : Int) (h₀ : 0 ≤ x) (h₁ : x < 1152921504606846976) (hx : x % 1024 = 0) (h₂ : 0 ≤ y) (h₃ : y < 1024) : bits .or .i64 x y = x + y :=
  bits_join .i64 62 (by decide) wraps_i64 10 x y h₀ hx (by omega) h₂ (by omega) (by omega)

set_option maxHeartbeats 400000 in
theorem mayBe_any (c s : Int) (w : World) :
    Calls Tryd.prog 19 #[.agg #[.int .i64 c, .int .i64 s]] w fun e w' => e = .returned (.bool (mayB c s)) ∧ Below w.heap.size w w' := by
  have hb0 := Lib.hid ((Below.refl w.heap.size w).alloc (Nat.le_refl _) (.cells #[.int .i64 c, .int .i64 s] 24))
  cases h : mayB c s with
  | true =>
    go_enter Tryd.func19, Tryd.ntmps19
    go_wp2_with (go_at_call 28; refine (check_yes c s _ h).mono ?_; rintro e w1 ⟨rfl, hb⟩)
    go_ret
    exact ⟨rfl, hb0.out.trans (hb.mono hb0.out.size)⟩
  | false =>
    go_enter Tryd.func19, Tryd.ntmps19
    go_wp2_with (go_at_call 28; refine (check_no c s _ h).mono ?_; rintro e w1 ⟨rfl, hb⟩)
    go_ret
    exact ⟨rfl, hb0.out.trans (hb.mono hb0.out.size)⟩

set_option maxHeartbeats 400000 in
theorem place_any (c s : Int) (w : World) (h : mayB c s = true) :
    Calls Tryd.prog 21 #[.agg #[.int .i64 c, .int .i64 s]] w fun e w' => e = .returned (.int .i64 (placeI c s : Nat)) ∧ Below w.heap.size w w' := by
  have hm : 1 ≤ c ∧ c ≤ 1048576 ∧ 1 ≤ s ∧ s ≤ 1000 := by simpa [mayB] using h
  have hv : ((placeI c s : Nat) : Int) = (c - 1) * 1024 + (s - 1) := by unfold placeI; omega
  have s1 : IntKind.i64.wrap (c - 1) = c - 1 := IntWalk.i64_in _ (by omega)
  have s2 : IntKind.i64.wrap ((c - 1) * 1024) = (c - 1) * 1024 := IntWalk.i64_in _ (by omega)
  have s3 : IntKind.i64.wrap (s - 1) = s - 1 := IntWalk.i64_in _ (by omega)
  have s4 := or1024 ((c - 1) * 1024) (s - 1) (by omega) (by omega) (by omega) (by omega) (by omega)
  rw [hv]
  clear h hv
  go_enter Tryd.func21, Tryd.ntmps21
  go_wp2
  go_ret
  exact ⟨rfl, (Below.refl _ _).alloc (Nat.le_refl _) _⟩

theorem pow8 (i : Nat) (h : i < 10) : ((2 : Int) ^ (3 * (9 - i))) = ((8 ^ (9 - i) : Nat) : Int) := by
  match i, h with
  | 0, _ => decide
  | 1, _ => decide
  | 2, _ => decide
  | 3, _ => decide
  | 4, _ => decide
  | 5, _ => decide
  | 6, _ => decide
  | 7, _ => decide
  | 8, _ => decide
  | 9, _ => decide

set_option maxHeartbeats 400000 in
theorem digit_any (x i : Nat) (w : World) (hx : x < 1073741824) (hi : i < 10) :
    Calls Tryd.prog 34 #[.int .i64 (x : Int), .int .i64 (i : Int)] w fun e w' => e = .returned (.int .i64 ((x / 8 ^ (9 - i) % 8 : Nat) : Int)) ∧ w' = w := by
  have s1 : IntKind.i64.wrap (9 - (i : Int)) = 9 - i := IntWalk.i64_in _ (by omega)
  have s2 : IntKind.i64.wrap (3 * (9 - (i : Int))) = 3 * (9 - i) := IntWalk.i64_in _ (by omega)
  have s3 : (x : Int) / 2 ^ (3 * (9 - i)) = ((x / 8 ^ (9 - i) : Nat) : Int) := by rw [pow8 i hi]; rfl
  have hq : x / 8 ^ (9 - i) ≤ x := Nat.div_le_self _ _
  generalize x / 8 ^ (9 - i) = y at *
  have s4 := and7 (y : Int) (by omega) (by omega)
  have hv : ((y % 8 : Nat) : Int) = (y : Int) % 8 := by omega
  rw [hv]
  clear hv hq
  go_enter Tryd.func34, Tryd.ntmps34
  go_wp2
  go_ret
  exact ⟨rfl, rfl⟩

set_option maxHeartbeats 400000 in
theorem named_any (x : Nat) (w : World) (hx : x < 1073741824) :
    Calls Tryd.prog 32 #[.int .i64 (x : Int)] w fun e w' => e = .returned (.agg #[.int .i64 (nmC x), .int .i64 (nmS x)]) ∧ Below w.heap.size w w' := by
  have s1 : IntKind.i64.wrap ((x : Int) / 1024 + 1) = (x : Int) / 1024 + 1 := IntWalk.i64_in _ (by omega)
  have s2 := and1023 (x : Int) (by omega) (by omega)
  have s3 : IntKind.i64.wrap ((x : Int) % 1024 + 1) = (x : Int) % 1024 + 1 := IntWalk.i64_in _ (by omega)
  have e1 : nmC x = (x : Int) / 1024 + 1 := by unfold nmC; omega
  have e2 : nmS x = (x : Int) % 1024 + 1 := by unfold nmS; omega
  rw [e1, e2]
  clear e1 e2
  go_enter Tryd.func32, Tryd.ntmps32
  go_wp2
  exact bodyPost_ret (v := .agg #[.int .i64 ((x : Int) / 1024 + 1), .int .i64 ((x : Int) % 1024 + 1)]) (by simp [results, Tryd.results32, go_sem]) rfl ⟨rfl, (Below.refl _ _).alloc (Nat.le_refl _) _⟩

set_option maxHeartbeats 400000 in
theorem len_any (p : Option Addr) (n : Int) (w : World) :
    Calls Tryd.prog 9 #[.agg #[.pointer p, .int .i64 n]] w fun e w' => e = .returned (.int .i64 n) ∧ Below w.heap.size w w' := by
  go_enter Tryd.func9, Tryd.ntmps9
  go_wp2
  go_ret
  exact ⟨rfl, (Below.refl _ _).alloc (Nat.le_refl _) _⟩

/-- A new part, as the old one is. -/
def RetN (ps : Nat → Option Addr) (e : En) (w : World) (r : Ending) (w' : World) : Prop :=
  r = .returned (.pointer (some ⟨w.heap.size, 0, none⟩)) ∧ Below w.heap.size w w' ∧ w.heap.size < w'.heap.size ∧ Blk w' w.heap.size (ptL ps e) 63
set_option maxHeartbeats 400000 in
theorem renew_nil (w : World) : Calls Tryd.prog 33 #[.pointer none] w (RetN (fun _ => none) .zero w) := by
  go_enter Tryd.func33, Tryd.ntmps33
  go_wp2
  go_ret
  exact ⟨rfl, (Below.refl _ _).alloc (Nat.le_refl _) _, by simp, Blk.start w _ _⟩
set_option maxHeartbeats 800000 in
theorem renew_part {b : Nat} {ps : Nat → Option Addr} {e : En} (w : World) (hB : Blk w b (ptL ps e) 63) :
    Calls Tryd.prog 33 #[.pointer (some ⟨b, 0, none⟩)] w (RetN ps e w) := by
  have hlt := hB.lt
  have hne : b ≠ w.heap.size := by omega
  have c0 := hB.cell 0 rfl
  have c1 := hB.cell 1 rfl
  have c2 := hB.cell 2 rfl
  have c3 := hB.cell 3 rfl
  have c4 := hB.cell 4 rfl
  have c5 := hB.cell 5 rfl
  have c6 := hB.cell 6 rfl
  have c7 := hB.cell 7 rfl
  have c8 := hB.cell 8 rfl
  have c9 := hB.cell 9 rfl
  have c10 := hB.cell 10 rfl
  have c11 := hB.cell 11 rfl
  clear hB
  go_enter Tryd.func33, Tryd.ntmps33
  go_wp2
  go_ret
  exact ⟨rfl, (Below.refl _ _).alloc (Nat.le_refl _) _, by simp, Blk.start w _ _⟩
end Go.Proofs.YtkhggojghjociaaDoor
