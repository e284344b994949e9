/-
  Contracts of the leaves of layer 1: Less, None, Check of package id, Less, May of the document's answers, and the law's Of: each returns what its plain Lean function says, and nothing that existed has changed.
-/
import Derived.Test.YtbfnehpmlngagaaDoorProg
import Derived.Tactics
import Derived.Tactics2
import Derived.WalkKit
import Derived.Deep.QuietTactic
import Derived.BigQuiet
import Derived.KernelRfl
import Derived.Below
namespace Go.Proofs.YtbfnehpmlngagaaDoor
open Go Go.Proofs Go.RowKit

/-- One id is below another one: by the counters, then by the sites. -/
def lessB (c s d t : Int) : Bool := decide (c < d ∨ c = d ∧ s < t)
/-- An id may be. -/
def mayB (c s : Int) : Bool := decide (1 ≤ c ∧ c ≤ 1048576 ∧ 1 ≤ s ∧ s ≤ 1000)
/-- An id is None. -/
def noneB (c s : Int) : Bool := decide (c = 0 ∧ s = 0)

theorem ret_bool {a b : Bool} (h : a = b) : Ending.returned (.bool a) = .returned (.bool b) := by rw [h]
def idV (c s : Int) : Value := .agg #[.int .i64 c, .int .i64 s]

theorem lessB_lt {c s d t : Int} (h : c < d) : lessB c s d t = true := by unfold lessB; simp; omega
theorem lessB_gt {c s d t : Int} (h : d < c) : lessB c s d t = false := by unfold lessB; simp; omega
theorem lessB_eq (c s t : Int) : lessB c s c t = decide (s < t) := by unfold lessB; simp

set_option maxHeartbeats 400000 in
theorem less_any (c s d t : Int) (w : World) :
    Calls Tryd.prog 26 #[.agg #[.int .i64 c, .int .i64 s], .agg #[.int .i64 d, .int .i64 t]] w
      fun e w' => e = .returned (.bool (lessB c s d t)) ∧ Below w.heap.size w w' := by
  by_cases h : c = d
  · subst h
    rw [lessB_eq]
    go_enter Tryd.func26, Tryd.ntmps26
    go_wp2
    go_ret
    exact ⟨rfl, ((Below.refl _ _).alloc (Nat.le_refl _) _).alloc (by simp) _⟩
  · have hb : (c != d) = true := by simpa using h
    have hl : lessB c s d t = decide (c < d) := by unfold lessB; simp; omega
    rw [hl]
    clear hl
    go_enter Tryd.func26, Tryd.ntmps26
    go_wp2
    go_ret
    exact ⟨rfl, ((Below.refl _ _).alloc (Nat.le_refl _) _).alloc (by simp) _⟩

set_option maxHeartbeats 400000 in
theorem check_yes (c s : Int) (w : World) (h : mayB c s = true) :
    Calls Tryd.prog 15 #[.agg #[.int .i64 c, .int .i64 s]] w
      fun e w' => e = .returned (.int .i64 0) ∧ Below w.heap.size w w' := by
  have hm : 1 ≤ c ∧ c ≤ 1048576 ∧ 1 ≤ s ∧ s ≤ 1000 := by simpa [mayB] using h
  obtain ⟨h1, h2, h3, h4⟩ := hm
  clear h
  go_enter Tryd.func15, Tryd.ntmps15
  go_wp2
  go_ret
  exact ⟨rfl, (Below.refl _ _).alloc (Nat.le_refl _) _⟩

theorem mayB_no {c s : Int} (h : mayB c s = false) : c < 1 ∨ (1 ≤ c ∧ 1048576 < c) ∨ (1 ≤ c ∧ c ≤ 1048576 ∧ s < 1) ∨ (1 ≤ c ∧ c ≤ 1048576 ∧ 1 ≤ s ∧ 1000 < s) := by
  simp only [mayB, decide_eq_false_iff_not] at h
  omega

set_option maxHeartbeats 400000 in
theorem check_no (c s : Int) (w : World) (h : mayB c s = false) :
    Calls Tryd.prog 15 #[.agg #[.int .i64 c, .int .i64 s]] w
      fun e w' => e = .returned (.int .i64 2) ∧ Below w.heap.size w w' := by
  rcases mayB_no h with h1 | ⟨h1, h2⟩ | ⟨h1, h2, h3⟩ | ⟨h1, h2, h3, h4⟩ <;> clear h
  all_goals
    go_enter Tryd.func15, Tryd.ntmps15
    go_wp2
    go_ret
    exact ⟨rfl, (Below.refl _ _).alloc (Nat.le_refl _) _⟩

set_option maxHeartbeats 400000 in
theorem may_any (c s : Int) (w : World) :
    Calls Tryd.prog 19 #[.agg #[.int .i64 c, .int .i64 s]] w
      fun e w' => e = .returned (.bool (mayB c s)) ∧ Below w.heap.size w w' := by
  rcases hb : mayB c s with _ | _
  · rcases mayB_no hb with h1 | ⟨h1, h2⟩ | ⟨h1, h2, h3⟩ | ⟨h1, h2, h3, h4⟩ <;> clear hb
    all_goals
      go_enter Tryd.func19, Tryd.ntmps19
      go_wp2
      go_ret
      exact ⟨ret_bool (by first | rfl | (simp; omega)), (Below.refl _ _).alloc (Nat.le_refl _) _⟩
  · have hm : 1 ≤ c ∧ c ≤ 1048576 ∧ 1 ≤ s ∧ s ≤ 1000 := by simpa [mayB] using hb
    obtain ⟨h1, h2, h3, h4⟩ := hm
    clear hb
    go_enter Tryd.func19, Tryd.ntmps19
    go_wp2
    go_ret
    exact ⟨rfl, (Below.refl _ _).alloc (Nat.le_refl _) _⟩

set_option maxHeartbeats 400000 in
theorem none_any (c s : Int) (w : World) :
    Calls Tryd.prog 27 #[.agg #[.int .i64 c, .int .i64 s]] w
      fun e w' => e = .returned (.bool (noneB c s)) ∧ Below w.heap.size w w' := by
  go_enter Tryd.func27, Tryd.ntmps27
  go_wp2
  all_goals
    go_ret
    exact ⟨ret_bool (by simp [noneB, *]), (Below.refl _ _).alloc (Nat.le_refl _) _⟩


set_option maxHeartbeats 400000 in
theorem of_any (c s : Int) (w : World) :
    Calls Tryd.prog 20 #[.agg #[.int .i64 c, .int .i64 s]] w
      fun e w' => e = .returned (.agg #[.int .i64 c, .int .i64 s]) ∧ Below w.heap.size w w' := by
  go_enter Tryd.func20, Tryd.ntmps20
  go_wp2
  exact bodyPost_ret (v := .agg #[.int .i64 c, .int .i64 s]) (by simp [results, Tryd.results20, go_sem]) rfl ⟨rfl, ((Below.refl _ _).alloc (Nat.le_refl _) _).alloc (by simp) _⟩

end Go.Proofs.YtbfnehpmlngagaaDoor
