/-
  The contracts of turnRight, turnLeft whole, and of balance; sizes of what they make.
-/
import Derived.Test.YtjfffnnkkjceoaaDoorTurn
namespace Go.Proofs.YtjfffnnkkjceoaaDoor
open Go Go.Proofs Go.RowKit

theorem turnR_any {pa0 pr : Option Addr} {A I R : Tr} (y x : El) (w : World) (hd : Is w pa0 (.node A y I)) (ho : Is w pr R) (hs : A.size + I.size + R.size ≤ 900) :
    Calls Tryd.prog 34 #[.pointer pa0, .agg #[.int .i64 x.c, .int .i64 x.s, .int .i32 x.ch, .bool x.d], .pointer pr] w (RetT (turnR A y I x R) w) := by
  by_cases hc : I.depth ≤ A.depth
  · unfold turnR; rw [if_pos hc]; exact turnRight_1 y x w hd ho hs hc
  · cases I with
    | nil => exact absurd (Nat.zero_le _) hc
    | node B z C => unfold turnR; rw [if_neg hc]; exact turnRight_2 y z x w hd ho hs hc
theorem turnL_any {pa0 pl : Option Addr} {A I L : Tr} (y x : El) (w : World) (hd : Is w pa0 (.node I y A)) (ho : Is w pl L) (hs : A.size + I.size + L.size ≤ 900) :
    Calls Tryd.prog 35 #[.pointer pl, .agg #[.int .i64 x.c, .int .i64 x.s, .int .i32 x.ch, .bool x.d], .pointer pa0] w (RetT (turnL L x I y A) w) := by
  by_cases hc : I.depth ≤ A.depth
  · unfold turnL; rw [if_pos hc]; exact turnLeft_1 y x w hd ho hs hc
  · cases I with
    | nil => exact absurd (Nat.zero_le _) hc
    | node B z C => unfold turnL; rw [if_neg hc]; exact turnLeft_2 y z x w hd ho hs hc
theorem turnR_size (A : Tr) (y : El) (I : Tr) (x : El) (R : Tr) : (turnR A y I x R).size = A.size + I.size + R.size + 2 := by
  unfold turnR
  by_cases hc : I.depth ≤ A.depth
  · rw [if_pos hc]; simp only [Tr.size]; omega
  · rw [if_neg hc]
    cases I with
    | nil => exact absurd (Nat.zero_le _) hc
    | node B z C => simp only [Tr.size]; omega
theorem turnL_size (L : Tr) (x : El) (I : Tr) (y : El) (A : Tr) : (turnL L x I y A).size = A.size + I.size + L.size + 2 := by
  unfold turnL
  by_cases hc : I.depth ≤ A.depth
  · rw [if_pos hc]; simp only [Tr.size]; omega
  · rw [if_neg hc]
    cases I with
    | nil => exact absurd (Nat.zero_le _) hc
    | node B z C => simp only [Tr.size]; omega
/-- Two sides, one of which may be too deep. -/
def bal (L : Tr) (x : El) (R : Tr) : Tr :=
  if R.depth + 1 < L.depth then
    match L with
    | .nil => .nil
    | .node A y I => turnR A y I x R
  else if L.depth + 1 < R.depth then
    match R with
    | .nil => .nil
    | .node I y A => turnL L x I y A
  else .node L x R
theorem bal_size (L : Tr) (x : El) (R : Tr) : (bal L x R).size = L.size + 1 + R.size := by
  unfold bal
  by_cases h1 : R.depth + 1 < L.depth
  · rw [if_pos h1]
    cases L with
    | nil => exact absurd h1 (by simp only [Tr.depth]; omega)
    | node A y I => simp only [turnR_size, Tr.size]; omega
  · rw [if_neg h1]
    by_cases h2 : L.depth + 1 < R.depth
    · rw [if_pos h2]
      cases R with
      | nil => exact absurd h2 (by simp only [Tr.depth]; omega)
      | node I y A => simp only [turnL_size, Tr.size]; omega
    · rw [if_neg h2]; simp only [Tr.size]

theorem bal_1 {A : Tr} {y : El} {I R : Tr} (x : El) (h1 : R.depth + 1 < (Tr.node A y I).depth) : bal (.node A y I) x R = turnR A y I x R := by unfold bal; rw [if_pos h1]
theorem bal_2 {A : Tr} {y : El} {I L : Tr} (x : El) (h1 : ¬ (Tr.node I y A).depth + 1 < L.depth) (h2 : L.depth + 1 < (Tr.node I y A).depth) : bal L x (.node I y A) = turnL L x I y A := by unfold bal; rw [if_neg h1, if_pos h2]
theorem bal_3 {L R : Tr} (x : El) (h1 : ¬ R.depth + 1 < L.depth) (h2 : ¬ L.depth + 1 < R.depth) : bal L x R = .node L x R := by unfold bal; rw [if_neg h1, if_neg h2]
/-- What balance holds. -/
structure BR (w : World) (L R : Tr) (x : El) (pl pr : Option Addr) (W : World) : Prop where
  hl : Is W pl L
  hr : Is W pr R
  bel : Below w.heap.size w W
  bx : Blk W w.heap.size (elL x) 30
theorem BR.next {w : World} {L R : Tr} {x : El} {pl pr : Option Addr} {W W' : World} (h : BR w L R x pl pr W) (hb : Below W.heap.size W W') : BR w L R x pl pr W' :=
  ⟨h.hl.next hb, h.hr.next hb, h.bel.trans (hb.mono h.bel.size), h.bx.next hb⟩
theorem BR.start {w : World} {L R : Tr} (x : El) {pl pr : Option Addr} (hl : Is w pl L) (hr : Is w pr R) : BR w L R x pl pr (w.alloc (.cells #[.int .i64 x.c, .int .i64 x.s, .int .i32 x.ch, .bool x.d] 30)) := by
  have hb0 := (Below.refl w.heap.size w).alloc (Nat.le_refl _) (.cells #[.int .i64 x.c, .int .i64 x.s, .int .i32 x.ch, .bool x.d] 30)
  exact ⟨hl.next hb0, hr.next hb0, hb0, Blk.start _ _ _⟩

set_option maxHeartbeats 1600000 in
theorem balance_any {pl pr : Option Addr} {L R : Tr} (x : El) (w : World) (hl : Is w pl L) (hr : Is w pr R) (hs : L.size + R.size ≤ 900) :
    Calls Tryd.prog 26 #[.pointer pl, .agg #[.int .i64 x.c, .int .i64 x.s, .int .i32 x.ch, .bool x.d], .pointer pr] w (RetT (bal L x R) w) := by
  have ld := L.depth_le
  have rd := R.depth_le
  have ld2 : L.depth ≤ 1000 := by omega
  have rd2 : R.depth ≤ 1000 := by omega
  have H0 := Lib.hid (BR.start x hl hr)
  have fs2 := fieldS2
  clear hl hr ld rd
  have HS := Lib.hid hs
  clear hs
  go_enter Tryd.func26, Tryd.ntmps26
  go_wp2_with (go_at_call 20; refine (total_any _ H0.out.hl).mono ?_; rintro e w1 ⟨rfl, hb1⟩; refine Hid.out ?_)
  have H1 := Lib.hid (H0.out.next hb1)
  clear H0 hb1
  refine Lib.hid ?_
  go_wp2_with (go_at_call 20; refine (total_any _ H1.out.hr).mono ?_; rintro e w2 ⟨rfl, hb2⟩; refine Hid.out ?_)
  have H2 := Lib.hid (H1.out.next hb2)
  clear H1 hb2
  have hx0 := H2.out.bx.cell 0 rfl
  have hx1 := H2.out.bx.cell 1 rfl
  have hx2 := H2.out.bx.cell 2 rfl
  have hx3 := H2.out.bx.cell 3 rfl
  by_cases h1 : R.depth + 1 < L.depth
  · cases L with
    | nil => exact absurd h1 (by simp only [Tr.depth]; omega)
    | node A y I =>
      have HE := Lib.hid (bal_1 x h1)
      refine Lib.hid ?_
      go_wp2_with (go_at_call 34; refine (turnR_any y x _ H2.out.hl H2.out.hr (by have := HS.out; simp only [Tr.size] at this; omega)).mono ?_; rintro e w3 ⟨q, rfl, hq, hb3⟩)
      go_ret
      exact ⟨_, rfl, by rw [HE.out]; exact hq, H2.out.bel.trans (hb3.mono H2.out.bel.size)⟩
  · by_cases h2 : L.depth + 1 < R.depth
    · cases R with
      | nil => exact absurd h2 (by simp only [Tr.depth]; omega)
      | node I y A =>
        have HE := Lib.hid (bal_2 x h1 h2)
        refine Lib.hid ?_
        go_wp2_with (go_at_call 35; refine (turnL_any y x _ H2.out.hr H2.out.hl (by have := HS.out; simp only [Tr.size] at this; omega)).mono ?_; rintro e w3 ⟨q, rfl, hq, hb3⟩)
        go_ret
        exact ⟨_, rfl, by rw [HE.out]; exact hq, H2.out.bel.trans (hb3.mono H2.out.bel.size)⟩
    · have HE := Lib.hid (bal_3 x h1 h2)
      refine Lib.hid ?_
      go_wp2_with (go_at_call 25; refine (join_any x _ H2.out.hl H2.out.hr (by have := HS.out; omega)).mono ?_; rintro e w3 ⟨q, rfl, hq, hb3⟩)
      go_ret
      exact ⟨_, rfl, by rw [HE.out]; exact hq, H2.out.bel.trans (hb3.mono H2.out.bel.size)⟩
end Go.Proofs.YtjfffnnkkjceoaaDoor
