/-
  Rows as trees: the plain tree, what a node's block holds, and the contracts of total, alive, Len, Alive.
-/
import Derived.Test.YtjfffnnkkjceoaaDoorBlk
import Derived.Test.YtjfffnnkkjceoaaDoorTake
import Derived.Deep.QuietTactic
import Derived.BigQuiet
import Derived.Lib.Hide
namespace Go.Proofs.YtjfffnnkkjceoaaDoor
open Go Go.Proofs Go.RowKit

/-- An element; its character fits an int32. -/
structure El where
  c : Int
  s : Int
  ch : Int
  d : Bool
  lo : -2147483648 ≤ ch
  hi : ch ≤ 2147483647
/-- How many are alive of one element. -/
def El.al (x : El) : Nat := if x.d = true then 0 else 1
/-- A plain tree. -/
inductive Tr where
  | nil
  | node (l : Tr) (x : El) (r : Tr)
def Tr.size : Tr → Nat
  | .nil => 0
  | .node l _ r => l.size + 1 + r.size
def Tr.alive : Tr → Nat
  | .nil => 0
  | .node l x r => l.alive + x.al + r.alive
def Tr.depth : Tr → Nat
  | .nil => 0
  | .node l _ r => 1 + max l.depth r.depth
/-- The row of a tree. -/
def Tr.els : Tr → List El
  | .nil => []
  | .node l x r => l.els ++ x :: r.els
theorem El.al_le (x : El) : x.al ≤ 1 := by unfold El.al; split <;> omega
theorem Tr.els_length : ∀ T : Tr, T.els.length = T.size
  | .nil => rfl
  | .node l x r => by simp only [Tr.els, Tr.size, List.length_append, List.length_cons, Tr.els_length l, Tr.els_length r]; omega
theorem Tr.alive_le : ∀ T : Tr, T.alive ≤ T.size
  | .nil => Nat.le_refl _
  | .node l x r => by have := Tr.alive_le l; have := Tr.alive_le r; have := x.al_le; simp only [Tr.alive, Tr.size]; omega
theorem Tr.depth_le : ∀ T : Tr, T.depth ≤ T.size
  | .nil => Nat.le_refl _
  | .node l x r => by have := Tr.depth_le l; have := Tr.depth_le r; simp only [Tr.depth, Tr.size]; omega

/-- What a node's block holds. -/
def nodeL (pl : Option Addr) (x : El) (pr : Option Addr) (a b c : Nat) : List Value :=
  [.pointer pl, .int .i64 x.c, .int .i64 x.s, .int .i32 x.ch, .bool x.d, .pointer pr, .int .i64 a, .int .i64 b, .int .i64 c]
/-- The heap holds the tree at p, in blocks below n. -/
def IsT (n : Nat) (W : World) : Option Addr → Tr → Prop
  | p, .nil => p = none
  | p, .node l x r => ∃ (b : Nat) (pl pr : Option Addr), p = some ⟨b, 0, none⟩ ∧ b < n ∧
      Blk W b (nodeL pl x pr (Tr.node l x r).size (Tr.node l x r).alive (Tr.node l x r).depth) 61 ∧ IsT n W pl l ∧ IsT n W pr r
theorem IsT.below {n : Nat} {W W' : World} (hb : Below n W W') : ∀ {p : Option Addr} {T : Tr}, IsT n W p T → IsT n W' p T
  | _, .nil, h => h
  | _, .node _ _ _, ⟨b, pl, pr, hp, hn, hB, hl, hr⟩ => ⟨b, pl, pr, hp, hn, hB.below hb hn, IsT.below hb hl, IsT.below hb hr⟩
theorem IsT.mono {n m : Nat} (hm : n ≤ m) {W : World} : ∀ {p : Option Addr} {T : Tr}, IsT n W p T → IsT m W p T
  | _, .nil, h => h
  | _, .node _ _ _, ⟨b, pl, pr, hp, hn, hB, hl, hr⟩ => ⟨b, pl, pr, hp, Nat.lt_of_lt_of_le hn hm, hB, IsT.mono hm hl, IsT.mono hm hr⟩
/-- The tree in the heap as it stands. -/
abbrev Is (W : World) (p : Option Addr) (T : Tr) : Prop := IsT W.heap.size W p T
theorem IsT.is {n : Nat} {W : World} : ∀ {p : Option Addr} {T : Tr}, IsT n W p T → Is W p T
  | _, .nil, h => h
  | _, .node _ _ _, ⟨b, pl, pr, hp, _, hB, hl, hr⟩ => ⟨b, pl, pr, hp, hB.lt, hB, IsT.is hl, IsT.is hr⟩
theorem Is.next {W W' : World} {p : Option Addr} {T : Tr} (h : Is W p T) (hb : Below W.heap.size W W') : Is W' p T := (IsT.below hb h).mono hb.size

theorem IsT.next {W W' : World} {p : Option Addr} {T : Tr} (h : IsT W.heap.size W p T) (hb : Below W.heap.size W W') : Is W' p T := Is.next h hb

theorem fieldS0 (a b c : Int) (w : World) : (Instr.field 58 (.agg #[.int .i64 a, .int .i64 b, .int .i64 c]) 0).run Tryd.prog w = .ok (.int .i64 a) w := by kernel_rfl
theorem fieldS1 (a b c : Int) (w : World) : (Instr.field 58 (.agg #[.int .i64 a, .int .i64 b, .int .i64 c]) 1).run Tryd.prog w = .ok (.int .i64 b) w := by kernel_rfl
theorem fieldS2 (a b c : Int) (w : World) : (Instr.field 58 (.agg #[.int .i64 a, .int .i64 b, .int .i64 c]) 2).run Tryd.prog w = .ok (.int .i64 c) w := by kernel_rfl
theorem cellsNode : Tryd.prog.cellsOf 61 = 9 := by kernel_rfl
theorem cellsElem : Tryd.prog.cellsOf 30 = 4 := by kernel_rfl

/-- What total answers. -/
def sumV (T : Tr) : Value := .agg #[.int .i64 T.size, .int .i64 T.alive, .int .i64 T.depth]
set_option maxHeartbeats 400000 in
theorem total_any {n : Nat} {p : Option Addr} {T : Tr} (w : World) (h : IsT n w p T) :
    Calls Tryd.prog 20 #[.pointer p] w
      fun e w' => e = .returned (.agg #[.int .i64 (T.size : Int), .int .i64 (T.alive : Int), .int .i64 (T.depth : Int)]) ∧ Below w.heap.size w w' := by
  cases T with
  | nil =>
    obtain rfl : p = none := h
    go_enter Tryd.func20, Tryd.ntmps20
    go_wp2
    exact bodyPost_ret (v := .agg #[.int .i64 0, .int .i64 0, .int .i64 0]) (by simp [results, Tryd.results20, go_sem]) rfl ⟨rfl, (Below.refl _ _).alloc (Nat.le_refl _) _⟩
  | node l x r =>
    obtain ⟨b, pl, pr, rfl, hn, hB, -, -⟩ := h
    have hlt := hB.lt
    have hne : b ≠ w.heap.size := by omega
    have h6 := hB.cell 6 rfl
    have h7 := hB.cell 7 rfl
    have h8 := hB.cell 8 rfl
    clear hB
    generalize (Tr.node l x r).size = A at *
    generalize (Tr.node l x r).alive = B at *
    generalize (Tr.node l x r).depth = C at *
    go_enter Tryd.func20, Tryd.ntmps20
    go_wp2
    exact bodyPost_ret (v := .agg #[.int .i64 A, .int .i64 B, .int .i64 C]) (by simp [results, Tryd.results20, go_sem]) rfl ⟨rfl, (Below.refl _ _).alloc (Nat.le_refl _) _⟩

set_option maxHeartbeats 400000 in
theorem alive_any (x : El) (w : World) :
    Calls Tryd.prog 22 #[.agg #[.int .i64 x.c, .int .i64 x.s, .int .i32 x.ch, .bool x.d]] w
      fun e w' => e = .returned (.int .i64 (x.al : Int)) ∧ Below w.heap.size w w' := by
  obtain ⟨c, s, ch, d, _, _⟩ := x
  cases d
  all_goals
    dsimp only
    go_enter Tryd.func22, Tryd.ntmps22
    go_wp2
    go_ret
    exact ⟨rfl, (Below.refl _ _).alloc (Nat.le_refl _) _⟩
end Go.Proofs.YtjfffnnkkjceoaaDoor
