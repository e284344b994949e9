/-
  Going over a row: the contracts of each, of All and of the function that All hands back: every element comes, in order, with its place, or a part of them.
-/
import Derived.RangeFuncNested
import Derived.RangeFuncBound
import Derived.RangeFuncCalls
import Derived.RangeFuncLeaves
import Derived.RangeFuncBox
import Derived.Shelf.Abstract
import Derived.Shelf.RegionOpen
import Derived.WalkKit
import Derived.OwnWalkIn
import Derived.TacticsInMore
import Derived.LoopNIn
import Derived.LoopIn
import Derived.Test.YtjfffnnkkjceoaaDoorTree
namespace Go.Proofs.YtjfffnnkkjceoaaDoor
open Go Go.Proofs Go.RowKit Go.Shelf

attribute [local go_sem] Oper.semAt_some

theorem room_of_none {F : Fence} (hd : F.depth = none) (k : Nat) : F.room k := fun d h => by rw [hd] at h; cases h
theorem RoundIn.anyDepth {F : Fence} (hd : F.depth = none) {m m' : Nat} {P : Program} {l : Nat} {f : FuncId} {tmps : Array Value} {assign body : Code} {w : World} {R : Ending → World → Prop}
    (h : RoundIn F m P l f tmps assign body w R) : RoundIn F m' P l f tmps assign body w R := ⟨h.1, fun c cs _ => h.2 c cs (room_of_none hd _)⟩
theorem YieldAt.anyDepth {F : Fence} (hd : F.depth = none) {m : Nat} (m' : Nat) {P : Program} {l : Nat} {args : Array Value} {W : World} {R : Ending → World → Prop} (h : YieldAt F m P l args W R) : YieldAt F m' P l args W R := by
  obtain ⟨fn, tmps, assign, body, hy, hR⟩ := h
  exact ⟨fn, tmps, assign, body, hy, RoundIn.anyDepth hd hR⟩

/-- Elements with their places. -/
def idx : Nat → List El → List (Nat × El)
  | _, [] => []
  | k, x :: l => (k, x) :: idx (k + 1) l
theorem idx_length : ∀ (k : Nat) (l : List El), (idx k l).length = l.length
  | _, [] => rfl
  | k, x :: l => by simp [idx, idx_length (k + 1) l]
theorem idx_append : ∀ (k : Nat) (a b : List El), idx k (a ++ b) = idx k a ++ idx (k + a.length) b
  | k, [], b => by simp [idx]
  | k, x :: a, b => by
    simp only [List.cons_append, idx, idx_append (k + 1) a b, List.length_cons]
    rw [show k + 1 + a.length = k + (a.length + 1) by omega]
theorem idx_node (k : Nat) (l : Tr) (x : El) (r : Tr) : idx k (Tr.node l x r).els = idx k l.els ++ (k + l.size, x) :: idx (k + l.size + 1) r.els := by
  simp only [Tr.els, idx_append, idx, Tr.els_length]

/-- What yield is handed. -/
abbrev encs (x : Nat × El) : Array Value := #[.int .i64 (x.1 : Int), .agg #[.int .i64 x.2.c, .int .i64 x.2.s, .int .i32 x.2.ch, .bool x.2.d]]

set_option maxHeartbeats 400000 in
theorem total_in (F : Fence) (n m : Nat) (h20 : F.fn 20) (hro : F.round = none) {p : Option Addr} {T : Tr} (w : World) (h : IsT m w p T) :
    CallsIn F n Tryd.prog 20 #[.pointer p] w
      fun e w' => e = .returned (.agg #[.int .i64 (T.size : Int), .int .i64 (T.alive : Int), .int .i64 (T.depth : Int)]) ∧ w' = w.alloc (.cells #[.int .i64 (T.size : Int), .int .i64 (T.alive : Int), .int .i64 (T.depth : Int)] 58) := by
  cases T with
  | nil =>
    obtain rfl : p = none := h
    refine callsIn_of_wp Tryd.func20 rfl h20 ?_ hro
    simp only [Tryd.ntmps20, List.size_toArray, List.length_cons, List.length_nil, Nat.reduceAdd, Nat.reduceSub, Array.replicate_succ, Array.replicate_zero, List.push_toArray, List.append_toArray, List.nil_append, List.cons_append]
    gi_wp2
    exact bodyPost_ret (v := .agg #[.int .i64 0, .int .i64 0, .int .i64 0]) (by simp [results, Tryd.results20, go_sem]) rfl ⟨rfl, rfl⟩
  | node l x r =>
    obtain ⟨b, pl, pr, rfl, hn, hB, -, -⟩ := h
    have hlt := hB.lt
    have hne : b ≠ w.heap.size := by omega
    have h6 := hB.cell 6 rfl
    have h7 := hB.cell 7 rfl
    have h8 := hB.cell 8 rfl
    clear hB
    generalize (Tr.node l x r).size = A at *
    generalize (Tr.node l x r).alive = B at *
    generalize (Tr.node l x r).depth = C at *
    refine callsIn_of_wp Tryd.func20 rfl h20 ?_ hro
    simp only [Tryd.ntmps20, List.size_toArray, List.length_cons, List.length_nil, Nat.reduceAdd, Nat.reduceSub, Array.replicate_succ, Array.replicate_zero, List.push_toArray, List.append_toArray, List.nil_append, List.cons_append]
    gi_wp2
    exact bodyPost_ret (v := .agg #[.int .i64 A, .int .i64 B, .int .i64 C]) (by simp [results, Tryd.results20, go_sem]) rfl ⟨rfl, rfl⟩

set_option maxRecDepth 100000 in
set_option maxHeartbeats 2000000 in
theorem each_in (F : Fence) (hd : F.depth = none) (h16 : F.fn 16) (h20 : F.fn 20) (hro : F.round = none) (l n₀ N : Nat) (J Jx : List (Nat × El) → World → Prop)
    (hJa : ∀ pre W o, J pre W → J pre (W.alloc o))
    (hY : ∀ m pre x W, J pre W → pre.length < N → YieldAt F m Tryd.prog l (encs x) W fun e W' =>
      (e = .returned (.bool true) ∧ J (pre ++ [x]) W' ∧ Below n₀ W W') ∨ (e = .returned (.bool false) ∧ Jx (pre ++ [x]) W')) (T : Tr) :
    ∀ (n : Nat) (p : Option Addr) (k : Nat) (pre : List (Nat × El)) (W : World), IsT n₀ W p T → n₀ ≤ W.heap.size → k + T.size ≤ 100000 → J pre W → pre.length + T.size ≤ N →
      CallsIn F n Tryd.prog 16 #[.pointer p, .int .i64 (k : Int), .func (.yield l) #[] #[]] W fun e W' =>
        (e = .returned (.bool true) ∧ J (pre ++ idx k T.els) W' ∧ Below n₀ W W') ∨ (e = .returned (.bool false) ∧ ∃ q, q <+: idx k T.els ∧ Jx (pre ++ q) W') := by
  induction T with
  | nil =>
    intro n p k pre W ht _ _ hJ _
    obtain rfl : p = none := ht
    refine callsIn_of_wp Tryd.func16 rfl h16 ?_ hro
    simp only [Tryd.ntmps16, List.size_toArray, List.length_cons, List.length_nil, Nat.reduceAdd, Nat.reduceSub, Array.replicate_succ, Array.replicate_zero, List.push_toArray, List.append_toArray, List.nil_append, List.cons_append]
    gi_wp2
    go_ret
    exact .inl ⟨rfl, by simpa [Tr.els, idx] using hJ, Below.refl _ _⟩
  | node tl x tr ihl ihr =>
    intro n p k pre W ht hn₀ hk1 hJ hN
    obtain ⟨b, pl, pr, rfl, hb, hB, hl, hr⟩ := ht
    have hdd : ∀ k : Nat, (F.depth.isSome = true → 1 ≤ k) := fun k h => by rw [hd] at h; cases h
    have hsz : tl.size + 1 + tr.size = (Tr.node tl x tr).size := rfl
    have hlen : (idx k tl.els).length = tl.size := by rw [idx_length, Tr.els_length]
    obtain ⟨W0, hW0⟩ : ∃ W0, W0 = W.alloc (.cells #[.int .i64 (tl.size : Int), .int .i64 (tl.alive : Int), .int .i64 (tl.depth : Int)] 58) := ⟨_, rfl⟩
    have hbW : Below n₀ W W0 := by rw [hW0]; exact (Below.refl n₀ W).alloc hn₀ _
    have hJ0 : J pre W0 := by rw [hW0]; exact hJa _ _ _ hJ
    have c0 := hB.cell 0 rfl
    have d0 := (hB.below hbW hb).cell 0 rfl
    have fs0 := fieldS0
    have he : encs (k + tl.size, x) = #[.int .i64 ((k : Int) + tl.size), .agg #[.int .i64 x.c, .int .i64 x.s, .int .i32 x.ch, .bool x.d]] := by simp [encs]
    have hcast : ((k + tl.size + 1 : Nat) : Int) = (k : Int) + tl.size + 1 := by omega
    have ihr' := Lib.hid (show ∀ (pre : List (Nat × El)) (W : World), IsT n₀ W pr tr → n₀ ≤ W.heap.size → J pre W → pre.length + tr.size ≤ N → CallsIn F (n - 1) Tryd.prog 16 #[.pointer pr, .int .i64 ((k : Int) + tl.size + 1), .func (.yield l) #[] #[]] W fun e W' =>
        (e = .returned (.bool true) ∧ J (pre ++ idx (k + tl.size + 1) tr.els) W' ∧ Below n₀ W W') ∨ (e = .returned (.bool false) ∧ ∃ q, q <+: idx (k + tl.size + 1) tr.els ∧ Jx (pre ++ q) W') from fun pre W h1 h2 h3 h4 => by
      have := ihr (n - 1) pr (k + tl.size + 1) pre W h1 h2 (by omega) h3 h4
      rwa [hcast] at this)
    -- each callee's word, with what the walk wants next laid beside it
    have hy2 : ∀ W1, J (pre ++ idx k tl.els) W1 → Below n₀ W0 W1 → YieldAt F (n - 1) Tryd.prog l #[.int .i64 ((k : Int) + tl.size), .agg #[.int .i64 x.c, .int .i64 x.s, .int .i32 x.ch, .bool x.d]] W1 fun e W2 =>
        (e = .returned (.bool true) ∧ J (pre ++ idx k tl.els ++ [(k + tl.size, x)]) W2 ∧ Below n₀ W W2 ∧ W2.cell? ⟨b, 5, none⟩ = some (.pointer pr) ∧ IsT n₀ W2 pr tr ∧ n₀ ≤ W2.heap.size) ∨ (e = .returned (.bool false) ∧ Jx (pre ++ idx k tl.els ++ [(k + tl.size, x)]) W2) := fun W1 hJ1 hb1 =>
      YieldAt.mono (he ▸ hY (n - 1) _ (k + tl.size, x) W1 hJ1 (by simp only [List.length_append, hlen]; omega)) fun e W2 h => h.elim
        (fun ⟨he, hj, hb2⟩ => .inl ⟨he, hj, (hbW.trans hb1).trans hb2, (hB.below ((hbW.trans hb1).trans hb2) hb).cell 5 rfl, hr.below ((hbW.trans hb1).trans hb2), Nat.le_trans hn₀ ((hbW.trans hb1).trans hb2).size⟩) .inr
    have ih1 := (ihl (n - 1) pl k pre W0 (hl.below hbW) (Nat.le_trans hn₀ hbW.size) (by omega) hJ0 (by omega)).mono (R' := fun e W1 =>
        (e = .returned (.bool true) ∧ (W1.cell? ⟨b, 1, none⟩ = some (.int .i64 x.c) ∧ W1.cell? ⟨b, 2, none⟩ = some (.int .i64 x.s) ∧ W1.cell? ⟨b, 3, none⟩ = some (.int .i32 x.ch) ∧ W1.cell? ⟨b, 4, none⟩ = some (.bool x.d)) ∧ YieldAt F (n - 1) Tryd.prog l #[.int .i64 ((k : Int) + tl.size), .agg #[.int .i64 x.c, .int .i64 x.s, .int .i32 x.ch, .bool x.d]] W1 fun e W2 =>
          (e = .returned (.bool true) ∧ J (pre ++ idx k tl.els ++ [(k + tl.size, x)]) W2 ∧ Below n₀ W W2 ∧ W2.cell? ⟨b, 5, none⟩ = some (.pointer pr) ∧ IsT n₀ W2 pr tr ∧ n₀ ≤ W2.heap.size) ∨ (e = .returned (.bool false) ∧ Jx (pre ++ idx k tl.els ++ [(k + tl.size, x)]) W2)) ∨
        (e = .returned (.bool false) ∧ ∃ q, q <+: idx k tl.els ∧ Jx (pre ++ q) W1))
      (fun e W1 h => h.elim (fun ⟨he, hj, hb1⟩ => .inl ⟨he, ⟨(hB.below (hbW.trans hb1) hb).cell 1 rfl, (hB.below (hbW.trans hb1) hb).cell 2 rfl, (hB.below (hbW.trans hb1) hb).cell 3 rfl, (hB.below (hbW.trans hb1) hb).cell 4 rfl⟩, hy2 W1 hj hb1⟩) .inr)
    have HT := Lib.hid (total_in F (n - 1) n₀ h20 hro W hl)
    have HI := Lib.hid (idx_node k tl x tr)
    have HW := Lib.hid hW0
    have HL := Lib.hid hlen
    have hts : tl.size + 1 + tr.size ≤ 100000 := by omega
    have hkt : k + tl.size + 1 + tr.size ≤ 100000 := by omega
    have hNt : pre.length + tl.size + 1 + tr.size ≤ N := by omega
    clear hy2 ihl ihr he hcast hJ0 hJ hJa hbW hlen hsz hk1 hN hW0 hY hB hl hr hn₀
    refine callsIn_of_wp Tryd.func16 rfl h16 ?_ hro
    simp only [Tryd.ntmps16, List.size_toArray, List.length_cons, List.length_nil, Nat.reduceAdd, Nat.reduceSub, Array.replicate_succ, Array.replicate_zero, List.push_toArray, List.append_toArray, List.nil_append, List.cons_append]
    gi_wp2_with (first
      | ((try refine ⟨hdd _, ?_⟩); gi_at_call 20; refine HT.out.mono ?_; clear HT; rintro e W9 ⟨rfl, hW9⟩; rw [← HW.out] at hW9; subst hW9)
      | ((try refine ⟨hdd _, ?_⟩); gi_at_call 16; refine ih1.mono ?_; clear ih1; rintro e W1 (⟨rfl, ⟨c1, c2, c3, c4⟩, fn, tmps, assign, body, hy, hR⟩ | ⟨rfl, q, hq, hx1⟩))
      | ((try refine ⟨hdd _, ?_⟩); refine hR.mono ?_; clear hR; rintro e W2 (⟨rfl, hJ2, hb2, c5, hr2, hn2⟩ | ⟨rfl, hx2⟩))
      | ((try refine ⟨hdd _, ?_⟩); gi_at_call 16; refine (ihr'.out _ _ hr2 hn2 hJ2 (by simp only [List.length_append, List.length_cons, List.length_nil, HL.out]; omega)).mono ?_; rintro e W3 (⟨rfl, hJ3, hb3⟩ | ⟨rfl, q, hq, hx3⟩)))
    · go_ret
      exact .inl ⟨rfl, by rw [HI.out]; simpa [List.append_assoc] using hJ3, hb2.trans hb3⟩
    · go_ret
      obtain ⟨r, hr'⟩ := hq
      exact .inr ⟨rfl, idx k tl.els ++ (k + tl.size, x) :: q, ⟨r, by rw [HI.out, ← hr']; simp⟩, by simpa [List.append_assoc] using hx3⟩
    · go_ret
      exact .inr ⟨rfl, idx k tl.els ++ [(k + tl.size, x)], ⟨idx (k + tl.size + 1) tr.els, by rw [HI.out]; simp⟩, by simpa [List.append_assoc] using hx2⟩
    · refine ⟨fun _ h => (by cases h), ?_⟩
      gi_wp2
      go_ret
      exact .inr ⟨rfl, q, hq.trans (by rw [HI.out]; simp), hx1⟩

set_option maxHeartbeats 1000000 in
/-- The function that All hands back. -/
theorem all1_in (F : Fence) (hd : F.depth = none) (n : Nat) (h15 : F.fn 15) (h16 : F.fn 16) (h20 : F.fn 20) (hro : F.round = none) (l Bt n₀ : Nat) (p0 : Option Addr) (T : Tr) (J Jx : List (Nat × El) → World → Prop)
    (hs : T.size ≤ 1000) (hJa : ∀ pre W o, J pre W → J pre (W.alloc o))
    (hY : ∀ pre x W, J pre W → pre.length < T.size → YieldAt F (n - 1) Tryd.prog l (encs x) W fun e W' =>
      (e = .returned (.bool true) ∧ J (pre ++ [x]) W' ∧ Below n₀ W W') ∨ (e = .returned (.bool false) ∧ Jx (pre ++ [x]) W'))
    (W : World) (hBt : W.cell? ⟨Bt, 0, none⟩ = some (.pointer p0)) (hT : IsT n₀ W p0 T) (hn₀ : n₀ ≤ W.heap.size) (h0 : J [] W) :
    CallsIn F n Tryd.prog 15 #[.func (.yield l) #[] #[], .pointer (some ⟨Bt, 0, none⟩)] W fun e W' => (∃ v, e = .returned v) ∧
      ((∃ ys, ys = idx 0 T.els ∧ J ys W') ∨ (∃ pre, pre <+: idx 0 T.els ∧ Jx pre W')) := by
  have hdd : ∀ k : Nat, (F.depth.isSome = true → 1 ≤ k) := fun k h => by rw [hd] at h; cases h
  have hp := each_in F hd h16 h20 hro l n₀ T.size J Jx hJa (fun m pre x W hj hl => YieldAt.anyDepth hd m (hY pre x W hj hl)) T (n - 1) p0 0 [] W hT hn₀ (by omega) h0 (by simp)
  refine callsIn_of_wp Tryd.func15 rfl h15 ?_ hro
  simp only [Tryd.ntmps15, List.size_toArray, List.length_cons, List.length_nil, Nat.reduceAdd, Nat.reduceSub, Array.replicate_succ, Array.replicate_zero, List.push_toArray, List.append_toArray, List.nil_append, List.cons_append]
  gi_wp2_with ((try refine ⟨hdd _, ?_⟩); gi_at_call 16; refine hp.mono ?_; clear hp; rintro e W1 (⟨rfl, hJ1, _⟩ | ⟨rfl, q, hq, hx⟩))
  · go_end0
    exact ⟨⟨_, rfl⟩, .inl ⟨_, rfl, by simpa using hJ1⟩⟩
  · go_end0
    exact ⟨⟨_, rfl⟩, .inr ⟨q, hq, by simpa using hx⟩⟩

set_option maxHeartbeats 1000000 in
/-- All: the row is boxed; the function value captures the box. -/
theorem all_any (p0 : Option Addr) (w : World) :
    Calls Tryd.prog 6 #[.agg #[.pointer p0]] w fun e w' => e = .returned (.func (.func 15) #[] #[.pointer (some ⟨w.heap.size, 0, none⟩)]) ∧ w' = w.alloc (.cells #[.pointer p0] 26) := by
  go_enter Tryd.func6, Tryd.ntmps6
  go_wp2
  go_ret
  exact ⟨rfl, rfl⟩

/-- What All hands back gives all elements with their places, in order, or a part of them. -/
theorem all_stops (n : Nat) (Bt n₀ : Nat) (p0 : Option Addr) (T : Tr) (w : World) (hBt : Bt < w.heap.size) (hn₀ : n₀ ≤ w.heap.size) (hs : T.size ≤ 1000)
    (hc : w.cell? ⟨Bt, 0, none⟩ = some (.pointer p0)) (hT : IsT n₀ w p0 T) :
    SeqStopsK Fence.wide n Tryd.prog 15 #[.pointer (some ⟨Bt, 0, none⟩)] encs (Below n₀) (fun ys => ys = idx 0 T.els) (fun pre => pre <+: idx 0 T.els) T.size w := fun l J Jx W hW hJ _ hY h0 =>
  all1_in Fence.wide rfl n trivial trivial trivial rfl l Bt n₀ p0 T J Jx hs (fun pre W' o h => hJ pre W' _ none h (World.grownBy_alloc W' o none) (fun r e => by cases e)) hY W ((hW.cell (p := ⟨Bt, 0, none⟩) hBt).trans hc) (hT.below (hW.mono hn₀)) (Nat.le_trans hn₀ hW.size) h0
end Go.Proofs.YtjfffnnkkjceoaaDoor
