/-
  The contracts of a row's Rank and Select.
-/
import Derived.Test.YtjfffnnkkjceoaaDoorRow
import Derived.Deep.LoopGhost
namespace Go.Proofs.YtjfffnnkkjceoaaDoor
open Go Go.Proofs Go.RowKit

/-- How many are alive of the first i. -/
def rankT : Tr → Int → Nat
  | .nil, _ => 0
  | .node l x r, i => if i ≤ l.size then rankT l i else l.alive + x.al + rankT r (i - l.size - 1)
theorem rankT_le : ∀ (T : Tr) (i : Int), rankT T i ≤ T.alive
  | .nil, _ => Nat.le_refl _
  | .node l x r, i => by
    simp only [rankT]
    split
    · have := rankT_le l i; simp only [Tr.alive]; omega
    · have := rankT_le r (i - l.size - 1); simp only [Tr.alive]; omega
theorem rankT_1 {l r : Tr} (x : El) {i : Int} (h : i ≤ l.size) : rankT (.node l x r) i = rankT l i := by simp only [rankT]; rw [if_pos h]
theorem rankT_2 {l r : Tr} (x : El) {i : Int} (h : ¬ i ≤ l.size) : rankT (.node l x r) i = l.alive + x.al + rankT r (i - l.size - 1) := by simp only [rankT]; rw [if_neg h]
/-- Where Rank stands. -/
def RankAt (w : World) (T : Tr) (i : Int) (T' : Tr) (q : Option Addr) (i' acc : Int) (wr : World) : Prop :=
  Is wr q T' ∧ Below w.heap.size w wr ∧ acc + rankT T' i' = rankT T i ∧ 0 ≤ acc ∧ T'.size ≤ 800 ∧ i' ≤ 9223372036854775807

set_option maxHeartbeats 1600000 in
theorem rank_any {p : Option Addr} {T : Tr} (i : Int) (w : World) (h : Is w p T) (hs : T.size ≤ 800) (hi : i ≤ 9223372036854775807) :
    Calls Tryd.prog 13 #[.agg #[.pointer p], .int .i64 i] w fun e w' => e = .returned (.int .i64 (rankT T i : Int)) ∧ Below w.heap.size w w' := by
  have hb0 := (Below.refl w.heap.size w).alloc (Nat.le_refl _) (.cells #[.pointer p] 26)
  have H0 := Lib.hid (And.intro (h.next hb0) hb0)
  have HS := Lib.hid (show rankT T i ≤ 800 from by have := rankT_le T i; have := T.alive_le; omega)
  clear h hb0
  go_enter Tryd.func13, Tryd.ntmps13
  go_wp2
  go_loopg [1, 5, 6] T.size (fun g ti ta tn wr => ∃ (T' : Tr) (q : Option Addr) (i' acc : Int), g = T'.size ∧ ti = .int .i64 i' ∧ ta = .int .i64 acc ∧ tn = .pointer q ∧ RankAt w T i T' q i' acc wr)
  case atStart => exact ⟨T, p, i, 0, rfl, rfl, rfl, rfl, H0.out.1, H0.out.2, by omega, by omega, hs, hi⟩
  case round =>
    obtain ⟨T', q, i', acc, rfl, rfl, rfl, rfl, hR⟩ := hrel
    clear H0 hs hi
    obtain ⟨hT, hbel, hsum, hacc, hs, hi⟩ := hR
    cases T' with
    | nil =>
      obtain rfl : q = none := hT
      have HSum := Lib.hid hsum
      clear hsum
      go_wp2
      go_ret
      exact ⟨by rw [← HSum.out]; simp [rankT], hbel⟩
    | node l x r =>
      have hlr : l.size + 1 + r.size ≤ 800 := by simp only [Tr.size] at hs; omega
      have la := l.alive_le
      have xa := x.al_le
      have fs0 := fieldS0
      obtain ⟨b, pl, pr, rfl, -, hB, hl, hr⟩ := hT
      have HB := Lib.hid (And.intro hB (And.intro hl (And.intro hr hbel)))
      have c0 := hB.cell 0 rfl
      clear hB hl hr hbel hs
      by_cases hc : i' ≤ (l.size : Int)
      · have HSum := Lib.hid ((rankT_1 (r := r) x hc) ▸ hsum)
        clear hsum
        go_wp2_with (go_at_call 20; refine (total_any _ HB.out.2.1).mono ?_; rintro e w1 ⟨rfl, hb1⟩; refine Hid.out ?_)
        have hb2 := hb1.alloc hb1.size (.cells #[.int .i64 (l.size : Int), .int .i64 (l.alive : Int), .int .i64 (l.depth : Int)] 58)
        have hz0 := (Blk.start w1 [.int .i64 (l.size : Int), .int .i64 (l.alive : Int), .int .i64 (l.depth : Int)] 58).cell 0 rfl
        have d0 := (HB.out.1.next hb2).cell 0 rfl
        have HB2 := Lib.hid (And.intro (HB.out.2.1.next hb2) (HB.out.2.2.2.trans (hb2.mono HB.out.2.2.2.size)))
        clear hb1 hb2 HB c0
        refine Lib.hid ?_
        go_wp2_with fail
        go_roundg l.size
        case measure => simp only [Tr.size]; omega
        case rel => exact ⟨l, pl, i', acc, rfl, rfl, rfl, rfl, HB2.out.1, HB2.out.2, HSum.out, hacc, by omega, hi⟩
      · have HSum := Lib.hid ((rankT_2 (r := r) x hc) ▸ hsum)
        have hab : acc + (l.alive + x.al) ≤ 800 := by have := HS.out; have := HSum.out; omega
        clear hsum
        go_wp2_with (go_at_call 20; refine (total_any _ HB.out.2.1).mono ?_; rintro e w1 ⟨rfl, hb1⟩; refine Hid.out ?_)
        have hb2 := hb1.alloc hb1.size (.cells #[.int .i64 (l.size : Int), .int .i64 (l.alive : Int), .int .i64 (l.depth : Int)] 58)
        have hz0 := (Blk.start w1 [.int .i64 (l.size : Int), .int .i64 (l.alive : Int), .int .i64 (l.depth : Int)] 58).cell 0 rfl
        have HR := Lib.hid (show Pk (fun W => Below w.heap.size w W ∧ Is W pl l ∧ Is W pr r ∧ Blk W b [.pointer pl, .int .i64 x.c, .int .i64 x.s, .int .i32 x.ch, .bool x.d, .pointer pr, .int .i64 ((Tr.node l x r).size : Int), .int .i64 ((Tr.node l x r).alive : Int), .int .i64 ((Tr.node l x r).depth : Int)] 61 ∧ Blk W w1.heap.size [.int .i64 (l.size : Int), .int .i64 (l.alive : Int), .int .i64 (l.depth : Int)] 58) (w1.alloc (.cells #[.int .i64 (l.size : Int), .int .i64 (l.alive : Int), .int .i64 (l.depth : Int)] 58)) from ⟨HB.out.2.2.2.trans (hb2.mono HB.out.2.2.2.size), HB.out.2.1.next hb2, HB.out.2.2.1.next hb2, HB.out.1.next hb2, Blk.start _ _ _⟩)
        have hKp := Lib.hid (show ∀ W W' : World, Below W.heap.size W W' → Pk (fun W => Below w.heap.size w W ∧ Is W pl l ∧ Is W pr r ∧ Blk W b [.pointer pl, .int .i64 x.c, .int .i64 x.s, .int .i32 x.ch, .bool x.d, .pointer pr, .int .i64 ((Tr.node l x r).size : Int), .int .i64 ((Tr.node l x r).alive : Int), .int .i64 ((Tr.node l x r).depth : Int)] 61 ∧ Blk W w1.heap.size [.int .i64 (l.size : Int), .int .i64 (l.alive : Int), .int .i64 (l.depth : Int)] 58) W → (fun W => W.cell? ⟨b, 0, none⟩ = some (.pointer pl) ∧ W.cell? ⟨b, 1, none⟩ = some (.int .i64 x.c) ∧ W.cell? ⟨b, 2, none⟩ = some (.int .i64 x.s) ∧ W.cell? ⟨b, 3, none⟩ = some (.int .i32 x.ch) ∧ W.cell? ⟨b, 4, none⟩ = some (.bool x.d) ∧ W.cell? ⟨b, 5, none⟩ = some (.pointer pr) ∧ W.cell? ⟨w1.heap.size, 0, none⟩ = some (.int .i64 (l.size : Int)) ∧ W.cell? ⟨w1.heap.size, 1, none⟩ = some (.int .i64 (l.alive : Int)) ∧ W.cell? ⟨w1.heap.size, 2, none⟩ = some (.int .i64 (l.depth : Int)) ∧ Pk (fun W => Below w.heap.size w W ∧ Is W pl l ∧ Is W pr r ∧ Blk W b [.pointer pl, .int .i64 x.c, .int .i64 x.s, .int .i32 x.ch, .bool x.d, .pointer pr, .int .i64 ((Tr.node l x r).size : Int), .int .i64 ((Tr.node l x r).alive : Int), .int .i64 ((Tr.node l x r).depth : Int)] 61 ∧ Blk W w1.heap.size [.int .i64 (l.size : Int), .int .i64 (l.alive : Int), .int .i64 (l.depth : Int)] 58) W) W' from fun W W' hb h => ⟨(h.2.2.2.1.next hb).cell 0 rfl, (h.2.2.2.1.next hb).cell 1 rfl, (h.2.2.2.1.next hb).cell 2 rfl, (h.2.2.2.1.next hb).cell 3 rfl, (h.2.2.2.1.next hb).cell 4 rfl, (h.2.2.2.1.next hb).cell 5 rfl, (h.2.2.2.2.next hb).cell 0 rfl, (h.2.2.2.2.next hb).cell 1 rfl, (h.2.2.2.2.next hb).cell 2 rfl, ⟨h.1.trans (hb.mono h.1.size), h.2.1.next hb, h.2.2.1.next hb, h.2.2.2.1.next hb, h.2.2.2.2.next hb⟩⟩)
        clear hb1 hb2 HB c0
        refine Lib.hid ?_
        go_wp2_with fail
        generalize hW0 : w1.alloc (.cells #[.int .i64 (l.size : Int), .int .i64 (l.alive : Int), .int .i64 (l.depth : Int)] 58) = W0 at *
        clear hW0 hz0
        have s1 : IntKind.i64.wrap ((l.alive : Int) + x.al) = l.alive + x.al := IntWalk.i64_in _ (by omega)
        have s2 : IntKind.i64.wrap (acc + ((l.alive : Int) + x.al)) = acc + (l.alive + x.al) := IntWalk.i64_in _ (by omega)
        have s3 : IntKind.i64.wrap (i' - (l.size : Int)) = i' - l.size := IntWalk.i64_in _ (by omega)
        have s4 : IntKind.i64.wrap (i' - (l.size : Int) - 1) = i' - l.size - 1 := IntWalk.i64_in _ (by omega)
        refine wp_region_noPanic ?_
        refine wp_region_held_drew (S := (fun W => W.cell? ⟨b, 0, none⟩ = some (.pointer pl) ∧ W.cell? ⟨b, 1, none⟩ = some (.int .i64 x.c) ∧ W.cell? ⟨b, 2, none⟩ = some (.int .i64 x.s) ∧ W.cell? ⟨b, 3, none⟩ = some (.int .i32 x.ch) ∧ W.cell? ⟨b, 4, none⟩ = some (.bool x.d) ∧ W.cell? ⟨b, 5, none⟩ = some (.pointer pr) ∧ W.cell? ⟨w1.heap.size, 0, none⟩ = some (.int .i64 (l.size : Int)) ∧ W.cell? ⟨w1.heap.size, 1, none⟩ = some (.int .i64 (l.alive : Int)) ∧ W.cell? ⟨w1.heap.size, 2, none⟩ = some (.int .i64 (l.depth : Int)) ∧ Pk (fun W => Below w.heap.size w W ∧ Is W pl l ∧ Is W pr r ∧ Blk W b [.pointer pl, .int .i64 x.c, .int .i64 x.s, .int .i32 x.ch, .bool x.d, .pointer pr, .int .i64 ((Tr.node l x r).size : Int), .int .i64 ((Tr.node l x r).alive : Int), .int .i64 ((Tr.node l x r).depth : Int)] 61 ∧ Blk W w1.heap.size [.int .i64 (l.size : Int), .int .i64 (l.alive : Int), .int .i64 (l.depth : Int)] 58) W)) (by kernel_rfl) ?_ (fun hHeld => ?_)
        · exact hKp.out _ _ (Below.refl _ _).drew HR.out
        clear HR
        refine take1 (i := 0) (v := .int .i64 acc) rfl (by kernel_rfl) (by kernel_rfl) (by kernel_rfl) (fun _ _ _ h => h) (Or.inl ⟨by rfl, fun w hSw => ?_⟩) hHeld ?_
        · (go_simp)
        try simp only [Act.put, List.setIfInBounds_toArray, List.set_cons_zero, List.set_cons_succ]
        refine take1 (i := 1) (v := .pointer (some ⟨w1.heap.size, 1, none⟩)) rfl (by kernel_rfl) (by kernel_rfl) (by kernel_rfl) (fun _ _ _ h => h) (Or.inl ⟨by rfl, fun w hSw => ?_⟩) hHeld ?_
        · (go_simp)
        try simp only [Act.put, List.setIfInBounds_toArray, List.set_cons_zero, List.set_cons_succ]
        refine take1 (i := 2) (v := .int .i64 ((l.alive : Int))) rfl (by kernel_rfl) (by kernel_rfl) (by kernel_rfl) (fun _ _ _ h => h) (Or.inl ⟨by rfl, fun w hSw => ?_⟩) hHeld ?_
        · (go_simp)
        try simp only [Act.put, List.setIfInBounds_toArray, List.set_cons_zero, List.set_cons_succ]
        refine take1 (i := 3) (v := .pointer (some ⟨b, 0, none⟩)) rfl (by kernel_rfl) (by kernel_rfl) (by kernel_rfl) (fun _ _ _ h => h) (Or.inl ⟨by rfl, fun w hSw => ?_⟩) hHeld ?_
        · (go_simp)
        try simp only [Act.put, List.setIfInBounds_toArray, List.set_cons_zero, List.set_cons_succ]
        refine take1 (i := 4) (v := .pointer (some ⟨b, 0, none⟩)) rfl (by kernel_rfl) (by kernel_rfl) (by kernel_rfl) (fun _ _ _ h => h) (Or.inl ⟨by rfl, fun w hSw => ?_⟩) hHeld ?_
        · (go_simp)
        try simp only [Act.put, List.setIfInBounds_toArray, List.set_cons_zero, List.set_cons_succ]
        refine take1 (i := 5) (v := .pointer (some ⟨b, 1, none⟩)) rfl (by kernel_rfl) (by kernel_rfl) (by kernel_rfl) (fun _ _ _ h => h) (Or.inl ⟨by rfl, fun w hSw => ?_⟩) hHeld ?_
        · (go_simp)
        try simp only [Act.put, List.setIfInBounds_toArray, List.set_cons_zero, List.set_cons_succ]
        refine take1 (i := 6) (v := .agg #[.int .i64 x.c, .int .i64 x.s, .int .i32 x.ch, .bool x.d]) rfl (by kernel_rfl) (by kernel_rfl) (by kernel_rfl) (fun _ _ _ h => h) (Or.inl ⟨by rfl, fun w hSw => ?_⟩) hHeld ?_
        · (go_simp)
        try simp only [Act.put, List.setIfInBounds_toArray, List.set_cons_zero, List.set_cons_succ]
        refine wpAnyH_ready (rs := [7]) (by kernel_rfl) (by simp) ?_
        refine cons1 rfl (fun K hK => ?_) AllReadyH.nil
        go_simp
        refine (alive_any x _).mono ?_
        rintro e u2 ⟨rfl, hb⟩
        go_wp2_with fail
        refine hK.out _ _ (hKp.out _ _ hb hHeld.2.2.2.2.2.2.2.2.2) (fun hHeld2 => ?_)
        clear hK K hHeld hb
        have hHeld := hHeld2
        clear hHeld2
        try simp only [Act.put, List.setIfInBounds_toArray, List.set_cons_zero, List.set_cons_succ]
        refine take1 (i := 8) (v := .int .i64 ((l.alive : Int) + x.al)) rfl (by kernel_rfl) (by kernel_rfl) (by kernel_rfl) (fun _ _ _ h => h) (Or.inl ⟨by rfl, fun w hSw => ?_⟩) hHeld ?_
        · (go_simp)
        try simp only [Act.put, List.setIfInBounds_toArray, List.set_cons_zero, List.set_cons_succ]
        refine take1 (i := 9) (v := .int .i64 (acc + ((l.alive : Int) + x.al))) rfl (by kernel_rfl) (by kernel_rfl) (by kernel_rfl) (fun _ _ _ h => h) (Or.inl ⟨by rfl, fun w hSw => ?_⟩) hHeld ?_
        · (go_simp)
        try simp only [Act.put, List.setIfInBounds_toArray, List.set_cons_zero, List.set_cons_succ]
        refine take1 (i := 10) (v := .int .i64 (acc + ((l.alive : Int) + x.al))) rfl (by kernel_rfl) (by kernel_rfl) (by kernel_rfl) (fun _ _ _ h => h) (Or.inl ⟨by rfl, fun w hSw => ?_⟩) hHeld ?_
        · (go_simp)
        try simp only [Act.put, List.setIfInBounds_toArray, List.set_cons_zero, List.set_cons_succ]
        refine wpAnyH_done (by kernel_rfl) ?_ _
        refine NoPanic.normal ?_
        have HR := Lib.hid hHeld.2.2.2.2.2.2.2.2.2
        clear hHeld
        go_wp2_with fail
        refine wp_region_noPanic ?_
        refine wp_region_held_drew (S := (fun W => W.cell? ⟨b, 0, none⟩ = some (.pointer pl) ∧ W.cell? ⟨b, 1, none⟩ = some (.int .i64 x.c) ∧ W.cell? ⟨b, 2, none⟩ = some (.int .i64 x.s) ∧ W.cell? ⟨b, 3, none⟩ = some (.int .i32 x.ch) ∧ W.cell? ⟨b, 4, none⟩ = some (.bool x.d) ∧ W.cell? ⟨b, 5, none⟩ = some (.pointer pr) ∧ W.cell? ⟨w1.heap.size, 0, none⟩ = some (.int .i64 (l.size : Int)) ∧ W.cell? ⟨w1.heap.size, 1, none⟩ = some (.int .i64 (l.alive : Int)) ∧ W.cell? ⟨w1.heap.size, 2, none⟩ = some (.int .i64 (l.depth : Int)) ∧ Pk (fun W => Below w.heap.size w W ∧ Is W pl l ∧ Is W pr r ∧ Blk W b [.pointer pl, .int .i64 x.c, .int .i64 x.s, .int .i32 x.ch, .bool x.d, .pointer pr, .int .i64 ((Tr.node l x r).size : Int), .int .i64 ((Tr.node l x r).alive : Int), .int .i64 ((Tr.node l x r).depth : Int)] 61 ∧ Blk W w1.heap.size [.int .i64 (l.size : Int), .int .i64 (l.alive : Int), .int .i64 (l.depth : Int)] 58) W)) (by kernel_rfl) ?_ (fun hHeld => ?_)
        · exact hKp.out _ _ (Below.refl _ _).drew HR.out
        clear HR
        refine take1 (i := 0) (v := .pointer (some ⟨b, 0, none⟩)) rfl (by kernel_rfl) (by kernel_rfl) (by kernel_rfl) (fun _ _ _ h => h) (Or.inl ⟨by rfl, fun w hSw => ?_⟩) hHeld ?_
        · (go_simp)
        try simp only [Act.put, List.setIfInBounds_toArray, List.set_cons_zero, List.set_cons_succ]
        refine take1 (i := 1) (v := .pointer (some ⟨b, 0, none⟩)) rfl (by kernel_rfl) (by kernel_rfl) (by kernel_rfl) (fun _ _ _ h => h) (Or.inl ⟨by rfl, fun w hSw => ?_⟩) hHeld ?_
        · (go_simp)
        try simp only [Act.put, List.setIfInBounds_toArray, List.set_cons_zero, List.set_cons_succ]
        refine take1 (i := 2) (v := .pointer (some ⟨b, 5, none⟩)) rfl (by kernel_rfl) (by kernel_rfl) (by kernel_rfl) (fun _ _ _ h => h) (Or.inl ⟨by rfl, fun w hSw => ?_⟩) hHeld ?_
        · (go_simp)
        try simp only [Act.put, List.setIfInBounds_toArray, List.set_cons_zero, List.set_cons_succ]
        refine take1 (i := 3) (v := .pointer pr) rfl (by kernel_rfl) (by kernel_rfl) (by kernel_rfl) (fun _ _ _ h => h) (Or.inl ⟨by rfl, fun w hSw => ?_⟩) hHeld ?_
        · (go_simp)
        try simp only [Act.put, List.setIfInBounds_toArray, List.set_cons_zero, List.set_cons_succ]
        refine take1 (i := 4) (v := .int .i64 i') rfl (by kernel_rfl) (by kernel_rfl) (by kernel_rfl) (fun _ _ _ h => h) (Or.inl ⟨by rfl, fun w hSw => ?_⟩) hHeld ?_
        · (go_simp)
        try simp only [Act.put, List.setIfInBounds_toArray, List.set_cons_zero, List.set_cons_succ]
        refine take1 (i := 5) (v := .pointer (some ⟨w1.heap.size, 0, none⟩)) rfl (by kernel_rfl) (by kernel_rfl) (by kernel_rfl) (fun _ _ _ h => h) (Or.inl ⟨by rfl, fun w hSw => ?_⟩) hHeld ?_
        · (go_simp)
        try simp only [Act.put, List.setIfInBounds_toArray, List.set_cons_zero, List.set_cons_succ]
        refine take1 (i := 6) (v := .int .i64 ((l.size : Int))) rfl (by kernel_rfl) (by kernel_rfl) (by kernel_rfl) (fun _ _ _ h => h) (Or.inl ⟨by rfl, fun w hSw => ?_⟩) hHeld ?_
        · (go_simp)
        try simp only [Act.put, List.setIfInBounds_toArray, List.set_cons_zero, List.set_cons_succ]
        refine take1 (i := 7) (v := .int .i64 (i' - (l.size : Int))) rfl (by kernel_rfl) (by kernel_rfl) (by kernel_rfl) (fun _ _ _ h => h) (Or.inl ⟨by rfl, fun w hSw => ?_⟩) hHeld ?_
        · (go_simp)
        try simp only [Act.put, List.setIfInBounds_toArray, List.set_cons_zero, List.set_cons_succ]
        refine take1 (i := 8) (v := .int .i64 (i' - (l.size : Int) - 1)) rfl (by kernel_rfl) (by kernel_rfl) (by kernel_rfl) (fun _ _ _ h => h) (Or.inl ⟨by rfl, fun w hSw => ?_⟩) hHeld ?_
        · (go_simp)
        try simp only [Act.put, List.setIfInBounds_toArray, List.set_cons_zero, List.set_cons_succ]
        refine take1 (i := 9) (v := .pointer pr) rfl (by kernel_rfl) (by kernel_rfl) (by kernel_rfl) (fun _ _ _ h => h) (Or.inl ⟨by rfl, fun w hSw => ?_⟩) hHeld ?_
        · (go_simp)
        try simp only [Act.put, List.setIfInBounds_toArray, List.set_cons_zero, List.set_cons_succ]
        refine take1 (i := 10) (v := .int .i64 (i' - (l.size : Int) - 1)) rfl (by kernel_rfl) (by kernel_rfl) (by kernel_rfl) (fun _ _ _ h => h) (Or.inl ⟨by rfl, fun w hSw => ?_⟩) hHeld ?_
        · (go_simp)
        try simp only [Act.put, List.setIfInBounds_toArray, List.set_cons_zero, List.set_cons_succ]
        refine wpAnyH_done (by kernel_rfl) ?_ _
        refine NoPanic.normal ?_
        have HR := Lib.hid hHeld.2.2.2.2.2.2.2.2.2
        clear hHeld
        clear s1 s2 s3 s4
        go_wp2_with fail
        go_roundg r.size
        case measure => simp only [Tr.size]; omega
        case rel => exact ⟨r, pr, i' - l.size - 1, acc + (l.alive + x.al), rfl, rfl, rfl, rfl, HR.out.2.2.1, HR.out.1, by have := HSum.out; omega, by omega, by omega, by omega⟩
end Go.Proofs.YtjfffnnkkjceoaaDoor
