/-
  The contracts of turnRight and turnLeft.
-/
import Derived.Test.YtjfffnnkkjceoaaDoorJoin
namespace Go.Proofs.YtjfffnnkkjceoaaDoor
open Go Go.Proofs Go.RowKit

/-- Held by a name that the walk does not open. -/
def Pk (P : World → Prop) (W : World) : Prop := P W

/-- A left side that is too deep. -/
def turnR (A : Tr) (y : El) (I : Tr) (x : El) (R : Tr) : Tr :=
  if I.depth ≤ A.depth then .node A y (.node I x R) else
    match I with
    | .nil => .nil
    | .node B z C => .node (.node A y B) z (.node C x R)
/-- A right side that is too deep. -/
def turnL (L : Tr) (x : El) (I : Tr) (y : El) (C : Tr) : Tr :=
  if I.depth ≤ C.depth then .node (.node L x I) y C else
    match I with
    | .nil => .nil
    | .node B z D => .node (.node L x B) z (.node D y C)

set_option maxHeartbeats 1600000 in
theorem turnRight_1 {pa0 pr : Option Addr} {A I R : Tr} (y x : El) (w : World) (hd : Is w pa0 (.node A y I)) (ho : Is w pr R) (hs : A.size + I.size + R.size ≤ 900) (hc : I.depth ≤ A.depth) :
    Calls Tryd.prog 34 #[.pointer pa0, .agg #[.int .i64 x.c, .int .i64 x.s, .int .i32 x.ch, .bool x.d], .pointer pr] w (RetT (Tr.node A y (.node I x R)) w) := by
  obtain ⟨b, pa, pi, rfl, -, hB, hA, hI⟩ := hd
  have hb0 := (Below.refl w.heap.size w).alloc (Nat.le_refl _) (.cells #[.int .i64 x.c, .int .i64 x.s, .int .i32 x.ch, .bool x.d] 30)
  have HR := Lib.hid (show Pk (fun W => Below w.heap.size w W ∧ Is W pr R ∧ Is W pa A ∧ Is W pi I ∧ Blk W b [.pointer pa, .int .i64 y.c, .int .i64 y.s, .int .i32 y.ch, .bool y.d, .pointer pi, .int .i64 ((Tr.node A y I).size : Int), .int .i64 ((Tr.node A y I).alive : Int), .int .i64 ((Tr.node A y I).depth : Int)] 61 ∧ Blk W w.heap.size [.int .i64 x.c, .int .i64 x.s, .int .i32 x.ch, .bool x.d] 30) (w.alloc (.cells #[.int .i64 x.c, .int .i64 x.s, .int .i32 x.ch, .bool x.d] 30)) from ⟨hb0, ho.next hb0, hA.next hb0, hI.next hb0, hB.next hb0, Blk.start _ _ _⟩)
  have hKp := Lib.hid (show ∀ W W' : World, Below W.heap.size W W' → Pk (fun W => Below w.heap.size w W ∧ Is W pr R ∧ Is W pa A ∧ Is W pi I ∧ Blk W b [.pointer pa, .int .i64 y.c, .int .i64 y.s, .int .i32 y.ch, .bool y.d, .pointer pi, .int .i64 ((Tr.node A y I).size : Int), .int .i64 ((Tr.node A y I).alive : Int), .int .i64 ((Tr.node A y I).depth : Int)] 61 ∧ Blk W w.heap.size [.int .i64 x.c, .int .i64 x.s, .int .i32 x.ch, .bool x.d] 30) W → (fun W => W.cell? ⟨b, 0, none⟩ = some (.pointer pa) ∧ W.cell? ⟨b, 1, none⟩ = some (.int .i64 y.c) ∧ W.cell? ⟨b, 2, none⟩ = some (.int .i64 y.s) ∧ W.cell? ⟨b, 3, none⟩ = some (.int .i32 y.ch) ∧ W.cell? ⟨b, 4, none⟩ = some (.bool y.d) ∧ W.cell? ⟨b, 5, none⟩ = some (.pointer pi) ∧ W.cell? ⟨w.heap.size, 0, none⟩ = some (.int .i64 x.c) ∧ W.cell? ⟨w.heap.size, 1, none⟩ = some (.int .i64 x.s) ∧ W.cell? ⟨w.heap.size, 2, none⟩ = some (.int .i32 x.ch) ∧ W.cell? ⟨w.heap.size, 3, none⟩ = some (.bool x.d) ∧ Pk (fun W => Below w.heap.size w W ∧ Is W pr R ∧ Is W pa A ∧ Is W pi I ∧ Blk W b [.pointer pa, .int .i64 y.c, .int .i64 y.s, .int .i32 y.ch, .bool y.d, .pointer pi, .int .i64 ((Tr.node A y I).size : Int), .int .i64 ((Tr.node A y I).alive : Int), .int .i64 ((Tr.node A y I).depth : Int)] 61 ∧ Blk W w.heap.size [.int .i64 x.c, .int .i64 x.s, .int .i32 x.ch, .bool x.d] 30) W) W' from fun W W' hb h => ⟨(h.2.2.2.2.1.next hb).cell 0 rfl, (h.2.2.2.2.1.next hb).cell 1 rfl, (h.2.2.2.2.1.next hb).cell 2 rfl, (h.2.2.2.2.1.next hb).cell 3 rfl, (h.2.2.2.2.1.next hb).cell 4 rfl, (h.2.2.2.2.1.next hb).cell 5 rfl, (h.2.2.2.2.2.next hb).cell 0 rfl, (h.2.2.2.2.2.next hb).cell 1 rfl, (h.2.2.2.2.2.next hb).cell 2 rfl, (h.2.2.2.2.2.next hb).cell 3 rfl, ⟨h.1.trans (hb.mono h.1.size), h.2.1.next hb, h.2.2.1.next hb, h.2.2.2.1.next hb, h.2.2.2.2.1.next hb, h.2.2.2.2.2.next hb⟩⟩)
  clear hb0 ho hA hI hB
  have fs2 := fieldS2
  have hc0 := (HR.out.2.2.2.2.1).cell 5 rfl
  go_enter Tryd.func34, Tryd.ntmps34
  go_wp2_with fail
  clear hc0
  generalize hW0 : w.alloc (.cells #[.int .i64 x.c, .int .i64 x.s, .int .i32 x.ch, .bool x.d] 30) = W0 at *
  clear hW0
  refine wp_region_noPanic ?_
  refine wp_region_held_drew (S := (fun W => W.cell? ⟨b, 0, none⟩ = some (.pointer pa) ∧ W.cell? ⟨b, 1, none⟩ = some (.int .i64 y.c) ∧ W.cell? ⟨b, 2, none⟩ = some (.int .i64 y.s) ∧ W.cell? ⟨b, 3, none⟩ = some (.int .i32 y.ch) ∧ W.cell? ⟨b, 4, none⟩ = some (.bool y.d) ∧ W.cell? ⟨b, 5, none⟩ = some (.pointer pi) ∧ W.cell? ⟨w.heap.size, 0, none⟩ = some (.int .i64 x.c) ∧ W.cell? ⟨w.heap.size, 1, none⟩ = some (.int .i64 x.s) ∧ W.cell? ⟨w.heap.size, 2, none⟩ = some (.int .i32 x.ch) ∧ W.cell? ⟨w.heap.size, 3, none⟩ = some (.bool x.d) ∧ Pk (fun W => Below w.heap.size w W ∧ Is W pr R ∧ Is W pa A ∧ Is W pi I ∧ Blk W b [.pointer pa, .int .i64 y.c, .int .i64 y.s, .int .i32 y.ch, .bool y.d, .pointer pi, .int .i64 ((Tr.node A y I).size : Int), .int .i64 ((Tr.node A y I).alive : Int), .int .i64 ((Tr.node A y I).depth : Int)] 61 ∧ Blk W w.heap.size [.int .i64 x.c, .int .i64 x.s, .int .i32 x.ch, .bool x.d] 30) W)) (by kernel_rfl) ?_ (fun hHeld => ?_)
  · exact hKp.out _ _ (Below.refl _ _).drew HR.out
  clear HR
  refine take1 (i := 0) (v := .pointer pi) rfl (by kernel_rfl) (by kernel_rfl) (by kernel_rfl) (fun _ _ _ h => h) (Or.inl ⟨by rfl, fun w hSw => ?_⟩) hHeld ?_
  · (go_simp)
  try simp only [Act.put, List.setIfInBounds_toArray, List.set_cons_zero, List.set_cons_succ]
  refine take1 (i := 3) (v := .pointer (some ⟨b, 0, none⟩)) rfl (by kernel_rfl) (by kernel_rfl) (by kernel_rfl) (fun _ _ _ h => h) (Or.inl ⟨by rfl, fun w hSw => ?_⟩) hHeld ?_
  · (go_simp)
  try simp only [Act.put, List.setIfInBounds_toArray, List.set_cons_zero, List.set_cons_succ]
  refine take1 (i := 4) (v := .pointer (some ⟨b, 0, none⟩)) rfl (by kernel_rfl) (by kernel_rfl) (by kernel_rfl) (fun _ _ _ h => h) (Or.inl ⟨by rfl, fun w hSw => ?_⟩) hHeld ?_
  · (go_simp)
  try simp only [Act.put, List.setIfInBounds_toArray, List.set_cons_zero, List.set_cons_succ]
  refine take1 (i := 5) (v := .pointer (some ⟨b, 0, none⟩)) rfl (by kernel_rfl) (by kernel_rfl) (by kernel_rfl) (fun _ _ _ h => h) (Or.inl ⟨by rfl, fun w hSw => ?_⟩) hHeld ?_
  · (go_simp)
  try simp only [Act.put, List.setIfInBounds_toArray, List.set_cons_zero, List.set_cons_succ]
  refine take1 (i := 6) (v := .pointer pa) rfl (by kernel_rfl) (by kernel_rfl) (by kernel_rfl) (fun _ _ _ h => h) (Or.inl ⟨by rfl, fun w hSw => ?_⟩) hHeld ?_
  · (go_simp)
  try simp only [Act.put, List.setIfInBounds_toArray, List.set_cons_zero, List.set_cons_succ]
  refine wpAnyH_ready (rs := [1]) (by kernel_rfl) (by simp) ?_
  refine cons1 rfl (fun K hK => ?_) AllReadyH.nil
  go_simp
  refine (total_any _ (hHeld.2.2.2.2.2.2.2.2.2.2.2.2.2.1)).mono ?_
  rintro e u1 ⟨rfl, hb⟩
  go_wp2_with fail
  refine hK.out _ _ (hKp.out _ _ hb hHeld.2.2.2.2.2.2.2.2.2.2) (fun hHeld2 => ?_)
  clear hK K hHeld hb
  have hHeld := hHeld2
  clear hHeld2
  try simp only [Act.put, List.setIfInBounds_toArray, List.set_cons_zero, List.set_cons_succ]
  refine take1 (i := 2) (v := .int .i64 ((I.depth : Int))) rfl (by kernel_rfl) (by kernel_rfl) (by kernel_rfl) (fun _ _ _ h => h) (Or.inl ⟨by rfl, fun w hSw => ?_⟩) hHeld ?_
  · (go_simp)
  try simp only [Act.put, List.setIfInBounds_toArray, List.set_cons_zero, List.set_cons_succ]
  refine wpAnyH_ready (rs := [7]) (by kernel_rfl) (by simp) ?_
  refine cons1 rfl (fun K hK => ?_) AllReadyH.nil
  go_simp
  refine (total_any _ (hHeld.2.2.2.2.2.2.2.2.2.2.2.2.1)).mono ?_
  rintro e u2 ⟨rfl, hb⟩
  go_wp2_with fail
  refine hK.out _ _ (hKp.out _ _ hb hHeld.2.2.2.2.2.2.2.2.2.2) (fun hHeld2 => ?_)
  clear hK K hHeld hb
  have hHeld := hHeld2
  clear hHeld2
  try simp only [Act.put, List.setIfInBounds_toArray, List.set_cons_zero, List.set_cons_succ]
  refine take1 (i := 8) (v := .int .i64 ((A.depth : Int))) rfl (by kernel_rfl) (by kernel_rfl) (by kernel_rfl) (fun _ _ _ h => h) (Or.inl ⟨by rfl, fun w hSw => ?_⟩) hHeld ?_
  · (go_simp)
  try simp only [Act.put, List.setIfInBounds_toArray, List.set_cons_zero, List.set_cons_succ]
  refine take1 (i := 9) (v := .bool true) rfl (by kernel_rfl) (by kernel_rfl) (by kernel_rfl) (fun _ _ _ h => h) (Or.inl ⟨by rfl, fun w hSw => ?_⟩) hHeld ?_
  · (go_simp)
  try simp only [Act.put, List.setIfInBounds_toArray, List.set_cons_zero, List.set_cons_succ]
  refine wpAnyH_done (by kernel_rfl) ?_ _
  refine NoPanic.normal ?_
  have HR := Lib.hid hHeld.2.2.2.2.2.2.2.2.2.2
  clear hHeld
  go_wp2_with fail
  refine wp_region_noPanic ?_
  refine wp_region_held_drew (S := (fun W => W.cell? ⟨b, 0, none⟩ = some (.pointer pa) ∧ W.cell? ⟨b, 1, none⟩ = some (.int .i64 y.c) ∧ W.cell? ⟨b, 2, none⟩ = some (.int .i64 y.s) ∧ W.cell? ⟨b, 3, none⟩ = some (.int .i32 y.ch) ∧ W.cell? ⟨b, 4, none⟩ = some (.bool y.d) ∧ W.cell? ⟨b, 5, none⟩ = some (.pointer pi) ∧ W.cell? ⟨w.heap.size, 0, none⟩ = some (.int .i64 x.c) ∧ W.cell? ⟨w.heap.size, 1, none⟩ = some (.int .i64 x.s) ∧ W.cell? ⟨w.heap.size, 2, none⟩ = some (.int .i32 x.ch) ∧ W.cell? ⟨w.heap.size, 3, none⟩ = some (.bool x.d) ∧ Pk (fun W => Below w.heap.size w W ∧ Is W pr R ∧ Is W pa A ∧ Is W pi I ∧ Blk W b [.pointer pa, .int .i64 y.c, .int .i64 y.s, .int .i32 y.ch, .bool y.d, .pointer pi, .int .i64 ((Tr.node A y I).size : Int), .int .i64 ((Tr.node A y I).alive : Int), .int .i64 ((Tr.node A y I).depth : Int)] 61 ∧ Blk W w.heap.size [.int .i64 x.c, .int .i64 x.s, .int .i32 x.ch, .bool x.d] 30) W)) (by kernel_rfl) ?_ (fun hHeld => ?_)
  · exact hKp.out _ _ (Below.refl _ _).drew HR.out
  clear HR
  refine take1 (i := 0) (v := .pointer (some ⟨b, 0, none⟩)) rfl (by kernel_rfl) (by kernel_rfl) (by kernel_rfl) (fun _ _ _ h => h) (Or.inl ⟨by rfl, fun w hSw => ?_⟩) hHeld ?_
  · (go_simp)
  try simp only [Act.put, List.setIfInBounds_toArray, List.set_cons_zero, List.set_cons_succ]
  refine take1 (i := 1) (v := .pointer (some ⟨b, 0, none⟩)) rfl (by kernel_rfl) (by kernel_rfl) (by kernel_rfl) (fun _ _ _ h => h) (Or.inl ⟨by rfl, fun w hSw => ?_⟩) hHeld ?_
  · (go_simp)
  try simp only [Act.put, List.setIfInBounds_toArray, List.set_cons_zero, List.set_cons_succ]
  refine take1 (i := 2) (v := .pointer (some ⟨b, 0, none⟩)) rfl (by kernel_rfl) (by kernel_rfl) (by kernel_rfl) (fun _ _ _ h => h) (Or.inl ⟨by rfl, fun w hSw => ?_⟩) hHeld ?_
  · (go_simp)
  try simp only [Act.put, List.setIfInBounds_toArray, List.set_cons_zero, List.set_cons_succ]
  refine take1 (i := 3) (v := .pointer pa) rfl (by kernel_rfl) (by kernel_rfl) (by kernel_rfl) (fun _ _ _ h => h) (Or.inl ⟨by rfl, fun w hSw => ?_⟩) hHeld ?_
  · (go_simp)
  try simp only [Act.put, List.setIfInBounds_toArray, List.set_cons_zero, List.set_cons_succ]
  refine take1 (i := 4) (v := .pointer (some ⟨b, 0, none⟩)) rfl (by kernel_rfl) (by kernel_rfl) (by kernel_rfl) (fun _ _ _ h => h) (Or.inl ⟨by rfl, fun w hSw => ?_⟩) hHeld ?_
  · (go_simp)
  try simp only [Act.put, List.setIfInBounds_toArray, List.set_cons_zero, List.set_cons_succ]
  refine take1 (i := 5) (v := .pointer (some ⟨b, 0, none⟩)) rfl (by kernel_rfl) (by kernel_rfl) (by kernel_rfl) (fun _ _ _ h => h) (Or.inl ⟨by rfl, fun w hSw => ?_⟩) hHeld ?_
  · (go_simp)
  try simp only [Act.put, List.setIfInBounds_toArray, List.set_cons_zero, List.set_cons_succ]
  refine take1 (i := 6) (v := .pointer (some ⟨b, 1, none⟩)) rfl (by kernel_rfl) (by kernel_rfl) (by kernel_rfl) (fun _ _ _ h => h) (Or.inl ⟨by rfl, fun w hSw => ?_⟩) hHeld ?_
  · (go_simp)
  try simp only [Act.put, List.setIfInBounds_toArray, List.set_cons_zero, List.set_cons_succ]
  refine take1 (i := 7) (v := .agg #[.int .i64 y.c, .int .i64 y.s, .int .i32 y.ch, .bool y.d]) rfl (by kernel_rfl) (by kernel_rfl) (by kernel_rfl) (fun _ _ _ h => h) (Or.inl ⟨by rfl, fun w hSw => ?_⟩) hHeld ?_
  · (go_simp)
  try simp only [Act.put, List.setIfInBounds_toArray, List.set_cons_zero, List.set_cons_succ]
  refine take1 (i := 8) (v := .pointer pi) rfl (by kernel_rfl) (by kernel_rfl) (by kernel_rfl) (fun _ _ _ h => h) (Or.inl ⟨by rfl, fun w hSw => ?_⟩) hHeld ?_
  · (go_simp)
  try simp only [Act.put, List.setIfInBounds_toArray, List.set_cons_zero, List.set_cons_succ]
  refine take1 (i := 9) (v := .agg #[.int .i64 x.c, .int .i64 x.s, .int .i32 x.ch, .bool x.d]) rfl (by kernel_rfl) (by kernel_rfl) (by kernel_rfl) (fun _ _ _ h => h) (Or.inl ⟨by rfl, fun w hSw => ?_⟩) hHeld ?_
  · (go_simp)
  try simp only [Act.put, List.setIfInBounds_toArray, List.set_cons_zero, List.set_cons_succ]
  refine take1 (i := 10) (v := .pointer pr) rfl (by kernel_rfl) (by kernel_rfl) (by kernel_rfl) (fun _ _ _ h => h) (Or.inl ⟨by rfl, fun w hSw => ?_⟩) hHeld ?_
  · (go_simp)
  try simp only [Act.put, List.setIfInBounds_toArray, List.set_cons_zero, List.set_cons_succ]
  refine wpAnyH_ready (rs := [11]) (by kernel_rfl) (by simp) ?_
  refine cons1 rfl (fun K hK => ?_) AllReadyH.nil
  go_simp
  refine (join_any x _ (hHeld.2.2.2.2.2.2.2.2.2.2.2.2.2.1) (hHeld.2.2.2.2.2.2.2.2.2.2.2.1) (by first | omega | (simp only [Tr.size] at hs ⊢; omega) | (simp only [Tr.size]; omega))).mono ?_
  rintro e u3 ⟨q3, rfl, hq3, hb⟩
  go_wp2_with fail
  refine hK.out _ _ (hKp.out _ _ hb hHeld.2.2.2.2.2.2.2.2.2.2) (fun hHeld2 => ?_)
  clear hK K hHeld hb
  have hHeld := hHeld2
  clear hHeld2
  try simp only [Act.put, List.setIfInBounds_toArray, List.set_cons_zero, List.set_cons_succ]
  refine wpAnyH_ready (rs := [12]) (by kernel_rfl) (by simp) ?_
  refine cons1 rfl (fun K hK => ?_) AllReadyH.nil
  go_simp
  refine (join_any y _ (hHeld.2.2.2.2.2.2.2.2.2.2.2.2.1) (hq3) (by first | omega | (simp only [Tr.size] at hs ⊢; omega) | (simp only [Tr.size]; omega))).mono ?_
  rintro e u4 ⟨q4, rfl, hq4, hb⟩
  go_wp2_with fail
  refine hK.out _ _ (hKp.out _ _ hb hHeld.2.2.2.2.2.2.2.2.2.2) (fun hHeld2 => ?_)
  have hq32 := hq3.next hb
  clear hq3
  have hq3 := hq32
  clear hq32
  clear hK K hHeld hb
  have hHeld := hHeld2
  clear hHeld2
  try simp only [Act.put, List.setIfInBounds_toArray, List.set_cons_zero, List.set_cons_succ]
  refine take1 (i := 13) (v := .pointer q4) rfl (by kernel_rfl) (by kernel_rfl) (by kernel_rfl) (fun _ _ _ h => h) (Or.inl ⟨by rfl, fun w hSw => ?_⟩) hHeld ?_
  · (go_simp)
  try simp only [Act.put, List.setIfInBounds_toArray, List.set_cons_zero, List.set_cons_succ]
  refine wpAnyH_done (by kernel_rfl) ?_ _
  refine NoPanic.normal ?_
  have HR := Lib.hid hHeld.2.2.2.2.2.2.2.2.2.2
  clear hHeld
  go_wp2_with fail
  go_ret
  exact ⟨_, rfl, hq4, HR.out.1⟩

set_option maxHeartbeats 1600000 in
theorem turnRight_2 {pa0 pr : Option Addr} {A B C R : Tr} (y z x : El) (w : World) (hd : Is w pa0 (.node A y (.node B z C))) (ho : Is w pr R) (hs : A.size + (Tr.node B z C).size + R.size ≤ 900) (hc : ¬ (Tr.node B z C).depth ≤ A.depth) :
    Calls Tryd.prog 34 #[.pointer pa0, .agg #[.int .i64 x.c, .int .i64 x.s, .int .i32 x.ch, .bool x.d], .pointer pr] w (RetT (Tr.node (.node A y B) z (.node C x R)) w) := by
  obtain ⟨b, pa, pi, rfl, -, hB, hA, hI⟩ := hd
  have hI0 := hI
  obtain ⟨c, pb, pc, rfl, -, hC, hBt, hCt⟩ := hI0
  have hb0 := (Below.refl w.heap.size w).alloc (Nat.le_refl _) (.cells #[.int .i64 x.c, .int .i64 x.s, .int .i32 x.ch, .bool x.d] 30)
  have HR := Lib.hid (show Pk (fun W => Below w.heap.size w W ∧ Is W pr R ∧ Is W pa A ∧ Is W (some ⟨c, 0, none⟩) (Tr.node B z C) ∧ Is W pb B ∧ Is W pc C ∧ Blk W b [.pointer pa, .int .i64 y.c, .int .i64 y.s, .int .i32 y.ch, .bool y.d, .pointer (some ⟨c, 0, none⟩), .int .i64 ((Tr.node A y (Tr.node B z C)).size : Int), .int .i64 ((Tr.node A y (Tr.node B z C)).alive : Int), .int .i64 ((Tr.node A y (Tr.node B z C)).depth : Int)] 61 ∧ Blk W c [.pointer pb, .int .i64 z.c, .int .i64 z.s, .int .i32 z.ch, .bool z.d, .pointer pc, .int .i64 ((Tr.node B z C).size : Int), .int .i64 ((Tr.node B z C).alive : Int), .int .i64 ((Tr.node B z C).depth : Int)] 61 ∧ Blk W w.heap.size [.int .i64 x.c, .int .i64 x.s, .int .i32 x.ch, .bool x.d] 30) (w.alloc (.cells #[.int .i64 x.c, .int .i64 x.s, .int .i32 x.ch, .bool x.d] 30)) from ⟨hb0, ho.next hb0, hA.next hb0, hI.next hb0, hBt.next hb0, hCt.next hb0, hB.next hb0, hC.next hb0, Blk.start _ _ _⟩)
  have hKp := Lib.hid (show ∀ W W' : World, Below W.heap.size W W' → Pk (fun W => Below w.heap.size w W ∧ Is W pr R ∧ Is W pa A ∧ Is W (some ⟨c, 0, none⟩) (Tr.node B z C) ∧ Is W pb B ∧ Is W pc C ∧ Blk W b [.pointer pa, .int .i64 y.c, .int .i64 y.s, .int .i32 y.ch, .bool y.d, .pointer (some ⟨c, 0, none⟩), .int .i64 ((Tr.node A y (Tr.node B z C)).size : Int), .int .i64 ((Tr.node A y (Tr.node B z C)).alive : Int), .int .i64 ((Tr.node A y (Tr.node B z C)).depth : Int)] 61 ∧ Blk W c [.pointer pb, .int .i64 z.c, .int .i64 z.s, .int .i32 z.ch, .bool z.d, .pointer pc, .int .i64 ((Tr.node B z C).size : Int), .int .i64 ((Tr.node B z C).alive : Int), .int .i64 ((Tr.node B z C).depth : Int)] 61 ∧ Blk W w.heap.size [.int .i64 x.c, .int .i64 x.s, .int .i32 x.ch, .bool x.d] 30) W → (fun W => W.cell? ⟨b, 0, none⟩ = some (.pointer pa) ∧ W.cell? ⟨b, 1, none⟩ = some (.int .i64 y.c) ∧ W.cell? ⟨b, 2, none⟩ = some (.int .i64 y.s) ∧ W.cell? ⟨b, 3, none⟩ = some (.int .i32 y.ch) ∧ W.cell? ⟨b, 4, none⟩ = some (.bool y.d) ∧ W.cell? ⟨b, 5, none⟩ = some (.pointer (some ⟨c, 0, none⟩)) ∧ W.cell? ⟨c, 0, none⟩ = some (.pointer pb) ∧ W.cell? ⟨c, 1, none⟩ = some (.int .i64 z.c) ∧ W.cell? ⟨c, 2, none⟩ = some (.int .i64 z.s) ∧ W.cell? ⟨c, 3, none⟩ = some (.int .i32 z.ch) ∧ W.cell? ⟨c, 4, none⟩ = some (.bool z.d) ∧ W.cell? ⟨c, 5, none⟩ = some (.pointer pc) ∧ W.cell? ⟨w.heap.size, 0, none⟩ = some (.int .i64 x.c) ∧ W.cell? ⟨w.heap.size, 1, none⟩ = some (.int .i64 x.s) ∧ W.cell? ⟨w.heap.size, 2, none⟩ = some (.int .i32 x.ch) ∧ W.cell? ⟨w.heap.size, 3, none⟩ = some (.bool x.d) ∧ Pk (fun W => Below w.heap.size w W ∧ Is W pr R ∧ Is W pa A ∧ Is W (some ⟨c, 0, none⟩) (Tr.node B z C) ∧ Is W pb B ∧ Is W pc C ∧ Blk W b [.pointer pa, .int .i64 y.c, .int .i64 y.s, .int .i32 y.ch, .bool y.d, .pointer (some ⟨c, 0, none⟩), .int .i64 ((Tr.node A y (Tr.node B z C)).size : Int), .int .i64 ((Tr.node A y (Tr.node B z C)).alive : Int), .int .i64 ((Tr.node A y (Tr.node B z C)).depth : Int)] 61 ∧ Blk W c [.pointer pb, .int .i64 z.c, .int .i64 z.s, .int .i32 z.ch, .bool z.d, .pointer pc, .int .i64 ((Tr.node B z C).size : Int), .int .i64 ((Tr.node B z C).alive : Int), .int .i64 ((Tr.node B z C).depth : Int)] 61 ∧ Blk W w.heap.size [.int .i64 x.c, .int .i64 x.s, .int .i32 x.ch, .bool x.d] 30) W) W' from fun W W' hb h => ⟨(h.2.2.2.2.2.2.1.next hb).cell 0 rfl, (h.2.2.2.2.2.2.1.next hb).cell 1 rfl, (h.2.2.2.2.2.2.1.next hb).cell 2 rfl, (h.2.2.2.2.2.2.1.next hb).cell 3 rfl, (h.2.2.2.2.2.2.1.next hb).cell 4 rfl, (h.2.2.2.2.2.2.1.next hb).cell 5 rfl, (h.2.2.2.2.2.2.2.1.next hb).cell 0 rfl, (h.2.2.2.2.2.2.2.1.next hb).cell 1 rfl, (h.2.2.2.2.2.2.2.1.next hb).cell 2 rfl, (h.2.2.2.2.2.2.2.1.next hb).cell 3 rfl, (h.2.2.2.2.2.2.2.1.next hb).cell 4 rfl, (h.2.2.2.2.2.2.2.1.next hb).cell 5 rfl, (h.2.2.2.2.2.2.2.2.next hb).cell 0 rfl, (h.2.2.2.2.2.2.2.2.next hb).cell 1 rfl, (h.2.2.2.2.2.2.2.2.next hb).cell 2 rfl, (h.2.2.2.2.2.2.2.2.next hb).cell 3 rfl, ⟨h.1.trans (hb.mono h.1.size), h.2.1.next hb, h.2.2.1.next hb, h.2.2.2.1.next hb, h.2.2.2.2.1.next hb, h.2.2.2.2.2.1.next hb, h.2.2.2.2.2.2.1.next hb, h.2.2.2.2.2.2.2.1.next hb, h.2.2.2.2.2.2.2.2.next hb⟩⟩)
  clear hb0 ho hA hI hB hBt hCt hC
  have fs2 := fieldS2
  have hc0 := (HR.out.2.2.2.2.2.2.1).cell 5 rfl
  go_enter Tryd.func34, Tryd.ntmps34
  go_wp2_with fail
  clear hc0
  generalize hW0 : w.alloc (.cells #[.int .i64 x.c, .int .i64 x.s, .int .i32 x.ch, .bool x.d] 30) = W0 at *
  clear hW0
  refine wp_region_noPanic ?_
  refine wp_region_held_drew (S := (fun W => W.cell? ⟨b, 0, none⟩ = some (.pointer pa) ∧ W.cell? ⟨b, 1, none⟩ = some (.int .i64 y.c) ∧ W.cell? ⟨b, 2, none⟩ = some (.int .i64 y.s) ∧ W.cell? ⟨b, 3, none⟩ = some (.int .i32 y.ch) ∧ W.cell? ⟨b, 4, none⟩ = some (.bool y.d) ∧ W.cell? ⟨b, 5, none⟩ = some (.pointer (some ⟨c, 0, none⟩)) ∧ W.cell? ⟨c, 0, none⟩ = some (.pointer pb) ∧ W.cell? ⟨c, 1, none⟩ = some (.int .i64 z.c) ∧ W.cell? ⟨c, 2, none⟩ = some (.int .i64 z.s) ∧ W.cell? ⟨c, 3, none⟩ = some (.int .i32 z.ch) ∧ W.cell? ⟨c, 4, none⟩ = some (.bool z.d) ∧ W.cell? ⟨c, 5, none⟩ = some (.pointer pc) ∧ W.cell? ⟨w.heap.size, 0, none⟩ = some (.int .i64 x.c) ∧ W.cell? ⟨w.heap.size, 1, none⟩ = some (.int .i64 x.s) ∧ W.cell? ⟨w.heap.size, 2, none⟩ = some (.int .i32 x.ch) ∧ W.cell? ⟨w.heap.size, 3, none⟩ = some (.bool x.d) ∧ Pk (fun W => Below w.heap.size w W ∧ Is W pr R ∧ Is W pa A ∧ Is W (some ⟨c, 0, none⟩) (Tr.node B z C) ∧ Is W pb B ∧ Is W pc C ∧ Blk W b [.pointer pa, .int .i64 y.c, .int .i64 y.s, .int .i32 y.ch, .bool y.d, .pointer (some ⟨c, 0, none⟩), .int .i64 ((Tr.node A y (Tr.node B z C)).size : Int), .int .i64 ((Tr.node A y (Tr.node B z C)).alive : Int), .int .i64 ((Tr.node A y (Tr.node B z C)).depth : Int)] 61 ∧ Blk W c [.pointer pb, .int .i64 z.c, .int .i64 z.s, .int .i32 z.ch, .bool z.d, .pointer pc, .int .i64 ((Tr.node B z C).size : Int), .int .i64 ((Tr.node B z C).alive : Int), .int .i64 ((Tr.node B z C).depth : Int)] 61 ∧ Blk W w.heap.size [.int .i64 x.c, .int .i64 x.s, .int .i32 x.ch, .bool x.d] 30) W)) (by kernel_rfl) ?_ (fun hHeld => ?_)
  · exact hKp.out _ _ (Below.refl _ _).drew HR.out
  clear HR
  refine take1 (i := 0) (v := .pointer (some ⟨c, 0, none⟩)) rfl (by kernel_rfl) (by kernel_rfl) (by kernel_rfl) (fun _ _ _ h => h) (Or.inl ⟨by rfl, fun w hSw => ?_⟩) hHeld ?_
  · (go_simp)
  try simp only [Act.put, List.setIfInBounds_toArray, List.set_cons_zero, List.set_cons_succ]
  refine take1 (i := 3) (v := .pointer (some ⟨b, 0, none⟩)) rfl (by kernel_rfl) (by kernel_rfl) (by kernel_rfl) (fun _ _ _ h => h) (Or.inl ⟨by rfl, fun w hSw => ?_⟩) hHeld ?_
  · (go_simp)
  try simp only [Act.put, List.setIfInBounds_toArray, List.set_cons_zero, List.set_cons_succ]
  refine take1 (i := 4) (v := .pointer (some ⟨b, 0, none⟩)) rfl (by kernel_rfl) (by kernel_rfl) (by kernel_rfl) (fun _ _ _ h => h) (Or.inl ⟨by rfl, fun w hSw => ?_⟩) hHeld ?_
  · (go_simp)
  try simp only [Act.put, List.setIfInBounds_toArray, List.set_cons_zero, List.set_cons_succ]
  refine take1 (i := 5) (v := .pointer (some ⟨b, 0, none⟩)) rfl (by kernel_rfl) (by kernel_rfl) (by kernel_rfl) (fun _ _ _ h => h) (Or.inl ⟨by rfl, fun w hSw => ?_⟩) hHeld ?_
  · (go_simp)
  try simp only [Act.put, List.setIfInBounds_toArray, List.set_cons_zero, List.set_cons_succ]
  refine take1 (i := 6) (v := .pointer pa) rfl (by kernel_rfl) (by kernel_rfl) (by kernel_rfl) (fun _ _ _ h => h) (Or.inl ⟨by rfl, fun w hSw => ?_⟩) hHeld ?_
  · (go_simp)
  try simp only [Act.put, List.setIfInBounds_toArray, List.set_cons_zero, List.set_cons_succ]
  refine wpAnyH_ready (rs := [1]) (by kernel_rfl) (by simp) ?_
  refine cons1 rfl (fun K hK => ?_) AllReadyH.nil
  go_simp
  refine (total_any _ (hHeld.2.2.2.2.2.2.2.2.2.2.2.2.2.2.2.2.2.2.2.1)).mono ?_
  rintro e u1 ⟨rfl, hb⟩
  go_wp2_with fail
  refine hK.out _ _ (hKp.out _ _ hb hHeld.2.2.2.2.2.2.2.2.2.2.2.2.2.2.2.2) (fun hHeld2 => ?_)
  clear hK K hHeld hb
  have hHeld := hHeld2
  clear hHeld2
  try simp only [Act.put, List.setIfInBounds_toArray, List.set_cons_zero, List.set_cons_succ]
  refine take1 (i := 2) (v := .int .i64 (((Tr.node B z C).depth : Int))) rfl (by kernel_rfl) (by kernel_rfl) (by kernel_rfl) (fun _ _ _ h => h) (Or.inl ⟨by rfl, fun w hSw => ?_⟩) hHeld ?_
  · (go_simp)
  try simp only [Act.put, List.setIfInBounds_toArray, List.set_cons_zero, List.set_cons_succ]
  refine wpAnyH_ready (rs := [7]) (by kernel_rfl) (by simp) ?_
  refine cons1 rfl (fun K hK => ?_) AllReadyH.nil
  go_simp
  refine (total_any _ (hHeld.2.2.2.2.2.2.2.2.2.2.2.2.2.2.2.2.2.2.1)).mono ?_
  rintro e u2 ⟨rfl, hb⟩
  go_wp2_with fail
  refine hK.out _ _ (hKp.out _ _ hb hHeld.2.2.2.2.2.2.2.2.2.2.2.2.2.2.2.2) (fun hHeld2 => ?_)
  clear hK K hHeld hb
  have hHeld := hHeld2
  clear hHeld2
  try simp only [Act.put, List.setIfInBounds_toArray, List.set_cons_zero, List.set_cons_succ]
  refine take1 (i := 8) (v := .int .i64 ((A.depth : Int))) rfl (by kernel_rfl) (by kernel_rfl) (by kernel_rfl) (fun _ _ _ h => h) (Or.inl ⟨by rfl, fun w hSw => ?_⟩) hHeld ?_
  · (go_simp)
  try simp only [Act.put, List.setIfInBounds_toArray, List.set_cons_zero, List.set_cons_succ]
  refine take1 (i := 9) (v := .bool false) rfl (by kernel_rfl) (by kernel_rfl) (by kernel_rfl) (fun _ _ _ h => h) (Or.inl ⟨by rfl, fun w hSw => ?_⟩) hHeld ?_
  · (go_simp)
  try simp only [Act.put, List.setIfInBounds_toArray, List.set_cons_zero, List.set_cons_succ]
  refine wpAnyH_done (by kernel_rfl) ?_ _
  refine NoPanic.normal ?_
  have HR := Lib.hid hHeld.2.2.2.2.2.2.2.2.2.2.2.2.2.2.2.2
  clear hHeld
  go_wp2_with fail
  refine wp_region_noPanic ?_
  refine wp_region_held_drew (S := (fun W => W.cell? ⟨b, 0, none⟩ = some (.pointer pa) ∧ W.cell? ⟨b, 1, none⟩ = some (.int .i64 y.c) ∧ W.cell? ⟨b, 2, none⟩ = some (.int .i64 y.s) ∧ W.cell? ⟨b, 3, none⟩ = some (.int .i32 y.ch) ∧ W.cell? ⟨b, 4, none⟩ = some (.bool y.d) ∧ W.cell? ⟨b, 5, none⟩ = some (.pointer (some ⟨c, 0, none⟩)) ∧ W.cell? ⟨c, 0, none⟩ = some (.pointer pb) ∧ W.cell? ⟨c, 1, none⟩ = some (.int .i64 z.c) ∧ W.cell? ⟨c, 2, none⟩ = some (.int .i64 z.s) ∧ W.cell? ⟨c, 3, none⟩ = some (.int .i32 z.ch) ∧ W.cell? ⟨c, 4, none⟩ = some (.bool z.d) ∧ W.cell? ⟨c, 5, none⟩ = some (.pointer pc) ∧ W.cell? ⟨w.heap.size, 0, none⟩ = some (.int .i64 x.c) ∧ W.cell? ⟨w.heap.size, 1, none⟩ = some (.int .i64 x.s) ∧ W.cell? ⟨w.heap.size, 2, none⟩ = some (.int .i32 x.ch) ∧ W.cell? ⟨w.heap.size, 3, none⟩ = some (.bool x.d) ∧ Pk (fun W => Below w.heap.size w W ∧ Is W pr R ∧ Is W pa A ∧ Is W (some ⟨c, 0, none⟩) (Tr.node B z C) ∧ Is W pb B ∧ Is W pc C ∧ Blk W b [.pointer pa, .int .i64 y.c, .int .i64 y.s, .int .i32 y.ch, .bool y.d, .pointer (some ⟨c, 0, none⟩), .int .i64 ((Tr.node A y (Tr.node B z C)).size : Int), .int .i64 ((Tr.node A y (Tr.node B z C)).alive : Int), .int .i64 ((Tr.node A y (Tr.node B z C)).depth : Int)] 61 ∧ Blk W c [.pointer pb, .int .i64 z.c, .int .i64 z.s, .int .i32 z.ch, .bool z.d, .pointer pc, .int .i64 ((Tr.node B z C).size : Int), .int .i64 ((Tr.node B z C).alive : Int), .int .i64 ((Tr.node B z C).depth : Int)] 61 ∧ Blk W w.heap.size [.int .i64 x.c, .int .i64 x.s, .int .i32 x.ch, .bool x.d] 30) W)) (by kernel_rfl) ?_ (fun hHeld => ?_)
  · exact hKp.out _ _ (Below.refl _ _).drew HR.out
  clear HR
  refine take1 (i := 0) (v := .pointer (some ⟨b, 0, none⟩)) rfl (by kernel_rfl) (by kernel_rfl) (by kernel_rfl) (fun _ _ _ h => h) (Or.inl ⟨by rfl, fun w hSw => ?_⟩) hHeld ?_
  · (go_simp)
  try simp only [Act.put, List.setIfInBounds_toArray, List.set_cons_zero, List.set_cons_succ]
  refine take1 (i := 1) (v := .pointer (some ⟨b, 0, none⟩)) rfl (by kernel_rfl) (by kernel_rfl) (by kernel_rfl) (fun _ _ _ h => h) (Or.inl ⟨by rfl, fun w hSw => ?_⟩) hHeld ?_
  · (go_simp)
  try simp only [Act.put, List.setIfInBounds_toArray, List.set_cons_zero, List.set_cons_succ]
  refine take1 (i := 2) (v := .pointer (some ⟨b, 0, none⟩)) rfl (by kernel_rfl) (by kernel_rfl) (by kernel_rfl) (fun _ _ _ h => h) (Or.inl ⟨by rfl, fun w hSw => ?_⟩) hHeld ?_
  · (go_simp)
  try simp only [Act.put, List.setIfInBounds_toArray, List.set_cons_zero, List.set_cons_succ]
  refine take1 (i := 3) (v := .pointer pa) rfl (by kernel_rfl) (by kernel_rfl) (by kernel_rfl) (fun _ _ _ h => h) (Or.inl ⟨by rfl, fun w hSw => ?_⟩) hHeld ?_
  · (go_simp)
  try simp only [Act.put, List.setIfInBounds_toArray, List.set_cons_zero, List.set_cons_succ]
  refine take1 (i := 4) (v := .pointer (some ⟨b, 0, none⟩)) rfl (by kernel_rfl) (by kernel_rfl) (by kernel_rfl) (fun _ _ _ h => h) (Or.inl ⟨by rfl, fun w hSw => ?_⟩) hHeld ?_
  · (go_simp)
  try simp only [Act.put, List.setIfInBounds_toArray, List.set_cons_zero, List.set_cons_succ]
  refine take1 (i := 5) (v := .pointer (some ⟨b, 0, none⟩)) rfl (by kernel_rfl) (by kernel_rfl) (by kernel_rfl) (fun _ _ _ h => h) (Or.inl ⟨by rfl, fun w hSw => ?_⟩) hHeld ?_
  · (go_simp)
  try simp only [Act.put, List.setIfInBounds_toArray, List.set_cons_zero, List.set_cons_succ]
  refine take1 (i := 6) (v := .pointer (some ⟨b, 1, none⟩)) rfl (by kernel_rfl) (by kernel_rfl) (by kernel_rfl) (fun _ _ _ h => h) (Or.inl ⟨by rfl, fun w hSw => ?_⟩) hHeld ?_
  · (go_simp)
  try simp only [Act.put, List.setIfInBounds_toArray, List.set_cons_zero, List.set_cons_succ]
  refine take1 (i := 7) (v := .agg #[.int .i64 y.c, .int .i64 y.s, .int .i32 y.ch, .bool y.d]) rfl (by kernel_rfl) (by kernel_rfl) (by kernel_rfl) (fun _ _ _ h => h) (Or.inl ⟨by rfl, fun w hSw => ?_⟩) hHeld ?_
  · (go_simp)
  try simp only [Act.put, List.setIfInBounds_toArray, List.set_cons_zero, List.set_cons_succ]
  refine take1 (i := 8) (v := .pointer (some ⟨c, 0, none⟩)) rfl (by kernel_rfl) (by kernel_rfl) (by kernel_rfl) (fun _ _ _ h => h) (Or.inl ⟨by rfl, fun w hSw => ?_⟩) hHeld ?_
  · (go_simp)
  try simp only [Act.put, List.setIfInBounds_toArray, List.set_cons_zero, List.set_cons_succ]
  refine take1 (i := 9) (v := .pointer (some ⟨c, 0, none⟩)) rfl (by kernel_rfl) (by kernel_rfl) (by kernel_rfl) (fun _ _ _ h => h) (Or.inl ⟨by rfl, fun w hSw => ?_⟩) hHeld ?_
  · (go_simp)
  try simp only [Act.put, List.setIfInBounds_toArray, List.set_cons_zero, List.set_cons_succ]
  refine take1 (i := 10) (v := .pointer (some ⟨c, 0, none⟩)) rfl (by kernel_rfl) (by kernel_rfl) (by kernel_rfl) (fun _ _ _ h => h) (Or.inl ⟨by rfl, fun w hSw => ?_⟩) hHeld ?_
  · (go_simp)
  try simp only [Act.put, List.setIfInBounds_toArray, List.set_cons_zero, List.set_cons_succ]
  refine take1 (i := 11) (v := .pointer pb) rfl (by kernel_rfl) (by kernel_rfl) (by kernel_rfl) (fun _ _ _ h => h) (Or.inl ⟨by rfl, fun w hSw => ?_⟩) hHeld ?_
  · (go_simp)
  try simp only [Act.put, List.setIfInBounds_toArray, List.set_cons_zero, List.set_cons_succ]
  refine take1 (i := 13) (v := .pointer (some ⟨c, 0, none⟩)) rfl (by kernel_rfl) (by kernel_rfl) (by kernel_rfl) (fun _ _ _ h => h) (Or.inl ⟨by rfl, fun w hSw => ?_⟩) hHeld ?_
  · (go_simp)
  try simp only [Act.put, List.setIfInBounds_toArray, List.set_cons_zero, List.set_cons_succ]
  refine take1 (i := 14) (v := .pointer (some ⟨c, 0, none⟩)) rfl (by kernel_rfl) (by kernel_rfl) (by kernel_rfl) (fun _ _ _ h => h) (Or.inl ⟨by rfl, fun w hSw => ?_⟩) hHeld ?_
  · (go_simp)
  try simp only [Act.put, List.setIfInBounds_toArray, List.set_cons_zero, List.set_cons_succ]
  refine take1 (i := 15) (v := .pointer (some ⟨c, 1, none⟩)) rfl (by kernel_rfl) (by kernel_rfl) (by kernel_rfl) (fun _ _ _ h => h) (Or.inl ⟨by rfl, fun w hSw => ?_⟩) hHeld ?_
  · (go_simp)
  try simp only [Act.put, List.setIfInBounds_toArray, List.set_cons_zero, List.set_cons_succ]
  refine take1 (i := 16) (v := .agg #[.int .i64 z.c, .int .i64 z.s, .int .i32 z.ch, .bool z.d]) rfl (by kernel_rfl) (by kernel_rfl) (by kernel_rfl) (fun _ _ _ h => h) (Or.inl ⟨by rfl, fun w hSw => ?_⟩) hHeld ?_
  · (go_simp)
  try simp only [Act.put, List.setIfInBounds_toArray, List.set_cons_zero, List.set_cons_succ]
  refine take1 (i := 17) (v := .pointer (some ⟨c, 0, none⟩)) rfl (by kernel_rfl) (by kernel_rfl) (by kernel_rfl) (fun _ _ _ h => h) (Or.inl ⟨by rfl, fun w hSw => ?_⟩) hHeld ?_
  · (go_simp)
  try simp only [Act.put, List.setIfInBounds_toArray, List.set_cons_zero, List.set_cons_succ]
  refine take1 (i := 18) (v := .pointer (some ⟨c, 0, none⟩)) rfl (by kernel_rfl) (by kernel_rfl) (by kernel_rfl) (fun _ _ _ h => h) (Or.inl ⟨by rfl, fun w hSw => ?_⟩) hHeld ?_
  · (go_simp)
  try simp only [Act.put, List.setIfInBounds_toArray, List.set_cons_zero, List.set_cons_succ]
  refine take1 (i := 19) (v := .pointer (some ⟨c, 5, none⟩)) rfl (by kernel_rfl) (by kernel_rfl) (by kernel_rfl) (fun _ _ _ h => h) (Or.inl ⟨by rfl, fun w hSw => ?_⟩) hHeld ?_
  · (go_simp)
  try simp only [Act.put, List.setIfInBounds_toArray, List.set_cons_zero, List.set_cons_succ]
  refine take1 (i := 20) (v := .pointer pc) rfl (by kernel_rfl) (by kernel_rfl) (by kernel_rfl) (fun _ _ _ h => h) (Or.inl ⟨by rfl, fun w hSw => ?_⟩) hHeld ?_
  · (go_simp)
  try simp only [Act.put, List.setIfInBounds_toArray, List.set_cons_zero, List.set_cons_succ]
  refine take1 (i := 21) (v := .agg #[.int .i64 x.c, .int .i64 x.s, .int .i32 x.ch, .bool x.d]) rfl (by kernel_rfl) (by kernel_rfl) (by kernel_rfl) (fun _ _ _ h => h) (Or.inl ⟨by rfl, fun w hSw => ?_⟩) hHeld ?_
  · (go_simp)
  try simp only [Act.put, List.setIfInBounds_toArray, List.set_cons_zero, List.set_cons_succ]
  refine take1 (i := 22) (v := .pointer pr) rfl (by kernel_rfl) (by kernel_rfl) (by kernel_rfl) (fun _ _ _ h => h) (Or.inl ⟨by rfl, fun w hSw => ?_⟩) hHeld ?_
  · (go_simp)
  try simp only [Act.put, List.setIfInBounds_toArray, List.set_cons_zero, List.set_cons_succ]
  refine wpAnyH_ready (rs := [12]) (by kernel_rfl) (by simp) ?_
  refine cons1 rfl (fun K hK => ?_) AllReadyH.nil
  go_simp
  refine (join_any y _ (hHeld.2.2.2.2.2.2.2.2.2.2.2.2.2.2.2.2.2.2.1) (hHeld.2.2.2.2.2.2.2.2.2.2.2.2.2.2.2.2.2.2.2.2.1) (by first | omega | (simp only [Tr.size] at hs ⊢; omega) | (simp only [Tr.size]; omega))).mono ?_
  rintro e u3 ⟨q3, rfl, hq3, hb⟩
  go_wp2_with fail
  refine hK.out _ _ (hKp.out _ _ hb hHeld.2.2.2.2.2.2.2.2.2.2.2.2.2.2.2.2) (fun hHeld2 => ?_)
  clear hK K hHeld hb
  have hHeld := hHeld2
  clear hHeld2
  try simp only [Act.put, List.setIfInBounds_toArray, List.set_cons_zero, List.set_cons_succ]
  refine wpAnyH_ready (rs := [23]) (by kernel_rfl) (by simp) ?_
  refine cons1 rfl (fun K hK => ?_) AllReadyH.nil
  go_simp
  refine (join_any x _ (hHeld.2.2.2.2.2.2.2.2.2.2.2.2.2.2.2.2.2.2.2.2.2.1) (hHeld.2.2.2.2.2.2.2.2.2.2.2.2.2.2.2.2.2.1) (by first | omega | (simp only [Tr.size] at hs ⊢; omega) | (simp only [Tr.size]; omega))).mono ?_
  rintro e u4 ⟨q4, rfl, hq4, hb⟩
  go_wp2_with fail
  refine hK.out _ _ (hKp.out _ _ hb hHeld.2.2.2.2.2.2.2.2.2.2.2.2.2.2.2.2) (fun hHeld2 => ?_)
  have hq32 := hq3.next hb
  clear hq3
  have hq3 := hq32
  clear hq32
  clear hK K hHeld hb
  have hHeld := hHeld2
  clear hHeld2
  try simp only [Act.put, List.setIfInBounds_toArray, List.set_cons_zero, List.set_cons_succ]
  refine wpAnyH_ready (rs := [24]) (by kernel_rfl) (by simp) ?_
  refine cons1 rfl (fun K hK => ?_) AllReadyH.nil
  go_simp
  refine (join_any z _ (hq3) (hq4) (by first | omega | (simp only [Tr.size] at hs ⊢; omega) | (simp only [Tr.size]; omega))).mono ?_
  rintro e u5 ⟨q5, rfl, hq5, hb⟩
  go_wp2_with fail
  refine hK.out _ _ (hKp.out _ _ hb hHeld.2.2.2.2.2.2.2.2.2.2.2.2.2.2.2.2) (fun hHeld2 => ?_)
  have hq32 := hq3.next hb
  clear hq3
  have hq3 := hq32
  clear hq32
  have hq42 := hq4.next hb
  clear hq4
  have hq4 := hq42
  clear hq42
  clear hK K hHeld hb
  have hHeld := hHeld2
  clear hHeld2
  try simp only [Act.put, List.setIfInBounds_toArray, List.set_cons_zero, List.set_cons_succ]
  refine take1 (i := 25) (v := .pointer q5) rfl (by kernel_rfl) (by kernel_rfl) (by kernel_rfl) (fun _ _ _ h => h) (Or.inl ⟨by rfl, fun w hSw => ?_⟩) hHeld ?_
  · (go_simp)
  try simp only [Act.put, List.setIfInBounds_toArray, List.set_cons_zero, List.set_cons_succ]
  refine wpAnyH_done (by kernel_rfl) ?_ _
  refine NoPanic.normal ?_
  have HR := Lib.hid hHeld.2.2.2.2.2.2.2.2.2.2.2.2.2.2.2.2
  clear hHeld
  go_wp2_with fail
  go_ret
  exact ⟨_, rfl, hq5, HR.out.1⟩

set_option maxHeartbeats 1600000 in
theorem turnLeft_1 {pa0 pl : Option Addr} {A I L : Tr} (y x : El) (w : World) (hd : Is w pa0 (.node I y A)) (ho : Is w pl L) (hs : A.size + I.size + L.size ≤ 900) (hc : I.depth ≤ A.depth) :
    Calls Tryd.prog 35 #[.pointer pl, .agg #[.int .i64 x.c, .int .i64 x.s, .int .i32 x.ch, .bool x.d], .pointer pa0] w (RetT (Tr.node (.node L x I) y A) w) := by
  obtain ⟨b, pi, pa, rfl, -, hB, hI, hA⟩ := hd
  have hb0 := (Below.refl w.heap.size w).alloc (Nat.le_refl _) (.cells #[.int .i64 x.c, .int .i64 x.s, .int .i32 x.ch, .bool x.d] 30)
  have HR := Lib.hid (show Pk (fun W => Below w.heap.size w W ∧ Is W pl L ∧ Is W pa A ∧ Is W pi I ∧ Blk W b [.pointer pi, .int .i64 y.c, .int .i64 y.s, .int .i32 y.ch, .bool y.d, .pointer pa, .int .i64 ((Tr.node I y A).size : Int), .int .i64 ((Tr.node I y A).alive : Int), .int .i64 ((Tr.node I y A).depth : Int)] 61 ∧ Blk W w.heap.size [.int .i64 x.c, .int .i64 x.s, .int .i32 x.ch, .bool x.d] 30) (w.alloc (.cells #[.int .i64 x.c, .int .i64 x.s, .int .i32 x.ch, .bool x.d] 30)) from ⟨hb0, ho.next hb0, hA.next hb0, hI.next hb0, hB.next hb0, Blk.start _ _ _⟩)
  have hKp := Lib.hid (show ∀ W W' : World, Below W.heap.size W W' → Pk (fun W => Below w.heap.size w W ∧ Is W pl L ∧ Is W pa A ∧ Is W pi I ∧ Blk W b [.pointer pi, .int .i64 y.c, .int .i64 y.s, .int .i32 y.ch, .bool y.d, .pointer pa, .int .i64 ((Tr.node I y A).size : Int), .int .i64 ((Tr.node I y A).alive : Int), .int .i64 ((Tr.node I y A).depth : Int)] 61 ∧ Blk W w.heap.size [.int .i64 x.c, .int .i64 x.s, .int .i32 x.ch, .bool x.d] 30) W → (fun W => W.cell? ⟨b, 0, none⟩ = some (.pointer pi) ∧ W.cell? ⟨b, 1, none⟩ = some (.int .i64 y.c) ∧ W.cell? ⟨b, 2, none⟩ = some (.int .i64 y.s) ∧ W.cell? ⟨b, 3, none⟩ = some (.int .i32 y.ch) ∧ W.cell? ⟨b, 4, none⟩ = some (.bool y.d) ∧ W.cell? ⟨b, 5, none⟩ = some (.pointer pa) ∧ W.cell? ⟨w.heap.size, 0, none⟩ = some (.int .i64 x.c) ∧ W.cell? ⟨w.heap.size, 1, none⟩ = some (.int .i64 x.s) ∧ W.cell? ⟨w.heap.size, 2, none⟩ = some (.int .i32 x.ch) ∧ W.cell? ⟨w.heap.size, 3, none⟩ = some (.bool x.d) ∧ Pk (fun W => Below w.heap.size w W ∧ Is W pl L ∧ Is W pa A ∧ Is W pi I ∧ Blk W b [.pointer pi, .int .i64 y.c, .int .i64 y.s, .int .i32 y.ch, .bool y.d, .pointer pa, .int .i64 ((Tr.node I y A).size : Int), .int .i64 ((Tr.node I y A).alive : Int), .int .i64 ((Tr.node I y A).depth : Int)] 61 ∧ Blk W w.heap.size [.int .i64 x.c, .int .i64 x.s, .int .i32 x.ch, .bool x.d] 30) W) W' from fun W W' hb h => ⟨(h.2.2.2.2.1.next hb).cell 0 rfl, (h.2.2.2.2.1.next hb).cell 1 rfl, (h.2.2.2.2.1.next hb).cell 2 rfl, (h.2.2.2.2.1.next hb).cell 3 rfl, (h.2.2.2.2.1.next hb).cell 4 rfl, (h.2.2.2.2.1.next hb).cell 5 rfl, (h.2.2.2.2.2.next hb).cell 0 rfl, (h.2.2.2.2.2.next hb).cell 1 rfl, (h.2.2.2.2.2.next hb).cell 2 rfl, (h.2.2.2.2.2.next hb).cell 3 rfl, ⟨h.1.trans (hb.mono h.1.size), h.2.1.next hb, h.2.2.1.next hb, h.2.2.2.1.next hb, h.2.2.2.2.1.next hb, h.2.2.2.2.2.next hb⟩⟩)
  clear hb0 ho hA hI hB
  have fs2 := fieldS2
  have hc0 := (HR.out.2.2.2.2.1).cell 0 rfl
  go_enter Tryd.func35, Tryd.ntmps35
  go_wp2_with fail
  clear hc0
  generalize hW0 : w.alloc (.cells #[.int .i64 x.c, .int .i64 x.s, .int .i32 x.ch, .bool x.d] 30) = W0 at *
  clear hW0
  refine wp_region_noPanic ?_
  refine wp_region_held_drew (S := (fun W => W.cell? ⟨b, 0, none⟩ = some (.pointer pi) ∧ W.cell? ⟨b, 1, none⟩ = some (.int .i64 y.c) ∧ W.cell? ⟨b, 2, none⟩ = some (.int .i64 y.s) ∧ W.cell? ⟨b, 3, none⟩ = some (.int .i32 y.ch) ∧ W.cell? ⟨b, 4, none⟩ = some (.bool y.d) ∧ W.cell? ⟨b, 5, none⟩ = some (.pointer pa) ∧ W.cell? ⟨w.heap.size, 0, none⟩ = some (.int .i64 x.c) ∧ W.cell? ⟨w.heap.size, 1, none⟩ = some (.int .i64 x.s) ∧ W.cell? ⟨w.heap.size, 2, none⟩ = some (.int .i32 x.ch) ∧ W.cell? ⟨w.heap.size, 3, none⟩ = some (.bool x.d) ∧ Pk (fun W => Below w.heap.size w W ∧ Is W pl L ∧ Is W pa A ∧ Is W pi I ∧ Blk W b [.pointer pi, .int .i64 y.c, .int .i64 y.s, .int .i32 y.ch, .bool y.d, .pointer pa, .int .i64 ((Tr.node I y A).size : Int), .int .i64 ((Tr.node I y A).alive : Int), .int .i64 ((Tr.node I y A).depth : Int)] 61 ∧ Blk W w.heap.size [.int .i64 x.c, .int .i64 x.s, .int .i32 x.ch, .bool x.d] 30) W)) (by kernel_rfl) ?_ (fun hHeld => ?_)
  · exact hKp.out _ _ (Below.refl _ _).drew HR.out
  clear HR
  refine take1 (i := 0) (v := .pointer pi) rfl (by kernel_rfl) (by kernel_rfl) (by kernel_rfl) (fun _ _ _ h => h) (Or.inl ⟨by rfl, fun w hSw => ?_⟩) hHeld ?_
  · (go_simp)
  try simp only [Act.put, List.setIfInBounds_toArray, List.set_cons_zero, List.set_cons_succ]
  refine take1 (i := 3) (v := .pointer (some ⟨b, 0, none⟩)) rfl (by kernel_rfl) (by kernel_rfl) (by kernel_rfl) (fun _ _ _ h => h) (Or.inl ⟨by rfl, fun w hSw => ?_⟩) hHeld ?_
  · (go_simp)
  try simp only [Act.put, List.setIfInBounds_toArray, List.set_cons_zero, List.set_cons_succ]
  refine take1 (i := 4) (v := .pointer (some ⟨b, 0, none⟩)) rfl (by kernel_rfl) (by kernel_rfl) (by kernel_rfl) (fun _ _ _ h => h) (Or.inl ⟨by rfl, fun w hSw => ?_⟩) hHeld ?_
  · (go_simp)
  try simp only [Act.put, List.setIfInBounds_toArray, List.set_cons_zero, List.set_cons_succ]
  refine take1 (i := 5) (v := .pointer (some ⟨b, 5, none⟩)) rfl (by kernel_rfl) (by kernel_rfl) (by kernel_rfl) (fun _ _ _ h => h) (Or.inl ⟨by rfl, fun w hSw => ?_⟩) hHeld ?_
  · (go_simp)
  try simp only [Act.put, List.setIfInBounds_toArray, List.set_cons_zero, List.set_cons_succ]
  refine take1 (i := 6) (v := .pointer pa) rfl (by kernel_rfl) (by kernel_rfl) (by kernel_rfl) (fun _ _ _ h => h) (Or.inl ⟨by rfl, fun w hSw => ?_⟩) hHeld ?_
  · (go_simp)
  try simp only [Act.put, List.setIfInBounds_toArray, List.set_cons_zero, List.set_cons_succ]
  refine wpAnyH_ready (rs := [1]) (by kernel_rfl) (by simp) ?_
  refine cons1 rfl (fun K hK => ?_) AllReadyH.nil
  go_simp
  refine (total_any _ (hHeld.2.2.2.2.2.2.2.2.2.2.2.2.2.1)).mono ?_
  rintro e u1 ⟨rfl, hb⟩
  go_wp2_with fail
  refine hK.out _ _ (hKp.out _ _ hb hHeld.2.2.2.2.2.2.2.2.2.2) (fun hHeld2 => ?_)
  clear hK K hHeld hb
  have hHeld := hHeld2
  clear hHeld2
  try simp only [Act.put, List.setIfInBounds_toArray, List.set_cons_zero, List.set_cons_succ]
  refine take1 (i := 2) (v := .int .i64 ((I.depth : Int))) rfl (by kernel_rfl) (by kernel_rfl) (by kernel_rfl) (fun _ _ _ h => h) (Or.inl ⟨by rfl, fun w hSw => ?_⟩) hHeld ?_
  · (go_simp)
  try simp only [Act.put, List.setIfInBounds_toArray, List.set_cons_zero, List.set_cons_succ]
  refine wpAnyH_ready (rs := [7]) (by kernel_rfl) (by simp) ?_
  refine cons1 rfl (fun K hK => ?_) AllReadyH.nil
  go_simp
  refine (total_any _ (hHeld.2.2.2.2.2.2.2.2.2.2.2.2.1)).mono ?_
  rintro e u2 ⟨rfl, hb⟩
  go_wp2_with fail
  refine hK.out _ _ (hKp.out _ _ hb hHeld.2.2.2.2.2.2.2.2.2.2) (fun hHeld2 => ?_)
  clear hK K hHeld hb
  have hHeld := hHeld2
  clear hHeld2
  try simp only [Act.put, List.setIfInBounds_toArray, List.set_cons_zero, List.set_cons_succ]
  refine take1 (i := 8) (v := .int .i64 ((A.depth : Int))) rfl (by kernel_rfl) (by kernel_rfl) (by kernel_rfl) (fun _ _ _ h => h) (Or.inl ⟨by rfl, fun w hSw => ?_⟩) hHeld ?_
  · (go_simp)
  try simp only [Act.put, List.setIfInBounds_toArray, List.set_cons_zero, List.set_cons_succ]
  refine take1 (i := 9) (v := .bool true) rfl (by kernel_rfl) (by kernel_rfl) (by kernel_rfl) (fun _ _ _ h => h) (Or.inl ⟨by rfl, fun w hSw => ?_⟩) hHeld ?_
  · (go_simp)
  try simp only [Act.put, List.setIfInBounds_toArray, List.set_cons_zero, List.set_cons_succ]
  refine wpAnyH_done (by kernel_rfl) ?_ _
  refine NoPanic.normal ?_
  have HR := Lib.hid hHeld.2.2.2.2.2.2.2.2.2.2
  clear hHeld
  go_wp2_with fail
  refine wp_region_noPanic ?_
  refine wp_region_held_drew (S := (fun W => W.cell? ⟨b, 0, none⟩ = some (.pointer pi) ∧ W.cell? ⟨b, 1, none⟩ = some (.int .i64 y.c) ∧ W.cell? ⟨b, 2, none⟩ = some (.int .i64 y.s) ∧ W.cell? ⟨b, 3, none⟩ = some (.int .i32 y.ch) ∧ W.cell? ⟨b, 4, none⟩ = some (.bool y.d) ∧ W.cell? ⟨b, 5, none⟩ = some (.pointer pa) ∧ W.cell? ⟨w.heap.size, 0, none⟩ = some (.int .i64 x.c) ∧ W.cell? ⟨w.heap.size, 1, none⟩ = some (.int .i64 x.s) ∧ W.cell? ⟨w.heap.size, 2, none⟩ = some (.int .i32 x.ch) ∧ W.cell? ⟨w.heap.size, 3, none⟩ = some (.bool x.d) ∧ Pk (fun W => Below w.heap.size w W ∧ Is W pl L ∧ Is W pa A ∧ Is W pi I ∧ Blk W b [.pointer pi, .int .i64 y.c, .int .i64 y.s, .int .i32 y.ch, .bool y.d, .pointer pa, .int .i64 ((Tr.node I y A).size : Int), .int .i64 ((Tr.node I y A).alive : Int), .int .i64 ((Tr.node I y A).depth : Int)] 61 ∧ Blk W w.heap.size [.int .i64 x.c, .int .i64 x.s, .int .i32 x.ch, .bool x.d] 30) W)) (by kernel_rfl) ?_ (fun hHeld => ?_)
  · exact hKp.out _ _ (Below.refl _ _).drew HR.out
  clear HR
  refine take1 (i := 0) (v := .pointer pl) rfl (by kernel_rfl) (by kernel_rfl) (by kernel_rfl) (fun _ _ _ h => h) (Or.inl ⟨by rfl, fun w hSw => ?_⟩) hHeld ?_
  · (go_simp)
  try simp only [Act.put, List.setIfInBounds_toArray, List.set_cons_zero, List.set_cons_succ]
  refine take1 (i := 1) (v := .agg #[.int .i64 x.c, .int .i64 x.s, .int .i32 x.ch, .bool x.d]) rfl (by kernel_rfl) (by kernel_rfl) (by kernel_rfl) (fun _ _ _ h => h) (Or.inl ⟨by rfl, fun w hSw => ?_⟩) hHeld ?_
  · (go_simp)
  try simp only [Act.put, List.setIfInBounds_toArray, List.set_cons_zero, List.set_cons_succ]
  refine take1 (i := 2) (v := .pointer pi) rfl (by kernel_rfl) (by kernel_rfl) (by kernel_rfl) (fun _ _ _ h => h) (Or.inl ⟨by rfl, fun w hSw => ?_⟩) hHeld ?_
  · (go_simp)
  try simp only [Act.put, List.setIfInBounds_toArray, List.set_cons_zero, List.set_cons_succ]
  refine take1 (i := 4) (v := .pointer (some ⟨b, 0, none⟩)) rfl (by kernel_rfl) (by kernel_rfl) (by kernel_rfl) (fun _ _ _ h => h) (Or.inl ⟨by rfl, fun w hSw => ?_⟩) hHeld ?_
  · (go_simp)
  try simp only [Act.put, List.setIfInBounds_toArray, List.set_cons_zero, List.set_cons_succ]
  refine take1 (i := 5) (v := .pointer (some ⟨b, 0, none⟩)) rfl (by kernel_rfl) (by kernel_rfl) (by kernel_rfl) (fun _ _ _ h => h) (Or.inl ⟨by rfl, fun w hSw => ?_⟩) hHeld ?_
  · (go_simp)
  try simp only [Act.put, List.setIfInBounds_toArray, List.set_cons_zero, List.set_cons_succ]
  refine take1 (i := 6) (v := .pointer (some ⟨b, 1, none⟩)) rfl (by kernel_rfl) (by kernel_rfl) (by kernel_rfl) (fun _ _ _ h => h) (Or.inl ⟨by rfl, fun w hSw => ?_⟩) hHeld ?_
  · (go_simp)
  try simp only [Act.put, List.setIfInBounds_toArray, List.set_cons_zero, List.set_cons_succ]
  refine take1 (i := 7) (v := .agg #[.int .i64 y.c, .int .i64 y.s, .int .i32 y.ch, .bool y.d]) rfl (by kernel_rfl) (by kernel_rfl) (by kernel_rfl) (fun _ _ _ h => h) (Or.inl ⟨by rfl, fun w hSw => ?_⟩) hHeld ?_
  · (go_simp)
  try simp only [Act.put, List.setIfInBounds_toArray, List.set_cons_zero, List.set_cons_succ]
  refine take1 (i := 8) (v := .pointer (some ⟨b, 0, none⟩)) rfl (by kernel_rfl) (by kernel_rfl) (by kernel_rfl) (fun _ _ _ h => h) (Or.inl ⟨by rfl, fun w hSw => ?_⟩) hHeld ?_
  · (go_simp)
  try simp only [Act.put, List.setIfInBounds_toArray, List.set_cons_zero, List.set_cons_succ]
  refine take1 (i := 9) (v := .pointer (some ⟨b, 0, none⟩)) rfl (by kernel_rfl) (by kernel_rfl) (by kernel_rfl) (fun _ _ _ h => h) (Or.inl ⟨by rfl, fun w hSw => ?_⟩) hHeld ?_
  · (go_simp)
  try simp only [Act.put, List.setIfInBounds_toArray, List.set_cons_zero, List.set_cons_succ]
  refine take1 (i := 10) (v := .pointer (some ⟨b, 5, none⟩)) rfl (by kernel_rfl) (by kernel_rfl) (by kernel_rfl) (fun _ _ _ h => h) (Or.inl ⟨by rfl, fun w hSw => ?_⟩) hHeld ?_
  · (go_simp)
  try simp only [Act.put, List.setIfInBounds_toArray, List.set_cons_zero, List.set_cons_succ]
  refine take1 (i := 11) (v := .pointer pa) rfl (by kernel_rfl) (by kernel_rfl) (by kernel_rfl) (fun _ _ _ h => h) (Or.inl ⟨by rfl, fun w hSw => ?_⟩) hHeld ?_
  · (go_simp)
  try simp only [Act.put, List.setIfInBounds_toArray, List.set_cons_zero, List.set_cons_succ]
  refine wpAnyH_ready (rs := [3]) (by kernel_rfl) (by simp) ?_
  refine cons1 rfl (fun K hK => ?_) AllReadyH.nil
  go_simp
  refine (join_any x _ (hHeld.2.2.2.2.2.2.2.2.2.2.2.1) (hHeld.2.2.2.2.2.2.2.2.2.2.2.2.2.1) (by first | omega | (simp only [Tr.size] at hs ⊢; omega) | (simp only [Tr.size]; omega))).mono ?_
  rintro e u3 ⟨q3, rfl, hq3, hb⟩
  go_wp2_with fail
  refine hK.out _ _ (hKp.out _ _ hb hHeld.2.2.2.2.2.2.2.2.2.2) (fun hHeld2 => ?_)
  clear hK K hHeld hb
  have hHeld := hHeld2
  clear hHeld2
  try simp only [Act.put, List.setIfInBounds_toArray, List.set_cons_zero, List.set_cons_succ]
  refine wpAnyH_ready (rs := [12]) (by kernel_rfl) (by simp) ?_
  refine cons1 rfl (fun K hK => ?_) AllReadyH.nil
  go_simp
  refine (join_any y _ (hq3) (hHeld.2.2.2.2.2.2.2.2.2.2.2.2.1) (by first | omega | (simp only [Tr.size] at hs ⊢; omega) | (simp only [Tr.size]; omega))).mono ?_
  rintro e u4 ⟨q4, rfl, hq4, hb⟩
  go_wp2_with fail
  refine hK.out _ _ (hKp.out _ _ hb hHeld.2.2.2.2.2.2.2.2.2.2) (fun hHeld2 => ?_)
  have hq32 := hq3.next hb
  clear hq3
  have hq3 := hq32
  clear hq32
  clear hK K hHeld hb
  have hHeld := hHeld2
  clear hHeld2
  try simp only [Act.put, List.setIfInBounds_toArray, List.set_cons_zero, List.set_cons_succ]
  refine take1 (i := 13) (v := .pointer q4) rfl (by kernel_rfl) (by kernel_rfl) (by kernel_rfl) (fun _ _ _ h => h) (Or.inl ⟨by rfl, fun w hSw => ?_⟩) hHeld ?_
  · (go_simp)
  try simp only [Act.put, List.setIfInBounds_toArray, List.set_cons_zero, List.set_cons_succ]
  refine wpAnyH_done (by kernel_rfl) ?_ _
  refine NoPanic.normal ?_
  have HR := Lib.hid hHeld.2.2.2.2.2.2.2.2.2.2
  clear hHeld
  go_wp2_with fail
  go_ret
  exact ⟨_, rfl, hq4, HR.out.1⟩

set_option maxHeartbeats 1600000 in
theorem turnLeft_2 {pa0 pl : Option Addr} {A B C L : Tr} (y z x : El) (w : World) (hd : Is w pa0 (.node (.node B z C) y A)) (ho : Is w pl L) (hs : A.size + (Tr.node B z C).size + L.size ≤ 900) (hc : ¬ (Tr.node B z C).depth ≤ A.depth) :
    Calls Tryd.prog 35 #[.pointer pl, .agg #[.int .i64 x.c, .int .i64 x.s, .int .i32 x.ch, .bool x.d], .pointer pa0] w (RetT (Tr.node (.node L x B) z (.node C y A)) w) := by
  obtain ⟨b, pi, pa, rfl, -, hB, hI, hA⟩ := hd
  have hI0 := hI
  obtain ⟨c, pb, pc, rfl, -, hC, hBt, hCt⟩ := hI0
  have hb0 := (Below.refl w.heap.size w).alloc (Nat.le_refl _) (.cells #[.int .i64 x.c, .int .i64 x.s, .int .i32 x.ch, .bool x.d] 30)
  have HR := Lib.hid (show Pk (fun W => Below w.heap.size w W ∧ Is W pl L ∧ Is W pa A ∧ Is W (some ⟨c, 0, none⟩) (Tr.node B z C) ∧ Is W pb B ∧ Is W pc C ∧ Blk W b [.pointer (some ⟨c, 0, none⟩), .int .i64 y.c, .int .i64 y.s, .int .i32 y.ch, .bool y.d, .pointer pa, .int .i64 ((Tr.node (Tr.node B z C) y A).size : Int), .int .i64 ((Tr.node (Tr.node B z C) y A).alive : Int), .int .i64 ((Tr.node (Tr.node B z C) y A).depth : Int)] 61 ∧ Blk W c [.pointer pb, .int .i64 z.c, .int .i64 z.s, .int .i32 z.ch, .bool z.d, .pointer pc, .int .i64 ((Tr.node B z C).size : Int), .int .i64 ((Tr.node B z C).alive : Int), .int .i64 ((Tr.node B z C).depth : Int)] 61 ∧ Blk W w.heap.size [.int .i64 x.c, .int .i64 x.s, .int .i32 x.ch, .bool x.d] 30) (w.alloc (.cells #[.int .i64 x.c, .int .i64 x.s, .int .i32 x.ch, .bool x.d] 30)) from ⟨hb0, ho.next hb0, hA.next hb0, hI.next hb0, hBt.next hb0, hCt.next hb0, hB.next hb0, hC.next hb0, Blk.start _ _ _⟩)
  have hKp := Lib.hid (show ∀ W W' : World, Below W.heap.size W W' → Pk (fun W => Below w.heap.size w W ∧ Is W pl L ∧ Is W pa A ∧ Is W (some ⟨c, 0, none⟩) (Tr.node B z C) ∧ Is W pb B ∧ Is W pc C ∧ Blk W b [.pointer (some ⟨c, 0, none⟩), .int .i64 y.c, .int .i64 y.s, .int .i32 y.ch, .bool y.d, .pointer pa, .int .i64 ((Tr.node (Tr.node B z C) y A).size : Int), .int .i64 ((Tr.node (Tr.node B z C) y A).alive : Int), .int .i64 ((Tr.node (Tr.node B z C) y A).depth : Int)] 61 ∧ Blk W c [.pointer pb, .int .i64 z.c, .int .i64 z.s, .int .i32 z.ch, .bool z.d, .pointer pc, .int .i64 ((Tr.node B z C).size : Int), .int .i64 ((Tr.node B z C).alive : Int), .int .i64 ((Tr.node B z C).depth : Int)] 61 ∧ Blk W w.heap.size [.int .i64 x.c, .int .i64 x.s, .int .i32 x.ch, .bool x.d] 30) W → (fun W => W.cell? ⟨b, 0, none⟩ = some (.pointer (some ⟨c, 0, none⟩)) ∧ W.cell? ⟨b, 1, none⟩ = some (.int .i64 y.c) ∧ W.cell? ⟨b, 2, none⟩ = some (.int .i64 y.s) ∧ W.cell? ⟨b, 3, none⟩ = some (.int .i32 y.ch) ∧ W.cell? ⟨b, 4, none⟩ = some (.bool y.d) ∧ W.cell? ⟨b, 5, none⟩ = some (.pointer pa) ∧ W.cell? ⟨c, 0, none⟩ = some (.pointer pb) ∧ W.cell? ⟨c, 1, none⟩ = some (.int .i64 z.c) ∧ W.cell? ⟨c, 2, none⟩ = some (.int .i64 z.s) ∧ W.cell? ⟨c, 3, none⟩ = some (.int .i32 z.ch) ∧ W.cell? ⟨c, 4, none⟩ = some (.bool z.d) ∧ W.cell? ⟨c, 5, none⟩ = some (.pointer pc) ∧ W.cell? ⟨w.heap.size, 0, none⟩ = some (.int .i64 x.c) ∧ W.cell? ⟨w.heap.size, 1, none⟩ = some (.int .i64 x.s) ∧ W.cell? ⟨w.heap.size, 2, none⟩ = some (.int .i32 x.ch) ∧ W.cell? ⟨w.heap.size, 3, none⟩ = some (.bool x.d) ∧ Pk (fun W => Below w.heap.size w W ∧ Is W pl L ∧ Is W pa A ∧ Is W (some ⟨c, 0, none⟩) (Tr.node B z C) ∧ Is W pb B ∧ Is W pc C ∧ Blk W b [.pointer (some ⟨c, 0, none⟩), .int .i64 y.c, .int .i64 y.s, .int .i32 y.ch, .bool y.d, .pointer pa, .int .i64 ((Tr.node (Tr.node B z C) y A).size : Int), .int .i64 ((Tr.node (Tr.node B z C) y A).alive : Int), .int .i64 ((Tr.node (Tr.node B z C) y A).depth : Int)] 61 ∧ Blk W c [.pointer pb, .int .i64 z.c, .int .i64 z.s, .int .i32 z.ch, .bool z.d, .pointer pc, .int .i64 ((Tr.node B z C).size : Int), .int .i64 ((Tr.node B z C).alive : Int), .int .i64 ((Tr.node B z C).depth : Int)] 61 ∧ Blk W w.heap.size [.int .i64 x.c, .int .i64 x.s, .int .i32 x.ch, .bool x.d] 30) W) W' from fun W W' hb h => ⟨(h.2.2.2.2.2.2.1.next hb).cell 0 rfl, (h.2.2.2.2.2.2.1.next hb).cell 1 rfl, (h.2.2.2.2.2.2.1.next hb).cell 2 rfl, (h.2.2.2.2.2.2.1.next hb).cell 3 rfl, (h.2.2.2.2.2.2.1.next hb).cell 4 rfl, (h.2.2.2.2.2.2.1.next hb).cell 5 rfl, (h.2.2.2.2.2.2.2.1.next hb).cell 0 rfl, (h.2.2.2.2.2.2.2.1.next hb).cell 1 rfl, (h.2.2.2.2.2.2.2.1.next hb).cell 2 rfl, (h.2.2.2.2.2.2.2.1.next hb).cell 3 rfl, (h.2.2.2.2.2.2.2.1.next hb).cell 4 rfl, (h.2.2.2.2.2.2.2.1.next hb).cell 5 rfl, (h.2.2.2.2.2.2.2.2.next hb).cell 0 rfl, (h.2.2.2.2.2.2.2.2.next hb).cell 1 rfl, (h.2.2.2.2.2.2.2.2.next hb).cell 2 rfl, (h.2.2.2.2.2.2.2.2.next hb).cell 3 rfl, ⟨h.1.trans (hb.mono h.1.size), h.2.1.next hb, h.2.2.1.next hb, h.2.2.2.1.next hb, h.2.2.2.2.1.next hb, h.2.2.2.2.2.1.next hb, h.2.2.2.2.2.2.1.next hb, h.2.2.2.2.2.2.2.1.next hb, h.2.2.2.2.2.2.2.2.next hb⟩⟩)
  clear hb0 ho hA hI hB hBt hCt hC
  have fs2 := fieldS2
  have hc0 := (HR.out.2.2.2.2.2.2.1).cell 0 rfl
  go_enter Tryd.func35, Tryd.ntmps35
  go_wp2_with fail
  clear hc0
  generalize hW0 : w.alloc (.cells #[.int .i64 x.c, .int .i64 x.s, .int .i32 x.ch, .bool x.d] 30) = W0 at *
  clear hW0
  refine wp_region_noPanic ?_
  refine wp_region_held_drew (S := (fun W => W.cell? ⟨b, 0, none⟩ = some (.pointer (some ⟨c, 0, none⟩)) ∧ W.cell? ⟨b, 1, none⟩ = some (.int .i64 y.c) ∧ W.cell? ⟨b, 2, none⟩ = some (.int .i64 y.s) ∧ W.cell? ⟨b, 3, none⟩ = some (.int .i32 y.ch) ∧ W.cell? ⟨b, 4, none⟩ = some (.bool y.d) ∧ W.cell? ⟨b, 5, none⟩ = some (.pointer pa) ∧ W.cell? ⟨c, 0, none⟩ = some (.pointer pb) ∧ W.cell? ⟨c, 1, none⟩ = some (.int .i64 z.c) ∧ W.cell? ⟨c, 2, none⟩ = some (.int .i64 z.s) ∧ W.cell? ⟨c, 3, none⟩ = some (.int .i32 z.ch) ∧ W.cell? ⟨c, 4, none⟩ = some (.bool z.d) ∧ W.cell? ⟨c, 5, none⟩ = some (.pointer pc) ∧ W.cell? ⟨w.heap.size, 0, none⟩ = some (.int .i64 x.c) ∧ W.cell? ⟨w.heap.size, 1, none⟩ = some (.int .i64 x.s) ∧ W.cell? ⟨w.heap.size, 2, none⟩ = some (.int .i32 x.ch) ∧ W.cell? ⟨w.heap.size, 3, none⟩ = some (.bool x.d) ∧ Pk (fun W => Below w.heap.size w W ∧ Is W pl L ∧ Is W pa A ∧ Is W (some ⟨c, 0, none⟩) (Tr.node B z C) ∧ Is W pb B ∧ Is W pc C ∧ Blk W b [.pointer (some ⟨c, 0, none⟩), .int .i64 y.c, .int .i64 y.s, .int .i32 y.ch, .bool y.d, .pointer pa, .int .i64 ((Tr.node (Tr.node B z C) y A).size : Int), .int .i64 ((Tr.node (Tr.node B z C) y A).alive : Int), .int .i64 ((Tr.node (Tr.node B z C) y A).depth : Int)] 61 ∧ Blk W c [.pointer pb, .int .i64 z.c, .int .i64 z.s, .int .i32 z.ch, .bool z.d, .pointer pc, .int .i64 ((Tr.node B z C).size : Int), .int .i64 ((Tr.node B z C).alive : Int), .int .i64 ((Tr.node B z C).depth : Int)] 61 ∧ Blk W w.heap.size [.int .i64 x.c, .int .i64 x.s, .int .i32 x.ch, .bool x.d] 30) W)) (by kernel_rfl) ?_ (fun hHeld => ?_)
  · exact hKp.out _ _ (Below.refl _ _).drew HR.out
  clear HR
  refine take1 (i := 0) (v := .pointer (some ⟨c, 0, none⟩)) rfl (by kernel_rfl) (by kernel_rfl) (by kernel_rfl) (fun _ _ _ h => h) (Or.inl ⟨by rfl, fun w hSw => ?_⟩) hHeld ?_
  · (go_simp)
  try simp only [Act.put, List.setIfInBounds_toArray, List.set_cons_zero, List.set_cons_succ]
  refine take1 (i := 3) (v := .pointer (some ⟨b, 0, none⟩)) rfl (by kernel_rfl) (by kernel_rfl) (by kernel_rfl) (fun _ _ _ h => h) (Or.inl ⟨by rfl, fun w hSw => ?_⟩) hHeld ?_
  · (go_simp)
  try simp only [Act.put, List.setIfInBounds_toArray, List.set_cons_zero, List.set_cons_succ]
  refine take1 (i := 4) (v := .pointer (some ⟨b, 0, none⟩)) rfl (by kernel_rfl) (by kernel_rfl) (by kernel_rfl) (fun _ _ _ h => h) (Or.inl ⟨by rfl, fun w hSw => ?_⟩) hHeld ?_
  · (go_simp)
  try simp only [Act.put, List.setIfInBounds_toArray, List.set_cons_zero, List.set_cons_succ]
  refine take1 (i := 5) (v := .pointer (some ⟨b, 5, none⟩)) rfl (by kernel_rfl) (by kernel_rfl) (by kernel_rfl) (fun _ _ _ h => h) (Or.inl ⟨by rfl, fun w hSw => ?_⟩) hHeld ?_
  · (go_simp)
  try simp only [Act.put, List.setIfInBounds_toArray, List.set_cons_zero, List.set_cons_succ]
  refine take1 (i := 6) (v := .pointer pa) rfl (by kernel_rfl) (by kernel_rfl) (by kernel_rfl) (fun _ _ _ h => h) (Or.inl ⟨by rfl, fun w hSw => ?_⟩) hHeld ?_
  · (go_simp)
  try simp only [Act.put, List.setIfInBounds_toArray, List.set_cons_zero, List.set_cons_succ]
  refine wpAnyH_ready (rs := [1]) (by kernel_rfl) (by simp) ?_
  refine cons1 rfl (fun K hK => ?_) AllReadyH.nil
  go_simp
  refine (total_any _ (hHeld.2.2.2.2.2.2.2.2.2.2.2.2.2.2.2.2.2.2.2.1)).mono ?_
  rintro e u1 ⟨rfl, hb⟩
  go_wp2_with fail
  refine hK.out _ _ (hKp.out _ _ hb hHeld.2.2.2.2.2.2.2.2.2.2.2.2.2.2.2.2) (fun hHeld2 => ?_)
  clear hK K hHeld hb
  have hHeld := hHeld2
  clear hHeld2
  try simp only [Act.put, List.setIfInBounds_toArray, List.set_cons_zero, List.set_cons_succ]
  refine take1 (i := 2) (v := .int .i64 (((Tr.node B z C).depth : Int))) rfl (by kernel_rfl) (by kernel_rfl) (by kernel_rfl) (fun _ _ _ h => h) (Or.inl ⟨by rfl, fun w hSw => ?_⟩) hHeld ?_
  · (go_simp)
  try simp only [Act.put, List.setIfInBounds_toArray, List.set_cons_zero, List.set_cons_succ]
  refine wpAnyH_ready (rs := [7]) (by kernel_rfl) (by simp) ?_
  refine cons1 rfl (fun K hK => ?_) AllReadyH.nil
  go_simp
  refine (total_any _ (hHeld.2.2.2.2.2.2.2.2.2.2.2.2.2.2.2.2.2.2.1)).mono ?_
  rintro e u2 ⟨rfl, hb⟩
  go_wp2_with fail
  refine hK.out _ _ (hKp.out _ _ hb hHeld.2.2.2.2.2.2.2.2.2.2.2.2.2.2.2.2) (fun hHeld2 => ?_)
  clear hK K hHeld hb
  have hHeld := hHeld2
  clear hHeld2
  try simp only [Act.put, List.setIfInBounds_toArray, List.set_cons_zero, List.set_cons_succ]
  refine take1 (i := 8) (v := .int .i64 ((A.depth : Int))) rfl (by kernel_rfl) (by kernel_rfl) (by kernel_rfl) (fun _ _ _ h => h) (Or.inl ⟨by rfl, fun w hSw => ?_⟩) hHeld ?_
  · (go_simp)
  try simp only [Act.put, List.setIfInBounds_toArray, List.set_cons_zero, List.set_cons_succ]
  refine take1 (i := 9) (v := .bool false) rfl (by kernel_rfl) (by kernel_rfl) (by kernel_rfl) (fun _ _ _ h => h) (Or.inl ⟨by rfl, fun w hSw => ?_⟩) hHeld ?_
  · (go_simp)
  try simp only [Act.put, List.setIfInBounds_toArray, List.set_cons_zero, List.set_cons_succ]
  refine wpAnyH_done (by kernel_rfl) ?_ _
  refine NoPanic.normal ?_
  have HR := Lib.hid hHeld.2.2.2.2.2.2.2.2.2.2.2.2.2.2.2.2
  clear hHeld
  go_wp2_with fail
  refine wp_region_noPanic ?_
  refine wp_region_held_drew (S := (fun W => W.cell? ⟨b, 0, none⟩ = some (.pointer (some ⟨c, 0, none⟩)) ∧ W.cell? ⟨b, 1, none⟩ = some (.int .i64 y.c) ∧ W.cell? ⟨b, 2, none⟩ = some (.int .i64 y.s) ∧ W.cell? ⟨b, 3, none⟩ = some (.int .i32 y.ch) ∧ W.cell? ⟨b, 4, none⟩ = some (.bool y.d) ∧ W.cell? ⟨b, 5, none⟩ = some (.pointer pa) ∧ W.cell? ⟨c, 0, none⟩ = some (.pointer pb) ∧ W.cell? ⟨c, 1, none⟩ = some (.int .i64 z.c) ∧ W.cell? ⟨c, 2, none⟩ = some (.int .i64 z.s) ∧ W.cell? ⟨c, 3, none⟩ = some (.int .i32 z.ch) ∧ W.cell? ⟨c, 4, none⟩ = some (.bool z.d) ∧ W.cell? ⟨c, 5, none⟩ = some (.pointer pc) ∧ W.cell? ⟨w.heap.size, 0, none⟩ = some (.int .i64 x.c) ∧ W.cell? ⟨w.heap.size, 1, none⟩ = some (.int .i64 x.s) ∧ W.cell? ⟨w.heap.size, 2, none⟩ = some (.int .i32 x.ch) ∧ W.cell? ⟨w.heap.size, 3, none⟩ = some (.bool x.d) ∧ Pk (fun W => Below w.heap.size w W ∧ Is W pl L ∧ Is W pa A ∧ Is W (some ⟨c, 0, none⟩) (Tr.node B z C) ∧ Is W pb B ∧ Is W pc C ∧ Blk W b [.pointer (some ⟨c, 0, none⟩), .int .i64 y.c, .int .i64 y.s, .int .i32 y.ch, .bool y.d, .pointer pa, .int .i64 ((Tr.node (Tr.node B z C) y A).size : Int), .int .i64 ((Tr.node (Tr.node B z C) y A).alive : Int), .int .i64 ((Tr.node (Tr.node B z C) y A).depth : Int)] 61 ∧ Blk W c [.pointer pb, .int .i64 z.c, .int .i64 z.s, .int .i32 z.ch, .bool z.d, .pointer pc, .int .i64 ((Tr.node B z C).size : Int), .int .i64 ((Tr.node B z C).alive : Int), .int .i64 ((Tr.node B z C).depth : Int)] 61 ∧ Blk W w.heap.size [.int .i64 x.c, .int .i64 x.s, .int .i32 x.ch, .bool x.d] 30) W)) (by kernel_rfl) ?_ (fun hHeld => ?_)
  · exact hKp.out _ _ (Below.refl _ _).drew HR.out
  clear HR
  refine take1 (i := 0) (v := .pointer pl) rfl (by kernel_rfl) (by kernel_rfl) (by kernel_rfl) (fun _ _ _ h => h) (Or.inl ⟨by rfl, fun w hSw => ?_⟩) hHeld ?_
  · (go_simp)
  try simp only [Act.put, List.setIfInBounds_toArray, List.set_cons_zero, List.set_cons_succ]
  refine take1 (i := 1) (v := .agg #[.int .i64 x.c, .int .i64 x.s, .int .i32 x.ch, .bool x.d]) rfl (by kernel_rfl) (by kernel_rfl) (by kernel_rfl) (fun _ _ _ h => h) (Or.inl ⟨by rfl, fun w hSw => ?_⟩) hHeld ?_
  · (go_simp)
  try simp only [Act.put, List.setIfInBounds_toArray, List.set_cons_zero, List.set_cons_succ]
  refine take1 (i := 2) (v := .pointer (some ⟨c, 0, none⟩)) rfl (by kernel_rfl) (by kernel_rfl) (by kernel_rfl) (fun _ _ _ h => h) (Or.inl ⟨by rfl, fun w hSw => ?_⟩) hHeld ?_
  · (go_simp)
  try simp only [Act.put, List.setIfInBounds_toArray, List.set_cons_zero, List.set_cons_succ]
  refine take1 (i := 3) (v := .pointer (some ⟨c, 0, none⟩)) rfl (by kernel_rfl) (by kernel_rfl) (by kernel_rfl) (fun _ _ _ h => h) (Or.inl ⟨by rfl, fun w hSw => ?_⟩) hHeld ?_
  · (go_simp)
  try simp only [Act.put, List.setIfInBounds_toArray, List.set_cons_zero, List.set_cons_succ]
  refine take1 (i := 4) (v := .pointer (some ⟨c, 0, none⟩)) rfl (by kernel_rfl) (by kernel_rfl) (by kernel_rfl) (fun _ _ _ h => h) (Or.inl ⟨by rfl, fun w hSw => ?_⟩) hHeld ?_
  · (go_simp)
  try simp only [Act.put, List.setIfInBounds_toArray, List.set_cons_zero, List.set_cons_succ]
  refine take1 (i := 5) (v := .pointer pb) rfl (by kernel_rfl) (by kernel_rfl) (by kernel_rfl) (fun _ _ _ h => h) (Or.inl ⟨by rfl, fun w hSw => ?_⟩) hHeld ?_
  · (go_simp)
  try simp only [Act.put, List.setIfInBounds_toArray, List.set_cons_zero, List.set_cons_succ]
  refine take1 (i := 7) (v := .pointer (some ⟨c, 0, none⟩)) rfl (by kernel_rfl) (by kernel_rfl) (by kernel_rfl) (fun _ _ _ h => h) (Or.inl ⟨by rfl, fun w hSw => ?_⟩) hHeld ?_
  · (go_simp)
  try simp only [Act.put, List.setIfInBounds_toArray, List.set_cons_zero, List.set_cons_succ]
  refine take1 (i := 8) (v := .pointer (some ⟨c, 0, none⟩)) rfl (by kernel_rfl) (by kernel_rfl) (by kernel_rfl) (fun _ _ _ h => h) (Or.inl ⟨by rfl, fun w hSw => ?_⟩) hHeld ?_
  · (go_simp)
  try simp only [Act.put, List.setIfInBounds_toArray, List.set_cons_zero, List.set_cons_succ]
  refine take1 (i := 9) (v := .pointer (some ⟨c, 1, none⟩)) rfl (by kernel_rfl) (by kernel_rfl) (by kernel_rfl) (fun _ _ _ h => h) (Or.inl ⟨by rfl, fun w hSw => ?_⟩) hHeld ?_
  · (go_simp)
  try simp only [Act.put, List.setIfInBounds_toArray, List.set_cons_zero, List.set_cons_succ]
  refine take1 (i := 10) (v := .agg #[.int .i64 z.c, .int .i64 z.s, .int .i32 z.ch, .bool z.d]) rfl (by kernel_rfl) (by kernel_rfl) (by kernel_rfl) (fun _ _ _ h => h) (Or.inl ⟨by rfl, fun w hSw => ?_⟩) hHeld ?_
  · (go_simp)
  try simp only [Act.put, List.setIfInBounds_toArray, List.set_cons_zero, List.set_cons_succ]
  refine take1 (i := 11) (v := .pointer (some ⟨c, 0, none⟩)) rfl (by kernel_rfl) (by kernel_rfl) (by kernel_rfl) (fun _ _ _ h => h) (Or.inl ⟨by rfl, fun w hSw => ?_⟩) hHeld ?_
  · (go_simp)
  try simp only [Act.put, List.setIfInBounds_toArray, List.set_cons_zero, List.set_cons_succ]
  refine take1 (i := 12) (v := .pointer (some ⟨c, 0, none⟩)) rfl (by kernel_rfl) (by kernel_rfl) (by kernel_rfl) (fun _ _ _ h => h) (Or.inl ⟨by rfl, fun w hSw => ?_⟩) hHeld ?_
  · (go_simp)
  try simp only [Act.put, List.setIfInBounds_toArray, List.set_cons_zero, List.set_cons_succ]
  refine take1 (i := 13) (v := .pointer (some ⟨c, 5, none⟩)) rfl (by kernel_rfl) (by kernel_rfl) (by kernel_rfl) (fun _ _ _ h => h) (Or.inl ⟨by rfl, fun w hSw => ?_⟩) hHeld ?_
  · (go_simp)
  try simp only [Act.put, List.setIfInBounds_toArray, List.set_cons_zero, List.set_cons_succ]
  refine take1 (i := 14) (v := .pointer pc) rfl (by kernel_rfl) (by kernel_rfl) (by kernel_rfl) (fun _ _ _ h => h) (Or.inl ⟨by rfl, fun w hSw => ?_⟩) hHeld ?_
  · (go_simp)
  try simp only [Act.put, List.setIfInBounds_toArray, List.set_cons_zero, List.set_cons_succ]
  refine take1 (i := 15) (v := .pointer (some ⟨b, 0, none⟩)) rfl (by kernel_rfl) (by kernel_rfl) (by kernel_rfl) (fun _ _ _ h => h) (Or.inl ⟨by rfl, fun w hSw => ?_⟩) hHeld ?_
  · (go_simp)
  try simp only [Act.put, List.setIfInBounds_toArray, List.set_cons_zero, List.set_cons_succ]
  refine take1 (i := 16) (v := .pointer (some ⟨b, 0, none⟩)) rfl (by kernel_rfl) (by kernel_rfl) (by kernel_rfl) (fun _ _ _ h => h) (Or.inl ⟨by rfl, fun w hSw => ?_⟩) hHeld ?_
  · (go_simp)
  try simp only [Act.put, List.setIfInBounds_toArray, List.set_cons_zero, List.set_cons_succ]
  refine take1 (i := 17) (v := .pointer (some ⟨b, 1, none⟩)) rfl (by kernel_rfl) (by kernel_rfl) (by kernel_rfl) (fun _ _ _ h => h) (Or.inl ⟨by rfl, fun w hSw => ?_⟩) hHeld ?_
  · (go_simp)
  try simp only [Act.put, List.setIfInBounds_toArray, List.set_cons_zero, List.set_cons_succ]
  refine take1 (i := 18) (v := .agg #[.int .i64 y.c, .int .i64 y.s, .int .i32 y.ch, .bool y.d]) rfl (by kernel_rfl) (by kernel_rfl) (by kernel_rfl) (fun _ _ _ h => h) (Or.inl ⟨by rfl, fun w hSw => ?_⟩) hHeld ?_
  · (go_simp)
  try simp only [Act.put, List.setIfInBounds_toArray, List.set_cons_zero, List.set_cons_succ]
  refine take1 (i := 19) (v := .pointer (some ⟨b, 0, none⟩)) rfl (by kernel_rfl) (by kernel_rfl) (by kernel_rfl) (fun _ _ _ h => h) (Or.inl ⟨by rfl, fun w hSw => ?_⟩) hHeld ?_
  · (go_simp)
  try simp only [Act.put, List.setIfInBounds_toArray, List.set_cons_zero, List.set_cons_succ]
  refine take1 (i := 20) (v := .pointer (some ⟨b, 0, none⟩)) rfl (by kernel_rfl) (by kernel_rfl) (by kernel_rfl) (fun _ _ _ h => h) (Or.inl ⟨by rfl, fun w hSw => ?_⟩) hHeld ?_
  · (go_simp)
  try simp only [Act.put, List.setIfInBounds_toArray, List.set_cons_zero, List.set_cons_succ]
  refine take1 (i := 21) (v := .pointer (some ⟨b, 5, none⟩)) rfl (by kernel_rfl) (by kernel_rfl) (by kernel_rfl) (fun _ _ _ h => h) (Or.inl ⟨by rfl, fun w hSw => ?_⟩) hHeld ?_
  · (go_simp)
  try simp only [Act.put, List.setIfInBounds_toArray, List.set_cons_zero, List.set_cons_succ]
  refine take1 (i := 22) (v := .pointer pa) rfl (by kernel_rfl) (by kernel_rfl) (by kernel_rfl) (fun _ _ _ h => h) (Or.inl ⟨by rfl, fun w hSw => ?_⟩) hHeld ?_
  · (go_simp)
  try simp only [Act.put, List.setIfInBounds_toArray, List.set_cons_zero, List.set_cons_succ]
  refine wpAnyH_ready (rs := [6]) (by kernel_rfl) (by simp) ?_
  refine cons1 rfl (fun K hK => ?_) AllReadyH.nil
  go_simp
  refine (join_any x _ (hHeld.2.2.2.2.2.2.2.2.2.2.2.2.2.2.2.2.2.1) (hHeld.2.2.2.2.2.2.2.2.2.2.2.2.2.2.2.2.2.2.2.2.1) (by first | omega | (simp only [Tr.size] at hs ⊢; omega) | (simp only [Tr.size]; omega))).mono ?_
  rintro e u3 ⟨q3, rfl, hq3, hb⟩
  go_wp2_with fail
  refine hK.out _ _ (hKp.out _ _ hb hHeld.2.2.2.2.2.2.2.2.2.2.2.2.2.2.2.2) (fun hHeld2 => ?_)
  clear hK K hHeld hb
  have hHeld := hHeld2
  clear hHeld2
  try simp only [Act.put, List.setIfInBounds_toArray, List.set_cons_zero, List.set_cons_succ]
  refine wpAnyH_ready (rs := [23]) (by kernel_rfl) (by simp) ?_
  refine cons1 rfl (fun K hK => ?_) AllReadyH.nil
  go_simp
  refine (join_any y _ (hHeld.2.2.2.2.2.2.2.2.2.2.2.2.2.2.2.2.2.2.2.2.2.1) (hHeld.2.2.2.2.2.2.2.2.2.2.2.2.2.2.2.2.2.2.1) (by first | omega | (simp only [Tr.size] at hs ⊢; omega) | (simp only [Tr.size]; omega))).mono ?_
  rintro e u4 ⟨q4, rfl, hq4, hb⟩
  go_wp2_with fail
  refine hK.out _ _ (hKp.out _ _ hb hHeld.2.2.2.2.2.2.2.2.2.2.2.2.2.2.2.2) (fun hHeld2 => ?_)
  have hq32 := hq3.next hb
  clear hq3
  have hq3 := hq32
  clear hq32
  clear hK K hHeld hb
  have hHeld := hHeld2
  clear hHeld2
  try simp only [Act.put, List.setIfInBounds_toArray, List.set_cons_zero, List.set_cons_succ]
  refine wpAnyH_ready (rs := [24]) (by kernel_rfl) (by simp) ?_
  refine cons1 rfl (fun K hK => ?_) AllReadyH.nil
  go_simp
  refine (join_any z _ (hq3) (hq4) (by first | omega | (simp only [Tr.size] at hs ⊢; omega) | (simp only [Tr.size]; omega))).mono ?_
  rintro e u5 ⟨q5, rfl, hq5, hb⟩
  go_wp2_with fail
  refine hK.out _ _ (hKp.out _ _ hb hHeld.2.2.2.2.2.2.2.2.2.2.2.2.2.2.2.2) (fun hHeld2 => ?_)
  have hq32 := hq3.next hb
  clear hq3
  have hq3 := hq32
  clear hq32
  have hq42 := hq4.next hb
  clear hq4
  have hq4 := hq42
  clear hq42
  clear hK K hHeld hb
  have hHeld := hHeld2
  clear hHeld2
  try simp only [Act.put, List.setIfInBounds_toArray, List.set_cons_zero, List.set_cons_succ]
  refine take1 (i := 25) (v := .pointer q5) rfl (by kernel_rfl) (by kernel_rfl) (by kernel_rfl) (fun _ _ _ h => h) (Or.inl ⟨by rfl, fun w hSw => ?_⟩) hHeld ?_
  · (go_simp)
  try simp only [Act.put, List.setIfInBounds_toArray, List.set_cons_zero, List.set_cons_succ]
  refine wpAnyH_done (by kernel_rfl) ?_ _
  refine NoPanic.normal ?_
  have HR := Lib.hid hHeld.2.2.2.2.2.2.2.2.2.2.2.2.2.2.2.2
  clear hHeld
  go_wp2_with fail
  go_ret
  exact ⟨_, rfl, hq5, HR.out.1⟩
end Go.Proofs.YtjfffnnkkjceoaaDoor
