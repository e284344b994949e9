/-
  The contracts of the nodes' insert and set, and what they make of a plain tree.
-/
import Derived.Test.YtjfffnnkkjceoaaDoorBal
namespace Go.Proofs.YtjfffnnkkjceoaaDoor
open Go Go.Proofs Go.RowKit

/-- An element is put in at a place. -/
def insT : Tr → Int → El → Tr
  | .nil, _, e => .node .nil e .nil
  | .node l x r, i, e => if i ≤ l.size then bal (insT l i e) x r else bal l x (insT r (i - l.size - 1) e)
/-- An element stands in place of another one. -/
def setT : Tr → Int → El → Tr
  | .nil, _, _ => .nil
  | .node l x r, i, e => if i < l.size then .node (setT l i e) x r else if l.size < i then .node l x (setT r (i - l.size - 1) e) else .node l e r
theorem insT_size (e : El) : ∀ (T : Tr) (i : Int), (insT T i e).size = T.size + 1
  | .nil, _ => rfl
  | .node l x r, i => by
    simp only [insT]
    split
    · rw [bal_size, insT_size e l]; simp only [Tr.size]; omega
    · rw [bal_size, insT_size e r]; simp only [Tr.size]; omega
theorem setT_size (e : El) : ∀ (T : Tr) (i : Int), (setT T i e).size = T.size
  | .nil, _ => rfl
  | .node l x r, i => by
    simp only [setT]
    split
    · simp only [Tr.size, setT_size e l]
    · split
      · simp only [Tr.size, setT_size e r]
      · simp only [Tr.size]
theorem insT_1 {l r : Tr} (x e : El) {i : Int} (h : i ≤ l.size) : insT (.node l x r) i e = bal (insT l i e) x r := by simp only [insT]; rw [if_pos h]
theorem insT_2 {l r : Tr} (x e : El) {i : Int} (h : ¬ i ≤ l.size) : insT (.node l x r) i e = bal l x (insT r (i - l.size - 1) e) := by simp only [insT]; rw [if_neg h]
theorem setT_1 {l r : Tr} (x e : El) {i : Int} (h : i < l.size) : setT (.node l x r) i e = .node (setT l i e) x r := by simp only [setT]; rw [if_pos h]
theorem setT_2 {l r : Tr} (x e : El) {i : Int} (h : l.size < i) : setT (.node l x r) i e = .node l x (setT r (i - l.size - 1) e) := by simp only [setT]; rw [if_neg (by omega), if_pos h]
theorem setT_3 {l r : Tr} (x e : El) {i : Int} (h : i = l.size) : setT (.node l x r) i e = .node l e r := by simp only [setT]; rw [if_neg (by omega), if_neg (by omega)]

set_option maxHeartbeats 400000 in
theorem insert_nil (e : El) (i : Int) (w : World) :
    Calls Tryd.prog 14 #[.pointer none, .int .i64 i, .agg #[.int .i64 e.c, .int .i64 e.s, .int .i32 e.ch, .bool e.d]] w (RetT (insT .nil i e) w) := by
  have H0 := Lib.hid (BR.start (w := w) (L := .nil) (R := .nil) (pl := none) (pr := none) e rfl rfl)
  go_enter Tryd.func14, Tryd.ntmps14
  go_wp2_with (go_at_call 25; refine (join_any (L := .nil) (R := .nil) e _ rfl rfl (by decide)).mono ?_; rintro e' w3 ⟨q, rfl, hq, hb3⟩)
  go_ret
  exact ⟨_, rfl, hq, H0.out.bel.trans (hb3.mono H0.out.bel.size)⟩

set_option maxHeartbeats 1600000 in
theorem insert_1 {b0 : Option Addr} {l r : Tr} {x : El} (e : El) (i : Int) (w : World) (ht : Is w b0 (.node l x r)) (hs : (Tr.node l x r).size ≤ 800) (_h0 : 0 ≤ i) (_h1 : i ≤ 100000) (hc : i ≤ (l.size : Int)) (ihl : ∀ (p : Option Addr) (w : World), Is w p l → Calls Tryd.prog 14 #[.pointer p, .int .i64 i, .agg #[.int .i64 e.c, .int .i64 e.s, .int .i32 e.ch, .bool e.d]] w (RetT (insT l i e) w)) :
    Calls Tryd.prog 14 #[.pointer b0, .int .i64 i, .agg #[.int .i64 e.c, .int .i64 e.s, .int .i32 e.ch, .bool e.d]] w (RetT (insT (.node l x r) i e) w) := by
  obtain ⟨b, pl, pr, rfl, -, hB, hl, hr⟩ := ht
  have hsz : l.size + r.size + 1 ≤ 800 := by simp only [Tr.size] at hs; omega
  have hb0 := (Below.refl w.heap.size w).alloc (Nat.le_refl _) (.cells #[.int .i64 e.c, .int .i64 e.s, .int .i32 e.ch, .bool e.d] 30)
  have HR := Lib.hid (show Pk (fun W => Below w.heap.size w W ∧ Is W pl l ∧ Is W pr r ∧ Blk W b [.pointer pl, .int .i64 x.c, .int .i64 x.s, .int .i32 x.ch, .bool x.d, .pointer pr, .int .i64 ((Tr.node l x r).size : Int), .int .i64 ((Tr.node l x r).alive : Int), .int .i64 ((Tr.node l x r).depth : Int)] 61 ∧ Blk W w.heap.size [.int .i64 e.c, .int .i64 e.s, .int .i32 e.ch, .bool e.d] 30) (w.alloc (.cells #[.int .i64 e.c, .int .i64 e.s, .int .i32 e.ch, .bool e.d] 30)) from ⟨hb0, hl.next hb0, hr.next hb0, hB.next hb0, Blk.start _ _ _⟩)
  have hKp := Lib.hid (show ∀ W W' : World, Below W.heap.size W W' → Pk (fun W => Below w.heap.size w W ∧ Is W pl l ∧ Is W pr r ∧ Blk W b [.pointer pl, .int .i64 x.c, .int .i64 x.s, .int .i32 x.ch, .bool x.d, .pointer pr, .int .i64 ((Tr.node l x r).size : Int), .int .i64 ((Tr.node l x r).alive : Int), .int .i64 ((Tr.node l x r).depth : Int)] 61 ∧ Blk W w.heap.size [.int .i64 e.c, .int .i64 e.s, .int .i32 e.ch, .bool e.d] 30) W → (fun W => W.cell? ⟨b, 0, none⟩ = some (.pointer pl) ∧ W.cell? ⟨b, 1, none⟩ = some (.int .i64 x.c) ∧ W.cell? ⟨b, 2, none⟩ = some (.int .i64 x.s) ∧ W.cell? ⟨b, 3, none⟩ = some (.int .i32 x.ch) ∧ W.cell? ⟨b, 4, none⟩ = some (.bool x.d) ∧ W.cell? ⟨b, 5, none⟩ = some (.pointer pr) ∧ W.cell? ⟨w.heap.size, 0, none⟩ = some (.int .i64 e.c) ∧ W.cell? ⟨w.heap.size, 1, none⟩ = some (.int .i64 e.s) ∧ W.cell? ⟨w.heap.size, 2, none⟩ = some (.int .i32 e.ch) ∧ W.cell? ⟨w.heap.size, 3, none⟩ = some (.bool e.d) ∧ Pk (fun W => Below w.heap.size w W ∧ Is W pl l ∧ Is W pr r ∧ Blk W b [.pointer pl, .int .i64 x.c, .int .i64 x.s, .int .i32 x.ch, .bool x.d, .pointer pr, .int .i64 ((Tr.node l x r).size : Int), .int .i64 ((Tr.node l x r).alive : Int), .int .i64 ((Tr.node l x r).depth : Int)] 61 ∧ Blk W w.heap.size [.int .i64 e.c, .int .i64 e.s, .int .i32 e.ch, .bool e.d] 30) W) W' from fun W W' hb h => ⟨(h.2.2.2.1.next hb).cell 0 rfl, (h.2.2.2.1.next hb).cell 1 rfl, (h.2.2.2.1.next hb).cell 2 rfl, (h.2.2.2.1.next hb).cell 3 rfl, (h.2.2.2.1.next hb).cell 4 rfl, (h.2.2.2.1.next hb).cell 5 rfl, (h.2.2.2.2.next hb).cell 0 rfl, (h.2.2.2.2.next hb).cell 1 rfl, (h.2.2.2.2.next hb).cell 2 rfl, (h.2.2.2.2.next hb).cell 3 rfl, ⟨h.1.trans (hb.mono h.1.size), h.2.1.next hb, h.2.2.1.next hb, h.2.2.2.1.next hb, h.2.2.2.2.next hb⟩⟩)
  have HE := Lib.hid (insT_1 (r := r) x e hc)
  have hc0 := (HR.out.2.2.2.1).cell 0 rfl
  clear hb0 hl hr hB
  have fs0 := fieldS0
  go_enter Tryd.func14, Tryd.ntmps14
  go_wp2_with (go_at_call 20; refine (total_any _ (HR.out.2.1)).mono ?_; rintro e' w1 ⟨rfl, hb⟩; refine Hid.out ?_)
  have HR2 := Lib.hid ((hKp.out _ _ hb HR.out).2.2.2.2.2.2.2.2.2.2)
  clear HR hc0 hb
  have HR := HR2
  clear HR2
  refine Lib.hid ?_
  go_wp2_with fail
  refine wp_region_noPanic ?_
  refine wp_region_held_drew (S := (fun W => W.cell? ⟨b, 0, none⟩ = some (.pointer pl) ∧ W.cell? ⟨b, 1, none⟩ = some (.int .i64 x.c) ∧ W.cell? ⟨b, 2, none⟩ = some (.int .i64 x.s) ∧ W.cell? ⟨b, 3, none⟩ = some (.int .i32 x.ch) ∧ W.cell? ⟨b, 4, none⟩ = some (.bool x.d) ∧ W.cell? ⟨b, 5, none⟩ = some (.pointer pr) ∧ W.cell? ⟨w.heap.size, 0, none⟩ = some (.int .i64 e.c) ∧ W.cell? ⟨w.heap.size, 1, none⟩ = some (.int .i64 e.s) ∧ W.cell? ⟨w.heap.size, 2, none⟩ = some (.int .i32 e.ch) ∧ W.cell? ⟨w.heap.size, 3, none⟩ = some (.bool e.d) ∧ Pk (fun W => Below w.heap.size w W ∧ Is W pl l ∧ Is W pr r ∧ Blk W b [.pointer pl, .int .i64 x.c, .int .i64 x.s, .int .i32 x.ch, .bool x.d, .pointer pr, .int .i64 ((Tr.node l x r).size : Int), .int .i64 ((Tr.node l x r).alive : Int), .int .i64 ((Tr.node l x r).depth : Int)] 61 ∧ Blk W w.heap.size [.int .i64 e.c, .int .i64 e.s, .int .i32 e.ch, .bool e.d] 30) W)) (by kernel_rfl) ?_ (fun hHeld => ?_)
  · exact hKp.out _ _ (Below.refl _ _).drew HR.out
  clear HR
  refine take1 (i := 0) (v := .pointer (some ⟨b, 0, none⟩)) rfl (by kernel_rfl) (by kernel_rfl) (by kernel_rfl) (fun _ _ _ h => h) (Or.inl ⟨by rfl, fun w hSw => ?_⟩) hHeld ?_
  · (go_simp)
  try simp only [Act.put, List.setIfInBounds_toArray, List.set_cons_zero, List.set_cons_succ]
  refine take1 (i := 1) (v := .pointer (some ⟨b, 0, none⟩)) rfl (by kernel_rfl) (by kernel_rfl) (by kernel_rfl) (fun _ _ _ h => h) (Or.inl ⟨by rfl, fun w hSw => ?_⟩) hHeld ?_
  · (go_simp)
  try simp only [Act.put, List.setIfInBounds_toArray, List.set_cons_zero, List.set_cons_succ]
  refine take1 (i := 2) (v := .pointer (some ⟨b, 0, none⟩)) rfl (by kernel_rfl) (by kernel_rfl) (by kernel_rfl) (fun _ _ _ h => h) (Or.inl ⟨by rfl, fun w hSw => ?_⟩) hHeld ?_
  · (go_simp)
  try simp only [Act.put, List.setIfInBounds_toArray, List.set_cons_zero, List.set_cons_succ]
  refine take1 (i := 3) (v := .pointer pl) rfl (by kernel_rfl) (by kernel_rfl) (by kernel_rfl) (fun _ _ _ h => h) (Or.inl ⟨by rfl, fun w hSw => ?_⟩) hHeld ?_
  · (go_simp)
  try simp only [Act.put, List.setIfInBounds_toArray, List.set_cons_zero, List.set_cons_succ]
  refine take1 (i := 4) (v := .int .i64 i) rfl (by kernel_rfl) (by kernel_rfl) (by kernel_rfl) (fun _ _ _ h => h) (Or.inl ⟨by rfl, fun w hSw => ?_⟩) hHeld ?_
  · (go_simp)
  try simp only [Act.put, List.setIfInBounds_toArray, List.set_cons_zero, List.set_cons_succ]
  refine take1 (i := 5) (v := .agg #[.int .i64 e.c, .int .i64 e.s, .int .i32 e.ch, .bool e.d]) rfl (by kernel_rfl) (by kernel_rfl) (by kernel_rfl) (fun _ _ _ h => h) (Or.inl ⟨by rfl, fun w hSw => ?_⟩) hHeld ?_
  · (go_simp)
  try simp only [Act.put, List.setIfInBounds_toArray, List.set_cons_zero, List.set_cons_succ]
  refine take1 (i := 7) (v := .pointer (some ⟨b, 0, none⟩)) rfl (by kernel_rfl) (by kernel_rfl) (by kernel_rfl) (fun _ _ _ h => h) (Or.inl ⟨by rfl, fun w hSw => ?_⟩) hHeld ?_
  · (go_simp)
  try simp only [Act.put, List.setIfInBounds_toArray, List.set_cons_zero, List.set_cons_succ]
  refine take1 (i := 8) (v := .pointer (some ⟨b, 0, none⟩)) rfl (by kernel_rfl) (by kernel_rfl) (by kernel_rfl) (fun _ _ _ h => h) (Or.inl ⟨by rfl, fun w hSw => ?_⟩) hHeld ?_
  · (go_simp)
  try simp only [Act.put, List.setIfInBounds_toArray, List.set_cons_zero, List.set_cons_succ]
  refine take1 (i := 9) (v := .pointer (some ⟨b, 1, none⟩)) rfl (by kernel_rfl) (by kernel_rfl) (by kernel_rfl) (fun _ _ _ h => h) (Or.inl ⟨by rfl, fun w hSw => ?_⟩) hHeld ?_
  · (go_simp)
  try simp only [Act.put, List.setIfInBounds_toArray, List.set_cons_zero, List.set_cons_succ]
  refine take1 (i := 10) (v := .agg #[.int .i64 x.c, .int .i64 x.s, .int .i32 x.ch, .bool x.d]) rfl (by kernel_rfl) (by kernel_rfl) (by kernel_rfl) (fun _ _ _ h => h) (Or.inl ⟨by rfl, fun w hSw => ?_⟩) hHeld ?_
  · (go_simp)
  try simp only [Act.put, List.setIfInBounds_toArray, List.set_cons_zero, List.set_cons_succ]
  refine take1 (i := 11) (v := .pointer (some ⟨b, 0, none⟩)) rfl (by kernel_rfl) (by kernel_rfl) (by kernel_rfl) (fun _ _ _ h => h) (Or.inl ⟨by rfl, fun w hSw => ?_⟩) hHeld ?_
  · (go_simp)
  try simp only [Act.put, List.setIfInBounds_toArray, List.set_cons_zero, List.set_cons_succ]
  refine take1 (i := 12) (v := .pointer (some ⟨b, 0, none⟩)) rfl (by kernel_rfl) (by kernel_rfl) (by kernel_rfl) (fun _ _ _ h => h) (Or.inl ⟨by rfl, fun w hSw => ?_⟩) hHeld ?_
  · (go_simp)
  try simp only [Act.put, List.setIfInBounds_toArray, List.set_cons_zero, List.set_cons_succ]
  refine take1 (i := 13) (v := .pointer (some ⟨b, 5, none⟩)) rfl (by kernel_rfl) (by kernel_rfl) (by kernel_rfl) (fun _ _ _ h => h) (Or.inl ⟨by rfl, fun w hSw => ?_⟩) hHeld ?_
  · (go_simp)
  try simp only [Act.put, List.setIfInBounds_toArray, List.set_cons_zero, List.set_cons_succ]
  refine take1 (i := 14) (v := .pointer pr) rfl (by kernel_rfl) (by kernel_rfl) (by kernel_rfl) (fun _ _ _ h => h) (Or.inl ⟨by rfl, fun w hSw => ?_⟩) hHeld ?_
  · (go_simp)
  try simp only [Act.put, List.setIfInBounds_toArray, List.set_cons_zero, List.set_cons_succ]
  refine wpAnyH_ready (rs := [6]) (by kernel_rfl) (by simp) ?_
  refine cons1 rfl (fun K hK => ?_) AllReadyH.nil
  go_simp
  refine (ihl _ _ (hHeld.2.2.2.2.2.2.2.2.2.2.2.1)).mono ?_
  rintro e u2 ⟨q2, rfl, hq2, hb⟩
  go_wp2_with fail
  refine hK.out _ _ (hKp.out _ _ hb hHeld.2.2.2.2.2.2.2.2.2.2) (fun hHeld2 => ?_)
  clear hK K hHeld hb
  have hHeld := hHeld2
  clear hHeld2
  try simp only [Act.put, List.setIfInBounds_toArray, List.set_cons_zero, List.set_cons_succ]
  refine wpAnyH_ready (rs := [15]) (by kernel_rfl) (by simp) ?_
  refine cons1 rfl (fun K hK => ?_) AllReadyH.nil
  go_simp
  refine (balance_any x _ (hq2) (hHeld.2.2.2.2.2.2.2.2.2.2.2.2.1) (by rw [insT_size]; omega)).mono ?_
  rintro e u3 ⟨q3, rfl, hq3, hb⟩
  go_wp2_with fail
  refine hK.out _ _ (hKp.out _ _ hb hHeld.2.2.2.2.2.2.2.2.2.2) (fun hHeld2 => ?_)
  have hq22 := hq2.next hb
  clear hq2
  have hq2 := hq22
  clear hq22
  clear hK K hHeld hb
  have hHeld := hHeld2
  clear hHeld2
  try simp only [Act.put, List.setIfInBounds_toArray, List.set_cons_zero, List.set_cons_succ]
  refine take1 (i := 16) (v := .pointer q3) rfl (by kernel_rfl) (by kernel_rfl) (by kernel_rfl) (fun _ _ _ h => h) (Or.inl ⟨by rfl, fun w hSw => ?_⟩) hHeld ?_
  · (go_simp)
  try simp only [Act.put, List.setIfInBounds_toArray, List.set_cons_zero, List.set_cons_succ]
  refine wpAnyH_done (by kernel_rfl) ?_ _
  refine NoPanic.normal ?_
  have HR := Lib.hid hHeld.2.2.2.2.2.2.2.2.2.2
  clear hHeld
  go_wp2_with fail
  go_ret
  exact ⟨_, rfl, by rw [HE.out]; exact hq3, HR.out.1⟩

set_option maxHeartbeats 1600000 in
theorem insert_2 {b0 : Option Addr} {l r : Tr} {x : El} (e : El) (i : Int) (w : World) (ht : Is w b0 (.node l x r)) (hs : (Tr.node l x r).size ≤ 800) (h0 : 0 ≤ i) (h1 : i ≤ 100000) (hc : ¬ i ≤ (l.size : Int)) (ihr : ∀ (p : Option Addr) (w : World), Is w p r → Calls Tryd.prog 14 #[.pointer p, .int .i64 (i - (l.size : Int) - 1), .agg #[.int .i64 e.c, .int .i64 e.s, .int .i32 e.ch, .bool e.d]] w (RetT (insT r (i - (l.size : Int) - 1) e) w)) :
    Calls Tryd.prog 14 #[.pointer b0, .int .i64 i, .agg #[.int .i64 e.c, .int .i64 e.s, .int .i32 e.ch, .bool e.d]] w (RetT (insT (.node l x r) i e) w) := by
  obtain ⟨b, pl, pr, rfl, -, hB, hl, hr⟩ := ht
  have hsz : l.size + r.size + 1 ≤ 800 := by simp only [Tr.size] at hs; omega
  have s1 : IntKind.i64.wrap (i - (l.size : Int)) = i - (l.size : Int) := IntWalk.i64_in _ (by omega)
  have s2 : IntKind.i64.wrap (i - (l.size : Int) - 1) = i - (l.size : Int) - 1 := IntWalk.i64_in _ (by omega)
  have hb0 := (Below.refl w.heap.size w).alloc (Nat.le_refl _) (.cells #[.int .i64 e.c, .int .i64 e.s, .int .i32 e.ch, .bool e.d] 30)
  have HR := Lib.hid (show Pk (fun W => Below w.heap.size w W ∧ Is W pl l ∧ Is W pr r ∧ Blk W b [.pointer pl, .int .i64 x.c, .int .i64 x.s, .int .i32 x.ch, .bool x.d, .pointer pr, .int .i64 ((Tr.node l x r).size : Int), .int .i64 ((Tr.node l x r).alive : Int), .int .i64 ((Tr.node l x r).depth : Int)] 61 ∧ Blk W w.heap.size [.int .i64 e.c, .int .i64 e.s, .int .i32 e.ch, .bool e.d] 30) (w.alloc (.cells #[.int .i64 e.c, .int .i64 e.s, .int .i32 e.ch, .bool e.d] 30)) from ⟨hb0, hl.next hb0, hr.next hb0, hB.next hb0, Blk.start _ _ _⟩)
  have hKp := Lib.hid (show ∀ W W' : World, Below W.heap.size W W' → Pk (fun W => Below w.heap.size w W ∧ Is W pl l ∧ Is W pr r ∧ Blk W b [.pointer pl, .int .i64 x.c, .int .i64 x.s, .int .i32 x.ch, .bool x.d, .pointer pr, .int .i64 ((Tr.node l x r).size : Int), .int .i64 ((Tr.node l x r).alive : Int), .int .i64 ((Tr.node l x r).depth : Int)] 61 ∧ Blk W w.heap.size [.int .i64 e.c, .int .i64 e.s, .int .i32 e.ch, .bool e.d] 30) W → (fun W => W.cell? ⟨b, 0, none⟩ = some (.pointer pl) ∧ W.cell? ⟨b, 1, none⟩ = some (.int .i64 x.c) ∧ W.cell? ⟨b, 2, none⟩ = some (.int .i64 x.s) ∧ W.cell? ⟨b, 3, none⟩ = some (.int .i32 x.ch) ∧ W.cell? ⟨b, 4, none⟩ = some (.bool x.d) ∧ W.cell? ⟨b, 5, none⟩ = some (.pointer pr) ∧ W.cell? ⟨w.heap.size, 0, none⟩ = some (.int .i64 e.c) ∧ W.cell? ⟨w.heap.size, 1, none⟩ = some (.int .i64 e.s) ∧ W.cell? ⟨w.heap.size, 2, none⟩ = some (.int .i32 e.ch) ∧ W.cell? ⟨w.heap.size, 3, none⟩ = some (.bool e.d) ∧ Pk (fun W => Below w.heap.size w W ∧ Is W pl l ∧ Is W pr r ∧ Blk W b [.pointer pl, .int .i64 x.c, .int .i64 x.s, .int .i32 x.ch, .bool x.d, .pointer pr, .int .i64 ((Tr.node l x r).size : Int), .int .i64 ((Tr.node l x r).alive : Int), .int .i64 ((Tr.node l x r).depth : Int)] 61 ∧ Blk W w.heap.size [.int .i64 e.c, .int .i64 e.s, .int .i32 e.ch, .bool e.d] 30) W) W' from fun W W' hb h => ⟨(h.2.2.2.1.next hb).cell 0 rfl, (h.2.2.2.1.next hb).cell 1 rfl, (h.2.2.2.1.next hb).cell 2 rfl, (h.2.2.2.1.next hb).cell 3 rfl, (h.2.2.2.1.next hb).cell 4 rfl, (h.2.2.2.1.next hb).cell 5 rfl, (h.2.2.2.2.next hb).cell 0 rfl, (h.2.2.2.2.next hb).cell 1 rfl, (h.2.2.2.2.next hb).cell 2 rfl, (h.2.2.2.2.next hb).cell 3 rfl, ⟨h.1.trans (hb.mono h.1.size), h.2.1.next hb, h.2.2.1.next hb, h.2.2.2.1.next hb, h.2.2.2.2.next hb⟩⟩)
  have HE := Lib.hid (insT_2 (r := r) x e hc)
  have hc0 := (HR.out.2.2.2.1).cell 0 rfl
  clear hb0 hl hr hB
  have fs0 := fieldS0
  go_enter Tryd.func14, Tryd.ntmps14
  go_wp2_with (go_at_call 20; refine (total_any _ (HR.out.2.1)).mono ?_; rintro e' w1 ⟨rfl, hb⟩; refine Hid.out ?_)
  have HR2 := Lib.hid ((hKp.out _ _ hb HR.out).2.2.2.2.2.2.2.2.2.2)
  clear HR hc0 hb
  have HR := HR2
  clear HR2
  refine Lib.hid ?_
  go_wp2_with fail
  refine wp_region_noPanic ?_
  refine wp_region_held_drew (S := (fun W => W.cell? ⟨b, 0, none⟩ = some (.pointer pl) ∧ W.cell? ⟨b, 1, none⟩ = some (.int .i64 x.c) ∧ W.cell? ⟨b, 2, none⟩ = some (.int .i64 x.s) ∧ W.cell? ⟨b, 3, none⟩ = some (.int .i32 x.ch) ∧ W.cell? ⟨b, 4, none⟩ = some (.bool x.d) ∧ W.cell? ⟨b, 5, none⟩ = some (.pointer pr) ∧ W.cell? ⟨w.heap.size, 0, none⟩ = some (.int .i64 e.c) ∧ W.cell? ⟨w.heap.size, 1, none⟩ = some (.int .i64 e.s) ∧ W.cell? ⟨w.heap.size, 2, none⟩ = some (.int .i32 e.ch) ∧ W.cell? ⟨w.heap.size, 3, none⟩ = some (.bool e.d) ∧ Pk (fun W => Below w.heap.size w W ∧ Is W pl l ∧ Is W pr r ∧ Blk W b [.pointer pl, .int .i64 x.c, .int .i64 x.s, .int .i32 x.ch, .bool x.d, .pointer pr, .int .i64 ((Tr.node l x r).size : Int), .int .i64 ((Tr.node l x r).alive : Int), .int .i64 ((Tr.node l x r).depth : Int)] 61 ∧ Blk W w.heap.size [.int .i64 e.c, .int .i64 e.s, .int .i32 e.ch, .bool e.d] 30) W)) (by kernel_rfl) ?_ (fun hHeld => ?_)
  · exact hKp.out _ _ (Below.refl _ _).drew HR.out
  clear HR
  refine take1 (i := 0) (v := .pointer (some ⟨b, 0, none⟩)) rfl (by kernel_rfl) (by kernel_rfl) (by kernel_rfl) (fun _ _ _ h => h) (Or.inl ⟨by rfl, fun w hSw => ?_⟩) hHeld ?_
  · (go_simp)
  try simp only [Act.put, List.setIfInBounds_toArray, List.set_cons_zero, List.set_cons_succ]
  refine take1 (i := 1) (v := .pointer (some ⟨b, 0, none⟩)) rfl (by kernel_rfl) (by kernel_rfl) (by kernel_rfl) (fun _ _ _ h => h) (Or.inl ⟨by rfl, fun w hSw => ?_⟩) hHeld ?_
  · (go_simp)
  try simp only [Act.put, List.setIfInBounds_toArray, List.set_cons_zero, List.set_cons_succ]
  refine take1 (i := 2) (v := .pointer (some ⟨b, 0, none⟩)) rfl (by kernel_rfl) (by kernel_rfl) (by kernel_rfl) (fun _ _ _ h => h) (Or.inl ⟨by rfl, fun w hSw => ?_⟩) hHeld ?_
  · (go_simp)
  try simp only [Act.put, List.setIfInBounds_toArray, List.set_cons_zero, List.set_cons_succ]
  refine take1 (i := 3) (v := .pointer pl) rfl (by kernel_rfl) (by kernel_rfl) (by kernel_rfl) (fun _ _ _ h => h) (Or.inl ⟨by rfl, fun w hSw => ?_⟩) hHeld ?_
  · (go_simp)
  try simp only [Act.put, List.setIfInBounds_toArray, List.set_cons_zero, List.set_cons_succ]
  refine take1 (i := 4) (v := .pointer (some ⟨b, 0, none⟩)) rfl (by kernel_rfl) (by kernel_rfl) (by kernel_rfl) (fun _ _ _ h => h) (Or.inl ⟨by rfl, fun w hSw => ?_⟩) hHeld ?_
  · (go_simp)
  try simp only [Act.put, List.setIfInBounds_toArray, List.set_cons_zero, List.set_cons_succ]
  refine take1 (i := 5) (v := .pointer (some ⟨b, 0, none⟩)) rfl (by kernel_rfl) (by kernel_rfl) (by kernel_rfl) (fun _ _ _ h => h) (Or.inl ⟨by rfl, fun w hSw => ?_⟩) hHeld ?_
  · (go_simp)
  try simp only [Act.put, List.setIfInBounds_toArray, List.set_cons_zero, List.set_cons_succ]
  refine take1 (i := 6) (v := .pointer (some ⟨b, 1, none⟩)) rfl (by kernel_rfl) (by kernel_rfl) (by kernel_rfl) (fun _ _ _ h => h) (Or.inl ⟨by rfl, fun w hSw => ?_⟩) hHeld ?_
  · (go_simp)
  try simp only [Act.put, List.setIfInBounds_toArray, List.set_cons_zero, List.set_cons_succ]
  refine take1 (i := 7) (v := .agg #[.int .i64 x.c, .int .i64 x.s, .int .i32 x.ch, .bool x.d]) rfl (by kernel_rfl) (by kernel_rfl) (by kernel_rfl) (fun _ _ _ h => h) (Or.inl ⟨by rfl, fun w hSw => ?_⟩) hHeld ?_
  · (go_simp)
  try simp only [Act.put, List.setIfInBounds_toArray, List.set_cons_zero, List.set_cons_succ]
  refine take1 (i := 8) (v := .pointer (some ⟨b, 0, none⟩)) rfl (by kernel_rfl) (by kernel_rfl) (by kernel_rfl) (fun _ _ _ h => h) (Or.inl ⟨by rfl, fun w hSw => ?_⟩) hHeld ?_
  · (go_simp)
  try simp only [Act.put, List.setIfInBounds_toArray, List.set_cons_zero, List.set_cons_succ]
  refine take1 (i := 9) (v := .pointer (some ⟨b, 0, none⟩)) rfl (by kernel_rfl) (by kernel_rfl) (by kernel_rfl) (fun _ _ _ h => h) (Or.inl ⟨by rfl, fun w hSw => ?_⟩) hHeld ?_
  · (go_simp)
  try simp only [Act.put, List.setIfInBounds_toArray, List.set_cons_zero, List.set_cons_succ]
  refine take1 (i := 10) (v := .pointer (some ⟨b, 5, none⟩)) rfl (by kernel_rfl) (by kernel_rfl) (by kernel_rfl) (fun _ _ _ h => h) (Or.inl ⟨by rfl, fun w hSw => ?_⟩) hHeld ?_
  · (go_simp)
  try simp only [Act.put, List.setIfInBounds_toArray, List.set_cons_zero, List.set_cons_succ]
  refine take1 (i := 11) (v := .pointer pr) rfl (by kernel_rfl) (by kernel_rfl) (by kernel_rfl) (fun _ _ _ h => h) (Or.inl ⟨by rfl, fun w hSw => ?_⟩) hHeld ?_
  · (go_simp)
  try simp only [Act.put, List.setIfInBounds_toArray, List.set_cons_zero, List.set_cons_succ]
  refine take1 (i := 12) (v := .int .i64 i) rfl (by kernel_rfl) (by kernel_rfl) (by kernel_rfl) (fun _ _ _ h => h) (Or.inl ⟨by rfl, fun w hSw => ?_⟩) hHeld ?_
  · (go_simp)
  try simp only [Act.put, List.setIfInBounds_toArray, List.set_cons_zero, List.set_cons_succ]
  refine take1 (i := 13) (v := .int .i64 ((l.size : Int))) rfl (by kernel_rfl) (by kernel_rfl) (by kernel_rfl) (fun _ _ _ h => h) (Or.inl ⟨by rfl, fun w hSw => ?_⟩) hHeld ?_
  · (go_simp)
  try simp only [Act.put, List.setIfInBounds_toArray, List.set_cons_zero, List.set_cons_succ]
  refine take1 (i := 14) (v := .int .i64 (i - (l.size : Int))) rfl (by kernel_rfl) (by kernel_rfl) (by kernel_rfl) (fun _ _ _ h => h) (Or.inl ⟨by rfl, fun w hSw => ?_⟩) hHeld ?_
  · (go_simp)
  try simp only [Act.put, List.setIfInBounds_toArray, List.set_cons_zero, List.set_cons_succ]
  refine take1 (i := 15) (v := .int .i64 (i - (l.size : Int) - 1)) rfl (by kernel_rfl) (by kernel_rfl) (by kernel_rfl) (fun _ _ _ h => h) (Or.inl ⟨by rfl, fun w hSw => ?_⟩) hHeld ?_
  · (go_simp)
  try simp only [Act.put, List.setIfInBounds_toArray, List.set_cons_zero, List.set_cons_succ]
  refine take1 (i := 16) (v := .agg #[.int .i64 e.c, .int .i64 e.s, .int .i32 e.ch, .bool e.d]) rfl (by kernel_rfl) (by kernel_rfl) (by kernel_rfl) (fun _ _ _ h => h) (Or.inl ⟨by rfl, fun w hSw => ?_⟩) hHeld ?_
  · (go_simp)
  try simp only [Act.put, List.setIfInBounds_toArray, List.set_cons_zero, List.set_cons_succ]
  refine wpAnyH_ready (rs := [17]) (by kernel_rfl) (by simp) ?_
  refine cons1 rfl (fun K hK => ?_) AllReadyH.nil
  go_simp
  refine (ihr _ _ (hHeld.2.2.2.2.2.2.2.2.2.2.2.2.1)).mono ?_
  rintro e u2 ⟨q2, rfl, hq2, hb⟩
  go_wp2_with fail
  refine hK.out _ _ (hKp.out _ _ hb hHeld.2.2.2.2.2.2.2.2.2.2) (fun hHeld2 => ?_)
  clear hK K hHeld hb
  have hHeld := hHeld2
  clear hHeld2
  try simp only [Act.put, List.setIfInBounds_toArray, List.set_cons_zero, List.set_cons_succ]
  refine wpAnyH_ready (rs := [18]) (by kernel_rfl) (by simp) ?_
  refine cons1 rfl (fun K hK => ?_) AllReadyH.nil
  go_simp
  refine (balance_any x _ (hHeld.2.2.2.2.2.2.2.2.2.2.2.1) (hq2) (by rw [insT_size]; omega)).mono ?_
  rintro e u3 ⟨q3, rfl, hq3, hb⟩
  go_wp2_with fail
  refine hK.out _ _ (hKp.out _ _ hb hHeld.2.2.2.2.2.2.2.2.2.2) (fun hHeld2 => ?_)
  have hq22 := hq2.next hb
  clear hq2
  have hq2 := hq22
  clear hq22
  clear hK K hHeld hb
  have hHeld := hHeld2
  clear hHeld2
  try simp only [Act.put, List.setIfInBounds_toArray, List.set_cons_zero, List.set_cons_succ]
  refine take1 (i := 19) (v := .pointer q3) rfl (by kernel_rfl) (by kernel_rfl) (by kernel_rfl) (fun _ _ _ h => h) (Or.inl ⟨by rfl, fun w hSw => ?_⟩) hHeld ?_
  · (go_simp)
  try simp only [Act.put, List.setIfInBounds_toArray, List.set_cons_zero, List.set_cons_succ]
  refine wpAnyH_done (by kernel_rfl) ?_ _
  refine NoPanic.normal ?_
  have HR := Lib.hid hHeld.2.2.2.2.2.2.2.2.2.2
  clear hHeld
  go_wp2_with fail
  go_ret
  exact ⟨_, rfl, by rw [HE.out]; exact hq3, HR.out.1⟩

theorem insert_any (e : El) (T : Tr) : ∀ (i : Int) (p : Option Addr) (w : World), Is w p T → T.size ≤ 800 → 0 ≤ i → i ≤ 100000 →
    Calls Tryd.prog 14 #[.pointer p, .int .i64 i, .agg #[.int .i64 e.c, .int .i64 e.s, .int .i32 e.ch, .bool e.d]] w (RetT (insT T i e) w) := by
  induction T with
  | nil => intro i p w h _ _ _; obtain rfl : p = none := h; exact insert_nil e i w
  | node l x r ihl ihr =>
    intro i p w h hs h0 h1
    have hsz : l.size + r.size + 1 ≤ 800 := by simp only [Tr.size] at hs; omega
    by_cases hc : i ≤ (l.size : Int)
    · exact insert_1 e i w h hs h0 h1 hc (fun p w hp => ihl i p w hp (by omega) h0 h1)
    · exact insert_2 e i w h hs h0 h1 hc (fun p w hp => ihr _ p w hp (by omega) (by omega) (by omega))

set_option maxHeartbeats 1600000 in
theorem set_1 {b0 : Option Addr} {l r : Tr} {x : El} (e : El) (i : Int) (w : World) (ht : Is w b0 (.node l x r)) (hs : (Tr.node l x r).size ≤ 800) (_h0 : 0 ≤ i) (_h1 : i ≤ 100000) (hc : i < (l.size : Int)) (ihl : ∀ (p : Option Addr) (w : World), Is w p l → Calls Tryd.prog 21 #[.pointer p, .int .i64 i, .agg #[.int .i64 e.c, .int .i64 e.s, .int .i32 e.ch, .bool e.d]] w (RetT (setT l i e) w)) :
    Calls Tryd.prog 21 #[.pointer b0, .int .i64 i, .agg #[.int .i64 e.c, .int .i64 e.s, .int .i32 e.ch, .bool e.d]] w (RetT (setT (.node l x r) i e) w) := by
  obtain ⟨b, pl, pr, rfl, -, hB, hl, hr⟩ := ht
  have hsz : l.size + r.size + 1 ≤ 800 := by simp only [Tr.size] at hs; omega
  have hb0 := (Below.refl w.heap.size w).alloc (Nat.le_refl _) (.cells #[.int .i64 e.c, .int .i64 e.s, .int .i32 e.ch, .bool e.d] 30)
  have HR := Lib.hid (show Pk (fun W => Below w.heap.size w W ∧ Is W pl l ∧ Is W pr r ∧ Blk W b [.pointer pl, .int .i64 x.c, .int .i64 x.s, .int .i32 x.ch, .bool x.d, .pointer pr, .int .i64 ((Tr.node l x r).size : Int), .int .i64 ((Tr.node l x r).alive : Int), .int .i64 ((Tr.node l x r).depth : Int)] 61 ∧ Blk W w.heap.size [.int .i64 e.c, .int .i64 e.s, .int .i32 e.ch, .bool e.d] 30) (w.alloc (.cells #[.int .i64 e.c, .int .i64 e.s, .int .i32 e.ch, .bool e.d] 30)) from ⟨hb0, hl.next hb0, hr.next hb0, hB.next hb0, Blk.start _ _ _⟩)
  have hKp := Lib.hid (show ∀ W W' : World, Below W.heap.size W W' → Pk (fun W => Below w.heap.size w W ∧ Is W pl l ∧ Is W pr r ∧ Blk W b [.pointer pl, .int .i64 x.c, .int .i64 x.s, .int .i32 x.ch, .bool x.d, .pointer pr, .int .i64 ((Tr.node l x r).size : Int), .int .i64 ((Tr.node l x r).alive : Int), .int .i64 ((Tr.node l x r).depth : Int)] 61 ∧ Blk W w.heap.size [.int .i64 e.c, .int .i64 e.s, .int .i32 e.ch, .bool e.d] 30) W → (fun W => W.cell? ⟨b, 0, none⟩ = some (.pointer pl) ∧ W.cell? ⟨b, 1, none⟩ = some (.int .i64 x.c) ∧ W.cell? ⟨b, 2, none⟩ = some (.int .i64 x.s) ∧ W.cell? ⟨b, 3, none⟩ = some (.int .i32 x.ch) ∧ W.cell? ⟨b, 4, none⟩ = some (.bool x.d) ∧ W.cell? ⟨b, 5, none⟩ = some (.pointer pr) ∧ W.cell? ⟨w.heap.size, 0, none⟩ = some (.int .i64 e.c) ∧ W.cell? ⟨w.heap.size, 1, none⟩ = some (.int .i64 e.s) ∧ W.cell? ⟨w.heap.size, 2, none⟩ = some (.int .i32 e.ch) ∧ W.cell? ⟨w.heap.size, 3, none⟩ = some (.bool e.d) ∧ Pk (fun W => Below w.heap.size w W ∧ Is W pl l ∧ Is W pr r ∧ Blk W b [.pointer pl, .int .i64 x.c, .int .i64 x.s, .int .i32 x.ch, .bool x.d, .pointer pr, .int .i64 ((Tr.node l x r).size : Int), .int .i64 ((Tr.node l x r).alive : Int), .int .i64 ((Tr.node l x r).depth : Int)] 61 ∧ Blk W w.heap.size [.int .i64 e.c, .int .i64 e.s, .int .i32 e.ch, .bool e.d] 30) W) W' from fun W W' hb h => ⟨(h.2.2.2.1.next hb).cell 0 rfl, (h.2.2.2.1.next hb).cell 1 rfl, (h.2.2.2.1.next hb).cell 2 rfl, (h.2.2.2.1.next hb).cell 3 rfl, (h.2.2.2.1.next hb).cell 4 rfl, (h.2.2.2.1.next hb).cell 5 rfl, (h.2.2.2.2.next hb).cell 0 rfl, (h.2.2.2.2.next hb).cell 1 rfl, (h.2.2.2.2.next hb).cell 2 rfl, (h.2.2.2.2.next hb).cell 3 rfl, ⟨h.1.trans (hb.mono h.1.size), h.2.1.next hb, h.2.2.1.next hb, h.2.2.2.1.next hb, h.2.2.2.2.next hb⟩⟩)
  have HE := Lib.hid (setT_1 (r := r) x e hc)
  have hc0 := (HR.out.2.2.2.1).cell 0 rfl
  clear hb0 hl hr hB
  have fs0 := fieldS0
  go_enter Tryd.func21, Tryd.ntmps21
  go_wp2_with (go_at_call 20; refine (total_any _ (HR.out.2.1)).mono ?_; rintro e' w1 ⟨rfl, hb⟩; refine Hid.out ?_)
  have HR2 := Lib.hid ((hKp.out _ _ hb HR.out).2.2.2.2.2.2.2.2.2.2)
  clear HR hc0 hb
  have HR := HR2
  clear HR2
  refine Lib.hid ?_
  go_wp2_with fail
  refine wp_region_noPanic ?_
  refine wp_region_held_drew (S := (fun W => W.cell? ⟨b, 0, none⟩ = some (.pointer pl) ∧ W.cell? ⟨b, 1, none⟩ = some (.int .i64 x.c) ∧ W.cell? ⟨b, 2, none⟩ = some (.int .i64 x.s) ∧ W.cell? ⟨b, 3, none⟩ = some (.int .i32 x.ch) ∧ W.cell? ⟨b, 4, none⟩ = some (.bool x.d) ∧ W.cell? ⟨b, 5, none⟩ = some (.pointer pr) ∧ W.cell? ⟨w.heap.size, 0, none⟩ = some (.int .i64 e.c) ∧ W.cell? ⟨w.heap.size, 1, none⟩ = some (.int .i64 e.s) ∧ W.cell? ⟨w.heap.size, 2, none⟩ = some (.int .i32 e.ch) ∧ W.cell? ⟨w.heap.size, 3, none⟩ = some (.bool e.d) ∧ Pk (fun W => Below w.heap.size w W ∧ Is W pl l ∧ Is W pr r ∧ Blk W b [.pointer pl, .int .i64 x.c, .int .i64 x.s, .int .i32 x.ch, .bool x.d, .pointer pr, .int .i64 ((Tr.node l x r).size : Int), .int .i64 ((Tr.node l x r).alive : Int), .int .i64 ((Tr.node l x r).depth : Int)] 61 ∧ Blk W w.heap.size [.int .i64 e.c, .int .i64 e.s, .int .i32 e.ch, .bool e.d] 30) W)) (by kernel_rfl) ?_ (fun hHeld => ?_)
  · exact hKp.out _ _ (Below.refl _ _).drew HR.out
  clear HR
  refine take1 (i := 0) (v := .pointer (some ⟨b, 0, none⟩)) rfl (by kernel_rfl) (by kernel_rfl) (by kernel_rfl) (fun _ _ _ h => h) (Or.inl ⟨by rfl, fun w hSw => ?_⟩) hHeld ?_
  · (go_simp)
  try simp only [Act.put, List.setIfInBounds_toArray, List.set_cons_zero, List.set_cons_succ]
  refine take1 (i := 1) (v := .pointer (some ⟨b, 0, none⟩)) rfl (by kernel_rfl) (by kernel_rfl) (by kernel_rfl) (fun _ _ _ h => h) (Or.inl ⟨by rfl, fun w hSw => ?_⟩) hHeld ?_
  · (go_simp)
  try simp only [Act.put, List.setIfInBounds_toArray, List.set_cons_zero, List.set_cons_succ]
  refine take1 (i := 2) (v := .pointer (some ⟨b, 0, none⟩)) rfl (by kernel_rfl) (by kernel_rfl) (by kernel_rfl) (fun _ _ _ h => h) (Or.inl ⟨by rfl, fun w hSw => ?_⟩) hHeld ?_
  · (go_simp)
  try simp only [Act.put, List.setIfInBounds_toArray, List.set_cons_zero, List.set_cons_succ]
  refine take1 (i := 3) (v := .pointer pl) rfl (by kernel_rfl) (by kernel_rfl) (by kernel_rfl) (fun _ _ _ h => h) (Or.inl ⟨by rfl, fun w hSw => ?_⟩) hHeld ?_
  · (go_simp)
  try simp only [Act.put, List.setIfInBounds_toArray, List.set_cons_zero, List.set_cons_succ]
  refine take1 (i := 4) (v := .int .i64 i) rfl (by kernel_rfl) (by kernel_rfl) (by kernel_rfl) (fun _ _ _ h => h) (Or.inl ⟨by rfl, fun w hSw => ?_⟩) hHeld ?_
  · (go_simp)
  try simp only [Act.put, List.setIfInBounds_toArray, List.set_cons_zero, List.set_cons_succ]
  refine take1 (i := 5) (v := .agg #[.int .i64 e.c, .int .i64 e.s, .int .i32 e.ch, .bool e.d]) rfl (by kernel_rfl) (by kernel_rfl) (by kernel_rfl) (fun _ _ _ h => h) (Or.inl ⟨by rfl, fun w hSw => ?_⟩) hHeld ?_
  · (go_simp)
  try simp only [Act.put, List.setIfInBounds_toArray, List.set_cons_zero, List.set_cons_succ]
  refine take1 (i := 7) (v := .pointer (some ⟨b, 0, none⟩)) rfl (by kernel_rfl) (by kernel_rfl) (by kernel_rfl) (fun _ _ _ h => h) (Or.inl ⟨by rfl, fun w hSw => ?_⟩) hHeld ?_
  · (go_simp)
  try simp only [Act.put, List.setIfInBounds_toArray, List.set_cons_zero, List.set_cons_succ]
  refine take1 (i := 8) (v := .pointer (some ⟨b, 0, none⟩)) rfl (by kernel_rfl) (by kernel_rfl) (by kernel_rfl) (fun _ _ _ h => h) (Or.inl ⟨by rfl, fun w hSw => ?_⟩) hHeld ?_
  · (go_simp)
  try simp only [Act.put, List.setIfInBounds_toArray, List.set_cons_zero, List.set_cons_succ]
  refine take1 (i := 9) (v := .pointer (some ⟨b, 1, none⟩)) rfl (by kernel_rfl) (by kernel_rfl) (by kernel_rfl) (fun _ _ _ h => h) (Or.inl ⟨by rfl, fun w hSw => ?_⟩) hHeld ?_
  · (go_simp)
  try simp only [Act.put, List.setIfInBounds_toArray, List.set_cons_zero, List.set_cons_succ]
  refine take1 (i := 10) (v := .agg #[.int .i64 x.c, .int .i64 x.s, .int .i32 x.ch, .bool x.d]) rfl (by kernel_rfl) (by kernel_rfl) (by kernel_rfl) (fun _ _ _ h => h) (Or.inl ⟨by rfl, fun w hSw => ?_⟩) hHeld ?_
  · (go_simp)
  try simp only [Act.put, List.setIfInBounds_toArray, List.set_cons_zero, List.set_cons_succ]
  refine take1 (i := 11) (v := .pointer (some ⟨b, 0, none⟩)) rfl (by kernel_rfl) (by kernel_rfl) (by kernel_rfl) (fun _ _ _ h => h) (Or.inl ⟨by rfl, fun w hSw => ?_⟩) hHeld ?_
  · (go_simp)
  try simp only [Act.put, List.setIfInBounds_toArray, List.set_cons_zero, List.set_cons_succ]
  refine take1 (i := 12) (v := .pointer (some ⟨b, 0, none⟩)) rfl (by kernel_rfl) (by kernel_rfl) (by kernel_rfl) (fun _ _ _ h => h) (Or.inl ⟨by rfl, fun w hSw => ?_⟩) hHeld ?_
  · (go_simp)
  try simp only [Act.put, List.setIfInBounds_toArray, List.set_cons_zero, List.set_cons_succ]
  refine take1 (i := 13) (v := .pointer (some ⟨b, 5, none⟩)) rfl (by kernel_rfl) (by kernel_rfl) (by kernel_rfl) (fun _ _ _ h => h) (Or.inl ⟨by rfl, fun w hSw => ?_⟩) hHeld ?_
  · (go_simp)
  try simp only [Act.put, List.setIfInBounds_toArray, List.set_cons_zero, List.set_cons_succ]
  refine take1 (i := 14) (v := .pointer pr) rfl (by kernel_rfl) (by kernel_rfl) (by kernel_rfl) (fun _ _ _ h => h) (Or.inl ⟨by rfl, fun w hSw => ?_⟩) hHeld ?_
  · (go_simp)
  try simp only [Act.put, List.setIfInBounds_toArray, List.set_cons_zero, List.set_cons_succ]
  refine wpAnyH_ready (rs := [6]) (by kernel_rfl) (by simp) ?_
  refine cons1 rfl (fun K hK => ?_) AllReadyH.nil
  go_simp
  refine (ihl _ _ (hHeld.2.2.2.2.2.2.2.2.2.2.2.1)).mono ?_
  rintro e u2 ⟨q2, rfl, hq2, hb⟩
  go_wp2_with fail
  refine hK.out _ _ (hKp.out _ _ hb hHeld.2.2.2.2.2.2.2.2.2.2) (fun hHeld2 => ?_)
  clear hK K hHeld hb
  have hHeld := hHeld2
  clear hHeld2
  try simp only [Act.put, List.setIfInBounds_toArray, List.set_cons_zero, List.set_cons_succ]
  refine wpAnyH_ready (rs := [15]) (by kernel_rfl) (by simp) ?_
  refine cons1 rfl (fun K hK => ?_) AllReadyH.nil
  go_simp
  refine (join_any x _ (hq2) (hHeld.2.2.2.2.2.2.2.2.2.2.2.2.1) (by first | (rw [setT_size]; omega) | omega)).mono ?_
  rintro e u3 ⟨q3, rfl, hq3, hb⟩
  go_wp2_with fail
  refine hK.out _ _ (hKp.out _ _ hb hHeld.2.2.2.2.2.2.2.2.2.2) (fun hHeld2 => ?_)
  have hq22 := hq2.next hb
  clear hq2
  have hq2 := hq22
  clear hq22
  clear hK K hHeld hb
  have hHeld := hHeld2
  clear hHeld2
  try simp only [Act.put, List.setIfInBounds_toArray, List.set_cons_zero, List.set_cons_succ]
  refine take1 (i := 16) (v := .pointer q3) rfl (by kernel_rfl) (by kernel_rfl) (by kernel_rfl) (fun _ _ _ h => h) (Or.inl ⟨by rfl, fun w hSw => ?_⟩) hHeld ?_
  · (go_simp)
  try simp only [Act.put, List.setIfInBounds_toArray, List.set_cons_zero, List.set_cons_succ]
  refine wpAnyH_done (by kernel_rfl) ?_ _
  refine NoPanic.normal ?_
  have HR := Lib.hid hHeld.2.2.2.2.2.2.2.2.2.2
  clear hHeld
  go_wp2_with fail
  go_ret
  exact ⟨_, rfl, by rw [HE.out]; exact hq3, HR.out.1⟩

set_option maxHeartbeats 1600000 in
theorem set_2 {b0 : Option Addr} {l r : Tr} {x : El} (e : El) (i : Int) (w : World) (ht : Is w b0 (.node l x r)) (hs : (Tr.node l x r).size ≤ 800) (h0 : 0 ≤ i) (h1 : i ≤ 100000) (hc : (l.size : Int) < i) (ihr : ∀ (p : Option Addr) (w : World), Is w p r → Calls Tryd.prog 21 #[.pointer p, .int .i64 (i - (l.size : Int) - 1), .agg #[.int .i64 e.c, .int .i64 e.s, .int .i32 e.ch, .bool e.d]] w (RetT (setT r (i - (l.size : Int) - 1) e) w)) :
    Calls Tryd.prog 21 #[.pointer b0, .int .i64 i, .agg #[.int .i64 e.c, .int .i64 e.s, .int .i32 e.ch, .bool e.d]] w (RetT (setT (.node l x r) i e) w) := by
  obtain ⟨b, pl, pr, rfl, -, hB, hl, hr⟩ := ht
  have hsz : l.size + r.size + 1 ≤ 800 := by simp only [Tr.size] at hs; omega
  have s1 : IntKind.i64.wrap (i - (l.size : Int)) = i - (l.size : Int) := IntWalk.i64_in _ (by omega)
  have s2 : IntKind.i64.wrap (i - (l.size : Int) - 1) = i - (l.size : Int) - 1 := IntWalk.i64_in _ (by omega)
  have hb0 := (Below.refl w.heap.size w).alloc (Nat.le_refl _) (.cells #[.int .i64 e.c, .int .i64 e.s, .int .i32 e.ch, .bool e.d] 30)
  have HR := Lib.hid (show Pk (fun W => Below w.heap.size w W ∧ Is W pl l ∧ Is W pr r ∧ Blk W b [.pointer pl, .int .i64 x.c, .int .i64 x.s, .int .i32 x.ch, .bool x.d, .pointer pr, .int .i64 ((Tr.node l x r).size : Int), .int .i64 ((Tr.node l x r).alive : Int), .int .i64 ((Tr.node l x r).depth : Int)] 61 ∧ Blk W w.heap.size [.int .i64 e.c, .int .i64 e.s, .int .i32 e.ch, .bool e.d] 30) (w.alloc (.cells #[.int .i64 e.c, .int .i64 e.s, .int .i32 e.ch, .bool e.d] 30)) from ⟨hb0, hl.next hb0, hr.next hb0, hB.next hb0, Blk.start _ _ _⟩)
  have hKp := Lib.hid (show ∀ W W' : World, Below W.heap.size W W' → Pk (fun W => Below w.heap.size w W ∧ Is W pl l ∧ Is W pr r ∧ Blk W b [.pointer pl, .int .i64 x.c, .int .i64 x.s, .int .i32 x.ch, .bool x.d, .pointer pr, .int .i64 ((Tr.node l x r).size : Int), .int .i64 ((Tr.node l x r).alive : Int), .int .i64 ((Tr.node l x r).depth : Int)] 61 ∧ Blk W w.heap.size [.int .i64 e.c, .int .i64 e.s, .int .i32 e.ch, .bool e.d] 30) W → (fun W => W.cell? ⟨b, 0, none⟩ = some (.pointer pl) ∧ W.cell? ⟨b, 1, none⟩ = some (.int .i64 x.c) ∧ W.cell? ⟨b, 2, none⟩ = some (.int .i64 x.s) ∧ W.cell? ⟨b, 3, none⟩ = some (.int .i32 x.ch) ∧ W.cell? ⟨b, 4, none⟩ = some (.bool x.d) ∧ W.cell? ⟨b, 5, none⟩ = some (.pointer pr) ∧ W.cell? ⟨w.heap.size, 0, none⟩ = some (.int .i64 e.c) ∧ W.cell? ⟨w.heap.size, 1, none⟩ = some (.int .i64 e.s) ∧ W.cell? ⟨w.heap.size, 2, none⟩ = some (.int .i32 e.ch) ∧ W.cell? ⟨w.heap.size, 3, none⟩ = some (.bool e.d) ∧ Pk (fun W => Below w.heap.size w W ∧ Is W pl l ∧ Is W pr r ∧ Blk W b [.pointer pl, .int .i64 x.c, .int .i64 x.s, .int .i32 x.ch, .bool x.d, .pointer pr, .int .i64 ((Tr.node l x r).size : Int), .int .i64 ((Tr.node l x r).alive : Int), .int .i64 ((Tr.node l x r).depth : Int)] 61 ∧ Blk W w.heap.size [.int .i64 e.c, .int .i64 e.s, .int .i32 e.ch, .bool e.d] 30) W) W' from fun W W' hb h => ⟨(h.2.2.2.1.next hb).cell 0 rfl, (h.2.2.2.1.next hb).cell 1 rfl, (h.2.2.2.1.next hb).cell 2 rfl, (h.2.2.2.1.next hb).cell 3 rfl, (h.2.2.2.1.next hb).cell 4 rfl, (h.2.2.2.1.next hb).cell 5 rfl, (h.2.2.2.2.next hb).cell 0 rfl, (h.2.2.2.2.next hb).cell 1 rfl, (h.2.2.2.2.next hb).cell 2 rfl, (h.2.2.2.2.next hb).cell 3 rfl, ⟨h.1.trans (hb.mono h.1.size), h.2.1.next hb, h.2.2.1.next hb, h.2.2.2.1.next hb, h.2.2.2.2.next hb⟩⟩)
  have HE := Lib.hid (setT_2 (r := r) x e hc)
  have hc0 := (HR.out.2.2.2.1).cell 0 rfl
  clear hb0 hl hr hB
  have fs0 := fieldS0
  go_enter Tryd.func21, Tryd.ntmps21
  go_wp2_with (go_at_call 20; refine (total_any _ (HR.out.2.1)).mono ?_; rintro e' w1 ⟨rfl, hb⟩; refine Hid.out ?_)
  have HR2 := Lib.hid ((hKp.out _ _ hb HR.out).2.2.2.2.2.2.2.2.2.2)
  clear HR hc0 hb
  have HR := HR2
  clear HR2
  refine Lib.hid ?_
  go_wp2_with fail
  refine wp_region_noPanic ?_
  refine wp_region_held_drew (S := (fun W => W.cell? ⟨b, 0, none⟩ = some (.pointer pl) ∧ W.cell? ⟨b, 1, none⟩ = some (.int .i64 x.c) ∧ W.cell? ⟨b, 2, none⟩ = some (.int .i64 x.s) ∧ W.cell? ⟨b, 3, none⟩ = some (.int .i32 x.ch) ∧ W.cell? ⟨b, 4, none⟩ = some (.bool x.d) ∧ W.cell? ⟨b, 5, none⟩ = some (.pointer pr) ∧ W.cell? ⟨w.heap.size, 0, none⟩ = some (.int .i64 e.c) ∧ W.cell? ⟨w.heap.size, 1, none⟩ = some (.int .i64 e.s) ∧ W.cell? ⟨w.heap.size, 2, none⟩ = some (.int .i32 e.ch) ∧ W.cell? ⟨w.heap.size, 3, none⟩ = some (.bool e.d) ∧ Pk (fun W => Below w.heap.size w W ∧ Is W pl l ∧ Is W pr r ∧ Blk W b [.pointer pl, .int .i64 x.c, .int .i64 x.s, .int .i32 x.ch, .bool x.d, .pointer pr, .int .i64 ((Tr.node l x r).size : Int), .int .i64 ((Tr.node l x r).alive : Int), .int .i64 ((Tr.node l x r).depth : Int)] 61 ∧ Blk W w.heap.size [.int .i64 e.c, .int .i64 e.s, .int .i32 e.ch, .bool e.d] 30) W)) (by kernel_rfl) ?_ (fun hHeld => ?_)
  · exact hKp.out _ _ (Below.refl _ _).drew HR.out
  clear HR
  refine take1 (i := 0) (v := .pointer (some ⟨b, 0, none⟩)) rfl (by kernel_rfl) (by kernel_rfl) (by kernel_rfl) (fun _ _ _ h => h) (Or.inl ⟨by rfl, fun w hSw => ?_⟩) hHeld ?_
  · (go_simp)
  try simp only [Act.put, List.setIfInBounds_toArray, List.set_cons_zero, List.set_cons_succ]
  refine take1 (i := 1) (v := .pointer (some ⟨b, 0, none⟩)) rfl (by kernel_rfl) (by kernel_rfl) (by kernel_rfl) (fun _ _ _ h => h) (Or.inl ⟨by rfl, fun w hSw => ?_⟩) hHeld ?_
  · (go_simp)
  try simp only [Act.put, List.setIfInBounds_toArray, List.set_cons_zero, List.set_cons_succ]
  refine take1 (i := 2) (v := .pointer (some ⟨b, 0, none⟩)) rfl (by kernel_rfl) (by kernel_rfl) (by kernel_rfl) (fun _ _ _ h => h) (Or.inl ⟨by rfl, fun w hSw => ?_⟩) hHeld ?_
  · (go_simp)
  try simp only [Act.put, List.setIfInBounds_toArray, List.set_cons_zero, List.set_cons_succ]
  refine take1 (i := 3) (v := .pointer pl) rfl (by kernel_rfl) (by kernel_rfl) (by kernel_rfl) (fun _ _ _ h => h) (Or.inl ⟨by rfl, fun w hSw => ?_⟩) hHeld ?_
  · (go_simp)
  try simp only [Act.put, List.setIfInBounds_toArray, List.set_cons_zero, List.set_cons_succ]
  refine take1 (i := 4) (v := .pointer (some ⟨b, 0, none⟩)) rfl (by kernel_rfl) (by kernel_rfl) (by kernel_rfl) (fun _ _ _ h => h) (Or.inl ⟨by rfl, fun w hSw => ?_⟩) hHeld ?_
  · (go_simp)
  try simp only [Act.put, List.setIfInBounds_toArray, List.set_cons_zero, List.set_cons_succ]
  refine take1 (i := 5) (v := .pointer (some ⟨b, 0, none⟩)) rfl (by kernel_rfl) (by kernel_rfl) (by kernel_rfl) (fun _ _ _ h => h) (Or.inl ⟨by rfl, fun w hSw => ?_⟩) hHeld ?_
  · (go_simp)
  try simp only [Act.put, List.setIfInBounds_toArray, List.set_cons_zero, List.set_cons_succ]
  refine take1 (i := 6) (v := .pointer (some ⟨b, 1, none⟩)) rfl (by kernel_rfl) (by kernel_rfl) (by kernel_rfl) (fun _ _ _ h => h) (Or.inl ⟨by rfl, fun w hSw => ?_⟩) hHeld ?_
  · (go_simp)
  try simp only [Act.put, List.setIfInBounds_toArray, List.set_cons_zero, List.set_cons_succ]
  refine take1 (i := 7) (v := .agg #[.int .i64 x.c, .int .i64 x.s, .int .i32 x.ch, .bool x.d]) rfl (by kernel_rfl) (by kernel_rfl) (by kernel_rfl) (fun _ _ _ h => h) (Or.inl ⟨by rfl, fun w hSw => ?_⟩) hHeld ?_
  · (go_simp)
  try simp only [Act.put, List.setIfInBounds_toArray, List.set_cons_zero, List.set_cons_succ]
  refine take1 (i := 8) (v := .pointer (some ⟨b, 0, none⟩)) rfl (by kernel_rfl) (by kernel_rfl) (by kernel_rfl) (fun _ _ _ h => h) (Or.inl ⟨by rfl, fun w hSw => ?_⟩) hHeld ?_
  · (go_simp)
  try simp only [Act.put, List.setIfInBounds_toArray, List.set_cons_zero, List.set_cons_succ]
  refine take1 (i := 9) (v := .pointer (some ⟨b, 0, none⟩)) rfl (by kernel_rfl) (by kernel_rfl) (by kernel_rfl) (fun _ _ _ h => h) (Or.inl ⟨by rfl, fun w hSw => ?_⟩) hHeld ?_
  · (go_simp)
  try simp only [Act.put, List.setIfInBounds_toArray, List.set_cons_zero, List.set_cons_succ]
  refine take1 (i := 10) (v := .pointer (some ⟨b, 5, none⟩)) rfl (by kernel_rfl) (by kernel_rfl) (by kernel_rfl) (fun _ _ _ h => h) (Or.inl ⟨by rfl, fun w hSw => ?_⟩) hHeld ?_
  · (go_simp)
  try simp only [Act.put, List.setIfInBounds_toArray, List.set_cons_zero, List.set_cons_succ]
  refine take1 (i := 11) (v := .pointer pr) rfl (by kernel_rfl) (by kernel_rfl) (by kernel_rfl) (fun _ _ _ h => h) (Or.inl ⟨by rfl, fun w hSw => ?_⟩) hHeld ?_
  · (go_simp)
  try simp only [Act.put, List.setIfInBounds_toArray, List.set_cons_zero, List.set_cons_succ]
  refine take1 (i := 12) (v := .int .i64 i) rfl (by kernel_rfl) (by kernel_rfl) (by kernel_rfl) (fun _ _ _ h => h) (Or.inl ⟨by rfl, fun w hSw => ?_⟩) hHeld ?_
  · (go_simp)
  try simp only [Act.put, List.setIfInBounds_toArray, List.set_cons_zero, List.set_cons_succ]
  refine take1 (i := 13) (v := .int .i64 ((l.size : Int))) rfl (by kernel_rfl) (by kernel_rfl) (by kernel_rfl) (fun _ _ _ h => h) (Or.inl ⟨by rfl, fun w hSw => ?_⟩) hHeld ?_
  · (go_simp)
  try simp only [Act.put, List.setIfInBounds_toArray, List.set_cons_zero, List.set_cons_succ]
  refine take1 (i := 14) (v := .int .i64 (i - (l.size : Int))) rfl (by kernel_rfl) (by kernel_rfl) (by kernel_rfl) (fun _ _ _ h => h) (Or.inl ⟨by rfl, fun w hSw => ?_⟩) hHeld ?_
  · (go_simp)
  try simp only [Act.put, List.setIfInBounds_toArray, List.set_cons_zero, List.set_cons_succ]
  refine take1 (i := 15) (v := .int .i64 (i - (l.size : Int) - 1)) rfl (by kernel_rfl) (by kernel_rfl) (by kernel_rfl) (fun _ _ _ h => h) (Or.inl ⟨by rfl, fun w hSw => ?_⟩) hHeld ?_
  · (go_simp)
  try simp only [Act.put, List.setIfInBounds_toArray, List.set_cons_zero, List.set_cons_succ]
  refine take1 (i := 16) (v := .agg #[.int .i64 e.c, .int .i64 e.s, .int .i32 e.ch, .bool e.d]) rfl (by kernel_rfl) (by kernel_rfl) (by kernel_rfl) (fun _ _ _ h => h) (Or.inl ⟨by rfl, fun w hSw => ?_⟩) hHeld ?_
  · (go_simp)
  try simp only [Act.put, List.setIfInBounds_toArray, List.set_cons_zero, List.set_cons_succ]
  refine wpAnyH_ready (rs := [17]) (by kernel_rfl) (by simp) ?_
  refine cons1 rfl (fun K hK => ?_) AllReadyH.nil
  go_simp
  refine (ihr _ _ (hHeld.2.2.2.2.2.2.2.2.2.2.2.2.1)).mono ?_
  rintro e u2 ⟨q2, rfl, hq2, hb⟩
  go_wp2_with fail
  refine hK.out _ _ (hKp.out _ _ hb hHeld.2.2.2.2.2.2.2.2.2.2) (fun hHeld2 => ?_)
  clear hK K hHeld hb
  have hHeld := hHeld2
  clear hHeld2
  try simp only [Act.put, List.setIfInBounds_toArray, List.set_cons_zero, List.set_cons_succ]
  refine wpAnyH_ready (rs := [18]) (by kernel_rfl) (by simp) ?_
  refine cons1 rfl (fun K hK => ?_) AllReadyH.nil
  go_simp
  refine (join_any x _ (hHeld.2.2.2.2.2.2.2.2.2.2.2.1) (hq2) (by first | (rw [setT_size]; omega) | omega)).mono ?_
  rintro e u3 ⟨q3, rfl, hq3, hb⟩
  go_wp2_with fail
  refine hK.out _ _ (hKp.out _ _ hb hHeld.2.2.2.2.2.2.2.2.2.2) (fun hHeld2 => ?_)
  have hq22 := hq2.next hb
  clear hq2
  have hq2 := hq22
  clear hq22
  clear hK K hHeld hb
  have hHeld := hHeld2
  clear hHeld2
  try simp only [Act.put, List.setIfInBounds_toArray, List.set_cons_zero, List.set_cons_succ]
  refine take1 (i := 19) (v := .pointer q3) rfl (by kernel_rfl) (by kernel_rfl) (by kernel_rfl) (fun _ _ _ h => h) (Or.inl ⟨by rfl, fun w hSw => ?_⟩) hHeld ?_
  · (go_simp)
  try simp only [Act.put, List.setIfInBounds_toArray, List.set_cons_zero, List.set_cons_succ]
  refine wpAnyH_done (by kernel_rfl) ?_ _
  refine NoPanic.normal ?_
  have HR := Lib.hid hHeld.2.2.2.2.2.2.2.2.2.2
  clear hHeld
  go_wp2_with fail
  go_ret
  exact ⟨_, rfl, by rw [HE.out]; exact hq3, HR.out.1⟩

set_option maxHeartbeats 1600000 in
theorem set_3 {b0 : Option Addr} {l r : Tr} {x : El} (e : El) (i : Int) (w : World) (ht : Is w b0 (.node l x r)) (hs : (Tr.node l x r).size ≤ 800) (_h0 : 0 ≤ i) (_h1 : i ≤ 100000) (hc : i = (l.size : Int)) :
    Calls Tryd.prog 21 #[.pointer b0, .int .i64 i, .agg #[.int .i64 e.c, .int .i64 e.s, .int .i32 e.ch, .bool e.d]] w (RetT (setT (.node l x r) i e) w) := by
  obtain ⟨b, pl, pr, rfl, -, hB, hl, hr⟩ := ht
  have hsz : l.size + r.size + 1 ≤ 800 := by simp only [Tr.size] at hs; omega
  have hc1 : ¬ i < (l.size : Int) := by omega
  have hc2 : ¬ (l.size : Int) < i := by omega
  have hb0 := (Below.refl w.heap.size w).alloc (Nat.le_refl _) (.cells #[.int .i64 e.c, .int .i64 e.s, .int .i32 e.ch, .bool e.d] 30)
  have HR := Lib.hid (show Pk (fun W => Below w.heap.size w W ∧ Is W pl l ∧ Is W pr r ∧ Blk W b [.pointer pl, .int .i64 x.c, .int .i64 x.s, .int .i32 x.ch, .bool x.d, .pointer pr, .int .i64 ((Tr.node l x r).size : Int), .int .i64 ((Tr.node l x r).alive : Int), .int .i64 ((Tr.node l x r).depth : Int)] 61 ∧ Blk W w.heap.size [.int .i64 e.c, .int .i64 e.s, .int .i32 e.ch, .bool e.d] 30) (w.alloc (.cells #[.int .i64 e.c, .int .i64 e.s, .int .i32 e.ch, .bool e.d] 30)) from ⟨hb0, hl.next hb0, hr.next hb0, hB.next hb0, Blk.start _ _ _⟩)
  have hKp := Lib.hid (show ∀ W W' : World, Below W.heap.size W W' → Pk (fun W => Below w.heap.size w W ∧ Is W pl l ∧ Is W pr r ∧ Blk W b [.pointer pl, .int .i64 x.c, .int .i64 x.s, .int .i32 x.ch, .bool x.d, .pointer pr, .int .i64 ((Tr.node l x r).size : Int), .int .i64 ((Tr.node l x r).alive : Int), .int .i64 ((Tr.node l x r).depth : Int)] 61 ∧ Blk W w.heap.size [.int .i64 e.c, .int .i64 e.s, .int .i32 e.ch, .bool e.d] 30) W → (fun W => W.cell? ⟨b, 0, none⟩ = some (.pointer pl) ∧ W.cell? ⟨b, 1, none⟩ = some (.int .i64 x.c) ∧ W.cell? ⟨b, 2, none⟩ = some (.int .i64 x.s) ∧ W.cell? ⟨b, 3, none⟩ = some (.int .i32 x.ch) ∧ W.cell? ⟨b, 4, none⟩ = some (.bool x.d) ∧ W.cell? ⟨b, 5, none⟩ = some (.pointer pr) ∧ W.cell? ⟨w.heap.size, 0, none⟩ = some (.int .i64 e.c) ∧ W.cell? ⟨w.heap.size, 1, none⟩ = some (.int .i64 e.s) ∧ W.cell? ⟨w.heap.size, 2, none⟩ = some (.int .i32 e.ch) ∧ W.cell? ⟨w.heap.size, 3, none⟩ = some (.bool e.d) ∧ Pk (fun W => Below w.heap.size w W ∧ Is W pl l ∧ Is W pr r ∧ Blk W b [.pointer pl, .int .i64 x.c, .int .i64 x.s, .int .i32 x.ch, .bool x.d, .pointer pr, .int .i64 ((Tr.node l x r).size : Int), .int .i64 ((Tr.node l x r).alive : Int), .int .i64 ((Tr.node l x r).depth : Int)] 61 ∧ Blk W w.heap.size [.int .i64 e.c, .int .i64 e.s, .int .i32 e.ch, .bool e.d] 30) W) W' from fun W W' hb h => ⟨(h.2.2.2.1.next hb).cell 0 rfl, (h.2.2.2.1.next hb).cell 1 rfl, (h.2.2.2.1.next hb).cell 2 rfl, (h.2.2.2.1.next hb).cell 3 rfl, (h.2.2.2.1.next hb).cell 4 rfl, (h.2.2.2.1.next hb).cell 5 rfl, (h.2.2.2.2.next hb).cell 0 rfl, (h.2.2.2.2.next hb).cell 1 rfl, (h.2.2.2.2.next hb).cell 2 rfl, (h.2.2.2.2.next hb).cell 3 rfl, ⟨h.1.trans (hb.mono h.1.size), h.2.1.next hb, h.2.2.1.next hb, h.2.2.2.1.next hb, h.2.2.2.2.next hb⟩⟩)
  have HE := Lib.hid (setT_3 (r := r) x e hc)
  have hc0 := (HR.out.2.2.2.1).cell 0 rfl
  clear hb0 hl hr hB
  have fs0 := fieldS0
  clear hc
  go_enter Tryd.func21, Tryd.ntmps21
  go_wp2_with (go_at_call 20; refine (total_any _ (HR.out.2.1)).mono ?_; rintro e' w1 ⟨rfl, hb⟩; refine Hid.out ?_)
  have HR2 := Lib.hid ((hKp.out _ _ hb HR.out).2.2.2.2.2.2.2.2.2.2)
  clear HR hc0 hb
  have HR := HR2
  clear HR2
  refine Lib.hid ?_
  go_wp2_with fail
  refine wp_region_noPanic ?_
  refine wp_region_held_drew (S := (fun W => W.cell? ⟨b, 0, none⟩ = some (.pointer pl) ∧ W.cell? ⟨b, 1, none⟩ = some (.int .i64 x.c) ∧ W.cell? ⟨b, 2, none⟩ = some (.int .i64 x.s) ∧ W.cell? ⟨b, 3, none⟩ = some (.int .i32 x.ch) ∧ W.cell? ⟨b, 4, none⟩ = some (.bool x.d) ∧ W.cell? ⟨b, 5, none⟩ = some (.pointer pr) ∧ W.cell? ⟨w.heap.size, 0, none⟩ = some (.int .i64 e.c) ∧ W.cell? ⟨w.heap.size, 1, none⟩ = some (.int .i64 e.s) ∧ W.cell? ⟨w.heap.size, 2, none⟩ = some (.int .i32 e.ch) ∧ W.cell? ⟨w.heap.size, 3, none⟩ = some (.bool e.d) ∧ Pk (fun W => Below w.heap.size w W ∧ Is W pl l ∧ Is W pr r ∧ Blk W b [.pointer pl, .int .i64 x.c, .int .i64 x.s, .int .i32 x.ch, .bool x.d, .pointer pr, .int .i64 ((Tr.node l x r).size : Int), .int .i64 ((Tr.node l x r).alive : Int), .int .i64 ((Tr.node l x r).depth : Int)] 61 ∧ Blk W w.heap.size [.int .i64 e.c, .int .i64 e.s, .int .i32 e.ch, .bool e.d] 30) W)) (by kernel_rfl) ?_ (fun hHeld => ?_)
  · exact hKp.out _ _ (Below.refl _ _).drew HR.out
  clear HR
  refine take1 (i := 0) (v := .pointer (some ⟨b, 0, none⟩)) rfl (by kernel_rfl) (by kernel_rfl) (by kernel_rfl) (fun _ _ _ h => h) (Or.inl ⟨by rfl, fun w hSw => ?_⟩) hHeld ?_
  · (go_simp)
  try simp only [Act.put, List.setIfInBounds_toArray, List.set_cons_zero, List.set_cons_succ]
  refine take1 (i := 1) (v := .pointer (some ⟨b, 0, none⟩)) rfl (by kernel_rfl) (by kernel_rfl) (by kernel_rfl) (fun _ _ _ h => h) (Or.inl ⟨by rfl, fun w hSw => ?_⟩) hHeld ?_
  · (go_simp)
  try simp only [Act.put, List.setIfInBounds_toArray, List.set_cons_zero, List.set_cons_succ]
  refine take1 (i := 2) (v := .pointer (some ⟨b, 0, none⟩)) rfl (by kernel_rfl) (by kernel_rfl) (by kernel_rfl) (fun _ _ _ h => h) (Or.inl ⟨by rfl, fun w hSw => ?_⟩) hHeld ?_
  · (go_simp)
  try simp only [Act.put, List.setIfInBounds_toArray, List.set_cons_zero, List.set_cons_succ]
  refine take1 (i := 3) (v := .pointer pl) rfl (by kernel_rfl) (by kernel_rfl) (by kernel_rfl) (fun _ _ _ h => h) (Or.inl ⟨by rfl, fun w hSw => ?_⟩) hHeld ?_
  · (go_simp)
  try simp only [Act.put, List.setIfInBounds_toArray, List.set_cons_zero, List.set_cons_succ]
  refine take1 (i := 4) (v := .agg #[.int .i64 e.c, .int .i64 e.s, .int .i32 e.ch, .bool e.d]) rfl (by kernel_rfl) (by kernel_rfl) (by kernel_rfl) (fun _ _ _ h => h) (Or.inl ⟨by rfl, fun w hSw => ?_⟩) hHeld ?_
  · (go_simp)
  try simp only [Act.put, List.setIfInBounds_toArray, List.set_cons_zero, List.set_cons_succ]
  refine take1 (i := 5) (v := .pointer (some ⟨b, 0, none⟩)) rfl (by kernel_rfl) (by kernel_rfl) (by kernel_rfl) (fun _ _ _ h => h) (Or.inl ⟨by rfl, fun w hSw => ?_⟩) hHeld ?_
  · (go_simp)
  try simp only [Act.put, List.setIfInBounds_toArray, List.set_cons_zero, List.set_cons_succ]
  refine take1 (i := 6) (v := .pointer (some ⟨b, 0, none⟩)) rfl (by kernel_rfl) (by kernel_rfl) (by kernel_rfl) (fun _ _ _ h => h) (Or.inl ⟨by rfl, fun w hSw => ?_⟩) hHeld ?_
  · (go_simp)
  try simp only [Act.put, List.setIfInBounds_toArray, List.set_cons_zero, List.set_cons_succ]
  refine take1 (i := 7) (v := .pointer (some ⟨b, 5, none⟩)) rfl (by kernel_rfl) (by kernel_rfl) (by kernel_rfl) (fun _ _ _ h => h) (Or.inl ⟨by rfl, fun w hSw => ?_⟩) hHeld ?_
  · (go_simp)
  try simp only [Act.put, List.setIfInBounds_toArray, List.set_cons_zero, List.set_cons_succ]
  refine take1 (i := 8) (v := .pointer pr) rfl (by kernel_rfl) (by kernel_rfl) (by kernel_rfl) (fun _ _ _ h => h) (Or.inl ⟨by rfl, fun w hSw => ?_⟩) hHeld ?_
  · (go_simp)
  try simp only [Act.put, List.setIfInBounds_toArray, List.set_cons_zero, List.set_cons_succ]
  refine wpAnyH_ready (rs := [9]) (by kernel_rfl) (by simp) ?_
  refine cons1 rfl (fun K hK => ?_) AllReadyH.nil
  go_simp
  refine (join_any e _ (hHeld.2.2.2.2.2.2.2.2.2.2.2.1) (hHeld.2.2.2.2.2.2.2.2.2.2.2.2.1) (by first | (rw [setT_size]; omega) | omega)).mono ?_
  rintro e u2 ⟨q2, rfl, hq2, hb⟩
  go_wp2_with fail
  refine hK.out _ _ (hKp.out _ _ hb hHeld.2.2.2.2.2.2.2.2.2.2) (fun hHeld2 => ?_)
  clear hK K hHeld hb
  have hHeld := hHeld2
  clear hHeld2
  try simp only [Act.put, List.setIfInBounds_toArray, List.set_cons_zero, List.set_cons_succ]
  refine take1 (i := 10) (v := .pointer q2) rfl (by kernel_rfl) (by kernel_rfl) (by kernel_rfl) (fun _ _ _ h => h) (Or.inl ⟨by rfl, fun w hSw => ?_⟩) hHeld ?_
  · (go_simp)
  try simp only [Act.put, List.setIfInBounds_toArray, List.set_cons_zero, List.set_cons_succ]
  refine wpAnyH_done (by kernel_rfl) ?_ _
  refine NoPanic.normal ?_
  have HR := Lib.hid hHeld.2.2.2.2.2.2.2.2.2.2
  clear hHeld
  go_wp2_with fail
  go_ret
  exact ⟨_, rfl, by rw [HE.out]; exact hq2, HR.out.1⟩

theorem set_any (e : El) (T : Tr) : ∀ (i : Int) (p : Option Addr) (w : World), Is w p T → T.size ≤ 800 → 0 ≤ i → i < T.size →
    Calls Tryd.prog 21 #[.pointer p, .int .i64 i, .agg #[.int .i64 e.c, .int .i64 e.s, .int .i32 e.ch, .bool e.d]] w (RetT (setT T i e) w) := by
  induction T with
  | nil => intro i p w _ _ h0 h1; exact absurd h1 (by simp only [Tr.size]; omega)
  | node l x r ihl ihr =>
    intro i p w h hs h0 h1
    have hsz : l.size + r.size + 1 ≤ 800 := by simp only [Tr.size] at hs; omega
    have h1' : i < l.size + 1 + r.size := by simp only [Tr.size] at h1; omega
    by_cases hc : i < (l.size : Int)
    · exact set_1 e i w h hs h0 (by omega) hc (fun p w hp => ihl i p w hp (by omega) h0 hc)
    · by_cases hc2 : (l.size : Int) < i
      · exact set_2 e i w h hs h0 (by omega) hc2 (fun p w hp => ihr _ p w hp (by omega) (by omega) (by omega))
      · exact set_3 e i w h hs h0 (by omega) (by omega)
end Go.Proofs.YtjfffnnkkjceoaaDoor
