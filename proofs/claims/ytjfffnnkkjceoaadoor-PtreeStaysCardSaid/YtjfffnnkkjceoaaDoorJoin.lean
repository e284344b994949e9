/-
  The contract of join.
-/
import Derived.Test.YtjfffnnkkjceoaaDoorTree
import Derived.IntWalk
namespace Go.Proofs.YtjfffnnkkjceoaaDoor
open Go Go.Proofs Go.RowKit

/-- A pointer to a tree is handed back, and nothing that existed has changed. -/
def RetT (T : Tr) (w : World) (e : Ending) (w' : World) : Prop := ∃ q, e = .returned (.pointer q) ∧ Is w' q T ∧ Below w.heap.size w w'
/-- An element in a box. -/
abbrev elL (x : El) : List Value := [.int .i64 x.c, .int .i64 x.s, .int .i32 x.ch, .bool x.d]
/-- What join holds while it reckons its sums. -/
structure JR (w w2 : World) (L R : Tr) (x : El) (pl pr : Option Addr) (W : World) : Prop where
  hl : Is W pl L
  hr : Is W pr R
  bel : Below w.heap.size w W
  bx : Blk W w.heap.size (elL x) 30
  b7 : Blk W w2.heap.size [.int .i64 L.size, .int .i64 L.alive, .int .i64 L.depth] 58
  b8 : Blk W (w2.heap.size + 1) [.int .i64 R.size, .int .i64 R.alive, .int .i64 R.depth] 58
theorem JR.next {w w2 : World} {L R : Tr} {x : El} {pl pr : Option Addr} {W W' : World} (h : JR w w2 L R x pl pr W) (hb : Below W.heap.size W W') : JR w w2 L R x pl pr W' :=
  ⟨h.hl.next hb, h.hr.next hb, h.bel.trans (hb.mono h.bel.size), h.bx.next hb, h.b7.next hb, h.b8.next hb⟩
theorem JR.s {w w2 : World} {L R : Tr} {x : El} {pl pr : Option Addr} {W : World} (h : JR w w2 L R x pl pr W) :
    W.cell? ⟨w2.heap.size, 0, none⟩ = some (.int .i64 L.size) ∧ W.cell? ⟨w2.heap.size, 1, none⟩ = some (.int .i64 L.alive) ∧ W.cell? ⟨w2.heap.size, 2, none⟩ = some (.int .i64 L.depth) ∧ W.cell? ⟨w2.heap.size + 1, 0, none⟩ = some (.int .i64 R.size) ∧ W.cell? ⟨w2.heap.size + 1, 1, none⟩ = some (.int .i64 R.alive) ∧ W.cell? ⟨w2.heap.size + 1, 2, none⟩ = some (.int .i64 R.depth) ∧ W.cell? ⟨w.heap.size, 0, none⟩ = some (.int .i64 x.c) ∧ W.cell? ⟨w.heap.size, 1, none⟩ = some (.int .i64 x.s) ∧ W.cell? ⟨w.heap.size, 2, none⟩ = some (.int .i32 x.ch) ∧ W.cell? ⟨w.heap.size, 3, none⟩ = some (.bool x.d) ∧ JR w w2 L R x pl pr W :=
  ⟨h.b7.cell 0 rfl, h.b7.cell 1 rfl, h.b7.cell 2 rfl, h.b8.cell 0 rfl, h.b8.cell 1 rfl, h.b8.cell 2 rfl, h.bx.cell 0 rfl, h.bx.cell 1 rfl, h.bx.cell 2 rfl, h.bx.cell 3 rfl, h⟩

theorem join_done {w w2 : World} {L R : Tr} {x : El} {pl pr : Option Addr} {v : World} (h : JR w w2 L R x pl pr v) :
    RetT (.node L x R) w (.returned (.pointer (some ⟨v.heap.size, 0, none⟩))) (v.alloc (.cells #[.pointer pl, .int .i64 x.c, .int .i64 x.s, .int .i32 x.ch, .bool x.d, .pointer pr, .int .i64 (L.size + 1 + R.size), .int .i64 (L.alive + x.al + R.alive), .int .i64 (1 + (max L.depth R.depth : Nat))] 61)) := by
  have hA := (Below.refl v.heap.size v).alloc (Nat.le_refl _) (.cells #[.pointer pl, .int .i64 x.c, .int .i64 x.s, .int .i32 x.ch, .bool x.d, .pointer pr, .int .i64 (L.size + 1 + R.size), .int .i64 (L.alive + x.al + R.alive), .int .i64 (1 + (max L.depth R.depth : Nat))] 61)
  refine ⟨_, rfl, ⟨v.heap.size, pl, pr, rfl, by simp, ?_, h.hl.next hA, h.hr.next hA⟩, h.bel.trans (hA.mono h.bel.size)⟩
  have := Blk.start v [.pointer pl, .int .i64 x.c, .int .i64 x.s, .int .i32 x.ch, .bool x.d, .pointer pr, .int .i64 (L.size + 1 + R.size), .int .i64 (L.alive + x.al + R.alive), .int .i64 (1 + (max L.depth R.depth : Nat))] 61
  have e1 : ((Tr.node L x R).size : Int) = L.size + 1 + R.size := by simp only [Tr.size]; omega
  have e2 : ((Tr.node L x R).alive : Int) = L.alive + x.al + R.alive := by simp only [Tr.alive]; omega
  have e3 : ((Tr.node L x R).depth : Int) = 1 + (max L.depth R.depth : Nat) := by simp only [Tr.depth]; omega
  unfold nodeL
  rw [e1, e2, e3]
  exact this

set_option maxHeartbeats 1600000 in
theorem join_any {pl pr : Option Addr} {L R : Tr} (x : El) (w : World) (hl : Is w pl L) (hr : Is w pr R) (hs : L.size + R.size ≤ 1000) :
    Calls Tryd.prog 25 #[.pointer pl, .agg #[.int .i64 x.c, .int .i64 x.s, .int .i32 x.ch, .bool x.d], .pointer pr] w (RetT (.node L x R) w) := by
  have la := L.alive_le
  have ra := R.alive_le
  have ld := L.depth_le
  have rd := R.depth_le
  have xa := x.al_le
  have s1 : IntKind.i64.wrap ((L.size : Int) + 1) = L.size + 1 := IntWalk.i64_in _ (by omega)
  have s2 : IntKind.i64.wrap ((L.size : Int) + 1 + R.size) = L.size + 1 + R.size := IntWalk.i64_in _ (by omega)
  have s3 : IntKind.i64.wrap ((L.alive : Int) + x.al) = L.alive + x.al := IntWalk.i64_in _ (by omega)
  have s4 : IntKind.i64.wrap ((L.alive : Int) + x.al + R.alive) = L.alive + x.al + R.alive := IntWalk.i64_in _ (by omega)
  have s5 : IntKind.i64.wrap (1 + ((max L.depth R.depth : Nat) : Int)) = 1 + (max L.depth R.depth : Nat) := IntWalk.i64_in _ (by omega)
  have hb0 := (Below.refl w.heap.size w).alloc (Nat.le_refl _) (.cells #[.int .i64 x.c, .int .i64 x.s, .int .i32 x.ch, .bool x.d] 30)
  have H0 := Lib.hid (And.intro (hl.next hb0) (And.intro (hr.next hb0) hb0))
  have hX := Lib.hid (Blk.start w (elL x) 30)
  clear hl hr hb0
  go_enter Tryd.func25, Tryd.ntmps25
  go_wp2_with (go_at_call 20; refine (total_any _ H0.out.1).mono ?_; rintro e w1 ⟨rfl, hb1⟩; refine Hid.out ?_)
  have H1 := Lib.hid (And.intro (H0.out.1.next hb1) (And.intro (H0.out.2.1.next hb1) (H0.out.2.2.trans (hb1.mono H0.out.2.2.size))))
  have hX1 := Lib.hid (hX.out.next hb1)
  clear H0 hX hb1
  refine Lib.hid ?_
  go_wp2_with (go_at_call 20; refine (total_any _ H1.out.2.1).mono ?_; rintro e w2 ⟨rfl, hb2⟩; refine Hid.out ?_)
  have hS : JR w w2 L R x pl pr ((w2.alloc (.cells #[.int .i64 L.size, .int .i64 L.alive, .int .i64 L.depth] 58)).alloc (.cells #[.int .i64 R.size, .int .i64 R.alive, .int .i64 R.depth] 58)).drew := by
    have hA : Below w2.heap.size w2 ((w2.alloc (.cells #[.int .i64 L.size, .int .i64 L.alive, .int .i64 L.depth] 58)).alloc (.cells #[.int .i64 R.size, .int .i64 R.alive, .int .i64 R.depth] 58)).drew := (((Below.refl _ _).alloc (Nat.le_refl _) _).alloc (by simp) _).drew
    have hw2 : Below w.heap.size w w2 := H1.out.2.2.trans (hb2.mono H1.out.2.2.size)
    exact ⟨(H1.out.1.next hb2).next hA, (H1.out.2.1.next hb2).next hA, hw2.trans (hA.mono hw2.size), (hX1.out.next hb2).next hA, (((Blk.start w2 _ _).alloc _).drew), (Blk.startAt (by simp)).drew⟩
  clear H1 hX1 hb2
  refine Lib.hid ?_
  go_wp2_with fail
  refine wp_region_noPanic ?_
  refine wp_region_held_drew (S := (fun W => W.cell? ⟨w2.heap.size, 0, none⟩ = some (.int .i64 L.size) ∧ W.cell? ⟨w2.heap.size, 1, none⟩ = some (.int .i64 L.alive) ∧ W.cell? ⟨w2.heap.size, 2, none⟩ = some (.int .i64 L.depth) ∧ W.cell? ⟨w2.heap.size + 1, 0, none⟩ = some (.int .i64 R.size) ∧ W.cell? ⟨w2.heap.size + 1, 1, none⟩ = some (.int .i64 R.alive) ∧ W.cell? ⟨w2.heap.size + 1, 2, none⟩ = some (.int .i64 R.depth) ∧ W.cell? ⟨w.heap.size, 0, none⟩ = some (.int .i64 x.c) ∧ W.cell? ⟨w.heap.size, 1, none⟩ = some (.int .i64 x.s) ∧ W.cell? ⟨w.heap.size, 2, none⟩ = some (.int .i32 x.ch) ∧ W.cell? ⟨w.heap.size, 3, none⟩ = some (.bool x.d) ∧ JR w w2 L R x pl pr W)) (by kernel_rfl) ?_ (fun hHeld => ?_)
  · exact JR.s hS
  clear hS
  generalize hW0 : ((w2.alloc (.cells #[.int .i64 L.size, .int .i64 L.alive, .int .i64 L.depth] 58)).alloc (.cells #[.int .i64 R.size, .int .i64 R.alive, .int .i64 R.depth] 58)).drew = W0 at *
  clear hW0
  refine take1 (i := 0) (v := .pointer (some ⟨w2.heap.size, 0, none⟩)) rfl (by kernel_rfl) (by kernel_rfl) (by kernel_rfl) (fun _ _ _ h => h) (Or.inl ⟨by rfl, fun w hSw => ?_⟩) hHeld ?_
  · (go_simp)
  try simp only [Act.put, List.setIfInBounds_toArray, List.set_cons_zero, List.set_cons_succ]
  refine take1 (i := 1) (v := .int .i64 L.size) rfl (by kernel_rfl) (by kernel_rfl) (by kernel_rfl) (fun _ _ _ h => h) (Or.inl ⟨by rfl, fun w hSw => ?_⟩) hHeld ?_
  · (go_simp)
  try simp only [Act.put, List.setIfInBounds_toArray, List.set_cons_zero, List.set_cons_succ]
  refine take1 (i := 2) (v := .int .i64 (L.size + 1)) rfl (by kernel_rfl) (by kernel_rfl) (by kernel_rfl) (fun _ _ _ h => h) (Or.inl ⟨by rfl, fun w hSw => ?_⟩) hHeld ?_
  · (go_simp)
  try simp only [Act.put, List.setIfInBounds_toArray, List.set_cons_zero, List.set_cons_succ]
  refine take1 (i := 3) (v := .pointer (some ⟨w2.heap.size + 1, 0, none⟩)) rfl (by kernel_rfl) (by kernel_rfl) (by kernel_rfl) (fun _ _ _ h => h) (Or.inl ⟨by rfl, fun w hSw => ?_⟩) hHeld ?_
  · (go_simp)
  try simp only [Act.put, List.setIfInBounds_toArray, List.set_cons_zero, List.set_cons_succ]
  refine take1 (i := 4) (v := .int .i64 R.size) rfl (by kernel_rfl) (by kernel_rfl) (by kernel_rfl) (fun _ _ _ h => h) (Or.inl ⟨by rfl, fun w hSw => ?_⟩) hHeld ?_
  · (go_simp)
  try simp only [Act.put, List.setIfInBounds_toArray, List.set_cons_zero, List.set_cons_succ]
  refine take1 (i := 5) (v := .int .i64 (L.size + 1 + R.size)) rfl (by kernel_rfl) (by kernel_rfl) (by kernel_rfl) (fun _ _ _ h => h) (Or.inl ⟨by rfl, fun w hSw => ?_⟩) hHeld ?_
  · (go_simp)
  try simp only [Act.put, List.setIfInBounds_toArray, List.set_cons_zero, List.set_cons_succ]
  refine take1 (i := 6) (v := .pointer (some ⟨w2.heap.size, 1, none⟩)) rfl (by kernel_rfl) (by kernel_rfl) (by kernel_rfl) (fun _ _ _ h => h) (Or.inl ⟨by rfl, fun w hSw => ?_⟩) hHeld ?_
  · (go_simp)
  try simp only [Act.put, List.setIfInBounds_toArray, List.set_cons_zero, List.set_cons_succ]
  refine take1 (i := 7) (v := .int .i64 L.alive) rfl (by kernel_rfl) (by kernel_rfl) (by kernel_rfl) (fun _ _ _ h => h) (Or.inl ⟨by rfl, fun w hSw => ?_⟩) hHeld ?_
  · (go_simp)
  try simp only [Act.put, List.setIfInBounds_toArray, List.set_cons_zero, List.set_cons_succ]
  refine take1 (i := 8) (v := .agg #[.int .i64 x.c, .int .i64 x.s, .int .i32 x.ch, .bool x.d]) rfl (by kernel_rfl) (by kernel_rfl) (by kernel_rfl) (fun _ _ _ h => h) (Or.inl ⟨by rfl, fun w hSw => ?_⟩) hHeld ?_
  · (go_simp)
  try simp only [Act.put, List.setIfInBounds_toArray, List.set_cons_zero, List.set_cons_succ]
  refine take1 (i := 11) (v := .pointer (some ⟨w2.heap.size + 1, 1, none⟩)) rfl (by kernel_rfl) (by kernel_rfl) (by kernel_rfl) (fun _ _ _ h => h) (Or.inl ⟨by rfl, fun w hSw => ?_⟩) hHeld ?_
  · (go_simp)
  try simp only [Act.put, List.setIfInBounds_toArray, List.set_cons_zero, List.set_cons_succ]
  refine take1 (i := 12) (v := .int .i64 R.alive) rfl (by kernel_rfl) (by kernel_rfl) (by kernel_rfl) (fun _ _ _ h => h) (Or.inl ⟨by rfl, fun w hSw => ?_⟩) hHeld ?_
  · (go_simp)
  try simp only [Act.put, List.setIfInBounds_toArray, List.set_cons_zero, List.set_cons_succ]
  refine take1 (i := 14) (v := .pointer (some ⟨w2.heap.size, 2, none⟩)) rfl (by kernel_rfl) (by kernel_rfl) (by kernel_rfl) (fun _ _ _ h => h) (Or.inl ⟨by rfl, fun w hSw => ?_⟩) hHeld ?_
  · (go_simp)
  try simp only [Act.put, List.setIfInBounds_toArray, List.set_cons_zero, List.set_cons_succ]
  refine take1 (i := 15) (v := .int .i64 L.depth) rfl (by kernel_rfl) (by kernel_rfl) (by kernel_rfl) (fun _ _ _ h => h) (Or.inl ⟨by rfl, fun w hSw => ?_⟩) hHeld ?_
  · (go_simp)
  try simp only [Act.put, List.setIfInBounds_toArray, List.set_cons_zero, List.set_cons_succ]
  refine take1 (i := 16) (v := .pointer (some ⟨w2.heap.size + 1, 2, none⟩)) rfl (by kernel_rfl) (by kernel_rfl) (by kernel_rfl) (fun _ _ _ h => h) (Or.inl ⟨by rfl, fun w hSw => ?_⟩) hHeld ?_
  · (go_simp)
  try simp only [Act.put, List.setIfInBounds_toArray, List.set_cons_zero, List.set_cons_succ]
  refine take1 (i := 17) (v := .int .i64 R.depth) rfl (by kernel_rfl) (by kernel_rfl) (by kernel_rfl) (fun _ _ _ h => h) (Or.inl ⟨by rfl, fun w hSw => ?_⟩) hHeld ?_
  · (go_simp)
  try simp only [Act.put, List.setIfInBounds_toArray, List.set_cons_zero, List.set_cons_succ]
  refine take1 (i := 18) (v := .int .i64 (max L.depth R.depth : Nat)) rfl (by kernel_rfl) (by kernel_rfl) (by kernel_rfl) (fun _ _ _ h => h) (Or.inl ⟨by rfl, fun w hSw => ?_⟩) hHeld ?_
  · (go_simp; split <;> omega)
  try simp only [Act.put, List.setIfInBounds_toArray, List.set_cons_zero, List.set_cons_succ]
  refine take1 (i := 19) (v := .int .i64 (1 + (max L.depth R.depth : Nat))) rfl (by kernel_rfl) (by kernel_rfl) (by kernel_rfl) (fun _ _ _ h => h) (Or.inl ⟨by rfl, fun w hSw => ?_⟩) hHeld ?_
  · (go_simp)
  try simp only [Act.put, List.setIfInBounds_toArray, List.set_cons_zero, List.set_cons_succ]
  refine wpAnyH_ready (rs := [9, 21]) (by kernel_rfl) (by simp) ?_
  refine cons1 rfl (fun K hK => ?_) (cons1 rfl (fun K hK => ?_) AllReadyH.nil)
  · go_simp
    refine (alive_any x _).mono ?_
    rintro e u ⟨rfl, hb⟩
    go_wp2_with fail
    refine hK.out _ _ (JR.s (hHeld.2.2.2.2.2.2.2.2.2.2.next hb)) (fun hHeld2 => ?_)
    clear hK K hHeld hb
    have hHeld := hHeld2
    clear hHeld2
    try simp only [Act.put, List.setIfInBounds_toArray, List.set_cons_zero, List.set_cons_succ]
    refine take1 (i := 10) (v := .int .i64 (L.alive + x.al)) rfl (by kernel_rfl) (by kernel_rfl) (by kernel_rfl) (fun _ _ _ h => h) (Or.inl ⟨by rfl, fun w hSw => ?_⟩) hHeld ?_
    · (go_simp)
    try simp only [Act.put, List.setIfInBounds_toArray, List.set_cons_zero, List.set_cons_succ]
    refine take1 (i := 13) (v := .int .i64 (L.alive + x.al + R.alive)) rfl (by kernel_rfl) (by kernel_rfl) (by kernel_rfl) (fun _ _ _ h => h) (Or.inl ⟨by rfl, fun w hSw => ?_⟩) hHeld ?_
    · (go_simp)
    try simp only [Act.put, List.setIfInBounds_toArray, List.set_cons_zero, List.set_cons_succ]
    refine take1 (i := 20) (v := .agg #[.int .i64 (L.size + 1 + R.size), .int .i64 (L.alive + x.al + R.alive), .int .i64 (1 + (max L.depth R.depth : Nat))]) rfl (by kernel_rfl) (by kernel_rfl) (by kernel_rfl) (fun _ _ _ h => h) (Or.inl ⟨by rfl, fun w hSw => ?_⟩) hHeld ?_
    · (go_simp)
    try simp only [Act.put, List.setIfInBounds_toArray, List.set_cons_zero, List.set_cons_succ]
    refine wpAnyH_ready (rs := [21]) (by kernel_rfl) (by simp) ?_
    refine cons1 rfl (fun K hK => ?_) AllReadyH.nil
    go_simp
    go_wp2_with fail
    have hU := Lib.hid hHeld.2.2.2.2.2.2.2.2.2.2
    refine hK.out _ _ (JR.s (hHeld.2.2.2.2.2.2.2.2.2.2.next ((Below.refl _ _).alloc (Nat.le_refl _) _))) (fun hHeld2 => ?_)
    clear hK K hHeld 
    have hHeld := hHeld2
    clear hHeld2
    try simp only [Act.put, List.setIfInBounds_toArray, List.set_cons_zero, List.set_cons_succ]
    refine wpAnyH_ready (rs := [22]) (by kernel_rfl) (by simp) ?_
    refine cons1 rfl (fun K hK => ?_) AllReadyH.nil
    go_simp
    go_wp2_with fail
    refine hK.out _ _ (JR.s (hU.out.next ((Below.refl _ _).alloc (Nat.le_refl _) _))) (fun hHeld2 => ?_)
    clear hK K hHeld hU
    have hHeld := hHeld2
    clear hHeld2
    try simp only [Act.put, List.setIfInBounds_toArray, List.set_cons_zero, List.set_cons_succ]
    refine wpAnyH_done (by kernel_rfl) ?_ _
    refine NoPanic.normal ?_
    have hZ := Blk.start u [.int .i64 (L.size + 1 + R.size), .int .i64 (L.alive + x.al + R.alive), .int .i64 (1 + (max L.depth R.depth : Nat))] 58
    generalize hv : u.alloc (.cells #[.int .i64 (L.size + 1 + R.size), .int .i64 (L.alive + x.al + R.alive), .int .i64 (1 + (max L.depth R.depth : Nat))] 58) = v at *
    clear hv
    have hJ := Lib.hid hHeld.2.2.2.2.2.2.2.2.2.2
    have hx0 := hJ.out.bx.cell 0 rfl
    have hx1 := hJ.out.bx.cell 1 rfl
    have hx2 := hJ.out.bx.cell 2 rfl
    have hx3 := hJ.out.bx.cell 3 rfl
    have hz0 := hZ.cell 0 rfl
    have hz1 := hZ.cell 1 rfl
    have hz2 := hZ.cell 2 rfl
    clear hHeld hZ s1 s2 s3 s4 s5
    go_wp2_with fail
    go_ret
    exact join_done hJ.out
  · go_simp
    go_wp2_with fail
    have hU := Lib.hid hHeld.2.2.2.2.2.2.2.2.2.2
    refine hK.out _ _ (JR.s (hHeld.2.2.2.2.2.2.2.2.2.2.next ((Below.refl _ _).alloc (Nat.le_refl _) _))) (fun hHeld2 => ?_)
    clear hK K hHeld 
    have hHeld := hHeld2
    clear hHeld2
    try simp only [Act.put, List.setIfInBounds_toArray, List.set_cons_zero, List.set_cons_succ]
    refine wpAnyH_ready (rs := [9]) (by kernel_rfl) (by simp) ?_
    refine cons1 rfl (fun K hK => ?_) AllReadyH.nil
    go_simp
    refine (alive_any x _).mono ?_
    rintro e u ⟨rfl, hb⟩
    have hZ := (Blk.start W0 [.int .i64 0, .int .i64 0, .int .i64 0] 58).next hb
    have hlt : W0.heap.size < u.heap.size := hZ.lt
    go_wp2_with fail
    refine hK.out _ _ (JR.s (hHeld.2.2.2.2.2.2.2.2.2.2.next hb)) (fun hHeld2 => ?_)
    clear hK K hHeld 
    have hHeld := hHeld2
    clear hHeld2
    try simp only [Act.put, List.setIfInBounds_toArray, List.set_cons_zero, List.set_cons_succ]
    refine take1 (i := 10) (v := .int .i64 (L.alive + x.al)) rfl (by kernel_rfl) (by kernel_rfl) (by kernel_rfl) (fun _ _ _ h => h) (Or.inl ⟨by rfl, fun w hSw => ?_⟩) hHeld ?_
    · (go_simp)
    try simp only [Act.put, List.setIfInBounds_toArray, List.set_cons_zero, List.set_cons_succ]
    refine take1 (i := 13) (v := .int .i64 (L.alive + x.al + R.alive)) rfl (by kernel_rfl) (by kernel_rfl) (by kernel_rfl) (fun _ _ _ h => h) (Or.inl ⟨by rfl, fun w hSw => ?_⟩) hHeld ?_
    · (go_simp)
    try simp only [Act.put, List.setIfInBounds_toArray, List.set_cons_zero, List.set_cons_succ]
    refine take1 (i := 20) (v := .agg #[.int .i64 (L.size + 1 + R.size), .int .i64 (L.alive + x.al + R.alive), .int .i64 (1 + (max L.depth R.depth : Nat))]) rfl (by kernel_rfl) (by kernel_rfl) (by kernel_rfl) (fun _ _ _ h => h) (Or.inl ⟨by rfl, fun w hSw => ?_⟩) hHeld ?_
    · (go_simp)
    try simp only [Act.put, List.setIfInBounds_toArray, List.set_cons_zero, List.set_cons_succ]
    have z0 := hZ.cell 0 rfl
    have z1 := hZ.cell 1 rfl
    have z2 := hZ.cell 2 rfl
    have f0 := hZ.free 0
    have f1 := hZ.free 1
    have f2 := hZ.free 2
    have HZ := Lib.hid hZ
    clear hZ
    have hbb : Below W0.heap.size W0 u := ((Below.refl _ _).alloc (Nat.le_refl _) (.cells #[.int .i64 0, .int .i64 0, .int .i64 0] 58)).trans (hb.mono (by simp))
    clear hb
    refine wpAnyH_ready (rs := [22]) (by kernel_rfl) (by simp) ?_
    refine cons1 rfl (fun K hK => ?_) AllReadyH.nil
    go_simp
    go_wp2_with fail
    refine hK.out _ _ (JR.s (hU.out.next (((hbb.setCell (p := ⟨W0.heap.size, 0, none⟩) (Nat.le_refl _) _).setCell (p := ⟨W0.heap.size, 1, none⟩) (Nat.le_refl _) _).setCell (p := ⟨W0.heap.size, 2, none⟩) (Nat.le_refl _) _))) (fun hHeld2 => ?_)
    clear hK K hHeld hU z0 z1 z2 f0 f1 f2 hbb
    have hHeld := hHeld2
    clear hHeld2
    try simp only [Act.put, List.setIfInBounds_toArray, List.set_cons_zero, List.set_cons_succ]
    refine wpAnyH_done (by kernel_rfl) ?_ _
    refine NoPanic.normal ?_
    have hZ := ((HZ.out.set 0 (.int .i64 (L.size + 1 + R.size))).set 1 (.int .i64 (L.alive + x.al + R.alive))).set 2 (.int .i64 (1 + (max L.depth R.depth : Nat)))
    generalize hv : ((u.setCell ⟨W0.heap.size, 0, none⟩ (.int .i64 (L.size + 1 + R.size))).setCell ⟨W0.heap.size, 1, none⟩ (.int .i64 (L.alive + x.al + R.alive))).setCell ⟨W0.heap.size, 2, none⟩ (.int .i64 (1 + (max L.depth R.depth : Nat))) = v at *
    clear hv HZ
    have hJ := Lib.hid hHeld.2.2.2.2.2.2.2.2.2.2
    have hx0 := hJ.out.bx.cell 0 rfl
    have hx1 := hJ.out.bx.cell 1 rfl
    have hx2 := hJ.out.bx.cell 2 rfl
    have hx3 := hJ.out.bx.cell 3 rfl
    have hz0 := hZ.cell 0 rfl
    have hz1 := hZ.cell 1 rfl
    have hz2 := hZ.cell 2 rfl
    clear hHeld hZ s1 s2 s3 s4 s5
    go_wp2_with fail
    go_ret
    exact join_done hJ.out
end Go.Proofs.YtjfffnnkkjceoaaDoor
