/-
  The contract of the law's Of of layer 4: an entry as the document has it.
-/
import Derived.Test.YtkhggojghjociaaDoorGet
namespace Go.Proofs.YtkhggojghjociaaDoor
open Go Go.Proofs Go.RowKit

/-- An entry of the document, as a value, and its cells. -/
def reV (x : Re) : Value := .agg #[.int .i64 x.c, .int .i64 x.s, .int .i64 x.e.ac, .int .i64 x.e.an, .int .i32 x.e.ch, .bool x.e.d]
def reL (x : Re) : List Value := [.int .i64 x.c, .int .i64 x.s, .int .i64 x.e.ac, .int .i64 x.e.an, .int .i32 x.e.ch, .bool x.e.d]
/-- The boxes of Of. -/
structure OfB (w : World) (c s : Int) (e : En) (vs : List Value) (W : World) : Prop where
  bel : Below w.heap.size w W
  ba : Blk W w.heap.size [.int .i64 c, .int .i64 s] 24
  be : Blk W (w.heap.size + 1) (enL e) 31
  br : Blk W (w.heap.size + 1 + 1) vs 40
theorem OfB.next {w : World} {c s : Int} {e : En} {vs : List Value} {W W' : World} (h : OfB w c s e vs W) (hb : Below W.heap.size W W') : OfB w c s e vs W' :=
  ⟨h.bel.trans (hb.mono h.bel.size), h.ba.next hb, h.be.next hb, h.br.next hb⟩
theorem OfB.s {w : World} {c s : Int} {e : En} {vs : List Value} {W : World} (h : OfB w c s e vs W) :
    W.cell? ⟨w.heap.size, 0, none⟩ = some (.int .i64 c) ∧ W.cell? ⟨w.heap.size, 1, none⟩ = some (.int .i64 s) ∧
    W.cell? ⟨w.heap.size + 1, 0, none⟩ = some (.int .i64 e.ac) ∧ W.cell? ⟨w.heap.size + 1, 1, none⟩ = some (.int .i64 e.an) ∧ W.cell? ⟨w.heap.size + 1, 2, none⟩ = some (.int .i32 e.ch) ∧ W.cell? ⟨w.heap.size + 1, 3, none⟩ = some (.bool e.d) ∧ OfB w c s e vs W :=
  ⟨h.ba.cell 0 rfl, h.ba.cell 1 rfl, h.be.cell 0 rfl, h.be.cell 1 rfl, h.be.cell 2 rfl, h.be.cell 3 rfl, h⟩
theorem OfB.start {w : World} {c s : Int} {e : En} : OfB w c s e [.int .i64 0, .int .i64 0, .int .i64 0, .int .i64 0, .int .i32 0, .bool false] (((w.alloc (.cells #[.int .i64 c, .int .i64 s] 24)).alloc (.cells #[.int .i64 e.ac, .int .i64 e.an, .int .i32 e.ch, .bool e.d] 31)).alloc (.cells #[.int .i64 0, .int .i64 0, .int .i64 0, .int .i64 0, .int .i32 0, .bool false] 40)) :=
  ⟨(((Below.refl _ _).alloc (Nat.le_refl _) _).alloc (by simp) _).alloc (by simp; omega) _, ((Blk.start w _ _).alloc _).alloc _, (Blk.startAt (by simp)).alloc _, Blk.startAt (by simp)⟩

theorem OfB.put {w : World} {c s : Int} {e : En} {vs : List Value} {W : World} (h : OfB w c s e vs W) (hl : vs.length = 6) :
    OfB w c s e (reL ⟨c, s, e⟩) ((((((W.setCell ⟨w.heap.size + 1 + 1, 0, none⟩ (.int .i64 c)).setCell ⟨w.heap.size + 1 + 1, 1, none⟩ (.int .i64 s)).setCell ⟨w.heap.size + 1 + 1, 2, none⟩ (.int .i64 e.ac)).setCell ⟨w.heap.size + 1 + 1, 3, none⟩ (.int .i64 e.an)).setCell ⟨w.heap.size + 1 + 1, 4, none⟩ (.int .i32 e.ch)).setCell ⟨w.heap.size + 1 + 1, 5, none⟩ (.bool e.d)) := by
  have n0 : w.heap.size ≠ w.heap.size + 1 + 1 := by omega
  have n1 : w.heap.size + 1 ≠ w.heap.size + 1 + 1 := by omega
  have hs := (((((h.br.set 0 (.int .i64 c)).set 1 (.int .i64 s)).set 2 (.int .i64 e.ac)).set 3 (.int .i64 e.an)).set 4 (.int .i32 e.ch)).set 5 (.bool e.d)
  have hb := below_put4 h.bel (show w.heap.size ≤ w.heap.size + 1 + 1 by omega) 0 (.int .i64 c) (.int .i64 s) (.int .i64 e.ac) (.int .i64 e.an)
  refine ⟨(hb.setCell (p := ⟨w.heap.size + 1 + 1, 4, none⟩) (by show w.heap.size ≤ w.heap.size + 1 + 1; omega) _).setCell (p := ⟨w.heap.size + 1 + 1, 5, none⟩) (by show w.heap.size ≤ w.heap.size + 1 + 1; omega) _,
    (((((h.ba.other _ n0 _).other _ n0 _).other _ n0 _).other _ n0 _).other _ n0 _).other _ n0 _, (((((h.be.other _ n1 _).other _ n1 _).other _ n1 _).other _ n1 _).other _ n1 _).other _ n1 _, ?_⟩
  match vs, hl, hs with
  | [_, _, _, _, _, _], _, hs => exact hs

set_option maxHeartbeats 1600000 in
set_option maxRecDepth 100000 in
theorem of4_any (c s : Int) (e : En) (w : World) :
    Calls Tryd.prog 8 #[.agg #[.int .i64 c, .int .i64 s], .agg #[.int .i64 e.ac, .int .i64 e.an, .int .i32 e.ch, .bool e.d]] w
      fun r w' => r = .returned (reV ⟨c, s, e⟩) ∧ Below w.heap.size w w' := by
  have H0 := Lib.hid (OfB.start (w := w) (c := c) (s := s) (e := e))
  go_enter Tryd.func8, Tryd.ntmps8
  go_wp2_with fail
  refine wp_region_noPanic ?_
  refine wp_region_held_drew (S := (fun W => W.cell? ⟨w.heap.size, 0, none⟩ = some (.int .i64 c) ∧ W.cell? ⟨w.heap.size, 1, none⟩ = some (.int .i64 s) ∧ W.cell? ⟨w.heap.size + 1, 0, none⟩ = some (.int .i64 e.ac) ∧ W.cell? ⟨w.heap.size + 1, 1, none⟩ = some (.int .i64 e.an) ∧ W.cell? ⟨w.heap.size + 1, 2, none⟩ = some (.int .i32 e.ch) ∧ W.cell? ⟨w.heap.size + 1, 3, none⟩ = some (.bool e.d) ∧ ∃ vs, vs.length = 6 ∧ OfB w c s e vs W)) (by kernel_rfl) ?_ (fun hHeld => ?_)
  · exact let h := (H0.out.next (Below.refl _ _).drew).s; ⟨h.1, h.2.1, h.2.2.1, h.2.2.2.1, h.2.2.2.2.1, h.2.2.2.2.2.1, _, rfl, h.2.2.2.2.2.2⟩
  clear H0
  refine take1 (i := 0) (v := .agg #[.int .i64 c, .int .i64 s]) rfl (by kernel_rfl) (by kernel_rfl) (by kernel_rfl) (fun _ _ _ h => h) (Or.inl ⟨by rfl, fun w hSw => ?_⟩) hHeld ?_
  · (go_simp)
  try simp only [Act.put, List.setIfInBounds_toArray, List.set_cons_zero, List.set_cons_succ]
  refine take1 (i := 2) (v := .pointer (some ⟨w.heap.size + 1, 0, none⟩)) rfl (by kernel_rfl) (by kernel_rfl) (by kernel_rfl) (fun _ _ _ h => h) (Or.inl ⟨by rfl, fun w hSw => ?_⟩) hHeld ?_
  · (go_simp)
  try simp only [Act.put, List.setIfInBounds_toArray, List.set_cons_zero, List.set_cons_succ]
  refine take1 (i := 3) (v := .agg #[.int .i64 e.ac, .int .i64 e.an]) rfl (by kernel_rfl) (by kernel_rfl) (by kernel_rfl) (fun _ _ _ h => h) (Or.inl ⟨by rfl, fun w hSw => ?_⟩) hHeld ?_
  · (go_simp)
  try simp only [Act.put, List.setIfInBounds_toArray, List.set_cons_zero, List.set_cons_succ]
  refine take1 (i := 5) (v := .pointer (some ⟨w.heap.size + 1, 2, none⟩)) rfl (by kernel_rfl) (by kernel_rfl) (by kernel_rfl) (fun _ _ _ h => h) (Or.inl ⟨by rfl, fun w hSw => ?_⟩) hHeld ?_
  · (go_simp)
  try simp only [Act.put, List.setIfInBounds_toArray, List.set_cons_zero, List.set_cons_succ]
  refine take1 (i := 6) (v := .int .i32 e.ch) rfl (by kernel_rfl) (by kernel_rfl) (by kernel_rfl) (fun _ _ _ h => h) (Or.inl ⟨by rfl, fun w hSw => ?_⟩) hHeld ?_
  · (go_simp)
  try simp only [Act.put, List.setIfInBounds_toArray, List.set_cons_zero, List.set_cons_succ]
  refine take1 (i := 7) (v := .pointer (some ⟨w.heap.size + 1, 3, none⟩)) rfl (by kernel_rfl) (by kernel_rfl) (by kernel_rfl) (fun _ _ _ h => h) (Or.inl ⟨by rfl, fun w hSw => ?_⟩) hHeld ?_
  · (go_simp)
  try simp only [Act.put, List.setIfInBounds_toArray, List.set_cons_zero, List.set_cons_succ]
  refine take1 (i := 8) (v := .bool e.d) rfl (by kernel_rfl) (by kernel_rfl) (by kernel_rfl) (fun _ _ _ h => h) (Or.inl ⟨by rfl, fun w hSw => ?_⟩) hHeld ?_
  · (go_simp)
  try simp only [Act.put, List.setIfInBounds_toArray, List.set_cons_zero, List.set_cons_succ]
  refine wpAnyH_ready (rs := [1]) (by kernel_rfl) (by simp) ?_
  refine cons1 rfl (fun K hK => ?_) AllReadyH.nil
  go_simp
  refine (of_any c s _).mono ?_
  rintro e' u1 ⟨rfl, hb⟩
  go_wp2_with fail
  refine hK.out _ _ ((let ⟨vs, hl, hB⟩ := hHeld.2.2.2.2.2.2; let h := (hB.next hb).s; ⟨h.1, h.2.1, h.2.2.1, h.2.2.2.1, h.2.2.2.2.1, h.2.2.2.2.2.1, vs, hl, h.2.2.2.2.2.2⟩)) (fun hHeld2 => ?_)
  clear hK K hHeld hb
  have hHeld := hHeld2
  clear hHeld2
  try simp only [Act.put, List.setIfInBounds_toArray, List.set_cons_zero, List.set_cons_succ]
  refine wpAnyH_ready (rs := [4]) (by kernel_rfl) (by simp) ?_
  refine cons1 rfl (fun K hK => ?_) AllReadyH.nil
  go_simp
  refine (of_any e.ac e.an _).mono ?_
  rintro e' u2 ⟨rfl, hb⟩
  go_wp2_with fail
  refine hK.out _ _ ((let ⟨vs, hl, hB⟩ := hHeld.2.2.2.2.2.2; let h := (hB.next hb).s; ⟨h.1, h.2.1, h.2.2.1, h.2.2.2.1, h.2.2.2.2.1, h.2.2.2.2.2.1, vs, hl, h.2.2.2.2.2.2⟩)) (fun hHeld2 => ?_)
  clear hK K hHeld hb
  have hHeld := hHeld2
  clear hHeld2
  try simp only [Act.put, List.setIfInBounds_toArray, List.set_cons_zero, List.set_cons_succ]
  obtain ⟨vs, hl, hB⟩ := hHeld.2.2.2.2.2.2
  obtain ⟨k0, f0⟩ := hB.br.live 0 (by omega)
  obtain ⟨k1, f1⟩ := hB.br.live 1 (by omega)
  obtain ⟨k2, f2⟩ := hB.br.live 2 (by omega)
  obtain ⟨k3, f3⟩ := hB.br.live 3 (by omega)
  obtain ⟨k4, f4⟩ := hB.br.live 4 (by omega)
  obtain ⟨k5, f5⟩ := hB.br.live 5 (by omega)
  have HB := Lib.hid hB
  have HL := Lib.hid hl
  clear hB hl
  refine take1 (i := 9) (v := .agg #[.int .i64 c, .int .i64 s, .int .i64 e.ac, .int .i64 e.an, .int .i32 e.ch, .bool e.d]) rfl (by kernel_rfl) (by kernel_rfl) (by kernel_rfl) (fun _ _ _ h => h) (Or.inl ⟨by rfl, fun w hSw => ?_⟩) hHeld ?_
  · (go_simp)
  try simp only [Act.put, List.setIfInBounds_toArray, List.set_cons_zero, List.set_cons_succ]
  refine wpAnyH_ready (rs := [10]) (by kernel_rfl) (by simp) ?_
  refine cons1 rfl (fun K hK => ?_) AllReadyH.nil
  go_simp
  go_wp2_with fail
  refine hK.out _ _ ((let h := (HB.out.put HL.out).s; ⟨h.1, h.2.1, h.2.2.1, h.2.2.2.1, h.2.2.2.2.1, h.2.2.2.2.2.1, reL ⟨c, s, e⟩, rfl, h.2.2.2.2.2.2⟩)) (fun hHeld2 => ?_)
  clear hK K hHeld k0 k1 k2 k3 k4 k5 f0 f1 f2 f3 f4 f5
  have hHeld := hHeld2
  clear hHeld2
  try simp only [Act.put, List.setIfInBounds_toArray, List.set_cons_zero, List.set_cons_succ]
  have HP := Lib.hid (HB.out.put HL.out)
  clear HB HL
  refine wpAnyH_done (by kernel_rfl) ?_ _
  refine NoPanic.normal ?_
  clear hHeld
  have y0 := HP.out.br.cell 0 rfl
  have y1 := HP.out.br.cell 1 rfl
  have y2 := HP.out.br.cell 2 rfl
  have y3 := HP.out.br.cell 3 rfl
  have y4 := HP.out.br.cell 4 rfl
  have y5 := HP.out.br.cell 5 rfl
  have HY := Lib.hid (And.intro y0 (And.intro y1 (And.intro y2 (And.intro y3 (And.intro y4 y5)))))
  clear y0 y1 y2 y3 y4 y5
  go_wp2_with fail
  exact bodyPost_ret (v := reV ⟨c, s, e⟩) (by obtain ⟨y0, y1, y2, y3, y4, y5⟩ := HY.out; simp [results, Tryd.results8, go_sem, y0, y1, y2, y3, y4, y5, reV]) rfl ⟨rfl, HP.out.bel⟩
end Go.Proofs.YtkhggojghjociaaDoor
