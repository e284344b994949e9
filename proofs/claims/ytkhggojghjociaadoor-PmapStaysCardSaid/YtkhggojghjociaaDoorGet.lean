/-
  The contract of Get: an id's entry, and whether there is one.
-/
import Derived.Test.YtkhggojghjociaaDoorFind
namespace Go.Proofs.YtkhggojghjociaaDoor
open Go Go.Proofs Go.RowKit

/-- The entry of an id; none of one that may not be. -/
def getM (T : Pt) (c s : Int) : Option En := if mayB c s = true then getT 10 T (placeI c s) else none
def enV (e : En) : Value := .agg #[.int .i64 e.ac, .int .i64 e.an, .int .i32 e.ch, .bool e.d]
/-- The boxes of Get. -/
structure GetS (w : World) (p : Option Addr) (n c s : Int) (T : Pt) (W : World) : Prop where
  bel : Below w.heap.size w W
  bm : Blk W w.heap.size [.pointer p, .int .i64 n] 28
  ba : Blk W (w.heap.size + 1) [.int .i64 c, .int .i64 s] 24
  br : Blk W (w.heap.size + 1 + 1) (enL .zero) 31
  tr : IsM W p T
theorem GetS.next {w : World} {p : Option Addr} {n c s : Int} {T : Pt} {W W' : World} (h : GetS w p n c s T W) (hb : Below W.heap.size W W') : GetS w p n c s T W' :=
  ⟨h.bel.trans (hb.mono h.bel.size), h.bm.next hb, h.ba.next hb, h.br.next hb, h.tr.next hb⟩
theorem GetS.s {w : World} {p : Option Addr} {n c s : Int} {T : Pt} {W : World} (h : GetS w p n c s T W) :
    W.cell? ⟨w.heap.size, 0, none⟩ = some (.pointer p) ∧ W.cell? ⟨w.heap.size + 1, 0, none⟩ = some (.int .i64 c) ∧ W.cell? ⟨w.heap.size + 1, 1, none⟩ = some (.int .i64 s) ∧ GetS w p n c s T W :=
  ⟨h.bm.cell 0 rfl, h.ba.cell 0 rfl, h.ba.cell 1 rfl, h⟩
theorem GetS.start {w : World} {p : Option Addr} {n c s : Int} {T : Pt} (h : IsM w p T) : GetS w p n c s T (((w.alloc (.cells #[.pointer p, .int .i64 n] 28)).alloc (.cells #[.int .i64 c, .int .i64 s] 24)).alloc (.cells #[.int .i64 0, .int .i64 0, .int .i32 0, .bool false] 31)) := by
  have hb : Below w.heap.size w (((w.alloc (.cells #[.pointer p, .int .i64 n] 28)).alloc (.cells #[.int .i64 c, .int .i64 s] 24)).alloc (.cells #[.int .i64 0, .int .i64 0, .int .i32 0, .bool false] 31)) := (((Below.refl _ _).alloc (Nat.le_refl _) _).alloc (by simp) _).alloc (by simp; omega) _
  exact ⟨hb, ((Blk.start w _ _).alloc _).alloc _, (Blk.startAt (by simp)).alloc _, Blk.startAt (by simp), h.next hb⟩

set_option maxHeartbeats 1600000 in
theorem get_any {p : Option Addr} {T : Pt} (n c s : Int) (w : World) (hT : IsM w p T) :
    Calls Tryd.prog 10 #[.agg #[.pointer p, .int .i64 n], .agg #[.int .i64 c, .int .i64 s]] w
      fun e w' => e = .returned (.tuple #[enV ((getM T c s).getD .zero), .bool (getM T c s).isSome]) ∧ Below w.heap.size w w' := by
  have H0 := Lib.hid (GetS.start (n := n) (c := c) (s := s) hT)
  clear hT
  by_cases h : mayB c s = true
  · have hg : getM T c s = getT 10 T (placeI c s) := if_pos h
    rw [hg]
    clear hg
    go_enter Tryd.func10, Tryd.ntmps10
    go_wp2_with (go_at_call 19; refine (mayBe_any _ _ _).mono ?_; rintro e w1 ⟨rfl, hb⟩; rw [h]; refine Hid.out ?_)
    have HS := Lib.hid (H0.out.next hb)
    clear H0 hb
    refine Lib.hid ?_
    go_wp2_with fail
    refine wp_region_noPanic ?_
    refine wp_region_held_drew (S := (fun W => W.cell? ⟨w.heap.size, 0, none⟩ = some (.pointer p) ∧ W.cell? ⟨w.heap.size + 1, 0, none⟩ = some (.int .i64 c) ∧ W.cell? ⟨w.heap.size + 1, 1, none⟩ = some (.int .i64 s) ∧ GetS w p n c s T W)) (by kernel_rfl) ?_ (fun hHeld => ?_)
    · exact (HS.out.next (Below.refl _ _).drew).s
    clear HS
    refine take1 (i := 0) (v := .pointer (some ⟨w.heap.size, 0, none⟩)) rfl (by kernel_rfl) (by kernel_rfl) (by kernel_rfl) (fun _ _ _ h => h) (Or.inl ⟨by rfl, fun w hSw => ?_⟩) hHeld ?_
    · (go_simp)
    try simp only [Act.put, List.setIfInBounds_toArray, List.set_cons_zero, List.set_cons_succ]
    refine take1 (i := 1) (v := .pointer p) rfl (by kernel_rfl) (by kernel_rfl) (by kernel_rfl) (fun _ _ _ h => h) (Or.inl ⟨by rfl, fun w hSw => ?_⟩) hHeld ?_
    · (go_simp)
    try simp only [Act.put, List.setIfInBounds_toArray, List.set_cons_zero, List.set_cons_succ]
    refine take1 (i := 2) (v := .agg #[.int .i64 c, .int .i64 s]) rfl (by kernel_rfl) (by kernel_rfl) (by kernel_rfl) (fun _ _ _ h => h) (Or.inl ⟨by rfl, fun w hSw => ?_⟩) hHeld ?_
    · (go_simp)
    try simp only [Act.put, List.setIfInBounds_toArray, List.set_cons_zero, List.set_cons_succ]
    refine wpAnyH_ready (rs := [3]) (by kernel_rfl) (by simp) ?_
    refine cons1 rfl (fun K hK => ?_) AllReadyH.nil
    go_simp
    refine (place_any c s _ h).mono ?_
    rintro e u1 ⟨rfl, hb⟩
    go_wp2_with fail
    refine hK.out _ _ ((hHeld.2.2.2.next hb).s) (fun hHeld2 => ?_)
    clear hK K hHeld hb
    have hHeld := hHeld2
    clear hHeld2
    try simp only [Act.put, List.setIfInBounds_toArray, List.set_cons_zero, List.set_cons_succ]
    refine wpAnyH_ready (rs := [4]) (by kernel_rfl) (by simp) ?_
    refine cons1 rfl (fun K hK => ?_) AllReadyH.nil
    go_simp
    refine (find_any _ _ hHeld.2.2.2.tr (place_lt h)).mono ?_
    rintro e u2 ⟨⟨q, rfl, hq⟩, hb⟩
    go_wp2_with fail
    refine hK.out _ _ ((hHeld.2.2.2.next hb).s) (fun hHeld2 => ?_)
    clear hK K hHeld 
    have hHeld := hHeld2
    clear hHeld2
    try simp only [Act.put, List.setIfInBounds_toArray, List.set_cons_zero, List.set_cons_succ]
    have HQ := Lib.hid (hq.next hb)
    clear hq hb
    refine take1 (i := 5) (v := .pointer q) rfl (by kernel_rfl) (by kernel_rfl) (by kernel_rfl) (fun _ _ _ h => h) (Or.inl ⟨by rfl, fun w hSw => ?_⟩) hHeld ?_
    · (go_simp)
    try simp only [Act.put, List.setIfInBounds_toArray, List.set_cons_zero, List.set_cons_succ]
    refine wpAnyH_done (by kernel_rfl) ?_ _
    refine NoPanic.normal ?_
    have HS := Lib.hid hHeld.2.2.2
    clear hHeld
    rcases HQ.out with ⟨rfl, hr⟩ | ⟨b, ps, v, rfl, hB, hr⟩
    · skip
      have f0 := HS.out.br.cell 0 rfl
      have f1 := HS.out.br.cell 1 rfl
      have f2 := HS.out.br.cell 2 rfl
      have f3 := HS.out.br.cell 3 rfl
      have z0 := HS.out.br.free 0
      have z1 := HS.out.br.free 1
      have z2 := HS.out.br.free 2
      have z3 := HS.out.br.free 3
      go_wp2_with fail
      have hz := HS.out.br.put4 (.int .i64 0) (.int .i64 0) (.int .i32 0) (.bool false)
      have y0 := hz.cell 0 rfl
      have y1 := hz.cell 1 rfl
      have y2 := hz.cell 2 rfl
      have y3 := hz.cell 3 rfl
      have hbe := below_put4 HS.out.bel (show w.heap.size ≤ w.heap.size + 1 + 1 by omega) 0 (.int .i64 0) (.int .i64 0) (.int .i32 0) (.bool false)
      exact bodyPost_ret (v := .tuple #[enV .zero, .bool false]) (by simp [results, Tryd.results10, go_sem, y0, y1, y2, y3, enV, En.zero]) rfl ⟨by rw [hr]; rfl, hbe⟩
    · skip
      have f0 := HS.out.br.cell 0 rfl
      have f1 := HS.out.br.cell 1 rfl
      have f2 := HS.out.br.cell 2 rfl
      have f3 := HS.out.br.cell 3 rfl
      have z0 := HS.out.br.free 0
      have z1 := HS.out.br.free 1
      have z2 := HS.out.br.free 2
      have z3 := HS.out.br.free 3
      have k0 := hB.cell 8 rfl
      have k1 := hB.cell 9 rfl
      have k2 := hB.cell 10 rfl
      have k3 := hB.cell 11 rfl
      go_wp2_with fail
      have hz := HS.out.br.put4 (.int .i64 v.ac) (.int .i64 v.an) (.int .i32 v.ch) (.bool v.d)
      have y0 := hz.cell 0 rfl
      have y1 := hz.cell 1 rfl
      have y2 := hz.cell 2 rfl
      have y3 := hz.cell 3 rfl
      have hbe := below_put4 HS.out.bel (show w.heap.size ≤ w.heap.size + 1 + 1 by omega) 0 (.int .i64 v.ac) (.int .i64 v.an) (.int .i32 v.ch) (.bool v.d)
      exact bodyPost_ret (v := .tuple #[enV v, .bool true]) (by simp [results, Tryd.results10, go_sem, y0, y1, y2, y3, enV]) rfl ⟨by rw [hr]; rfl, hbe⟩
  · have hg : getM T c s = none := if_neg h
    have h' : mayB c s = false := by simpa using h
    rw [hg]
    clear hg
    go_enter Tryd.func10, Tryd.ntmps10
    go_wp2_with (go_at_call 19; refine (mayBe_any _ _ _).mono ?_; rintro e w1 ⟨rfl, hb⟩; rw [h']; refine Hid.out ?_)
    have HS := Lib.hid (H0.out.next hb)
    clear H0 hb
    refine Lib.hid ?_
    have f0 := HS.out.br.cell 0 rfl
    have f1 := HS.out.br.cell 1 rfl
    have f2 := HS.out.br.cell 2 rfl
    have f3 := HS.out.br.cell 3 rfl
    have z0 := HS.out.br.free 0
    have z1 := HS.out.br.free 1
    have z2 := HS.out.br.free 2
    have z3 := HS.out.br.free 3
    go_wp2_with fail
    have hz := HS.out.br.put4 (.int .i64 0) (.int .i64 0) (.int .i32 0) (.bool false)
    have y0 := hz.cell 0 rfl
    have y1 := hz.cell 1 rfl
    have y2 := hz.cell 2 rfl
    have y3 := hz.cell 3 rfl
    have hbe := below_put4 HS.out.bel (show w.heap.size ≤ w.heap.size + 1 + 1 by omega) 0 (.int .i64 0) (.int .i64 0) (.int .i32 0) (.bool false)
    exact bodyPost_ret (v := .tuple #[enV .zero, .bool false]) (by simp [results, Tryd.results10, go_sem, y0, y1, y2, y3, enV, En.zero]) rfl ⟨rfl, hbe⟩
end Go.Proofs.YtkhggojghjociaaDoor
