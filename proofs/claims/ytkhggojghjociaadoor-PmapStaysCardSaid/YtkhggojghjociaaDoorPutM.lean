/-
  The contract of Put: the map in which an id's entry is e.
-/
import Derived.Test.YtkhggojghjociaaDoorPut
namespace Go.Proofs.YtkhggojghjociaaDoor
open Go Go.Proofs Go.RowKit

theorem IsP.set {n : Nat} {W : World} {b : Nat} {vs : List Value} {t : TypeId} (hB : Blk W b vs t) (ht : t ≠ 63) (i : Nat) (u : Value) : ∀ {T : Pt} {p : Option Addr}, IsP n W p T → IsP n (W.setCell ⟨b, i, none⟩ u) p T
  | .nil, _, h => h
  | .part _ _, _, ⟨c, ps, hp, hn, hC, hc⟩ => ⟨c, ps, hp, hn, hC.other _ (fun e => by
      have e' : c = b := e
      subst e'
      unfold Blk at hB hC
      rw [hB] at hC
      cases hC
      exact ht rfl) _, fun d hd => IsP.set hB ht i u (hc d hd)⟩
/-- A map with an id's entry put in. -/
def putM (T : Pt) (c s : Int) (e : En) : Pt := if mayB c s = true then putT 10 T (placeI c s) e else T
/-- How many entries there are. -/
def cnt (T : Pt) : Int := ((els T).length : Nat)
theorem cnt_put (T : Pt) {c s : Int} (e : En) (h : mayB c s = true) : cnt (putT 10 T (placeI c s) e) = cnt T + if (getT 10 T (placeI c s)).isSome = true then 0 else 1 := by
  unfold cnt
  rw [els_insL T e (place_lt h), insL_length (els_rising T), getT_getL T (place_lt h)]
  split <;> omega
/-- The boxes of Put. -/
structure PutB (w : World) (p : Option Addr) (n c s : Int) (e : En) (T : Pt) (W : World) : Prop where
  bel : Below w.heap.size w W
  bm : Blk W w.heap.size [.pointer p, .int .i64 n] 28
  ba : Blk W (w.heap.size + 1) [.int .i64 c, .int .i64 s] 24
  be : Blk W (w.heap.size + 1 + 1) (enL e) 31
  br : ∃ v0 v1, Blk W (w.heap.size + 1 + 1 + 1) [v0, v1] 28
  tr : IsP w.heap.size W p T
theorem PutB.next {w : World} {p : Option Addr} {n c s : Int} {e : En} {T : Pt} {W W' : World} (h : PutB w p n c s e T W) (hb : Below W.heap.size W W') : PutB w p n c s e T W' :=
  ⟨h.bel.trans (hb.mono h.bel.size), h.bm.next hb, h.ba.next hb, h.be.next hb, let ⟨v0, v1, hv⟩ := h.br; ⟨v0, v1, hv.next hb⟩, h.tr.below (hb.mono h.bel.size)⟩
theorem PutB.put {w : World} {p : Option Addr} {n c s : Int} {e : En} {T : Pt} {W : World} (h : PutB w p n c s e T W) (x0 x1 : Value) :
    PutB w p n c s e T ((W.setCell ⟨w.heap.size + 1 + 1 + 1, 0, none⟩ x0).setCell ⟨w.heap.size + 1 + 1 + 1, 1, none⟩ x1) ∧ Blk ((W.setCell ⟨w.heap.size + 1 + 1 + 1, 0, none⟩ x0).setCell ⟨w.heap.size + 1 + 1 + 1, 1, none⟩ x1) (w.heap.size + 1 + 1 + 1) [x0, x1] 28 := by
  obtain ⟨v0, v1, hv⟩ := h.br
  have h1 := (hv.set 0 x0).set 1 x1
  have n0 : w.heap.size ≠ w.heap.size + 1 + 1 + 1 := by omega
  have n1 : w.heap.size + 1 ≠ w.heap.size + 1 + 1 + 1 := by omega
  have n2 : w.heap.size + 1 + 1 ≠ w.heap.size + 1 + 1 + 1 := by omega
  refine ⟨⟨(h.bel.setCell (p := ⟨w.heap.size + 1 + 1 + 1, 0, none⟩) (by show w.heap.size ≤ w.heap.size + 1 + 1 + 1; omega) _).setCell (p := ⟨w.heap.size + 1 + 1 + 1, 1, none⟩) (by show w.heap.size ≤ w.heap.size + 1 + 1 + 1; omega) _,
    (h.bm.other _ n0 _).other _ n0 _, (h.ba.other _ n1 _).other _ n1 _, (h.be.other _ n2 _).other _ n2 _, ⟨x0, x1, h1⟩, ?_⟩, h1⟩
  exact (h.tr.set hv (by decide) 0 x0).set (hv.set 0 x0) (by decide) 1 x1
theorem PutB.s {w : World} {p : Option Addr} {n c s : Int} {e : En} {T : Pt} {W : World} (h : PutB w p n c s e T W) :
    W.cell? ⟨w.heap.size, 0, none⟩ = some (.pointer p) ∧ W.cell? ⟨w.heap.size + 1, 0, none⟩ = some (.int .i64 c) ∧ W.cell? ⟨w.heap.size + 1, 1, none⟩ = some (.int .i64 s) ∧
    W.cell? ⟨w.heap.size + 1 + 1, 0, none⟩ = some (.int .i64 e.ac) ∧ W.cell? ⟨w.heap.size + 1 + 1, 1, none⟩ = some (.int .i64 e.an) ∧ W.cell? ⟨w.heap.size + 1 + 1, 2, none⟩ = some (.int .i32 e.ch) ∧ W.cell? ⟨w.heap.size + 1 + 1, 3, none⟩ = some (.bool e.d) ∧ PutB w p n c s e T W :=
  ⟨h.bm.cell 0 rfl, h.ba.cell 0 rfl, h.ba.cell 1 rfl, h.be.cell 0 rfl, h.be.cell 1 rfl, h.be.cell 2 rfl, h.be.cell 3 rfl, h⟩
theorem PutB.start {w : World} {p : Option Addr} {n c s : Int} {e : En} {T : Pt} (h : IsM w p T) : PutB w p n c s e T ((((w.alloc (.cells #[.pointer p, .int .i64 n] 28)).alloc (.cells #[.int .i64 c, .int .i64 s] 24)).alloc (.cells #[.int .i64 e.ac, .int .i64 e.an, .int .i32 e.ch, .bool e.d] 31)).alloc (.cells #[.pointer none, .int .i64 0] 28)) := by
  have hb : Below w.heap.size w ((((w.alloc (.cells #[.pointer p, .int .i64 n] 28)).alloc (.cells #[.int .i64 c, .int .i64 s] 24)).alloc (.cells #[.int .i64 e.ac, .int .i64 e.an, .int .i32 e.ch, .bool e.d] 31)).alloc (.cells #[.pointer none, .int .i64 0] 28)) := ((((Below.refl _ _).alloc (Nat.le_refl _) _).alloc (by simp) _).alloc (by simp; omega) _).alloc (by simp; omega) _
  exact ⟨hb, (((Blk.start w _ _).alloc _).alloc _).alloc _, ((Blk.startAt (by simp)).alloc _).alloc _, (Blk.startAt (by simp)).alloc _, ⟨_, _, Blk.startAt (by simp)⟩, h.below hb⟩

set_option maxHeartbeats 3200000 in
set_option maxRecDepth 100000 in
theorem Put_any {p : Option Addr} {T : Pt} (c s : Int) (e : En) (w : World) (hT : IsM w p T) (hn : (els T).length ≤ 1000000) :
    Calls Tryd.prog 6 #[.agg #[.pointer p, .int .i64 (cnt T)], .agg #[.int .i64 c, .int .i64 s], .agg #[.int .i64 e.ac, .int .i64 e.an, .int .i32 e.ch, .bool e.d]] w
      fun r w' => ∃ q, r = .returned (.tuple #[.agg #[.pointer q, .int .i64 (cnt (putM T c s e))], .bool (mayB c s)]) ∧ IsM w' q (putM T c s e) ∧ Below w.heap.size w w' := by
  have hn1 : 0 ≤ cnt T ∧ cnt T ≤ 1000000 := by unfold cnt; omega
  have H0 := Lib.hid (PutB.start (n := cnt T) (c := c) (s := s) (e := e) hT)
  clear hn hT
  by_cases h : mayB c s = true
  · have hg : putM T c s e = putT 10 T (placeI c s) e := if_pos h
    have hgm : getM T c s = getT 10 T (placeI c s) := if_pos h
    have hcnt := cnt_put T e h
    rw [← hgm] at hcnt
    rw [hg, h]
    clear hg hgm
    generalize cnt (putT 10 T (placeI c s) e) = n' at *
    generalize cnt T = n at *
    obtain ⟨hn1, hn2⟩ := hn1
    go_enter Tryd.func6, Tryd.ntmps6
    go_wp2_with (go_at_call 19; refine (mayBe_any _ _ _).mono ?_; rintro e' w1 ⟨rfl, hb⟩; rw [h]; refine Hid.out ?_)
    have HS1 := Lib.hid (H0.out.next hb)
    clear H0 hb
    have m0 := HS1.out.bm.cell 0 rfl
    have m1 := HS1.out.bm.cell 1 rfl
    have i0 := HS1.out.ba.cell 0 rfl
    have i1 := HS1.out.ba.cell 1 rfl
    refine Lib.hid ?_
    go_wp2_with (go_at_call 10; refine (get_any n c s _ HS1.out.tr.is).mono ?_; rintro e' w2 ⟨rfl, hb⟩; refine Hid.out ?_)
    have HS2 := Lib.hid (HS1.out.next hb)
    clear HS1 hb m0 m1 i0 i1
    generalize (getM T c s).getD .zero = ev at *
    unfold enV
    refine Lib.hid ?_
    cases hsome : (getM T c s).isSome with
    | true =>
      rw [hsome] at hcnt
      rw [if_pos rfl, Int.add_zero] at hcnt
      have HC := Lib.hid hcnt
      clear hcnt
      have HS := Lib.hid (HS2.out.next ((Below.refl w2.heap.size w2).alloc (Nat.le_refl _) (.cells #[.int .i64 ev.ac, .int .i64 ev.an, .int .i32 ev.ch, .bool ev.d] 31)))
      clear HS2
      go_wp2_with fail
      refine wp_region_noPanic ?_
      refine wp_region_held_drew (S := (fun W => W.cell? ⟨w.heap.size, 0, none⟩ = some (.pointer p) ∧ W.cell? ⟨w.heap.size + 1, 0, none⟩ = some (.int .i64 c) ∧ W.cell? ⟨w.heap.size + 1, 1, none⟩ = some (.int .i64 s) ∧ W.cell? ⟨w.heap.size + 1 + 1, 0, none⟩ = some (.int .i64 e.ac) ∧ W.cell? ⟨w.heap.size + 1 + 1, 1, none⟩ = some (.int .i64 e.an) ∧ W.cell? ⟨w.heap.size + 1 + 1, 2, none⟩ = some (.int .i32 e.ch) ∧ W.cell? ⟨w.heap.size + 1 + 1, 3, none⟩ = some (.bool e.d) ∧ PutB w p n c s e T W)) (by kernel_rfl) ?_ (fun hHeld => ?_)
      · exact (HS.out.next (Below.refl _ _).drew).s
      clear HS
      refine take1 (i := 0) (v := .pointer (some ⟨w.heap.size, 0, none⟩)) rfl (by kernel_rfl) (by kernel_rfl) (by kernel_rfl) (fun _ _ _ h => h) (Or.inl ⟨by rfl, fun w hSw => ?_⟩) hHeld ?_
      · (go_simp)
      try simp only [Act.put, List.setIfInBounds_toArray, List.set_cons_zero, List.set_cons_succ]
      refine take1 (i := 1) (v := .pointer p) rfl (by kernel_rfl) (by kernel_rfl) (by kernel_rfl) (fun _ _ _ h => h) (Or.inl ⟨by rfl, fun w hSw => ?_⟩) hHeld ?_
      · (go_simp)
      try simp only [Act.put, List.setIfInBounds_toArray, List.set_cons_zero, List.set_cons_succ]
      refine take1 (i := 2) (v := .agg #[.int .i64 c, .int .i64 s]) rfl (by kernel_rfl) (by kernel_rfl) (by kernel_rfl) (fun _ _ _ h => h) (Or.inl ⟨by rfl, fun w hSw => ?_⟩) hHeld ?_
      · (go_simp)
      try simp only [Act.put, List.setIfInBounds_toArray, List.set_cons_zero, List.set_cons_succ]
      refine take1 (i := 4) (v := .agg #[.int .i64 e.ac, .int .i64 e.an, .int .i32 e.ch, .bool e.d]) rfl (by kernel_rfl) (by kernel_rfl) (by kernel_rfl) (fun _ _ _ h => h) (Or.inl ⟨by rfl, fun w hSw => ?_⟩) hHeld ?_
      · (go_simp)
      try simp only [Act.put, List.setIfInBounds_toArray, List.set_cons_zero, List.set_cons_succ]
      refine take1 (i := 6) (v := .int .i64 (n)) rfl (by kernel_rfl) (by kernel_rfl) (by kernel_rfl) (fun _ _ _ h => h) (Or.inl ⟨by rfl, fun w hSw => ?_⟩) hHeld ?_
      · (go_simp)
      try simp only [Act.put, List.setIfInBounds_toArray, List.set_cons_zero, List.set_cons_succ]
      refine wpAnyH_ready (rs := [3]) (by kernel_rfl) (by simp) ?_
      refine cons1 rfl (fun K hK => ?_) AllReadyH.nil
      go_simp
      refine (place_any c s _ h).mono ?_
      rintro e' u1 ⟨rfl, hb⟩
      go_wp2_with fail
      refine hK.out _ _ ((hHeld.2.2.2.2.2.2.2.next hb).s) (fun hHeld2 => ?_)
      clear hK K hHeld hb
      have hHeld := hHeld2
      clear hHeld2
      try simp only [Act.put, List.setIfInBounds_toArray, List.set_cons_zero, List.set_cons_succ]
      refine wpAnyH_ready (rs := [5]) (by kernel_rfl) (by simp) ?_
      refine cons1 rfl (fun K hK => ?_) AllReadyH.nil
      go_simp
      refine (put_any e _ _ hHeld.2.2.2.2.2.2.2.tr.is (place_lt h)).mono ?_
      rintro e' u2 ⟨q, rfl, hq, hb⟩
      go_wp2_with fail
      refine hK.out _ _ ((hHeld.2.2.2.2.2.2.2.next hb).s) (fun hHeld2 => ?_)
      clear hK K hHeld hb
      have hHeld := hHeld2
      clear hHeld2
      try simp only [Act.put, List.setIfInBounds_toArray, List.set_cons_zero, List.set_cons_succ]
      have HQ := Lib.hid (hHeld.2.2.2.2.2.2.2.br)
      obtain ⟨v0, v1, hv⟩ := HQ.out
      have z0 := (hv.live 0 (by simp)).1
      have z1 := (hv.live 1 (by simp)).1
      have y0 := hv.free 0
      have y1 := hv.free 1
      have hq2 := (hq.set hv (by decide) 0 (.pointer q)).set (hv.set 0 _) (by decide) 1 (.int .i64 (n))
      have HQ2 := Lib.hid hq2
      have HB := Lib.hid ((hv.set 0 (.pointer q)).set 1 (.int .i64 (n)))
      clear hq2 hq hv HQ
      refine take1 (i := 7) (v := .agg #[.pointer q, .int .i64 (n)]) rfl (by kernel_rfl) (by kernel_rfl) (by kernel_rfl) (fun _ _ _ h => h) (Or.inl ⟨by rfl, fun w hSw => ?_⟩) hHeld ?_
      · (go_simp)
      try simp only [Act.put, List.setIfInBounds_toArray, List.set_cons_zero, List.set_cons_succ]
      refine wpAnyH_ready (rs := [8]) (by kernel_rfl) (by simp) ?_
      refine cons1 rfl (fun K hK => ?_) AllReadyH.nil
      go_simp
      go_wp2_with fail
      refine hK.out _ _ ((hHeld.2.2.2.2.2.2.2.put _ _).1.s) (fun hHeld2 => ?_)
      clear hK K hHeld z0 z1 y0 y1
      have hHeld := hHeld2
      clear hHeld2
      try simp only [Act.put, List.setIfInBounds_toArray, List.set_cons_zero, List.set_cons_succ]
      refine take1 (i := 9) (v := .bool true) rfl (by kernel_rfl) (by kernel_rfl) (by kernel_rfl) (fun _ _ _ h => h) (Or.inl ⟨by rfl, fun w hSw => ?_⟩) hHeld ?_
      · (go_simp)
      try simp only [Act.put, List.setIfInBounds_toArray, List.set_cons_zero, List.set_cons_succ]
      refine wpAnyH_done (by kernel_rfl) ?_ _
      refine NoPanic.normal ?_
      have HF := Lib.hid hHeld.2.2.2.2.2.2.2
      clear hHeld
      have r0 := HB.out.cell 0 rfl
      have r1 := HB.out.cell 1 rfl
      have HR := Lib.hid (And.intro r0 r1)
      clear r0 r1
      go_wp2_with fail
      exact bodyPost_ret (v := .tuple #[.agg #[.pointer q, .int .i64 (n)], .bool true]) (by have r0 := HR.out.1; have r1 := HR.out.2; simp [results, Tryd.results6, go_sem, r0, r1]) rfl ⟨q, by rw [HC.out], HQ2.out.is, HF.out.bel⟩
    | false =>
      rw [hsome] at hcnt
      rw [if_neg (by decide)] at hcnt
      have HC := Lib.hid hcnt
      clear hcnt
      have HS := Lib.hid (HS2.out.next ((Below.refl w2.heap.size w2).alloc (Nat.le_refl _) (.cells #[.int .i64 ev.ac, .int .i64 ev.an, .int .i32 ev.ch, .bool ev.d] 31)))
      have s1 : IntKind.i64.wrap (n + 1) = n + 1 := IntWalk.i64_in _ (by omega)
      clear HS2
      go_wp2_with fail
      clear s1
      generalize n + 1 = m at *
      refine wp_region_noPanic ?_
      refine wp_region_held_drew (S := (fun W => W.cell? ⟨w.heap.size, 0, none⟩ = some (.pointer p) ∧ W.cell? ⟨w.heap.size + 1, 0, none⟩ = some (.int .i64 c) ∧ W.cell? ⟨w.heap.size + 1, 1, none⟩ = some (.int .i64 s) ∧ W.cell? ⟨w.heap.size + 1 + 1, 0, none⟩ = some (.int .i64 e.ac) ∧ W.cell? ⟨w.heap.size + 1 + 1, 1, none⟩ = some (.int .i64 e.an) ∧ W.cell? ⟨w.heap.size + 1 + 1, 2, none⟩ = some (.int .i32 e.ch) ∧ W.cell? ⟨w.heap.size + 1 + 1, 3, none⟩ = some (.bool e.d) ∧ PutB w p n c s e T W)) (by kernel_rfl) ?_ (fun hHeld => ?_)
      · exact (HS.out.next (Below.refl _ _).drew).s
      clear HS
      refine take1 (i := 0) (v := .pointer (some ⟨w.heap.size, 0, none⟩)) rfl (by kernel_rfl) (by kernel_rfl) (by kernel_rfl) (fun _ _ _ h => h) (Or.inl ⟨by rfl, fun w hSw => ?_⟩) hHeld ?_
      · (go_simp)
      try simp only [Act.put, List.setIfInBounds_toArray, List.set_cons_zero, List.set_cons_succ]
      refine take1 (i := 1) (v := .pointer p) rfl (by kernel_rfl) (by kernel_rfl) (by kernel_rfl) (fun _ _ _ h => h) (Or.inl ⟨by rfl, fun w hSw => ?_⟩) hHeld ?_
      · (go_simp)
      try simp only [Act.put, List.setIfInBounds_toArray, List.set_cons_zero, List.set_cons_succ]
      refine take1 (i := 2) (v := .agg #[.int .i64 c, .int .i64 s]) rfl (by kernel_rfl) (by kernel_rfl) (by kernel_rfl) (fun _ _ _ h => h) (Or.inl ⟨by rfl, fun w hSw => ?_⟩) hHeld ?_
      · (go_simp)
      try simp only [Act.put, List.setIfInBounds_toArray, List.set_cons_zero, List.set_cons_succ]
      refine take1 (i := 4) (v := .agg #[.int .i64 e.ac, .int .i64 e.an, .int .i32 e.ch, .bool e.d]) rfl (by kernel_rfl) (by kernel_rfl) (by kernel_rfl) (fun _ _ _ h => h) (Or.inl ⟨by rfl, fun w hSw => ?_⟩) hHeld ?_
      · (go_simp)
      try simp only [Act.put, List.setIfInBounds_toArray, List.set_cons_zero, List.set_cons_succ]
      refine take1 (i := 6) (v := .int .i64 (m)) rfl (by kernel_rfl) (by kernel_rfl) (by kernel_rfl) (fun _ _ _ h => h) (Or.inl ⟨by rfl, fun w hSw => ?_⟩) hHeld ?_
      · (go_simp)
      try simp only [Act.put, List.setIfInBounds_toArray, List.set_cons_zero, List.set_cons_succ]
      refine wpAnyH_ready (rs := [3]) (by kernel_rfl) (by simp) ?_
      refine cons1 rfl (fun K hK => ?_) AllReadyH.nil
      go_simp
      refine (place_any c s _ h).mono ?_
      rintro e' u1 ⟨rfl, hb⟩
      go_wp2_with fail
      refine hK.out _ _ ((hHeld.2.2.2.2.2.2.2.next hb).s) (fun hHeld2 => ?_)
      clear hK K hHeld hb
      have hHeld := hHeld2
      clear hHeld2
      try simp only [Act.put, List.setIfInBounds_toArray, List.set_cons_zero, List.set_cons_succ]
      refine wpAnyH_ready (rs := [5]) (by kernel_rfl) (by simp) ?_
      refine cons1 rfl (fun K hK => ?_) AllReadyH.nil
      go_simp
      refine (put_any e _ _ hHeld.2.2.2.2.2.2.2.tr.is (place_lt h)).mono ?_
      rintro e' u2 ⟨q, rfl, hq, hb⟩
      go_wp2_with fail
      refine hK.out _ _ ((hHeld.2.2.2.2.2.2.2.next hb).s) (fun hHeld2 => ?_)
      clear hK K hHeld hb
      have hHeld := hHeld2
      clear hHeld2
      try simp only [Act.put, List.setIfInBounds_toArray, List.set_cons_zero, List.set_cons_succ]
      have HQ := Lib.hid (hHeld.2.2.2.2.2.2.2.br)
      obtain ⟨v0, v1, hv⟩ := HQ.out
      have z0 := (hv.live 0 (by simp)).1
      have z1 := (hv.live 1 (by simp)).1
      have y0 := hv.free 0
      have y1 := hv.free 1
      have hq2 := (hq.set hv (by decide) 0 (.pointer q)).set (hv.set 0 _) (by decide) 1 (.int .i64 (m))
      have HQ2 := Lib.hid hq2
      have HB := Lib.hid ((hv.set 0 (.pointer q)).set 1 (.int .i64 (m)))
      clear hq2 hq hv HQ
      refine take1 (i := 7) (v := .agg #[.pointer q, .int .i64 (m)]) rfl (by kernel_rfl) (by kernel_rfl) (by kernel_rfl) (fun _ _ _ h => h) (Or.inl ⟨by rfl, fun w hSw => ?_⟩) hHeld ?_
      · (go_simp)
      try simp only [Act.put, List.setIfInBounds_toArray, List.set_cons_zero, List.set_cons_succ]
      refine wpAnyH_ready (rs := [8]) (by kernel_rfl) (by simp) ?_
      refine cons1 rfl (fun K hK => ?_) AllReadyH.nil
      go_simp
      go_wp2_with fail
      refine hK.out _ _ ((hHeld.2.2.2.2.2.2.2.put _ _).1.s) (fun hHeld2 => ?_)
      clear hK K hHeld z0 z1 y0 y1
      have hHeld := hHeld2
      clear hHeld2
      try simp only [Act.put, List.setIfInBounds_toArray, List.set_cons_zero, List.set_cons_succ]
      refine take1 (i := 9) (v := .bool true) rfl (by kernel_rfl) (by kernel_rfl) (by kernel_rfl) (fun _ _ _ h => h) (Or.inl ⟨by rfl, fun w hSw => ?_⟩) hHeld ?_
      · (go_simp)
      try simp only [Act.put, List.setIfInBounds_toArray, List.set_cons_zero, List.set_cons_succ]
      refine wpAnyH_done (by kernel_rfl) ?_ _
      refine NoPanic.normal ?_
      have HF := Lib.hid hHeld.2.2.2.2.2.2.2
      clear hHeld
      have r0 := HB.out.cell 0 rfl
      have r1 := HB.out.cell 1 rfl
      have HR := Lib.hid (And.intro r0 r1)
      clear r0 r1
      go_wp2_with fail
      exact bodyPost_ret (v := .tuple #[.agg #[.pointer q, .int .i64 m], .bool true]) (by have r0 := HR.out.1; have r1 := HR.out.2; simp [results, Tryd.results6, go_sem, r0, r1]) rfl ⟨q, by rw [HC.out], HQ2.out.is, HF.out.bel⟩
  · have h' : mayB c s = false := by simpa using h
    have hg : putM T c s e = T := if_neg h
    rw [hg, h']
    clear hg
    generalize cnt T = n at *
    go_enter Tryd.func6, Tryd.ntmps6
    go_wp2_with (go_at_call 19; refine (mayBe_any _ _ _).mono ?_; rintro e' w1 ⟨rfl, hb⟩; rw [h']; refine Hid.out ?_)
    have HS1 := Lib.hid (H0.out.next hb)
    clear H0 hb
    have m0 := HS1.out.bm.cell 0 rfl
    have m1 := HS1.out.bm.cell 1 rfl
    obtain ⟨v0, v1, hv⟩ := HS1.out.br
    have z0 := hv.cell 0 rfl
    have z1 := hv.cell 1 rfl
    have y0 := hv.free 0
    have y1 := hv.free 1
    have HB := Lib.hid ((hv.set 0 (.pointer p)).set 1 (.int .i64 n))
    have HP := Lib.hid (HS1.out.put (.pointer p) (.int .i64 n)).1
    clear hv HS1
    refine Lib.hid ?_
    go_wp2_with fail
    exact bodyPost_ret (v := .tuple #[.agg #[.pointer p, .int .i64 n], .bool false]) (by have r0 := HB.out.cell 0 rfl; have r1 := HB.out.cell 1 rfl; simp [results, Tryd.results6, go_sem, r0, r1]) rfl ⟨p, rfl, HP.out.tr.is, HP.out.bel⟩
end Go.Proofs.YtkhggojghjociaaDoor
