/-
  The walk of the law OpBack: whatever the two operations are, it returns true, and nothing that existed has changed.
-/
import Derived.Test.YtbfnehpmlngagaaDoorOpc
import Derived.Test.YtbfnehpmlngagaaDoorOpk
namespace Go.Proofs.YtbfnehpmlngagaaDoor
open Go Go.Proofs Go.RowKit

/-- The two boxes of OpBack. -/
structure BkIn (w : World) (k c s a n ch pk pc ps pa pn pch : Int) (W : World) : Prop where
  bel : Below w.heap.size w W
  o : Blk W w.heap.size [.int .i64 k, .int .i64 c, .int .i64 s, .int .i64 a, .int .i64 n, .int .i32 ch] 26
  p : Blk W (w.heap.size + 1) [.int .i64 pk, .int .i64 pc, .int .i64 ps, .int .i64 pa, .int .i64 pn, .int .i32 pch] 26
  tab : Tabs W
theorem BkIn.next {w : World} {k c s a n ch pk pc ps pa pn pch : Int} {W W' : World} (h : BkIn w k c s a n ch pk pc ps pa pn pch W) (hb : Below W.heap.size W W') : BkIn w k c s a n ch pk pc ps pa pn pch W' :=
  ⟨h.bel.trans (hb.mono h.bel.size), h.o.next hb, h.p.next hb, h.tab.next hb⟩
theorem BkIn.start {w : World} {k c s a n ch pk pc ps pa pn pch : Int} (ht : Tabs w) : BkIn w k c s a n ch pk pc ps pa pn pch ((w.alloc (.cells #[.int .i64 k, .int .i64 c, .int .i64 s, .int .i64 a, .int .i64 n, .int .i32 ch] 26)).alloc (.cells #[.int .i64 pk, .int .i64 pc, .int .i64 ps, .int .i64 pa, .int .i64 pn, .int .i32 pch] 26)) :=
  ⟨((Below.refl _ _).alloc (Nat.le_refl _) _).alloc (by simp) _, (Blk.start w _ _).alloc _, Blk.startAt (by simp), (ht.alloc _).alloc _⟩
/-- The same, with the operation that was read again, in block X. -/
structure BkX (w : World) (X : Nat) (k c s a n ch pk pc ps pa pn pch : Int) (W : World) : Prop where
  i : BkIn w k c s a n ch pk pc ps pa pn pch W
  x : Blk W X [.int .i64 k, .int .i64 c, .int .i64 s, .int .i64 a, .int .i64 n, .int .i32 ch] 26
theorem BkX.next {w : World} {X : Nat} {k c s a n ch pk pc ps pa pn pch : Int} {W W' : World} (h : BkX w X k c s a n ch pk pc ps pa pn pch W) (hb : Below W.heap.size W W') : BkX w X k c s a n ch pk pc ps pa pn pch W' := ⟨h.i.next hb, h.x.next hb⟩
theorem BkX.s {w : World} {X : Nat} {k c s a n ch pk pc ps pa pn pch : Int} {W : World} (h : BkX w X k c s a n ch pk pc ps pa pn pch W) :
    (W.cell? ⟨w.heap.size, 0, none⟩ = some (.int .i64 k) ∧ W.cell? ⟨w.heap.size, 1, none⟩ = some (.int .i64 c) ∧ W.cell? ⟨w.heap.size, 2, none⟩ = some (.int .i64 s) ∧ W.cell? ⟨w.heap.size, 3, none⟩ = some (.int .i64 a) ∧ W.cell? ⟨w.heap.size, 4, none⟩ = some (.int .i64 n) ∧ W.cell? ⟨w.heap.size, 5, none⟩ = some (.int .i32 ch)) ∧ (W.cell? ⟨w.heap.size + 1, 0, none⟩ = some (.int .i64 pk) ∧ W.cell? ⟨w.heap.size + 1, 1, none⟩ = some (.int .i64 pc) ∧ W.cell? ⟨w.heap.size + 1, 2, none⟩ = some (.int .i64 ps) ∧ W.cell? ⟨w.heap.size + 1, 3, none⟩ = some (.int .i64 pa) ∧ W.cell? ⟨w.heap.size + 1, 4, none⟩ = some (.int .i64 pn) ∧ W.cell? ⟨w.heap.size + 1, 5, none⟩ = some (.int .i32 pch)) ∧ (W.cell? ⟨X, 0, none⟩ = some (.int .i64 k) ∧ W.cell? ⟨X, 1, none⟩ = some (.int .i64 c) ∧ W.cell? ⟨X, 2, none⟩ = some (.int .i64 s) ∧ W.cell? ⟨X, 3, none⟩ = some (.int .i64 a) ∧ W.cell? ⟨X, 4, none⟩ = some (.int .i64 n) ∧ W.cell? ⟨X, 5, none⟩ = some (.int .i32 ch)) ∧ BkX w X k c s a n ch pk pc ps pa pn pch W :=
  ⟨⟨h.i.o.cell 0 rfl, h.i.o.cell 1 rfl, h.i.o.cell 2 rfl, h.i.o.cell 3 rfl, h.i.o.cell 4 rfl, h.i.o.cell 5 rfl⟩, ⟨h.i.p.cell 0 rfl, h.i.p.cell 1 rfl, h.i.p.cell 2 rfl, h.i.p.cell 3 rfl, h.i.p.cell 4 rfl, h.i.p.cell 5 rfl⟩, ⟨h.x.cell 0 rfl, h.x.cell 1 rfl, h.x.cell 2 rfl, h.x.cell 3 rfl, h.x.cell 4 rfl, h.x.cell 5 rfl⟩, h⟩

set_option maxHeartbeats 3200000 in
set_option maxRecDepth 100000 in
theorem back_wrong (k c s a n ch pk pc ps pa pn pch : Int) (w : World) (ht : Tabs w) (h : ¬ chkE k c s a n ch = 0) :
    Calls Tryd.prog 4 #[.agg #[.int .i64 k, .int .i64 c, .int .i64 s, .int .i64 a, .int .i64 n, .int .i32 ch], .agg #[.int .i64 pk, .int .i64 pc, .int .i64 ps, .int .i64 pa, .int .i64 pn, .int .i32 pch]] w
      fun e w' => e = .returned (.bool true) ∧ Below w.heap.size w w' := by
  have HC := Lib.hid (fun W => opcheck_any k c s a n ch W)
  have HSt := Lib.hid (fun W => opstr_wrong k c s a n ch W h)
  have hb0 : (chkE k c s a n ch != 0) = true := by simpa using h
  have H0 := Lib.hid (BkIn.start (k := k) (c := c) (s := s) (a := a) (n := n) (ch := ch) (pk := pk) (pc := pc) (ps := ps) (pa := pa) (pn := pn) (pch := pch) ht)
  clear ht h
  generalize chkE k c s a n ch = e0 at *
  go_enter Tryd.func4, Tryd.ntmps4
  go_wp2_with (go_at_call 6; refine (HC.out _).mono ?_; rintro e w1 ⟨rfl, hb1⟩; refine Hid.out ?_)
  have H1 := Lib.hid (H0.out.next hb1)
  clear H0 hb1
  refine Lib.hid ?_
  go_wp2_with (go_at_call 5; refine (awake5_any _ H1.out.tab).mono ?_; rintro e w2 ⟨rfl, hb2⟩; refine Hid.out ?_)
  have H2 := Lib.hid (H1.out.next hb2)
  have c0 := H2.out.o.cell 0 rfl
  have c1 := H2.out.o.cell 1 rfl
  have c2 := H2.out.o.cell 2 rfl
  have c3 := H2.out.o.cell 3 rfl
  have c4 := H2.out.o.cell 4 rfl
  have c5 := H2.out.o.cell 5 rfl
  clear H1 hb2
  refine Lib.hid ?_
  go_wp2_with (go_at_call 9; refine (HSt.out _).mono ?_; rintro e w3 ⟨rfl, hb3⟩)
  go_ret
  exact ⟨rfl, (H2.out.next hb3).bel⟩

set_option maxHeartbeats 6400000 in
set_option maxRecDepth 100000 in
theorem back_right (k c s a n ch pk pc ps pa pn pch : Int) (w : World) (ht : Tabs w) (h : chkE k c s a n ch = 0) :
    Calls Tryd.prog 4 #[.agg #[.int .i64 k, .int .i64 c, .int .i64 s, .int .i64 a, .int .i64 n, .int .i32 ch], .agg #[.int .i64 pk, .int .i64 pc, .int .i64 ps, .int .i64 pa, .int .i64 pn, .int .i32 pch]] w
      fun e w' => e = .returned (.bool true) ∧ Below w.heap.size w w' := by
  have hk := fun W => opcheck_any k c s a n ch W
  rw [h] at hk
  have HC := Lib.hid hk
  have HSt := Lib.hid (fun W ht => opstr_any k c s a n ch W ht)
  have HPa := Lib.hid (fun W => parse_back k c s a n ch W h)
  have HCp := Lib.hid (fun W => opcheck_any pk pc ps pa pn pch W)
  have HSp := Lib.hid (fun W ht => opstr_any pk pc ps pa pn pch W ht)
  have HIn := Lib.hid (fun h' he => opT_inj (k := pk) (c := pc) (s := ps) (a := pa) (n := pn) (ch := pch) h' h he)
  have H0 := Lib.hid (BkIn.start (k := k) (c := c) (s := s) (a := a) (n := n) (ch := ch) (pk := pk) (pc := pc) (ps := ps) (pa := pa) (pn := pn) (pch := pch) ht)
  clear ht h hk
  have HEq := Lib.hid (fun (e1 : pk = k) (e2 : pc = c) (e3 : ps = s) (e4 : pa = a) (e5 : pn = n) (e6 : pch = ch) => show opT pk pc ps pa pn pch = opT k c s a n ch by rw [e1, e2, e3, e4, e5, e6])
  generalize chkE pk pc ps pa pn pch = e1 at *
  generalize opT k c s a n ch = t0 at *
  generalize opT pk pc ps pa pn pch = t1 at *
  go_enter Tryd.func4, Tryd.ntmps4
  go_wp2_with (go_at_call 6; refine (HC.out _).mono ?_; rintro e w1 ⟨rfl, hb1⟩; refine Hid.out ?_)
  have H1 := Lib.hid (H0.out.next hb1)
  have c0 := H1.out.o.cell 0 rfl
  have c1 := H1.out.o.cell 1 rfl
  have c2 := H1.out.o.cell 2 rfl
  have c3 := H1.out.o.cell 3 rfl
  have c4 := H1.out.o.cell 4 rfl
  have c5 := H1.out.o.cell 5 rfl
  clear H0 hb1
  refine Lib.hid ?_
  go_wp2_with (go_at_call 9; refine (HSt.out _ H1.out.tab).mono ?_; rintro e w2 ⟨rfl, hb2⟩; refine Hid.out ?_)
  have H2 := Lib.hid (H1.out.next hb2)
  clear H1 hb2 c0 c1 c2 c3 c4 c5
  refine Lib.hid ?_
  go_wp2_with (go_at_call 11; refine (HPa.out _).mono ?_; rintro e w3 ⟨rfl, hb3⟩; refine Hid.out ?_)
  have hal : Below w3.heap.size w3 (w3.alloc (.cells #[.int .i64 k, .int .i64 c, .int .i64 s, .int .i64 a, .int .i64 n, .int .i32 ch] 26)) := (Below.refl _ _).alloc (Nat.le_refl _) _
  have H3 := Lib.hid (show BkX w w3.heap.size k c s a n ch pk pc ps pa pn pch (w3.alloc (.cells #[.int .i64 k, .int .i64 c, .int .i64 s, .int .i64 a, .int .i64 n, .int .i32 ch] 26)) from ⟨(H2.out.next hb3).next hal, Blk.start _ _ _⟩)
  clear H2 hb3 hal
  refine Lib.hid ?_
  go_wp2_with fail
  generalize w3.heap.size = X at *
  generalize (w3.alloc (.cells #[.int .i64 k, .int .i64 c, .int .i64 s, .int .i64 a, .int .i64 n, .int .i32 ch] 26)) = w4 at *
  by_cases hp : e1 = 0
  · subst hp
    by_cases heq : pk = k ∧ pc = c ∧ ps = s ∧ pa = a ∧ pn = n ∧ pch = ch
    · obtain ⟨rfl, rfl, rfl, rfl, rfl, rfl⟩ := heq
      have ht := HEq.out rfl rfl rfl rfl rfl rfl
      subst ht
      refine wp_region_noPanic ?_
      refine wp_region_held_drew (S := (fun W => (W.cell? ⟨w.heap.size, 0, none⟩ = some (.int .i64 pk) ∧ W.cell? ⟨w.heap.size, 1, none⟩ = some (.int .i64 pc) ∧ W.cell? ⟨w.heap.size, 2, none⟩ = some (.int .i64 ps) ∧ W.cell? ⟨w.heap.size, 3, none⟩ = some (.int .i64 pa) ∧ W.cell? ⟨w.heap.size, 4, none⟩ = some (.int .i64 pn) ∧ W.cell? ⟨w.heap.size, 5, none⟩ = some (.int .i32 pch)) ∧ (W.cell? ⟨w.heap.size + 1, 0, none⟩ = some (.int .i64 pk) ∧ W.cell? ⟨w.heap.size + 1, 1, none⟩ = some (.int .i64 pc) ∧ W.cell? ⟨w.heap.size + 1, 2, none⟩ = some (.int .i64 ps) ∧ W.cell? ⟨w.heap.size + 1, 3, none⟩ = some (.int .i64 pa) ∧ W.cell? ⟨w.heap.size + 1, 4, none⟩ = some (.int .i64 pn) ∧ W.cell? ⟨w.heap.size + 1, 5, none⟩ = some (.int .i32 pch)) ∧ (W.cell? ⟨X, 0, none⟩ = some (.int .i64 pk) ∧ W.cell? ⟨X, 1, none⟩ = some (.int .i64 pc) ∧ W.cell? ⟨X, 2, none⟩ = some (.int .i64 ps) ∧ W.cell? ⟨X, 3, none⟩ = some (.int .i64 pa) ∧ W.cell? ⟨X, 4, none⟩ = some (.int .i64 pn) ∧ W.cell? ⟨X, 5, none⟩ = some (.int .i32 pch)) ∧ BkX w X pk pc ps pa pn pch pk pc ps pa pn pch W)) (by kernel_rfl) ?_ (fun hHeld => ?_)
      · exact (H3.out.next (Below.refl _ _).drew).s
      clear H3
      refine wpAnyH_ready (rs := [0]) (by kernel_rfl) (by simp) ?_
      refine cons1 rfl (fun K hK => ?_) AllReadyH.nil
      go_simp
      refine (awake5_any _ hHeld.2.2.2.i.tab).mono ?_
      rintro e' u1 ⟨rfl, hb⟩
      go_wp2_with fail
      refine hK.out _ _ ((hHeld.2.2.2.next hb).s) (fun hHeld2 => ?_)
      clear hK K hHeld hb
      have hHeld := hHeld2
      clear hHeld2
      try simp only [Act.put, List.setIfInBounds_toArray, List.set_cons_zero, List.set_cons_succ]
      refine take1 (i := 1) (v := .bool true) rfl (by kernel_rfl) (by kernel_rfl) (by kernel_rfl) (fun _ _ _ h => h) (Or.inl ⟨by rfl, fun w hSw => ?_⟩) hHeld ?_
      · (go_simp)
      try simp only [Act.put, List.setIfInBounds_toArray, List.set_cons_zero, List.set_cons_succ]
      refine take1 (i := 2) (v := .int .i64 0) rfl (by kernel_rfl) (by kernel_rfl) (by kernel_rfl) (fun _ _ _ h => h) (Or.inl ⟨by rfl, fun w hSw => ?_⟩) hHeld ?_
      · (go_simp)
      try simp only [Act.put, List.setIfInBounds_toArray, List.set_cons_zero, List.set_cons_succ]
      refine take1 (i := 3) (v := .bool true) rfl (by kernel_rfl) (by kernel_rfl) (by kernel_rfl) (fun _ _ _ h => h) (Or.inl ⟨by rfl, fun w hSw => ?_⟩) hHeld ?_
      · (go_simp)
      try simp only [Act.put, List.setIfInBounds_toArray, List.set_cons_zero, List.set_cons_succ]
      refine take1 (i := 4) (v := .bool true) rfl (by kernel_rfl) (by kernel_rfl) (by kernel_rfl) (fun _ _ _ h => h) (Or.inl ⟨by rfl, fun w hSw => ?_⟩) hHeld ?_
      · (go_simp)
      try simp only [Act.put, List.setIfInBounds_toArray, List.set_cons_zero, List.set_cons_succ]
      refine take1 (i := 5) (v := .bool true) rfl (by kernel_rfl) (by kernel_rfl) (by kernel_rfl) (fun _ _ _ h => h) (Or.inl ⟨by rfl, fun w hSw => ?_⟩) hHeld ?_
      · (go_simp)
      try simp only [Act.put, List.setIfInBounds_toArray, List.set_cons_zero, List.set_cons_succ]
      refine take1 (i := 6) (v := .agg #[.int .i64 pk, .int .i64 pc, .int .i64 ps, .int .i64 pa, .int .i64 pn, .int .i32 pch]) rfl (by kernel_rfl) (by kernel_rfl) (by kernel_rfl) (fun _ _ _ h => h) (Or.inl ⟨by rfl, fun w hSw => ?_⟩) hHeld ?_
      · (go_simp)
      try simp only [Act.put, List.setIfInBounds_toArray, List.set_cons_zero, List.set_cons_succ]
      refine take1 (i := 7) (v := .agg #[.int .i64 pk, .int .i64 pc, .int .i64 ps, .int .i64 pa, .int .i64 pn, .int .i32 pch]) rfl (by kernel_rfl) (by kernel_rfl) (by kernel_rfl) (fun _ _ _ h => h) (Or.inl ⟨by rfl, fun w hSw => ?_⟩) hHeld ?_
      · (go_simp)
      try simp only [Act.put, List.setIfInBounds_toArray, List.set_cons_zero, List.set_cons_succ]
      refine take1 (i := 8) (v := .bool true) rfl (by kernel_rfl) (by kernel_rfl) (by kernel_rfl) (fun _ _ _ h => h) (Or.inl ⟨by rfl, fun w hSw => ?_⟩) hHeld ?_
      · (go_simp)
      try simp only [Act.put, List.setIfInBounds_toArray, List.set_cons_zero, List.set_cons_succ]
      refine take1 (i := 9) (v := .bool true) rfl (by kernel_rfl) (by kernel_rfl) (by kernel_rfl) (fun _ _ _ h => h) (Or.inl ⟨by rfl, fun w hSw => ?_⟩) hHeld ?_
      · (go_simp)
      try simp only [Act.put, List.setIfInBounds_toArray, List.set_cons_zero, List.set_cons_succ]
      refine take1 (i := 10) (v := .bool true) rfl (by kernel_rfl) (by kernel_rfl) (by kernel_rfl) (fun _ _ _ h => h) (Or.inl ⟨by rfl, fun w hSw => ?_⟩) hHeld ?_
      · (go_simp)
      try simp only [Act.put, List.setIfInBounds_toArray, List.set_cons_zero, List.set_cons_succ]
      refine take1 (i := 11) (v := .agg #[.int .i64 pk, .int .i64 pc, .int .i64 ps, .int .i64 pa, .int .i64 pn, .int .i32 pch]) rfl (by kernel_rfl) (by kernel_rfl) (by kernel_rfl) (fun _ _ _ h => h) (Or.inl ⟨by rfl, fun w hSw => ?_⟩) hHeld ?_
      · (go_simp)
      try simp only [Act.put, List.setIfInBounds_toArray, List.set_cons_zero, List.set_cons_succ]
      refine wpAnyH_ready (rs := [12]) (by kernel_rfl) (by simp) ?_
      refine cons1 rfl (fun K hK => ?_) AllReadyH.nil
      go_simp
      refine (HCp.out _).mono ?_
      rintro e' u2 ⟨rfl, hb⟩
      go_wp2_with fail
      refine hK.out _ _ ((hHeld.2.2.2.next hb).s) (fun hHeld2 => ?_)
      clear hK K hHeld hb
      have hHeld := hHeld2
      clear hHeld2
      try simp only [Act.put, List.setIfInBounds_toArray, List.set_cons_zero, List.set_cons_succ]
      refine take1 (i := 13) (v := .bool false) rfl (by kernel_rfl) (by kernel_rfl) (by kernel_rfl) (fun _ _ _ h => h) (Or.inl ⟨by rfl, fun w hSw => ?_⟩) hHeld ?_
      · (go_simp)
      try simp only [Act.put, List.setIfInBounds_toArray, List.set_cons_zero, List.set_cons_succ]
      refine take1 (i := 14) (v := .bool false) rfl (by kernel_rfl) (by kernel_rfl) (by kernel_rfl) (fun _ _ _ h => h) (Or.inl ⟨by rfl, fun w hSw => ?_⟩) hHeld ?_
      · (go_simp)
      try simp only [Act.put, List.setIfInBounds_toArray, List.set_cons_zero, List.set_cons_succ]
      refine take1 (i := 15) (v := .agg #[.int .i64 pk, .int .i64 pc, .int .i64 ps, .int .i64 pa, .int .i64 pn, .int .i32 pch]) rfl (by kernel_rfl) (by kernel_rfl) (by kernel_rfl) (fun _ _ _ h => h) (Or.inl ⟨by rfl, fun w hSw => ?_⟩) hHeld ?_
      · (go_simp)
      try simp only [Act.put, List.setIfInBounds_toArray, List.set_cons_zero, List.set_cons_succ]
      refine take1 (i := 16) (v := .agg #[.int .i64 pk, .int .i64 pc, .int .i64 ps, .int .i64 pa, .int .i64 pn, .int .i32 pch]) rfl (by kernel_rfl) (by kernel_rfl) (by kernel_rfl) (fun _ _ _ h => h) (Or.inl ⟨by rfl, fun w hSw => ?_⟩) hHeld ?_
      · (go_simp)
      try simp only [Act.put, List.setIfInBounds_toArray, List.set_cons_zero, List.set_cons_succ]
      refine take1 (i := 17) (v := .bool true) rfl (by kernel_rfl) (by kernel_rfl) (by kernel_rfl) (fun _ _ _ h => h) (Or.inl ⟨by rfl, fun w hSw => ?_⟩) hHeld ?_
      · (go_simp)
      try simp only [Act.put, List.setIfInBounds_toArray, List.set_cons_zero, List.set_cons_succ]
      refine take1 (i := 18) (v := .agg #[.int .i64 pk, .int .i64 pc, .int .i64 ps, .int .i64 pa, .int .i64 pn, .int .i32 pch]) rfl (by kernel_rfl) (by kernel_rfl) (by kernel_rfl) (fun _ _ _ h => h) (Or.inl ⟨by rfl, fun w hSw => ?_⟩) hHeld ?_
      · (go_simp)
      try simp only [Act.put, List.setIfInBounds_toArray, List.set_cons_zero, List.set_cons_succ]
      refine take1 (i := 20) (v := .agg #[.int .i64 pk, .int .i64 pc, .int .i64 ps, .int .i64 pa, .int .i64 pn, .int .i32 pch]) rfl (by kernel_rfl) (by kernel_rfl) (by kernel_rfl) (fun _ _ _ h => h) (Or.inl ⟨by rfl, fun w hSw => ?_⟩) hHeld ?_
      · (go_simp)
      try simp only [Act.put, List.setIfInBounds_toArray, List.set_cons_zero, List.set_cons_succ]
      refine wpAnyH_ready (rs := [19]) (by kernel_rfl) (by simp) ?_
      refine cons1 rfl (fun K hK => ?_) AllReadyH.nil
      go_simp
      refine (HSp.out _ hHeld.2.2.2.i.tab).mono ?_
      rintro e' u3 ⟨rfl, hb⟩
      go_wp2_with fail
      refine hK.out _ _ ((hHeld.2.2.2.next hb).s) (fun hHeld2 => ?_)
      clear hK K hHeld hb
      have hHeld := hHeld2
      clear hHeld2
      try simp only [Act.put, List.setIfInBounds_toArray, List.set_cons_zero, List.set_cons_succ]
      refine wpAnyH_ready (rs := [21]) (by kernel_rfl) (by simp) ?_
      refine cons1 rfl (fun K hK => ?_) AllReadyH.nil
      go_simp
      refine (HSt.out _ hHeld.2.2.2.i.tab).mono ?_
      rintro e' u4 ⟨rfl, hb⟩
      go_wp2_with fail
      refine hK.out _ _ ((hHeld.2.2.2.next hb).s) (fun hHeld2 => ?_)
      clear hK K hHeld hb
      have hHeld := hHeld2
      clear hHeld2
      try simp only [Act.put, List.setIfInBounds_toArray, List.set_cons_zero, List.set_cons_succ]
      refine take1 (i := 22) (v := .bool true) rfl (by kernel_rfl) (by kernel_rfl) (by kernel_rfl) (fun _ _ _ h => h) (Or.inl ⟨by rfl, fun w hSw => ?_⟩) hHeld ?_
      · (go_simp)
      try simp only [Act.put, List.setIfInBounds_toArray, List.set_cons_zero, List.set_cons_succ]
      refine take1 (i := 23) (v := .bool true) rfl (by kernel_rfl) (by kernel_rfl) (by kernel_rfl) (fun _ _ _ h => h) (Or.inl ⟨by rfl, fun w hSw => ?_⟩) hHeld ?_
      · (go_simp)
      try simp only [Act.put, List.setIfInBounds_toArray, List.set_cons_zero, List.set_cons_succ]
      refine take1 (i := 24) (v := .bool true) rfl (by kernel_rfl) (by kernel_rfl) (by kernel_rfl) (fun _ _ _ h => h) (Or.inl ⟨by rfl, fun w hSw => ?_⟩) hHeld ?_
      · (go_simp)
      try simp only [Act.put, List.setIfInBounds_toArray, List.set_cons_zero, List.set_cons_succ]
      refine take1 (i := 25) (v := .bool true) rfl (by kernel_rfl) (by kernel_rfl) (by kernel_rfl) (fun _ _ _ h => h) (Or.inl ⟨by rfl, fun w hSw => ?_⟩) hHeld ?_
      · (go_simp)
      try simp only [Act.put, List.setIfInBounds_toArray, List.set_cons_zero, List.set_cons_succ]
      refine take1 (i := 26) (v := .bool true) rfl (by kernel_rfl) (by kernel_rfl) (by kernel_rfl) (fun _ _ _ h => h) (Or.inl ⟨by rfl, fun w hSw => ?_⟩) hHeld ?_
      · (go_simp)
      try simp only [Act.put, List.setIfInBounds_toArray, List.set_cons_zero, List.set_cons_succ]
      refine wpAnyH_done (by kernel_rfl) ?_ _
      refine NoPanic.normal ?_
      have HB := Lib.hid hHeld.2.2.2.i.bel
      clear hHeld
      go_wp2_with fail
      go_ret
      exact ⟨rfl, HB.out⟩
    · have hne : ¬ t1 = t0 := fun he => heq (HIn.out rfl he)
      have HNE := Lib.hid heq
      have hnl : ¬ t1.toList = t0.toList := fun e => hne (by rw [ByteArray.toList_eq, ByteArray.toList_eq] at e; exact byt_ext e)
      clear heq
      refine wp_region_noPanic ?_
      refine wp_region_held_drew (S := (fun W => (W.cell? ⟨w.heap.size, 0, none⟩ = some (.int .i64 k) ∧ W.cell? ⟨w.heap.size, 1, none⟩ = some (.int .i64 c) ∧ W.cell? ⟨w.heap.size, 2, none⟩ = some (.int .i64 s) ∧ W.cell? ⟨w.heap.size, 3, none⟩ = some (.int .i64 a) ∧ W.cell? ⟨w.heap.size, 4, none⟩ = some (.int .i64 n) ∧ W.cell? ⟨w.heap.size, 5, none⟩ = some (.int .i32 ch)) ∧ (W.cell? ⟨w.heap.size + 1, 0, none⟩ = some (.int .i64 pk) ∧ W.cell? ⟨w.heap.size + 1, 1, none⟩ = some (.int .i64 pc) ∧ W.cell? ⟨w.heap.size + 1, 2, none⟩ = some (.int .i64 ps) ∧ W.cell? ⟨w.heap.size + 1, 3, none⟩ = some (.int .i64 pa) ∧ W.cell? ⟨w.heap.size + 1, 4, none⟩ = some (.int .i64 pn) ∧ W.cell? ⟨w.heap.size + 1, 5, none⟩ = some (.int .i32 pch)) ∧ (W.cell? ⟨X, 0, none⟩ = some (.int .i64 k) ∧ W.cell? ⟨X, 1, none⟩ = some (.int .i64 c) ∧ W.cell? ⟨X, 2, none⟩ = some (.int .i64 s) ∧ W.cell? ⟨X, 3, none⟩ = some (.int .i64 a) ∧ W.cell? ⟨X, 4, none⟩ = some (.int .i64 n) ∧ W.cell? ⟨X, 5, none⟩ = some (.int .i32 ch)) ∧ BkX w X k c s a n ch pk pc ps pa pn pch W)) (by kernel_rfl) ?_ (fun hHeld => ?_)
      · exact (H3.out.next (Below.refl _ _).drew).s
      clear H3
      refine wpAnyH_ready (rs := [0]) (by kernel_rfl) (by simp) ?_
      refine cons1 rfl (fun K hK => ?_) AllReadyH.nil
      go_simp
      refine (awake5_any _ hHeld.2.2.2.i.tab).mono ?_
      rintro e' u1 ⟨rfl, hb⟩
      go_wp2_with fail
      refine hK.out _ _ ((hHeld.2.2.2.next hb).s) (fun hHeld2 => ?_)
      clear hK K hHeld hb
      have hHeld := hHeld2
      clear hHeld2
      try simp only [Act.put, List.setIfInBounds_toArray, List.set_cons_zero, List.set_cons_succ]
      refine take1 (i := 1) (v := .bool true) rfl (by kernel_rfl) (by kernel_rfl) (by kernel_rfl) (fun _ _ _ h => h) (Or.inl ⟨by rfl, fun w hSw => ?_⟩) hHeld ?_
      · (go_simp)
      try simp only [Act.put, List.setIfInBounds_toArray, List.set_cons_zero, List.set_cons_succ]
      refine take1 (i := 2) (v := .int .i64 0) rfl (by kernel_rfl) (by kernel_rfl) (by kernel_rfl) (fun _ _ _ h => h) (Or.inl ⟨by rfl, fun w hSw => ?_⟩) hHeld ?_
      · (go_simp)
      try simp only [Act.put, List.setIfInBounds_toArray, List.set_cons_zero, List.set_cons_succ]
      refine take1 (i := 3) (v := .bool true) rfl (by kernel_rfl) (by kernel_rfl) (by kernel_rfl) (fun _ _ _ h => h) (Or.inl ⟨by rfl, fun w hSw => ?_⟩) hHeld ?_
      · (go_simp)
      try simp only [Act.put, List.setIfInBounds_toArray, List.set_cons_zero, List.set_cons_succ]
      refine take1 (i := 4) (v := .bool true) rfl (by kernel_rfl) (by kernel_rfl) (by kernel_rfl) (fun _ _ _ h => h) (Or.inl ⟨by rfl, fun w hSw => ?_⟩) hHeld ?_
      · (go_simp)
      try simp only [Act.put, List.setIfInBounds_toArray, List.set_cons_zero, List.set_cons_succ]
      refine take1 (i := 5) (v := .bool true) rfl (by kernel_rfl) (by kernel_rfl) (by kernel_rfl) (fun _ _ _ h => h) (Or.inl ⟨by rfl, fun w hSw => ?_⟩) hHeld ?_
      · (go_simp)
      try simp only [Act.put, List.setIfInBounds_toArray, List.set_cons_zero, List.set_cons_succ]
      refine take1 (i := 6) (v := .agg #[.int .i64 k, .int .i64 c, .int .i64 s, .int .i64 a, .int .i64 n, .int .i32 ch]) rfl (by kernel_rfl) (by kernel_rfl) (by kernel_rfl) (fun _ _ _ h => h) (Or.inl ⟨by rfl, fun w hSw => ?_⟩) hHeld ?_
      · (go_simp)
      try simp only [Act.put, List.setIfInBounds_toArray, List.set_cons_zero, List.set_cons_succ]
      refine take1 (i := 7) (v := .agg #[.int .i64 k, .int .i64 c, .int .i64 s, .int .i64 a, .int .i64 n, .int .i32 ch]) rfl (by kernel_rfl) (by kernel_rfl) (by kernel_rfl) (fun _ _ _ h => h) (Or.inl ⟨by rfl, fun w hSw => ?_⟩) hHeld ?_
      · (go_simp)
      try simp only [Act.put, List.setIfInBounds_toArray, List.set_cons_zero, List.set_cons_succ]
      refine take1 (i := 8) (v := .bool true) rfl (by kernel_rfl) (by kernel_rfl) (by kernel_rfl) (fun _ _ _ h => h) (Or.inl ⟨by rfl, fun w hSw => ?_⟩) hHeld ?_
      · (go_simp)
      try simp only [Act.put, List.setIfInBounds_toArray, List.set_cons_zero, List.set_cons_succ]
      refine take1 (i := 9) (v := .bool true) rfl (by kernel_rfl) (by kernel_rfl) (by kernel_rfl) (fun _ _ _ h => h) (Or.inl ⟨by rfl, fun w hSw => ?_⟩) hHeld ?_
      · (go_simp)
      try simp only [Act.put, List.setIfInBounds_toArray, List.set_cons_zero, List.set_cons_succ]
      refine take1 (i := 10) (v := .bool true) rfl (by kernel_rfl) (by kernel_rfl) (by kernel_rfl) (fun _ _ _ h => h) (Or.inl ⟨by rfl, fun w hSw => ?_⟩) hHeld ?_
      · (go_simp)
      try simp only [Act.put, List.setIfInBounds_toArray, List.set_cons_zero, List.set_cons_succ]
      refine take1 (i := 11) (v := .agg #[.int .i64 pk, .int .i64 pc, .int .i64 ps, .int .i64 pa, .int .i64 pn, .int .i32 pch]) rfl (by kernel_rfl) (by kernel_rfl) (by kernel_rfl) (fun _ _ _ h => h) (Or.inl ⟨by rfl, fun w hSw => ?_⟩) hHeld ?_
      · (go_simp)
      try simp only [Act.put, List.setIfInBounds_toArray, List.set_cons_zero, List.set_cons_succ]
      refine wpAnyH_ready (rs := [12]) (by kernel_rfl) (by simp) ?_
      refine cons1 rfl (fun K hK => ?_) AllReadyH.nil
      go_simp
      refine (HCp.out _).mono ?_
      rintro e' u2 ⟨rfl, hb⟩
      go_wp2_with fail
      refine hK.out _ _ ((hHeld.2.2.2.next hb).s) (fun hHeld2 => ?_)
      clear hK K hHeld hb
      have hHeld := hHeld2
      clear hHeld2
      try simp only [Act.put, List.setIfInBounds_toArray, List.set_cons_zero, List.set_cons_succ]
      refine take1 (i := 13) (v := .bool false) rfl (by kernel_rfl) (by kernel_rfl) (by kernel_rfl) (fun _ _ _ h => h) (Or.inl ⟨by rfl, fun w hSw => ?_⟩) hHeld ?_
      · (go_simp)
      try simp only [Act.put, List.setIfInBounds_toArray, List.set_cons_zero, List.set_cons_succ]
      refine take1 (i := 14) (v := .bool false) rfl (by kernel_rfl) (by kernel_rfl) (by kernel_rfl) (fun _ _ _ h => h) (Or.inl ⟨by rfl, fun w hSw => ?_⟩) hHeld ?_
      · (go_simp)
      try simp only [Act.put, List.setIfInBounds_toArray, List.set_cons_zero, List.set_cons_succ]
      refine take1 (i := 15) (v := .agg #[.int .i64 pk, .int .i64 pc, .int .i64 ps, .int .i64 pa, .int .i64 pn, .int .i32 pch]) rfl (by kernel_rfl) (by kernel_rfl) (by kernel_rfl) (fun _ _ _ h => h) (Or.inl ⟨by rfl, fun w hSw => ?_⟩) hHeld ?_
      · (go_simp)
      try simp only [Act.put, List.setIfInBounds_toArray, List.set_cons_zero, List.set_cons_succ]
      refine take1 (i := 16) (v := .agg #[.int .i64 k, .int .i64 c, .int .i64 s, .int .i64 a, .int .i64 n, .int .i32 ch]) rfl (by kernel_rfl) (by kernel_rfl) (by kernel_rfl) (fun _ _ _ h => h) (Or.inl ⟨by rfl, fun w hSw => ?_⟩) hHeld ?_
      · (go_simp)
      try simp only [Act.put, List.setIfInBounds_toArray, List.set_cons_zero, List.set_cons_succ]
      refine take1 (i := 17) (v := .bool false) rfl (by kernel_rfl) (by kernel_rfl) (by kernel_rfl) (fun _ _ _ h => h) (Or.inl ⟨by rfl, fun w hSw => ?_⟩) hHeld ?_
      · (go_simp; intro h1 h2 h3 h4 h5 h6; exact HNE.out ⟨h1, h2, h3, h4, h5, h6⟩)
      try simp only [Act.put, List.setIfInBounds_toArray, List.set_cons_zero, List.set_cons_succ]
      refine take1 (i := 18) (v := .agg #[.int .i64 pk, .int .i64 pc, .int .i64 ps, .int .i64 pa, .int .i64 pn, .int .i32 pch]) rfl (by kernel_rfl) (by kernel_rfl) (by kernel_rfl) (fun _ _ _ h => h) (Or.inl ⟨by rfl, fun w hSw => ?_⟩) hHeld ?_
      · (go_simp)
      try simp only [Act.put, List.setIfInBounds_toArray, List.set_cons_zero, List.set_cons_succ]
      refine take1 (i := 20) (v := .agg #[.int .i64 k, .int .i64 c, .int .i64 s, .int .i64 a, .int .i64 n, .int .i32 ch]) rfl (by kernel_rfl) (by kernel_rfl) (by kernel_rfl) (fun _ _ _ h => h) (Or.inl ⟨by rfl, fun w hSw => ?_⟩) hHeld ?_
      · (go_simp)
      try simp only [Act.put, List.setIfInBounds_toArray, List.set_cons_zero, List.set_cons_succ]
      refine wpAnyH_ready (rs := [19]) (by kernel_rfl) (by simp) ?_
      refine cons1 rfl (fun K hK => ?_) AllReadyH.nil
      go_simp
      refine (HSp.out _ hHeld.2.2.2.i.tab).mono ?_
      rintro e' u3 ⟨rfl, hb⟩
      go_wp2_with fail
      refine hK.out _ _ ((hHeld.2.2.2.next hb).s) (fun hHeld2 => ?_)
      clear hK K hHeld hb
      have hHeld := hHeld2
      clear hHeld2
      try simp only [Act.put, List.setIfInBounds_toArray, List.set_cons_zero, List.set_cons_succ]
      refine wpAnyH_ready (rs := [21]) (by kernel_rfl) (by simp) ?_
      refine cons1 rfl (fun K hK => ?_) AllReadyH.nil
      go_simp
      refine (HSt.out _ hHeld.2.2.2.i.tab).mono ?_
      rintro e' u4 ⟨rfl, hb⟩
      go_wp2_with fail
      refine hK.out _ _ ((hHeld.2.2.2.next hb).s) (fun hHeld2 => ?_)
      clear hK K hHeld hb
      have hHeld := hHeld2
      clear hHeld2
      try simp only [Act.put, List.setIfInBounds_toArray, List.set_cons_zero, List.set_cons_succ]
      refine take1 (i := 22) (v := .bool false) rfl (by kernel_rfl) (by kernel_rfl) (by kernel_rfl) (fun _ _ _ h => h) (Or.inl ⟨by rfl, fun w hSw => ?_⟩) hHeld ?_
      · (go_simp)
      try simp only [Act.put, List.setIfInBounds_toArray, List.set_cons_zero, List.set_cons_succ]
      refine take1 (i := 23) (v := .bool true) rfl (by kernel_rfl) (by kernel_rfl) (by kernel_rfl) (fun _ _ _ h => h) (Or.inl ⟨by rfl, fun w hSw => ?_⟩) hHeld ?_
      · (go_simp)
      try simp only [Act.put, List.setIfInBounds_toArray, List.set_cons_zero, List.set_cons_succ]
      refine take1 (i := 24) (v := .bool true) rfl (by kernel_rfl) (by kernel_rfl) (by kernel_rfl) (fun _ _ _ h => h) (Or.inl ⟨by rfl, fun w hSw => ?_⟩) hHeld ?_
      · (go_simp)
      try simp only [Act.put, List.setIfInBounds_toArray, List.set_cons_zero, List.set_cons_succ]
      refine take1 (i := 25) (v := .bool true) rfl (by kernel_rfl) (by kernel_rfl) (by kernel_rfl) (fun _ _ _ h => h) (Or.inl ⟨by rfl, fun w hSw => ?_⟩) hHeld ?_
      · (go_simp)
      try simp only [Act.put, List.setIfInBounds_toArray, List.set_cons_zero, List.set_cons_succ]
      refine take1 (i := 26) (v := .bool true) rfl (by kernel_rfl) (by kernel_rfl) (by kernel_rfl) (fun _ _ _ h => h) (Or.inl ⟨by rfl, fun w hSw => ?_⟩) hHeld ?_
      · (go_simp)
      try simp only [Act.put, List.setIfInBounds_toArray, List.set_cons_zero, List.set_cons_succ]
      refine wpAnyH_done (by kernel_rfl) ?_ _
      refine NoPanic.normal ?_
      have HB := Lib.hid hHeld.2.2.2.i.bel
      clear hHeld
      go_wp2_with fail
      go_ret
      exact ⟨rfl, HB.out⟩
  · have hb1 : (e1 != 0) = true := by simpa using hp
    have hb2 : (e1 == 0) = false := by simpa using hp
    refine wp_region_noPanic ?_
    refine wp_region_held_drew (S := (fun W => (W.cell? ⟨w.heap.size, 0, none⟩ = some (.int .i64 k) ∧ W.cell? ⟨w.heap.size, 1, none⟩ = some (.int .i64 c) ∧ W.cell? ⟨w.heap.size, 2, none⟩ = some (.int .i64 s) ∧ W.cell? ⟨w.heap.size, 3, none⟩ = some (.int .i64 a) ∧ W.cell? ⟨w.heap.size, 4, none⟩ = some (.int .i64 n) ∧ W.cell? ⟨w.heap.size, 5, none⟩ = some (.int .i32 ch)) ∧ (W.cell? ⟨w.heap.size + 1, 0, none⟩ = some (.int .i64 pk) ∧ W.cell? ⟨w.heap.size + 1, 1, none⟩ = some (.int .i64 pc) ∧ W.cell? ⟨w.heap.size + 1, 2, none⟩ = some (.int .i64 ps) ∧ W.cell? ⟨w.heap.size + 1, 3, none⟩ = some (.int .i64 pa) ∧ W.cell? ⟨w.heap.size + 1, 4, none⟩ = some (.int .i64 pn) ∧ W.cell? ⟨w.heap.size + 1, 5, none⟩ = some (.int .i32 pch)) ∧ (W.cell? ⟨X, 0, none⟩ = some (.int .i64 k) ∧ W.cell? ⟨X, 1, none⟩ = some (.int .i64 c) ∧ W.cell? ⟨X, 2, none⟩ = some (.int .i64 s) ∧ W.cell? ⟨X, 3, none⟩ = some (.int .i64 a) ∧ W.cell? ⟨X, 4, none⟩ = some (.int .i64 n) ∧ W.cell? ⟨X, 5, none⟩ = some (.int .i32 ch)) ∧ BkX w X k c s a n ch pk pc ps pa pn pch W)) (by kernel_rfl) ?_ (fun hHeld => ?_)
    · exact (H3.out.next (Below.refl _ _).drew).s
    clear H3
    refine wpAnyH_ready (rs := [0]) (by kernel_rfl) (by simp) ?_
    refine cons1 rfl (fun K hK => ?_) AllReadyH.nil
    go_simp
    refine (awake5_any _ hHeld.2.2.2.i.tab).mono ?_
    rintro e' u1 ⟨rfl, hb⟩
    go_wp2_with fail
    refine hK.out _ _ ((hHeld.2.2.2.next hb).s) (fun hHeld2 => ?_)
    clear hK K hHeld hb
    have hHeld := hHeld2
    clear hHeld2
    try simp only [Act.put, List.setIfInBounds_toArray, List.set_cons_zero, List.set_cons_succ]
    refine take1 (i := 1) (v := .bool true) rfl (by kernel_rfl) (by kernel_rfl) (by kernel_rfl) (fun _ _ _ h => h) (Or.inl ⟨by rfl, fun w hSw => ?_⟩) hHeld ?_
    · (go_simp)
    try simp only [Act.put, List.setIfInBounds_toArray, List.set_cons_zero, List.set_cons_succ]
    refine take1 (i := 2) (v := .int .i64 0) rfl (by kernel_rfl) (by kernel_rfl) (by kernel_rfl) (fun _ _ _ h => h) (Or.inl ⟨by rfl, fun w hSw => ?_⟩) hHeld ?_
    · (go_simp)
    try simp only [Act.put, List.setIfInBounds_toArray, List.set_cons_zero, List.set_cons_succ]
    refine take1 (i := 3) (v := .bool true) rfl (by kernel_rfl) (by kernel_rfl) (by kernel_rfl) (fun _ _ _ h => h) (Or.inl ⟨by rfl, fun w hSw => ?_⟩) hHeld ?_
    · (go_simp)
    try simp only [Act.put, List.setIfInBounds_toArray, List.set_cons_zero, List.set_cons_succ]
    refine take1 (i := 4) (v := .bool true) rfl (by kernel_rfl) (by kernel_rfl) (by kernel_rfl) (fun _ _ _ h => h) (Or.inl ⟨by rfl, fun w hSw => ?_⟩) hHeld ?_
    · (go_simp)
    try simp only [Act.put, List.setIfInBounds_toArray, List.set_cons_zero, List.set_cons_succ]
    refine take1 (i := 5) (v := .bool true) rfl (by kernel_rfl) (by kernel_rfl) (by kernel_rfl) (fun _ _ _ h => h) (Or.inl ⟨by rfl, fun w hSw => ?_⟩) hHeld ?_
    · (go_simp)
    try simp only [Act.put, List.setIfInBounds_toArray, List.set_cons_zero, List.set_cons_succ]
    refine take1 (i := 6) (v := .agg #[.int .i64 k, .int .i64 c, .int .i64 s, .int .i64 a, .int .i64 n, .int .i32 ch]) rfl (by kernel_rfl) (by kernel_rfl) (by kernel_rfl) (fun _ _ _ h => h) (Or.inl ⟨by rfl, fun w hSw => ?_⟩) hHeld ?_
    · (go_simp)
    try simp only [Act.put, List.setIfInBounds_toArray, List.set_cons_zero, List.set_cons_succ]
    refine take1 (i := 7) (v := .agg #[.int .i64 k, .int .i64 c, .int .i64 s, .int .i64 a, .int .i64 n, .int .i32 ch]) rfl (by kernel_rfl) (by kernel_rfl) (by kernel_rfl) (fun _ _ _ h => h) (Or.inl ⟨by rfl, fun w hSw => ?_⟩) hHeld ?_
    · (go_simp)
    try simp only [Act.put, List.setIfInBounds_toArray, List.set_cons_zero, List.set_cons_succ]
    refine take1 (i := 8) (v := .bool true) rfl (by kernel_rfl) (by kernel_rfl) (by kernel_rfl) (fun _ _ _ h => h) (Or.inl ⟨by rfl, fun w hSw => ?_⟩) hHeld ?_
    · (go_simp)
    try simp only [Act.put, List.setIfInBounds_toArray, List.set_cons_zero, List.set_cons_succ]
    refine take1 (i := 9) (v := .bool true) rfl (by kernel_rfl) (by kernel_rfl) (by kernel_rfl) (fun _ _ _ h => h) (Or.inl ⟨by rfl, fun w hSw => ?_⟩) hHeld ?_
    · (go_simp)
    try simp only [Act.put, List.setIfInBounds_toArray, List.set_cons_zero, List.set_cons_succ]
    refine take1 (i := 10) (v := .bool true) rfl (by kernel_rfl) (by kernel_rfl) (by kernel_rfl) (fun _ _ _ h => h) (Or.inl ⟨by rfl, fun w hSw => ?_⟩) hHeld ?_
    · (go_simp)
    try simp only [Act.put, List.setIfInBounds_toArray, List.set_cons_zero, List.set_cons_succ]
    refine take1 (i := 11) (v := .agg #[.int .i64 pk, .int .i64 pc, .int .i64 ps, .int .i64 pa, .int .i64 pn, .int .i32 pch]) rfl (by kernel_rfl) (by kernel_rfl) (by kernel_rfl) (fun _ _ _ h => h) (Or.inl ⟨by rfl, fun w hSw => ?_⟩) hHeld ?_
    · (go_simp)
    try simp only [Act.put, List.setIfInBounds_toArray, List.set_cons_zero, List.set_cons_succ]
    refine wpAnyH_ready (rs := [12]) (by kernel_rfl) (by simp) ?_
    refine cons1 rfl (fun K hK => ?_) AllReadyH.nil
    go_simp
    refine (HCp.out _).mono ?_
    rintro e' u2 ⟨rfl, hb⟩
    go_wp2_with fail
    refine hK.out _ _ ((hHeld.2.2.2.next hb).s) (fun hHeld2 => ?_)
    clear hK K hHeld hb
    have hHeld := hHeld2
    clear hHeld2
    try simp only [Act.put, List.setIfInBounds_toArray, List.set_cons_zero, List.set_cons_succ]
    refine take1 (i := 13) (v := .bool true) rfl (by kernel_rfl) (by kernel_rfl) (by kernel_rfl) (fun _ _ _ h => h) (Or.inl ⟨by rfl, fun w hSw => ?_⟩) hHeld ?_
    · (go_simp)
    try simp only [Act.put, List.setIfInBounds_toArray, List.set_cons_zero, List.set_cons_succ]
    refine take1 (i := 14) (v := .bool true) rfl (by kernel_rfl) (by kernel_rfl) (by kernel_rfl) (fun _ _ _ h => h) (Or.inl ⟨by rfl, fun w hSw => ?_⟩) hHeld ?_
    · (go_simp)
    try simp only [Act.put, List.setIfInBounds_toArray, List.set_cons_zero, List.set_cons_succ]
    refine take1 (i := 15) (v := undef) rfl (by kernel_rfl) (by kernel_rfl) (by kernel_rfl) (fun _ _ _ h => h) (Or.inr ⟨by rfl, rfl⟩) hHeld ?_
    try simp only [Act.put, List.setIfInBounds_toArray, List.set_cons_zero, List.set_cons_succ]
    refine take1 (i := 16) (v := undef) rfl (by kernel_rfl) (by kernel_rfl) (by kernel_rfl) (fun _ _ _ h => h) (Or.inr ⟨by rfl, rfl⟩) hHeld ?_
    try simp only [Act.put, List.setIfInBounds_toArray, List.set_cons_zero, List.set_cons_succ]
    refine take1 (i := 17) (v := undef) rfl (by kernel_rfl) (by kernel_rfl) (by kernel_rfl) (fun _ _ _ h => h) (Or.inr ⟨by rfl, rfl⟩) hHeld ?_
    try simp only [Act.put, List.setIfInBounds_toArray, List.set_cons_zero, List.set_cons_succ]
    refine take1 (i := 18) (v := undef) rfl (by kernel_rfl) (by kernel_rfl) (by kernel_rfl) (fun _ _ _ h => h) (Or.inr ⟨by rfl, rfl⟩) hHeld ?_
    try simp only [Act.put, List.setIfInBounds_toArray, List.set_cons_zero, List.set_cons_succ]
    refine take1 (i := 19) (v := undef) rfl (by kernel_rfl) (by kernel_rfl) (by kernel_rfl) (fun _ _ _ h => h) (Or.inr ⟨by rfl, rfl⟩) hHeld ?_
    try simp only [Act.put, List.setIfInBounds_toArray, List.set_cons_zero, List.set_cons_succ]
    refine take1 (i := 20) (v := undef) rfl (by kernel_rfl) (by kernel_rfl) (by kernel_rfl) (fun _ _ _ h => h) (Or.inr ⟨by rfl, rfl⟩) hHeld ?_
    try simp only [Act.put, List.setIfInBounds_toArray, List.set_cons_zero, List.set_cons_succ]
    refine take1 (i := 21) (v := undef) rfl (by kernel_rfl) (by kernel_rfl) (by kernel_rfl) (fun _ _ _ h => h) (Or.inr ⟨by rfl, rfl⟩) hHeld ?_
    try simp only [Act.put, List.setIfInBounds_toArray, List.set_cons_zero, List.set_cons_succ]
    refine take1 (i := 22) (v := undef) rfl (by kernel_rfl) (by kernel_rfl) (by kernel_rfl) (fun _ _ _ h => h) (Or.inr ⟨by rfl, rfl⟩) hHeld ?_
    try simp only [Act.put, List.setIfInBounds_toArray, List.set_cons_zero, List.set_cons_succ]
    refine take1 (i := 23) (v := undef) rfl (by kernel_rfl) (by kernel_rfl) (by kernel_rfl) (fun _ _ _ h => h) (Or.inr ⟨by rfl, rfl⟩) hHeld ?_
    try simp only [Act.put, List.setIfInBounds_toArray, List.set_cons_zero, List.set_cons_succ]
    refine take1 (i := 24) (v := .bool true) rfl (by kernel_rfl) (by kernel_rfl) (by kernel_rfl) (fun _ _ _ h => h) (Or.inl ⟨by rfl, fun w hSw => ?_⟩) hHeld ?_
    · (go_simp)
    try simp only [Act.put, List.setIfInBounds_toArray, List.set_cons_zero, List.set_cons_succ]
    refine take1 (i := 25) (v := .bool true) rfl (by kernel_rfl) (by kernel_rfl) (by kernel_rfl) (fun _ _ _ h => h) (Or.inl ⟨by rfl, fun w hSw => ?_⟩) hHeld ?_
    · (go_simp)
    try simp only [Act.put, List.setIfInBounds_toArray, List.set_cons_zero, List.set_cons_succ]
    refine take1 (i := 26) (v := .bool true) rfl (by kernel_rfl) (by kernel_rfl) (by kernel_rfl) (fun _ _ _ h => h) (Or.inl ⟨by rfl, fun w hSw => ?_⟩) hHeld ?_
    · (go_simp)
    try simp only [Act.put, List.setIfInBounds_toArray, List.set_cons_zero, List.set_cons_succ]
    refine wpAnyH_done (by kernel_rfl) ?_ _
    refine NoPanic.normal ?_
    have HB := Lib.hid hHeld.2.2.2.i.bel
    clear hHeld
    go_wp2_with fail
    go_ret
    exact ⟨rfl, HB.out⟩
theorem back_any (k c s a n ch pk pc ps pa pn pch : Int) (w : World) (ht : Tabs w) :
    Calls Tryd.prog 4 #[.agg #[.int .i64 k, .int .i64 c, .int .i64 s, .int .i64 a, .int .i64 n, .int .i32 ch], .agg #[.int .i64 pk, .int .i64 pc, .int .i64 ps, .int .i64 pa, .int .i64 pn, .int .i32 pch]] w
      fun e w' => e = .returned (.bool true) ∧ Below w.heap.size w w' := by
  by_cases h : chkE k c s a n ch = 0
  · exact back_right k c s a n ch pk pc ps pa pn pch w ht h
  · exact back_wrong k c s a n ch pk pc ps pa pn pch w ht h
end Go.Proofs.YtbfnehpmlngagaaDoor
