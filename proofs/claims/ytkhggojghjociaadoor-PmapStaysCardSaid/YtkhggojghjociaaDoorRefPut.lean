/-
  The contracts of the document's Put and Get of layer 4: lists by rising ids.
-/
import Derived.Test.YtkhggojghjociaaDoorOf4
import Derived.Maps.AppendAt
import Derived.OwnWalk
import Derived.RangeFuncBox
namespace Go.Proofs.YtkhggojghjociaaDoor
open Go Go.Proofs Go.RowKit

/-- v is a slice of the entries L. -/
def IsR (W : World) (v : Value) (L : List Re) : Prop :=
  (v = .slice none 0 0 ∧ L = []) ∨ ∃ g cap cur, v = .slice (some ⟨g, 0, none⟩) L.length cap ∧ W.heap[g]? = some (.cells cur 40 (0, 0)) ∧ L.length ≤ cap ∧ cap ≤ maxLen ∧ cur.toList.take (L.length * 6) = L.flatMap reL
theorem IsR.next {W W' : World} {v : Value} {L : List Re} (h : IsR W v L) (hb : Below W.heap.size W W') : IsR W' v L := by
  rcases h with h | ⟨g, cap, cur, rfl, hg, h⟩
  · exact Or.inl h
  · exact Or.inr ⟨g, cap, cur, rfl, by rw [hb.block g (Array.getElem?_eq_some_iff.1 hg).1]; exact hg, h⟩
theorem IsR.form {W : World} {v : Value} {L : List Re} (h : IsR W v L) : ∃ a cap, v = .slice a L.length cap ∧ L.length ≤ cap ∧ cap ≤ 9223372036854775807 := by
  rcases h with ⟨rfl, rfl⟩ | ⟨g, cap, cur, rfl, _, h1, h2, _⟩
  · exact ⟨none, 0, rfl, Nat.le_refl _, by omega⟩
  · exact ⟨_, cap, rfl, h1, by unfold maxLen at h2; omega⟩
theorem re_flat : ∀ (l : List Re) (i j : Nat) (hi : i < l.length), j < 6 → (l.flatMap reL)[i * 6 + j]? = (reL l[i])[j]?
  | [], i, _, hi, _ => absurd hi (by simp)
  | x :: l, 0, j, _, hj => by
    simp only [List.flatMap_cons, Nat.zero_mul, Nat.zero_add, List.getElem_cons_zero]
    rw [List.getElem?_append_left (by simpa [reL] using hj)]
  | x :: l, i + 1, j, hi, hj => by
    have ih := re_flat l i j (by simpa using hi) hj
    simp only [List.flatMap_cons, List.getElem_cons_succ]
    rw [List.getElem?_append_right (by simp [reL]; omega), ← ih]
    congr 1
    simp [reL]
    omega
theorem IsR.cell {W : World} {a : Option Addr} {n cap : Nat} {L : List Re} (h : IsR W (.slice a n cap) L) (i : Nat) (hi : i < L.length) : ∃ g, a = some ⟨g, 0, none⟩ ∧ g < W.heap.size ∧ ∀ j, j < 6 → W.cell? ⟨g, i * 6 + j, none⟩ = (reL L[i])[j]? := by
  rcases h with ⟨_, rfl⟩ | ⟨g, cap', cur, hv, hg, h1, h2, h3⟩
  · cases hi
  · simp only [Value.slice.injEq] at hv
    obtain ⟨rfl, rfl, rfl⟩ := hv
    refine ⟨g, rfl, (Array.getElem?_eq_some_iff.1 hg).1, fun j hj => ?_⟩
    rw [← re_flat L i j hi hj, ← h3, List.getElem?_take_of_lt (by omega)]
    simp [World.cell?, hg]
def reC (O : List Re) : List Value := O.flatMap reL
theorem reC_snoc (O : List Re) (x : Re) : reC (O ++ [x]) = reC O ++ reL x := by simp [reC]
theorem IsR.of {W : World} {b : Nat} {v : Value} {L : List Re} (h : W.ownsRow b 40 6 v L.length (reC L)) : IsR W v L := by
  rcases h.2 with ⟨rfl, h0⟩ | ⟨g, cap, cur, rfl, _, hg, h1, h2, _, h3⟩
  · exact Or.inl ⟨rfl, List.eq_nil_of_length_eq_zero h0⟩
  · exact Or.inr ⟨g, cap, cur, rfl, hg, h1, h2, h3⟩
theorem Below.of_grown {B : Nat} {W W' : World} {row : Option Nat} (hg : W.grownBy W' row) (hB : B ≤ W.heap.size) (hrow : ∀ r, row = some r → B ≤ r) : Below B W W' :=
  ⟨hg.os, hg.tape, hg.output, hg.size, fun c hc => hg.block c (by omega) (fun e => by
    have := hrow c e.symm
    omega)⟩
theorem own_ge {W : World} {b size n : Nat} {e : TypeId} {v : Value} {xs : List Value} (h : W.ownsRow b e size v n xs) : ∀ r, v.ownBlock = some r → b ≤ r := by
  rcases h.2 with ⟨rfl, _⟩ | ⟨g, cap, cur, rfl, hb, _⟩
  · exact fun r e => by cases e
  · exact fun r e => by cases e; exact hb
def zRe : Value := .agg #[.int .i64 0, .int .i64 0, .int .i64 0, .int .i64 0, .int .i32 0, .bool false]
theorem infoRe : (Tryd.prog.info? 40).map (fun i => (i.zero, i.size, i.bytes)) = some (some zRe, 6, 40) := by kernel_rfl
theorem cell_six_new (w : World) (x : Re) (t : TypeId) : ∀ j u, (reL x)[j]? = some u → (w.alloc (.cells ⟨reL x⟩ t)).cell? ((⟨w.heap.size, 0, none⟩ : Addr).add j) = some u := by
  intro j u hj
  have := (Blk.start w (reL x) t).cell j hj
  rw [show (⟨w.heap.size, 0, none⟩ : Addr).add j = ⟨w.heap.size, j, none⟩ by unfold Addr.add; split <;> simp_all]
  exact this
theorem six_one (x : Re) : ∀ u ∈ reL x, u.oneCell' = true := by
  intro u hu
  simp only [reL, List.mem_cons, List.not_mem_nil, or_false] at hu
  rcases hu with rfl | rfl | rfl | rfl | rfl | rfl <;> rfl

theorem drew_size (V : World) : V.drew.heap.size = V.heap.size := rfl
theorem rp_step {E x : Re} {l : List Re} {dn ins eq : Bool} (hi : (!dn && !lessB x.c x.s E.c E.s) = ins) (he : decide (x.c = E.c ∧ x.s = E.s) = eq) :
    rp E dn (x :: l) = (if ins = true then [E] else []) ++ ((if eq = true then [] else [x]) ++ rp E (dn || ins) l) := by
  subst hi
  subst he
  simp only [rp, decide_eq_true_eq]
/-- Where the loop of Put stands: what has been put out. -/
structure RpS (w : World) (E : Re) (O : List Re) (v : Value) (W : World) : Prop where
  bel : Below w.heap.size w W
  be : Blk W w.heap.size (reL E) 40
  own : W.ownsRow (w.heap.size + 1) 40 6 v O.length (reC O)
theorem ownsRow_next {W W' : World} {b size n : Nat} {e : TypeId} {v : Value} {xs : List Value} (h : W.ownsRow b e size v n xs) (hb : Below W.heap.size W W') : W'.ownsRow b e size v n xs := by
  refine ⟨h.1, ?_⟩
  rcases h.2 with h | ⟨g, cap, cur, hv, hg, hh, h⟩
  · exact .inl h
  · exact .inr ⟨g, cap, cur, hv, hg, by rw [hb.block g (Array.getElem?_eq_some_iff.1 hh).1]; exact hh, h⟩
theorem RpS.next {w : World} {E : Re} {O : List Re} {v : Value} {W W' : World} (h : RpS w E O v W) (hb : Below W.heap.size W W') : RpS w E O v W' :=
  ⟨h.bel.trans (hb.mono h.bel.size), h.be.next hb, ownsRow_next h.own hb⟩
/-- Behind an append of an entry: the array of one that is appended lies in a block of its own. -/
theorem RpS.appended {w : World} {E : Re} {O : List Re} {v v' : Value} {W W' : World} {o : Obj} (h : RpS w E O v W) (x : Re) (ho : W'.ownsRow (w.heap.size + 1) 40 6 v' (O.length + 1) (reC O ++ reL x)) (hg : (W.alloc o).grownBy W' v.ownBlock) :
    RpS w E (O ++ [x]) v' W' := by
  have hlt := h.be.lt
  have hs : (W.alloc o).heap.size = W.heap.size + 1 := by simp
  have h1 : Below (w.heap.size + 1) (W.alloc o) W' := Below.of_grown hg (by omega) (own_ge h.own)
  have h0 := h.next ((Below.refl W.heap.size W).alloc (Nat.le_refl _) o)
  exact ⟨h0.bel.trans (h1.mono (by omega)), h0.be.below h1 (by omega), by rw [reC_snoc, List.length_append]; exact ho⟩
theorem RpS.len {w : World} {E : Re} {O : List Re} {v : Value} {W : World} (h : RpS w E O v W) : w.heap.size + 1 ≤ W.heap.size := h.be.lt

set_option maxHeartbeats 6400000 in
set_option maxRecDepth 100000 in
theorem refPut_any (E : Re) (L : List Re) (v0 : Value) (w : World) (hL : IsR w v0 L) (hl : L.length ≤ 1000) :
    Calls Tryd.prog 7 #[v0, .agg #[.int .i64 E.c, .int .i64 E.s, .int .i64 E.e.ac, .int .i64 E.e.an, .int .i32 E.e.ch, .bool E.e.d]] w
      fun r w' => ∃ v, r = .returned (.tuple #[v, .bool (mayB E.c E.s)]) ∧ IsR w' v (if mayB E.c E.s = true then rp E false L else L) ∧ Below w.heap.size w w' := by
  have hb0 := (Below.refl w.heap.size w).alloc (Nat.le_refl _) (.cells #[.int .i64 E.c, .int .i64 E.s, .int .i64 E.e.ac, .int .i64 E.e.an, .int .i32 E.e.ch, .bool E.e.d] 40)
  have H0 := Lib.hid (RpS.mk (E := E) (O := []) (v := .slice none 0 0) hb0 (Blk.start w _ _) (World.ownsRow_nil _ _ _ _))
  have HL := Lib.hid hL
  obtain ⟨a, cap, rfl, hc1, hc2⟩ := hL.form
  clear hL hb0
  by_cases h : mayB E.c E.s = true
  · rw [if_pos h, h]
    go_enter Tryd.func7, Tryd.ntmps7
    go_wp2_with (go_at_call 22; refine (may_any _ _ _).mono ?_; rintro e' w1 ⟨rfl, hb⟩; rw [h]; refine Hid.out ?_)
    have H1 := Lib.hid (H0.out.next hb)
    clear H0 hb
    refine Lib.hid ?_
    go_wp2_with fail
    go_loopg [6, 7, 8] L.length (fun g tv tdn ti wr => ∃ k : Nat, k ≤ L.length ∧ g = L.length - k ∧ ti = .int .i64 (k : Int) ∧ ∃ (O : List Re) (dn : Bool), tdn = .bool dn ∧ O.length ≤ k + dn.toNat ∧ O ++ rp E dn (L.drop k) = rp E false L ∧ RpS w E O tv wr)
    case atStart => exact ⟨0, Nat.zero_le _, rfl, rfl, [], false, rfl, Nat.zero_le _, by simp, H1.out⟩
    case round =>
      obtain ⟨k, hk, rfl, rfl, O, dn, rfl, hO, hrp, hS⟩ := hrel
      clear H1
      have HS := Lib.hid hS
      clear hS
      obtain ⟨i0, hi, hz0, hz1, hz2⟩ := info_parts infoRe
      by_cases hlt : k < L.length
      · rw [List.drop_eq_getElem_cons hlt] at hrp
        have HX := Lib.hid (fun (W : World) (hb : Below w.heap.size w W) => (HL.out.next hb).cell k hlt)
        obtain ⟨g, rfl, hg, -⟩ := HL.out.cell k hlt
        generalize L[k] = x at *
        have HC := Lib.hid (fun (W : World) (hb : Below w.heap.size w W) => show W.cell? ⟨g, k * 6, none⟩ = some (.int .i64 x.c) ∧ W.cell? ⟨g, k * 6 + 1, none⟩ = some (.int .i64 x.s) ∧ W.cell? ⟨g, k * 6 + 2, none⟩ = some (.int .i64 x.e.ac) ∧ W.cell? ⟨g, k * 6 + 3, none⟩ = some (.int .i64 x.e.an) ∧ W.cell? ⟨g, k * 6 + 4, none⟩ = some (.int .i32 x.e.ch) ∧ W.cell? ⟨g, k * 6 + 5, none⟩ = some (.bool x.e.d) from by
          obtain ⟨g', e, -, hj⟩ := HX.out W hb
          cases e
          exact ⟨hj 0 (by omega), hj 1 (by omega), hj 2 (by omega), hj 3 (by omega), hj 4 (by omega), hj 5 (by omega)⟩)
        clear HX
        have HP := Lib.hid hrp
        clear hrp
        go_wp2_with fail
        cases dn with
        | true =>
          have hO : O.length ≤ k + 1 := hO
          refine wp_region_noPanic ?_
          refine wp_region_held_drew (S := (fun W => W.cell? ⟨g, k * 6, none⟩ = some (.int .i64 x.c) ∧ W.cell? ⟨g, k * 6 + 1, none⟩ = some (.int .i64 x.s) ∧ W.cell? ⟨w.heap.size, 0, none⟩ = some (.int .i64 E.c) ∧ W.cell? ⟨w.heap.size, 1, none⟩ = some (.int .i64 E.s) ∧ RpS w E O u6 W)) (by kernel_rfl) ?_ (fun hHeld => ?_)
          · exact (let h := HS.out.next (Below.refl _ _).drew; let c := HC.out _ h.bel; ⟨c.1, c.2.1, h.be.cell 0 rfl, h.be.cell 1 rfl, h⟩)
          clear HS
          refine take1 (i := 0) (v := .bool true) rfl (by kernel_rfl) (by kernel_rfl) (by kernel_rfl) (fun _ _ _ h => h) (Or.inl ⟨by rfl, fun w hSw => ?_⟩) hHeld ?_
          · (go_simp)
          try simp only [Act.put, List.setIfInBounds_toArray, List.set_cons_zero, List.set_cons_succ]
          refine take1 (i := 1) (v := .bool false) rfl (by kernel_rfl) (by kernel_rfl) (by kernel_rfl) (fun _ _ _ h => h) (Or.inl ⟨by rfl, fun w hSw => ?_⟩) hHeld ?_
          · (go_simp)
          try simp only [Act.put, List.setIfInBounds_toArray, List.set_cons_zero, List.set_cons_succ]
          refine take1 (i := 2) (v := .bool false) rfl (by kernel_rfl) (by kernel_rfl) (by kernel_rfl) (fun _ _ _ h => h) (Or.inl ⟨by rfl, fun w hSw => ?_⟩) hHeld ?_
          · (go_simp)
          try simp only [Act.put, List.setIfInBounds_toArray, List.set_cons_zero, List.set_cons_succ]
          refine take1 (i := 3) (v := undef) rfl (by kernel_rfl) (by kernel_rfl) (by kernel_rfl) (fun _ _ _ h => h) (Or.inr ⟨by rfl, rfl⟩) hHeld ?_
          try simp only [Act.put, List.setIfInBounds_toArray, List.set_cons_zero, List.set_cons_succ]
          refine take1 (i := 4) (v := undef) rfl (by kernel_rfl) (by kernel_rfl) (by kernel_rfl) (fun _ _ _ h => h) (Or.inr ⟨by rfl, rfl⟩) hHeld ?_
          try simp only [Act.put, List.setIfInBounds_toArray, List.set_cons_zero, List.set_cons_succ]
          refine take1 (i := 5) (v := undef) rfl (by kernel_rfl) (by kernel_rfl) (by kernel_rfl) (fun _ _ _ h => h) (Or.inr ⟨by rfl, rfl⟩) hHeld ?_
          try simp only [Act.put, List.setIfInBounds_toArray, List.set_cons_zero, List.set_cons_succ]
          refine take1 (i := 6) (v := undef) rfl (by kernel_rfl) (by kernel_rfl) (by kernel_rfl) (fun _ _ _ h => h) (Or.inr ⟨by rfl, rfl⟩) hHeld ?_
          try simp only [Act.put, List.setIfInBounds_toArray, List.set_cons_zero, List.set_cons_succ]
          refine take1 (i := 7) (v := undef) rfl (by kernel_rfl) (by kernel_rfl) (by kernel_rfl) (fun _ _ _ h => h) (Or.inr ⟨by rfl, rfl⟩) hHeld ?_
          try simp only [Act.put, List.setIfInBounds_toArray, List.set_cons_zero, List.set_cons_succ]
          refine take1 (i := 8) (v := undef) rfl (by kernel_rfl) (by kernel_rfl) (by kernel_rfl) (fun _ _ _ h => h) (Or.inr ⟨by rfl, rfl⟩) hHeld ?_
          try simp only [Act.put, List.setIfInBounds_toArray, List.set_cons_zero, List.set_cons_succ]
          refine take1 (i := 9) (v := undef) rfl (by kernel_rfl) (by kernel_rfl) (by kernel_rfl) (fun _ _ _ h => h) (Or.inr ⟨by rfl, rfl⟩) hHeld ?_
          try simp only [Act.put, List.setIfInBounds_toArray, List.set_cons_zero, List.set_cons_succ]
          refine take1 (i := 10) (v := undef) rfl (by kernel_rfl) (by kernel_rfl) (by kernel_rfl) (fun _ _ _ h => h) (Or.inr ⟨by rfl, rfl⟩) hHeld ?_
          try simp only [Act.put, List.setIfInBounds_toArray, List.set_cons_zero, List.set_cons_succ]
          refine take1 (i := 11) (v := undef) rfl (by kernel_rfl) (by kernel_rfl) (by kernel_rfl) (fun _ _ _ h => h) (Or.inr ⟨by rfl, rfl⟩) hHeld ?_
          try simp only [Act.put, List.setIfInBounds_toArray, List.set_cons_zero, List.set_cons_succ]
          refine take1 (i := 12) (v := .bool false) rfl (by kernel_rfl) (by kernel_rfl) (by kernel_rfl) (fun _ _ _ h => h) (Or.inl ⟨by rfl, fun w hSw => ?_⟩) hHeld ?_
          · (go_simp)
          try simp only [Act.put, List.setIfInBounds_toArray, List.set_cons_zero, List.set_cons_succ]
          refine wpAnyH_done (by kernel_rfl) ?_ _
          refine NoPanic.normal ?_
          have HS := Lib.hid hHeld.2.2.2.2
          clear hHeld
          by_cases hc : x.c = E.c
          · by_cases hs : x.s = E.s
            · have hcb : (x.c == E.c) = true := by simpa using hc
              have hsb : (x.s == E.s) = true := by simpa using hs
              have hcs := Lib.hid (And.intro hc hs)
              clear hc hs
              go_wp2_with fail
              refine wp_region_noPanic ?_
              refine wp_region_held_drew (S := (fun W => W.cell? ⟨g, k * 6, none⟩ = some (.int .i64 x.c) ∧ W.cell? ⟨g, k * 6 + 1, none⟩ = some (.int .i64 x.s) ∧ W.cell? ⟨w.heap.size, 0, none⟩ = some (.int .i64 E.c) ∧ W.cell? ⟨w.heap.size, 1, none⟩ = some (.int .i64 E.s) ∧ RpS w E O u6 W)) (by kernel_rfl) ?_ (fun hHeld => ?_)
              · exact (let h := HS.out.next (Below.refl _ _).drew; let c := HC.out _ h.bel; ⟨c.1, c.2.1, h.be.cell 0 rfl, h.be.cell 1 rfl, h⟩)
              clear HS
              refine take1 (i := 0) (v := .slice (some ⟨g, 0, none⟩) L.length cap) rfl (by kernel_rfl) (by kernel_rfl) (by kernel_rfl) (fun _ _ _ h => h) (Or.inl ⟨by rfl, fun w hSw => ?_⟩) hHeld ?_
              · (go_simp)
              try simp only [Act.put, List.setIfInBounds_toArray, List.set_cons_zero, List.set_cons_succ]
              refine take1 (i := 1) (v := .int .i64 (k : Int)) rfl (by kernel_rfl) (by kernel_rfl) (by kernel_rfl) (fun _ _ _ h => h) (Or.inl ⟨by rfl, fun w hSw => ?_⟩) hHeld ?_
              · (go_simp)
              try simp only [Act.put, List.setIfInBounds_toArray, List.set_cons_zero, List.set_cons_succ]
              refine take1 (i := 2) (v := .pointer (some ⟨g, k * 6, none⟩)) rfl (by kernel_rfl) (by kernel_rfl) (by kernel_rfl) (fun _ _ _ h => h) (Or.inl ⟨by rfl, fun w hSw => ?_⟩) hHeld ?_
              · (go_simp)
              try simp only [Act.put, List.setIfInBounds_toArray, List.set_cons_zero, List.set_cons_succ]
              refine take1 (i := 3) (v := .pointer (some ⟨g, k * 6, none⟩)) rfl (by kernel_rfl) (by kernel_rfl) (by kernel_rfl) (fun _ _ _ h => h) (Or.inl ⟨by rfl, fun w hSw => ?_⟩) hHeld ?_
              · (go_simp)
              try simp only [Act.put, List.setIfInBounds_toArray, List.set_cons_zero, List.set_cons_succ]
              refine take1 (i := 4) (v := .agg #[.int .i64 x.c, .int .i64 x.s]) rfl (by kernel_rfl) (by kernel_rfl) (by kernel_rfl) (fun _ _ _ h => h) (Or.inl ⟨by rfl, fun w hSw => ?_⟩) hHeld ?_
              · (go_simp)
              try simp only [Act.put, List.setIfInBounds_toArray, List.set_cons_zero, List.set_cons_succ]
              refine take1 (i := 5) (v := .pointer (some ⟨w.heap.size, 0, none⟩)) rfl (by kernel_rfl) (by kernel_rfl) (by kernel_rfl) (fun _ _ _ h => h) (Or.inl ⟨by rfl, fun w hSw => ?_⟩) hHeld ?_
              · (go_simp)
              try simp only [Act.put, List.setIfInBounds_toArray, List.set_cons_zero, List.set_cons_succ]
              refine take1 (i := 6) (v := .agg #[.int .i64 E.c, .int .i64 E.s]) rfl (by kernel_rfl) (by kernel_rfl) (by kernel_rfl) (fun _ _ _ h => h) (Or.inl ⟨by rfl, fun w hSw => ?_⟩) hHeld ?_
              · (go_simp)
              try simp only [Act.put, List.setIfInBounds_toArray, List.set_cons_zero, List.set_cons_succ]
              refine take1 (i := 7) (v := .bool false) rfl (by kernel_rfl) (by kernel_rfl) (by kernel_rfl) (fun _ _ _ h => h) (Or.inl ⟨by rfl, fun w hSw => ?_⟩) hHeld ?_
              · (go_simp)
              try simp only [Act.put, List.setIfInBounds_toArray, List.set_cons_zero, List.set_cons_succ]
              refine wpAnyH_done (by kernel_rfl) ?_ _
              refine NoPanic.normal ?_
              have HS := Lib.hid hHeld.2.2.2.2
              clear hHeld
              go_wp2_with fail
              have hcs := hcs.out
              go_roundg (L.length - (k + 1))
              case measure => omega
              case rel => exact ⟨k + 1, by omega, rfl, by go_num, O, true, rfl, by (first | omega | (simp only [Bool.toNat_true, List.length_append, List.length_cons, List.length_nil]; omega)), by rw [← HP.out, rp_step (ins := false) (eq := true) (by rfl) (decide_eq_true hcs)]; simp, HS.out⟩
            · have hcb : (x.c == E.c) = true := by simpa using hc
              have hsb : (x.s == E.s) = false := by simpa using hs
              have hcs := Lib.hid (show ¬ (x.c = E.c ∧ x.s = E.s) from fun h => hs h.2)
              clear hc hs
              go_wp2_with fail
              refine wp_region_noPanic ?_
              refine wp_region_held_drew (S := (fun W => W.cell? ⟨g, k * 6, none⟩ = some (.int .i64 x.c) ∧ W.cell? ⟨g, k * 6 + 1, none⟩ = some (.int .i64 x.s) ∧ W.cell? ⟨w.heap.size, 0, none⟩ = some (.int .i64 E.c) ∧ W.cell? ⟨w.heap.size, 1, none⟩ = some (.int .i64 E.s) ∧ RpS w E O u6 W)) (by kernel_rfl) ?_ (fun hHeld => ?_)
              · exact (let h := HS.out.next (Below.refl _ _).drew; let c := HC.out _ h.bel; ⟨c.1, c.2.1, h.be.cell 0 rfl, h.be.cell 1 rfl, h⟩)
              clear HS
              refine take1 (i := 0) (v := .slice (some ⟨g, 0, none⟩) L.length cap) rfl (by kernel_rfl) (by kernel_rfl) (by kernel_rfl) (fun _ _ _ h => h) (Or.inl ⟨by rfl, fun w hSw => ?_⟩) hHeld ?_
              · (go_simp)
              try simp only [Act.put, List.setIfInBounds_toArray, List.set_cons_zero, List.set_cons_succ]
              refine take1 (i := 1) (v := .int .i64 (k : Int)) rfl (by kernel_rfl) (by kernel_rfl) (by kernel_rfl) (fun _ _ _ h => h) (Or.inl ⟨by rfl, fun w hSw => ?_⟩) hHeld ?_
              · (go_simp)
              try simp only [Act.put, List.setIfInBounds_toArray, List.set_cons_zero, List.set_cons_succ]
              refine take1 (i := 2) (v := .pointer (some ⟨g, k * 6, none⟩)) rfl (by kernel_rfl) (by kernel_rfl) (by kernel_rfl) (fun _ _ _ h => h) (Or.inl ⟨by rfl, fun w hSw => ?_⟩) hHeld ?_
              · (go_simp)
              try simp only [Act.put, List.setIfInBounds_toArray, List.set_cons_zero, List.set_cons_succ]
              refine take1 (i := 3) (v := .pointer (some ⟨g, k * 6, none⟩)) rfl (by kernel_rfl) (by kernel_rfl) (by kernel_rfl) (fun _ _ _ h => h) (Or.inl ⟨by rfl, fun w hSw => ?_⟩) hHeld ?_
              · (go_simp)
              try simp only [Act.put, List.setIfInBounds_toArray, List.set_cons_zero, List.set_cons_succ]
              refine take1 (i := 4) (v := .agg #[.int .i64 x.c, .int .i64 x.s]) rfl (by kernel_rfl) (by kernel_rfl) (by kernel_rfl) (fun _ _ _ h => h) (Or.inl ⟨by rfl, fun w hSw => ?_⟩) hHeld ?_
              · (go_simp)
              try simp only [Act.put, List.setIfInBounds_toArray, List.set_cons_zero, List.set_cons_succ]
              refine take1 (i := 5) (v := .pointer (some ⟨w.heap.size, 0, none⟩)) rfl (by kernel_rfl) (by kernel_rfl) (by kernel_rfl) (fun _ _ _ h => h) (Or.inl ⟨by rfl, fun w hSw => ?_⟩) hHeld ?_
              · (go_simp)
              try simp only [Act.put, List.setIfInBounds_toArray, List.set_cons_zero, List.set_cons_succ]
              refine take1 (i := 6) (v := .agg #[.int .i64 E.c, .int .i64 E.s]) rfl (by kernel_rfl) (by kernel_rfl) (by kernel_rfl) (fun _ _ _ h => h) (Or.inl ⟨by rfl, fun w hSw => ?_⟩) hHeld ?_
              · (go_simp)
              try simp only [Act.put, List.setIfInBounds_toArray, List.set_cons_zero, List.set_cons_succ]
              refine take1 (i := 7) (v := .bool true) rfl (by kernel_rfl) (by kernel_rfl) (by kernel_rfl) (fun _ _ _ h => h) (Or.inl ⟨by rfl, fun w hSw => ?_⟩) hHeld ?_
              · (go_simp)
              try simp only [Act.put, List.setIfInBounds_toArray, List.set_cons_zero, List.set_cons_succ]
              refine wpAnyH_done (by kernel_rfl) ?_ _
              refine NoPanic.normal ?_
              have HS := Lib.hid hHeld.2.2.2.2
              clear hHeld
              obtain ⟨x0, x1, x2, x3, x4, x5⟩ := HC.out _ HS.out.bel
              go_wp2_with (at_builtin; refine wpList_append_own _ rfl _ _ 29 rfl (w.heap.size + 1) 40 i0 zRe 6 40 Tryd.underlying29 hi hz0 hz1 hz2 rfl (by decide) _ _ _ rfl (HS.out.own.alloc _) ⟨_, 0, none⟩ 1 1 (reL x) rfl rfl (cell_six_new _ _ _) (six_one x) (by unfold maxLen; omega) (by omega) (by have hlen := HS.out.len; (try simp only [drew_size] at hlen); simp; omega) ?_; intro v' W' hown' hgrow _; refine Hid.out ?_)
              have HS2 := Lib.hid (HS.out.appended x hown' hgrow)
              clear HS hown' hgrow
              have HS := HS2
              clear HS2
              refine Lib.hid ?_
              clear x0 x1 x2 x3 x4 x5
              go_wp2_with fail
              have hcs := hcs.out
              go_roundg (L.length - (k + 1))
              case measure => omega
              case rel => exact ⟨k + 1, by omega, rfl, by go_num, (O ++ [x]), true, rfl, by (first | omega | (simp only [Bool.toNat_true, List.length_append, List.length_cons, List.length_nil]; omega)), by rw [← HP.out, rp_step (ins := false) (eq := false) (by rfl) (decide_eq_false hcs)]; simp, HS.out⟩
          · have hcb : (x.c == E.c) = false := by simpa using hc
            have hcs := Lib.hid (show ¬ (x.c = E.c ∧ x.s = E.s) from fun h => hc h.1)
            clear hc
            go_wp2_with fail
            refine wp_region_noPanic ?_
            refine wp_region_held_drew (S := (fun W => W.cell? ⟨g, k * 6, none⟩ = some (.int .i64 x.c) ∧ W.cell? ⟨g, k * 6 + 1, none⟩ = some (.int .i64 x.s) ∧ W.cell? ⟨w.heap.size, 0, none⟩ = some (.int .i64 E.c) ∧ W.cell? ⟨w.heap.size, 1, none⟩ = some (.int .i64 E.s) ∧ RpS w E O u6 W)) (by kernel_rfl) ?_ (fun hHeld => ?_)
            · exact (let h := HS.out.next (Below.refl _ _).drew; let c := HC.out _ h.bel; ⟨c.1, c.2.1, h.be.cell 0 rfl, h.be.cell 1 rfl, h⟩)
            clear HS
            refine take1 (i := 0) (v := .slice (some ⟨g, 0, none⟩) L.length cap) rfl (by kernel_rfl) (by kernel_rfl) (by kernel_rfl) (fun _ _ _ h => h) (Or.inl ⟨by rfl, fun w hSw => ?_⟩) hHeld ?_
            · (go_simp)
            try simp only [Act.put, List.setIfInBounds_toArray, List.set_cons_zero, List.set_cons_succ]
            refine take1 (i := 1) (v := .int .i64 (k : Int)) rfl (by kernel_rfl) (by kernel_rfl) (by kernel_rfl) (fun _ _ _ h => h) (Or.inl ⟨by rfl, fun w hSw => ?_⟩) hHeld ?_
            · (go_simp)
            try simp only [Act.put, List.setIfInBounds_toArray, List.set_cons_zero, List.set_cons_succ]
            refine take1 (i := 2) (v := .pointer (some ⟨g, k * 6, none⟩)) rfl (by kernel_rfl) (by kernel_rfl) (by kernel_rfl) (fun _ _ _ h => h) (Or.inl ⟨by rfl, fun w hSw => ?_⟩) hHeld ?_
            · (go_simp)
            try simp only [Act.put, List.setIfInBounds_toArray, List.set_cons_zero, List.set_cons_succ]
            refine take1 (i := 3) (v := .pointer (some ⟨g, k * 6, none⟩)) rfl (by kernel_rfl) (by kernel_rfl) (by kernel_rfl) (fun _ _ _ h => h) (Or.inl ⟨by rfl, fun w hSw => ?_⟩) hHeld ?_
            · (go_simp)
            try simp only [Act.put, List.setIfInBounds_toArray, List.set_cons_zero, List.set_cons_succ]
            refine take1 (i := 4) (v := .agg #[.int .i64 x.c, .int .i64 x.s]) rfl (by kernel_rfl) (by kernel_rfl) (by kernel_rfl) (fun _ _ _ h => h) (Or.inl ⟨by rfl, fun w hSw => ?_⟩) hHeld ?_
            · (go_simp)
            try simp only [Act.put, List.setIfInBounds_toArray, List.set_cons_zero, List.set_cons_succ]
            refine take1 (i := 5) (v := .pointer (some ⟨w.heap.size, 0, none⟩)) rfl (by kernel_rfl) (by kernel_rfl) (by kernel_rfl) (fun _ _ _ h => h) (Or.inl ⟨by rfl, fun w hSw => ?_⟩) hHeld ?_
            · (go_simp)
            try simp only [Act.put, List.setIfInBounds_toArray, List.set_cons_zero, List.set_cons_succ]
            refine take1 (i := 6) (v := .agg #[.int .i64 E.c, .int .i64 E.s]) rfl (by kernel_rfl) (by kernel_rfl) (by kernel_rfl) (fun _ _ _ h => h) (Or.inl ⟨by rfl, fun w hSw => ?_⟩) hHeld ?_
            · (go_simp)
            try simp only [Act.put, List.setIfInBounds_toArray, List.set_cons_zero, List.set_cons_succ]
            refine take1 (i := 7) (v := .bool true) rfl (by kernel_rfl) (by kernel_rfl) (by kernel_rfl) (fun _ _ _ h => h) (Or.inl ⟨by rfl, fun w hSw => ?_⟩) hHeld ?_
            · (go_simp)
            try simp only [Act.put, List.setIfInBounds_toArray, List.set_cons_zero, List.set_cons_succ]
            refine wpAnyH_done (by kernel_rfl) ?_ _
            refine NoPanic.normal ?_
            have HS := Lib.hid hHeld.2.2.2.2
            clear hHeld
            obtain ⟨x0, x1, x2, x3, x4, x5⟩ := HC.out _ HS.out.bel
            go_wp2_with (at_builtin; refine wpList_append_own _ rfl _ _ 29 rfl (w.heap.size + 1) 40 i0 zRe 6 40 Tryd.underlying29 hi hz0 hz1 hz2 rfl (by decide) _ _ _ rfl (HS.out.own.alloc _) ⟨_, 0, none⟩ 1 1 (reL x) rfl rfl (cell_six_new _ _ _) (six_one x) (by unfold maxLen; omega) (by omega) (by have hlen := HS.out.len; (try simp only [drew_size] at hlen); simp; omega) ?_; intro v' W' hown' hgrow _; refine Hid.out ?_)
            have HS2 := Lib.hid (HS.out.appended x hown' hgrow)
            clear HS hown' hgrow
            have HS := HS2
            clear HS2
            refine Lib.hid ?_
            clear x0 x1 x2 x3 x4 x5
            go_wp2_with fail
            have hcs := hcs.out
            go_roundg (L.length - (k + 1))
            case measure => omega
            case rel => exact ⟨k + 1, by omega, rfl, by go_num, (O ++ [x]), true, rfl, by (first | omega | (simp only [Bool.toNat_true, List.length_append, List.length_cons, List.length_nil]; omega)), by rw [← HP.out, rp_step (ins := false) (eq := false) (by rfl) (decide_eq_false hcs)]; simp, HS.out⟩
        | false =>
          have hO : O.length ≤ k := hO
          cases hless : lessB x.c x.s E.c E.s with
          | true =>
            refine wp_region_noPanic ?_
            refine wp_region_held_drew (S := (fun W => W.cell? ⟨g, k * 6, none⟩ = some (.int .i64 x.c) ∧ W.cell? ⟨g, k * 6 + 1, none⟩ = some (.int .i64 x.s) ∧ W.cell? ⟨w.heap.size, 0, none⟩ = some (.int .i64 E.c) ∧ W.cell? ⟨w.heap.size, 1, none⟩ = some (.int .i64 E.s) ∧ RpS w E O u6 W)) (by kernel_rfl) ?_ (fun hHeld => ?_)
            · exact (let h := HS.out.next (Below.refl _ _).drew; let c := HC.out _ h.bel; ⟨c.1, c.2.1, h.be.cell 0 rfl, h.be.cell 1 rfl, h⟩)
            clear HS
            refine take1 (i := 0) (v := .bool false) rfl (by kernel_rfl) (by kernel_rfl) (by kernel_rfl) (fun _ _ _ h => h) (Or.inl ⟨by rfl, fun w hSw => ?_⟩) hHeld ?_
            · (go_simp)
            try simp only [Act.put, List.setIfInBounds_toArray, List.set_cons_zero, List.set_cons_succ]
            refine take1 (i := 1) (v := .bool true) rfl (by kernel_rfl) (by kernel_rfl) (by kernel_rfl) (fun _ _ _ h => h) (Or.inl ⟨by rfl, fun w hSw => ?_⟩) hHeld ?_
            · (go_simp)
            try simp only [Act.put, List.setIfInBounds_toArray, List.set_cons_zero, List.set_cons_succ]
            refine take1 (i := 2) (v := .bool true) rfl (by kernel_rfl) (by kernel_rfl) (by kernel_rfl) (fun _ _ _ h => h) (Or.inl ⟨by rfl, fun w hSw => ?_⟩) hHeld ?_
            · (go_simp)
            try simp only [Act.put, List.setIfInBounds_toArray, List.set_cons_zero, List.set_cons_succ]
            refine take1 (i := 3) (v := .slice (some ⟨g, 0, none⟩) L.length cap) rfl (by kernel_rfl) (by kernel_rfl) (by kernel_rfl) (fun _ _ _ h => h) (Or.inl ⟨by rfl, fun w hSw => ?_⟩) hHeld ?_
            · (go_simp)
            try simp only [Act.put, List.setIfInBounds_toArray, List.set_cons_zero, List.set_cons_succ]
            refine take1 (i := 4) (v := .int .i64 (k : Int)) rfl (by kernel_rfl) (by kernel_rfl) (by kernel_rfl) (fun _ _ _ h => h) (Or.inl ⟨by rfl, fun w hSw => ?_⟩) hHeld ?_
            · (go_simp)
            try simp only [Act.put, List.setIfInBounds_toArray, List.set_cons_zero, List.set_cons_succ]
            refine take1 (i := 5) (v := .pointer (some ⟨g, k * 6, none⟩)) rfl (by kernel_rfl) (by kernel_rfl) (by kernel_rfl) (fun _ _ _ h => h) (Or.inl ⟨by rfl, fun w hSw => ?_⟩) hHeld ?_
            · (go_simp)
            try simp only [Act.put, List.setIfInBounds_toArray, List.set_cons_zero, List.set_cons_succ]
            refine take1 (i := 6) (v := .pointer (some ⟨g, k * 6, none⟩)) rfl (by kernel_rfl) (by kernel_rfl) (by kernel_rfl) (fun _ _ _ h => h) (Or.inl ⟨by rfl, fun w hSw => ?_⟩) hHeld ?_
            · (go_simp)
            try simp only [Act.put, List.setIfInBounds_toArray, List.set_cons_zero, List.set_cons_succ]
            refine take1 (i := 7) (v := .agg #[.int .i64 x.c, .int .i64 x.s]) rfl (by kernel_rfl) (by kernel_rfl) (by kernel_rfl) (fun _ _ _ h => h) (Or.inl ⟨by rfl, fun w hSw => ?_⟩) hHeld ?_
            · (go_simp)
            try simp only [Act.put, List.setIfInBounds_toArray, List.set_cons_zero, List.set_cons_succ]
            refine take1 (i := 8) (v := .pointer (some ⟨w.heap.size, 0, none⟩)) rfl (by kernel_rfl) (by kernel_rfl) (by kernel_rfl) (fun _ _ _ h => h) (Or.inl ⟨by rfl, fun w hSw => ?_⟩) hHeld ?_
            · (go_simp)
            try simp only [Act.put, List.setIfInBounds_toArray, List.set_cons_zero, List.set_cons_succ]
            refine take1 (i := 9) (v := .agg #[.int .i64 E.c, .int .i64 E.s]) rfl (by kernel_rfl) (by kernel_rfl) (by kernel_rfl) (fun _ _ _ h => h) (Or.inl ⟨by rfl, fun w hSw => ?_⟩) hHeld ?_
            · (go_simp)
            try simp only [Act.put, List.setIfInBounds_toArray, List.set_cons_zero, List.set_cons_succ]
            refine wpAnyH_ready (rs := [10]) (by kernel_rfl) (by simp) ?_
            refine cons1 rfl (fun K hK => ?_) AllReadyH.nil
            go_simp
            refine (refLess_any _ _ _ _ _).mono ?_
            rintro e' u1 ⟨rfl, hb⟩
            rw [hless]
            go_wp2_with fail
            refine hK.out _ _ ((let h := hHeld.2.2.2.2.next hb; let c := HC.out _ h.bel; ⟨c.1, c.2.1, h.be.cell 0 rfl, h.be.cell 1 rfl, h⟩)) (fun hHeld2 => ?_)
            clear hK K hHeld hb
            have hHeld := hHeld2
            clear hHeld2
            try simp only [Act.put, List.setIfInBounds_toArray, List.set_cons_zero, List.set_cons_succ]
            refine take1 (i := 11) (v := .bool false) rfl (by kernel_rfl) (by kernel_rfl) (by kernel_rfl) (fun _ _ _ h => h) (Or.inl ⟨by rfl, fun w hSw => ?_⟩) hHeld ?_
            · (go_simp)
            try simp only [Act.put, List.setIfInBounds_toArray, List.set_cons_zero, List.set_cons_succ]
            refine take1 (i := 12) (v := .bool false) rfl (by kernel_rfl) (by kernel_rfl) (by kernel_rfl) (fun _ _ _ h => h) (Or.inl ⟨by rfl, fun w hSw => ?_⟩) hHeld ?_
            · (go_simp)
            try simp only [Act.put, List.setIfInBounds_toArray, List.set_cons_zero, List.set_cons_succ]
            refine wpAnyH_done (by kernel_rfl) ?_ _
            refine NoPanic.normal ?_
            have HS := Lib.hid hHeld.2.2.2.2
            clear hHeld
            by_cases hc : x.c = E.c
            · by_cases hs : x.s = E.s
              · have hcb : (x.c == E.c) = true := by simpa using hc
                have hsb : (x.s == E.s) = true := by simpa using hs
                have hcs := Lib.hid (And.intro hc hs)
                clear hc hs
                go_wp2_with fail
                refine wp_region_noPanic ?_
                refine wp_region_held_drew (S := (fun W => W.cell? ⟨g, k * 6, none⟩ = some (.int .i64 x.c) ∧ W.cell? ⟨g, k * 6 + 1, none⟩ = some (.int .i64 x.s) ∧ W.cell? ⟨w.heap.size, 0, none⟩ = some (.int .i64 E.c) ∧ W.cell? ⟨w.heap.size, 1, none⟩ = some (.int .i64 E.s) ∧ RpS w E O u6 W)) (by kernel_rfl) ?_ (fun hHeld => ?_)
                · exact (let h := HS.out.next (Below.refl _ _).drew; let c := HC.out _ h.bel; ⟨c.1, c.2.1, h.be.cell 0 rfl, h.be.cell 1 rfl, h⟩)
                clear HS
                refine take1 (i := 0) (v := .slice (some ⟨g, 0, none⟩) L.length cap) rfl (by kernel_rfl) (by kernel_rfl) (by kernel_rfl) (fun _ _ _ h => h) (Or.inl ⟨by rfl, fun w hSw => ?_⟩) hHeld ?_
                · (go_simp)
                try simp only [Act.put, List.setIfInBounds_toArray, List.set_cons_zero, List.set_cons_succ]
                refine take1 (i := 1) (v := .int .i64 (k : Int)) rfl (by kernel_rfl) (by kernel_rfl) (by kernel_rfl) (fun _ _ _ h => h) (Or.inl ⟨by rfl, fun w hSw => ?_⟩) hHeld ?_
                · (go_simp)
                try simp only [Act.put, List.setIfInBounds_toArray, List.set_cons_zero, List.set_cons_succ]
                refine take1 (i := 2) (v := .pointer (some ⟨g, k * 6, none⟩)) rfl (by kernel_rfl) (by kernel_rfl) (by kernel_rfl) (fun _ _ _ h => h) (Or.inl ⟨by rfl, fun w hSw => ?_⟩) hHeld ?_
                · (go_simp)
                try simp only [Act.put, List.setIfInBounds_toArray, List.set_cons_zero, List.set_cons_succ]
                refine take1 (i := 3) (v := .pointer (some ⟨g, k * 6, none⟩)) rfl (by kernel_rfl) (by kernel_rfl) (by kernel_rfl) (fun _ _ _ h => h) (Or.inl ⟨by rfl, fun w hSw => ?_⟩) hHeld ?_
                · (go_simp)
                try simp only [Act.put, List.setIfInBounds_toArray, List.set_cons_zero, List.set_cons_succ]
                refine take1 (i := 4) (v := .agg #[.int .i64 x.c, .int .i64 x.s]) rfl (by kernel_rfl) (by kernel_rfl) (by kernel_rfl) (fun _ _ _ h => h) (Or.inl ⟨by rfl, fun w hSw => ?_⟩) hHeld ?_
                · (go_simp)
                try simp only [Act.put, List.setIfInBounds_toArray, List.set_cons_zero, List.set_cons_succ]
                refine take1 (i := 5) (v := .pointer (some ⟨w.heap.size, 0, none⟩)) rfl (by kernel_rfl) (by kernel_rfl) (by kernel_rfl) (fun _ _ _ h => h) (Or.inl ⟨by rfl, fun w hSw => ?_⟩) hHeld ?_
                · (go_simp)
                try simp only [Act.put, List.setIfInBounds_toArray, List.set_cons_zero, List.set_cons_succ]
                refine take1 (i := 6) (v := .agg #[.int .i64 E.c, .int .i64 E.s]) rfl (by kernel_rfl) (by kernel_rfl) (by kernel_rfl) (fun _ _ _ h => h) (Or.inl ⟨by rfl, fun w hSw => ?_⟩) hHeld ?_
                · (go_simp)
                try simp only [Act.put, List.setIfInBounds_toArray, List.set_cons_zero, List.set_cons_succ]
                refine take1 (i := 7) (v := .bool false) rfl (by kernel_rfl) (by kernel_rfl) (by kernel_rfl) (fun _ _ _ h => h) (Or.inl ⟨by rfl, fun w hSw => ?_⟩) hHeld ?_
                · (go_simp)
                try simp only [Act.put, List.setIfInBounds_toArray, List.set_cons_zero, List.set_cons_succ]
                refine wpAnyH_done (by kernel_rfl) ?_ _
                refine NoPanic.normal ?_
                have HS := Lib.hid hHeld.2.2.2.2
                clear hHeld
                go_wp2_with fail
                have hcs := hcs.out
                go_roundg (L.length - (k + 1))
                case measure => omega
                case rel => exact ⟨k + 1, by omega, rfl, by go_num, O, false, rfl, by (first | omega | (simp only [Bool.toNat_false, List.length_append, List.length_cons, List.length_nil]; omega)), by rw [← HP.out, rp_step (ins := false) (eq := true) (by rw [hless]; rfl) (decide_eq_true hcs)]; simp, HS.out⟩
              · have hcb : (x.c == E.c) = true := by simpa using hc
                have hsb : (x.s == E.s) = false := by simpa using hs
                have hcs := Lib.hid (show ¬ (x.c = E.c ∧ x.s = E.s) from fun h => hs h.2)
                clear hc hs
                go_wp2_with fail
                refine wp_region_noPanic ?_
                refine wp_region_held_drew (S := (fun W => W.cell? ⟨g, k * 6, none⟩ = some (.int .i64 x.c) ∧ W.cell? ⟨g, k * 6 + 1, none⟩ = some (.int .i64 x.s) ∧ W.cell? ⟨w.heap.size, 0, none⟩ = some (.int .i64 E.c) ∧ W.cell? ⟨w.heap.size, 1, none⟩ = some (.int .i64 E.s) ∧ RpS w E O u6 W)) (by kernel_rfl) ?_ (fun hHeld => ?_)
                · exact (let h := HS.out.next (Below.refl _ _).drew; let c := HC.out _ h.bel; ⟨c.1, c.2.1, h.be.cell 0 rfl, h.be.cell 1 rfl, h⟩)
                clear HS
                refine take1 (i := 0) (v := .slice (some ⟨g, 0, none⟩) L.length cap) rfl (by kernel_rfl) (by kernel_rfl) (by kernel_rfl) (fun _ _ _ h => h) (Or.inl ⟨by rfl, fun w hSw => ?_⟩) hHeld ?_
                · (go_simp)
                try simp only [Act.put, List.setIfInBounds_toArray, List.set_cons_zero, List.set_cons_succ]
                refine take1 (i := 1) (v := .int .i64 (k : Int)) rfl (by kernel_rfl) (by kernel_rfl) (by kernel_rfl) (fun _ _ _ h => h) (Or.inl ⟨by rfl, fun w hSw => ?_⟩) hHeld ?_
                · (go_simp)
                try simp only [Act.put, List.setIfInBounds_toArray, List.set_cons_zero, List.set_cons_succ]
                refine take1 (i := 2) (v := .pointer (some ⟨g, k * 6, none⟩)) rfl (by kernel_rfl) (by kernel_rfl) (by kernel_rfl) (fun _ _ _ h => h) (Or.inl ⟨by rfl, fun w hSw => ?_⟩) hHeld ?_
                · (go_simp)
                try simp only [Act.put, List.setIfInBounds_toArray, List.set_cons_zero, List.set_cons_succ]
                refine take1 (i := 3) (v := .pointer (some ⟨g, k * 6, none⟩)) rfl (by kernel_rfl) (by kernel_rfl) (by kernel_rfl) (fun _ _ _ h => h) (Or.inl ⟨by rfl, fun w hSw => ?_⟩) hHeld ?_
                · (go_simp)
                try simp only [Act.put, List.setIfInBounds_toArray, List.set_cons_zero, List.set_cons_succ]
                refine take1 (i := 4) (v := .agg #[.int .i64 x.c, .int .i64 x.s]) rfl (by kernel_rfl) (by kernel_rfl) (by kernel_rfl) (fun _ _ _ h => h) (Or.inl ⟨by rfl, fun w hSw => ?_⟩) hHeld ?_
                · (go_simp)
                try simp only [Act.put, List.setIfInBounds_toArray, List.set_cons_zero, List.set_cons_succ]
                refine take1 (i := 5) (v := .pointer (some ⟨w.heap.size, 0, none⟩)) rfl (by kernel_rfl) (by kernel_rfl) (by kernel_rfl) (fun _ _ _ h => h) (Or.inl ⟨by rfl, fun w hSw => ?_⟩) hHeld ?_
                · (go_simp)
                try simp only [Act.put, List.setIfInBounds_toArray, List.set_cons_zero, List.set_cons_succ]
                refine take1 (i := 6) (v := .agg #[.int .i64 E.c, .int .i64 E.s]) rfl (by kernel_rfl) (by kernel_rfl) (by kernel_rfl) (fun _ _ _ h => h) (Or.inl ⟨by rfl, fun w hSw => ?_⟩) hHeld ?_
                · (go_simp)
                try simp only [Act.put, List.setIfInBounds_toArray, List.set_cons_zero, List.set_cons_succ]
                refine take1 (i := 7) (v := .bool true) rfl (by kernel_rfl) (by kernel_rfl) (by kernel_rfl) (fun _ _ _ h => h) (Or.inl ⟨by rfl, fun w hSw => ?_⟩) hHeld ?_
                · (go_simp)
                try simp only [Act.put, List.setIfInBounds_toArray, List.set_cons_zero, List.set_cons_succ]
                refine wpAnyH_done (by kernel_rfl) ?_ _
                refine NoPanic.normal ?_
                have HS := Lib.hid hHeld.2.2.2.2
                clear hHeld
                obtain ⟨x0, x1, x2, x3, x4, x5⟩ := HC.out _ HS.out.bel
                go_wp2_with (at_builtin; refine wpList_append_own _ rfl _ _ 29 rfl (w.heap.size + 1) 40 i0 zRe 6 40 Tryd.underlying29 hi hz0 hz1 hz2 rfl (by decide) _ _ _ rfl (HS.out.own.alloc _) ⟨_, 0, none⟩ 1 1 (reL x) rfl rfl (cell_six_new _ _ _) (six_one x) (by unfold maxLen; omega) (by omega) (by have hlen := HS.out.len; (try simp only [drew_size] at hlen); simp; omega) ?_; intro v' W' hown' hgrow _; refine Hid.out ?_)
                have HS2 := Lib.hid (HS.out.appended x hown' hgrow)
                clear HS hown' hgrow
                have HS := HS2
                clear HS2
                refine Lib.hid ?_
                clear x0 x1 x2 x3 x4 x5
                go_wp2_with fail
                have hcs := hcs.out
                go_roundg (L.length - (k + 1))
                case measure => omega
                case rel => exact ⟨k + 1, by omega, rfl, by go_num, (O ++ [x]), false, rfl, by (first | omega | (simp only [Bool.toNat_false, List.length_append, List.length_cons, List.length_nil]; omega)), by rw [← HP.out, rp_step (ins := false) (eq := false) (by rw [hless]; rfl) (decide_eq_false hcs)]; simp, HS.out⟩
            · have hcb : (x.c == E.c) = false := by simpa using hc
              have hcs := Lib.hid (show ¬ (x.c = E.c ∧ x.s = E.s) from fun h => hc h.1)
              clear hc
              go_wp2_with fail
              refine wp_region_noPanic ?_
              refine wp_region_held_drew (S := (fun W => W.cell? ⟨g, k * 6, none⟩ = some (.int .i64 x.c) ∧ W.cell? ⟨g, k * 6 + 1, none⟩ = some (.int .i64 x.s) ∧ W.cell? ⟨w.heap.size, 0, none⟩ = some (.int .i64 E.c) ∧ W.cell? ⟨w.heap.size, 1, none⟩ = some (.int .i64 E.s) ∧ RpS w E O u6 W)) (by kernel_rfl) ?_ (fun hHeld => ?_)
              · exact (let h := HS.out.next (Below.refl _ _).drew; let c := HC.out _ h.bel; ⟨c.1, c.2.1, h.be.cell 0 rfl, h.be.cell 1 rfl, h⟩)
              clear HS
              refine take1 (i := 0) (v := .slice (some ⟨g, 0, none⟩) L.length cap) rfl (by kernel_rfl) (by kernel_rfl) (by kernel_rfl) (fun _ _ _ h => h) (Or.inl ⟨by rfl, fun w hSw => ?_⟩) hHeld ?_
              · (go_simp)
              try simp only [Act.put, List.setIfInBounds_toArray, List.set_cons_zero, List.set_cons_succ]
              refine take1 (i := 1) (v := .int .i64 (k : Int)) rfl (by kernel_rfl) (by kernel_rfl) (by kernel_rfl) (fun _ _ _ h => h) (Or.inl ⟨by rfl, fun w hSw => ?_⟩) hHeld ?_
              · (go_simp)
              try simp only [Act.put, List.setIfInBounds_toArray, List.set_cons_zero, List.set_cons_succ]
              refine take1 (i := 2) (v := .pointer (some ⟨g, k * 6, none⟩)) rfl (by kernel_rfl) (by kernel_rfl) (by kernel_rfl) (fun _ _ _ h => h) (Or.inl ⟨by rfl, fun w hSw => ?_⟩) hHeld ?_
              · (go_simp)
              try simp only [Act.put, List.setIfInBounds_toArray, List.set_cons_zero, List.set_cons_succ]
              refine take1 (i := 3) (v := .pointer (some ⟨g, k * 6, none⟩)) rfl (by kernel_rfl) (by kernel_rfl) (by kernel_rfl) (fun _ _ _ h => h) (Or.inl ⟨by rfl, fun w hSw => ?_⟩) hHeld ?_
              · (go_simp)
              try simp only [Act.put, List.setIfInBounds_toArray, List.set_cons_zero, List.set_cons_succ]
              refine take1 (i := 4) (v := .agg #[.int .i64 x.c, .int .i64 x.s]) rfl (by kernel_rfl) (by kernel_rfl) (by kernel_rfl) (fun _ _ _ h => h) (Or.inl ⟨by rfl, fun w hSw => ?_⟩) hHeld ?_
              · (go_simp)
              try simp only [Act.put, List.setIfInBounds_toArray, List.set_cons_zero, List.set_cons_succ]
              refine take1 (i := 5) (v := .pointer (some ⟨w.heap.size, 0, none⟩)) rfl (by kernel_rfl) (by kernel_rfl) (by kernel_rfl) (fun _ _ _ h => h) (Or.inl ⟨by rfl, fun w hSw => ?_⟩) hHeld ?_
              · (go_simp)
              try simp only [Act.put, List.setIfInBounds_toArray, List.set_cons_zero, List.set_cons_succ]
              refine take1 (i := 6) (v := .agg #[.int .i64 E.c, .int .i64 E.s]) rfl (by kernel_rfl) (by kernel_rfl) (by kernel_rfl) (fun _ _ _ h => h) (Or.inl ⟨by rfl, fun w hSw => ?_⟩) hHeld ?_
              · (go_simp)
              try simp only [Act.put, List.setIfInBounds_toArray, List.set_cons_zero, List.set_cons_succ]
              refine take1 (i := 7) (v := .bool true) rfl (by kernel_rfl) (by kernel_rfl) (by kernel_rfl) (fun _ _ _ h => h) (Or.inl ⟨by rfl, fun w hSw => ?_⟩) hHeld ?_
              · (go_simp)
              try simp only [Act.put, List.setIfInBounds_toArray, List.set_cons_zero, List.set_cons_succ]
              refine wpAnyH_done (by kernel_rfl) ?_ _
              refine NoPanic.normal ?_
              have HS := Lib.hid hHeld.2.2.2.2
              clear hHeld
              obtain ⟨x0, x1, x2, x3, x4, x5⟩ := HC.out _ HS.out.bel
              go_wp2_with (at_builtin; refine wpList_append_own _ rfl _ _ 29 rfl (w.heap.size + 1) 40 i0 zRe 6 40 Tryd.underlying29 hi hz0 hz1 hz2 rfl (by decide) _ _ _ rfl (HS.out.own.alloc _) ⟨_, 0, none⟩ 1 1 (reL x) rfl rfl (cell_six_new _ _ _) (six_one x) (by unfold maxLen; omega) (by omega) (by have hlen := HS.out.len; (try simp only [drew_size] at hlen); simp; omega) ?_; intro v' W' hown' hgrow _; refine Hid.out ?_)
              have HS2 := Lib.hid (HS.out.appended x hown' hgrow)
              clear HS hown' hgrow
              have HS := HS2
              clear HS2
              refine Lib.hid ?_
              clear x0 x1 x2 x3 x4 x5
              go_wp2_with fail
              have hcs := hcs.out
              go_roundg (L.length - (k + 1))
              case measure => omega
              case rel => exact ⟨k + 1, by omega, rfl, by go_num, (O ++ [x]), false, rfl, by (first | omega | (simp only [Bool.toNat_false, List.length_append, List.length_cons, List.length_nil]; omega)), by rw [← HP.out, rp_step (ins := false) (eq := false) (by rw [hless]; rfl) (decide_eq_false hcs)]; simp, HS.out⟩
          | false =>
            refine wp_region_noPanic ?_
            refine wp_region_held_drew (S := (fun W => W.cell? ⟨g, k * 6, none⟩ = some (.int .i64 x.c) ∧ W.cell? ⟨g, k * 6 + 1, none⟩ = some (.int .i64 x.s) ∧ W.cell? ⟨w.heap.size, 0, none⟩ = some (.int .i64 E.c) ∧ W.cell? ⟨w.heap.size, 1, none⟩ = some (.int .i64 E.s) ∧ RpS w E O u6 W)) (by kernel_rfl) ?_ (fun hHeld => ?_)
            · exact (let h := HS.out.next (Below.refl _ _).drew; let c := HC.out _ h.bel; ⟨c.1, c.2.1, h.be.cell 0 rfl, h.be.cell 1 rfl, h⟩)
            clear HS
            refine take1 (i := 0) (v := .bool false) rfl (by kernel_rfl) (by kernel_rfl) (by kernel_rfl) (fun _ _ _ h => h) (Or.inl ⟨by rfl, fun w hSw => ?_⟩) hHeld ?_
            · (go_simp)
            try simp only [Act.put, List.setIfInBounds_toArray, List.set_cons_zero, List.set_cons_succ]
            refine take1 (i := 1) (v := .bool true) rfl (by kernel_rfl) (by kernel_rfl) (by kernel_rfl) (fun _ _ _ h => h) (Or.inl ⟨by rfl, fun w hSw => ?_⟩) hHeld ?_
            · (go_simp)
            try simp only [Act.put, List.setIfInBounds_toArray, List.set_cons_zero, List.set_cons_succ]
            refine take1 (i := 2) (v := .bool true) rfl (by kernel_rfl) (by kernel_rfl) (by kernel_rfl) (fun _ _ _ h => h) (Or.inl ⟨by rfl, fun w hSw => ?_⟩) hHeld ?_
            · (go_simp)
            try simp only [Act.put, List.setIfInBounds_toArray, List.set_cons_zero, List.set_cons_succ]
            refine take1 (i := 3) (v := .slice (some ⟨g, 0, none⟩) L.length cap) rfl (by kernel_rfl) (by kernel_rfl) (by kernel_rfl) (fun _ _ _ h => h) (Or.inl ⟨by rfl, fun w hSw => ?_⟩) hHeld ?_
            · (go_simp)
            try simp only [Act.put, List.setIfInBounds_toArray, List.set_cons_zero, List.set_cons_succ]
            refine take1 (i := 4) (v := .int .i64 (k : Int)) rfl (by kernel_rfl) (by kernel_rfl) (by kernel_rfl) (fun _ _ _ h => h) (Or.inl ⟨by rfl, fun w hSw => ?_⟩) hHeld ?_
            · (go_simp)
            try simp only [Act.put, List.setIfInBounds_toArray, List.set_cons_zero, List.set_cons_succ]
            refine take1 (i := 5) (v := .pointer (some ⟨g, k * 6, none⟩)) rfl (by kernel_rfl) (by kernel_rfl) (by kernel_rfl) (fun _ _ _ h => h) (Or.inl ⟨by rfl, fun w hSw => ?_⟩) hHeld ?_
            · (go_simp)
            try simp only [Act.put, List.setIfInBounds_toArray, List.set_cons_zero, List.set_cons_succ]
            refine take1 (i := 6) (v := .pointer (some ⟨g, k * 6, none⟩)) rfl (by kernel_rfl) (by kernel_rfl) (by kernel_rfl) (fun _ _ _ h => h) (Or.inl ⟨by rfl, fun w hSw => ?_⟩) hHeld ?_
            · (go_simp)
            try simp only [Act.put, List.setIfInBounds_toArray, List.set_cons_zero, List.set_cons_succ]
            refine take1 (i := 7) (v := .agg #[.int .i64 x.c, .int .i64 x.s]) rfl (by kernel_rfl) (by kernel_rfl) (by kernel_rfl) (fun _ _ _ h => h) (Or.inl ⟨by rfl, fun w hSw => ?_⟩) hHeld ?_
            · (go_simp)
            try simp only [Act.put, List.setIfInBounds_toArray, List.set_cons_zero, List.set_cons_succ]
            refine take1 (i := 8) (v := .pointer (some ⟨w.heap.size, 0, none⟩)) rfl (by kernel_rfl) (by kernel_rfl) (by kernel_rfl) (fun _ _ _ h => h) (Or.inl ⟨by rfl, fun w hSw => ?_⟩) hHeld ?_
            · (go_simp)
            try simp only [Act.put, List.setIfInBounds_toArray, List.set_cons_zero, List.set_cons_succ]
            refine take1 (i := 9) (v := .agg #[.int .i64 E.c, .int .i64 E.s]) rfl (by kernel_rfl) (by kernel_rfl) (by kernel_rfl) (fun _ _ _ h => h) (Or.inl ⟨by rfl, fun w hSw => ?_⟩) hHeld ?_
            · (go_simp)
            try simp only [Act.put, List.setIfInBounds_toArray, List.set_cons_zero, List.set_cons_succ]
            refine wpAnyH_ready (rs := [10]) (by kernel_rfl) (by simp) ?_
            refine cons1 rfl (fun K hK => ?_) AllReadyH.nil
            go_simp
            refine (refLess_any _ _ _ _ _).mono ?_
            rintro e' u1 ⟨rfl, hb⟩
            rw [hless]
            go_wp2_with fail
            refine hK.out _ _ ((let h := hHeld.2.2.2.2.next hb; let c := HC.out _ h.bel; ⟨c.1, c.2.1, h.be.cell 0 rfl, h.be.cell 1 rfl, h⟩)) (fun hHeld2 => ?_)
            clear hK K hHeld hb
            have hHeld := hHeld2
            clear hHeld2
            try simp only [Act.put, List.setIfInBounds_toArray, List.set_cons_zero, List.set_cons_succ]
            refine take1 (i := 11) (v := .bool true) rfl (by kernel_rfl) (by kernel_rfl) (by kernel_rfl) (fun _ _ _ h => h) (Or.inl ⟨by rfl, fun w hSw => ?_⟩) hHeld ?_
            · (go_simp)
            try simp only [Act.put, List.setIfInBounds_toArray, List.set_cons_zero, List.set_cons_succ]
            refine take1 (i := 12) (v := .bool true) rfl (by kernel_rfl) (by kernel_rfl) (by kernel_rfl) (fun _ _ _ h => h) (Or.inl ⟨by rfl, fun w hSw => ?_⟩) hHeld ?_
            · (go_simp)
            try simp only [Act.put, List.setIfInBounds_toArray, List.set_cons_zero, List.set_cons_succ]
            refine wpAnyH_done (by kernel_rfl) ?_ _
            refine NoPanic.normal ?_
            have HS := Lib.hid hHeld.2.2.2.2
            clear hHeld
            have e0 := HS.out.be.cell 0 rfl
            have e1 := HS.out.be.cell 1 rfl
            have e2 := HS.out.be.cell 2 rfl
            have e3 := HS.out.be.cell 3 rfl
            have e4 := HS.out.be.cell 4 rfl
            have e5 := HS.out.be.cell 5 rfl
            go_wp2_with (at_builtin; refine wpList_append_own _ rfl _ _ 29 rfl (w.heap.size + 1) 40 i0 zRe 6 40 Tryd.underlying29 hi hz0 hz1 hz2 rfl (by decide) _ _ _ rfl (HS.out.own.alloc _) ⟨_, 0, none⟩ 1 1 (reL E) rfl rfl (cell_six_new _ _ _) (six_one E) (by unfold maxLen; omega) (by omega) (by have hlen := HS.out.len; (try simp only [drew_size] at hlen); simp; omega) ?_; intro v' W' hown' hgrow _; refine Hid.out ?_)
            have HS2 := Lib.hid (HS.out.appended E hown' hgrow)
            clear HS hown' hgrow
            have HS := HS2
            clear HS2
            refine Lib.hid ?_
            clear e0 e1 e2 e3 e4 e5
            have hO2 : (O ++ [E]).length ≤ k + 1 := by simp; omega
            by_cases hc : x.c = E.c
            · by_cases hs : x.s = E.s
              · have hcb : (x.c == E.c) = true := by simpa using hc
                have hsb : (x.s == E.s) = true := by simpa using hs
                have hcs := Lib.hid (And.intro hc hs)
                clear hc hs
                go_wp2_with fail
                refine wp_region_noPanic ?_
                refine wp_region_held_drew (S := (fun W => W.cell? ⟨g, k * 6, none⟩ = some (.int .i64 x.c) ∧ W.cell? ⟨g, k * 6 + 1, none⟩ = some (.int .i64 x.s) ∧ W.cell? ⟨w.heap.size, 0, none⟩ = some (.int .i64 E.c) ∧ W.cell? ⟨w.heap.size, 1, none⟩ = some (.int .i64 E.s) ∧ RpS w E (O ++ [E]) v' W)) (by kernel_rfl) ?_ (fun hHeld => ?_)
                · exact (let h := HS.out.next (Below.refl _ _).drew; let c := HC.out _ h.bel; ⟨c.1, c.2.1, h.be.cell 0 rfl, h.be.cell 1 rfl, h⟩)
                clear HS
                refine take1 (i := 0) (v := .slice (some ⟨g, 0, none⟩) L.length cap) rfl (by kernel_rfl) (by kernel_rfl) (by kernel_rfl) (fun _ _ _ h => h) (Or.inl ⟨by rfl, fun w hSw => ?_⟩) hHeld ?_
                · (go_simp)
                try simp only [Act.put, List.setIfInBounds_toArray, List.set_cons_zero, List.set_cons_succ]
                refine take1 (i := 1) (v := .int .i64 (k : Int)) rfl (by kernel_rfl) (by kernel_rfl) (by kernel_rfl) (fun _ _ _ h => h) (Or.inl ⟨by rfl, fun w hSw => ?_⟩) hHeld ?_
                · (go_simp)
                try simp only [Act.put, List.setIfInBounds_toArray, List.set_cons_zero, List.set_cons_succ]
                refine take1 (i := 2) (v := .pointer (some ⟨g, k * 6, none⟩)) rfl (by kernel_rfl) (by kernel_rfl) (by kernel_rfl) (fun _ _ _ h => h) (Or.inl ⟨by rfl, fun w hSw => ?_⟩) hHeld ?_
                · (go_simp)
                try simp only [Act.put, List.setIfInBounds_toArray, List.set_cons_zero, List.set_cons_succ]
                refine take1 (i := 3) (v := .pointer (some ⟨g, k * 6, none⟩)) rfl (by kernel_rfl) (by kernel_rfl) (by kernel_rfl) (fun _ _ _ h => h) (Or.inl ⟨by rfl, fun w hSw => ?_⟩) hHeld ?_
                · (go_simp)
                try simp only [Act.put, List.setIfInBounds_toArray, List.set_cons_zero, List.set_cons_succ]
                refine take1 (i := 4) (v := .agg #[.int .i64 x.c, .int .i64 x.s]) rfl (by kernel_rfl) (by kernel_rfl) (by kernel_rfl) (fun _ _ _ h => h) (Or.inl ⟨by rfl, fun w hSw => ?_⟩) hHeld ?_
                · (go_simp)
                try simp only [Act.put, List.setIfInBounds_toArray, List.set_cons_zero, List.set_cons_succ]
                refine take1 (i := 5) (v := .pointer (some ⟨w.heap.size, 0, none⟩)) rfl (by kernel_rfl) (by kernel_rfl) (by kernel_rfl) (fun _ _ _ h => h) (Or.inl ⟨by rfl, fun w hSw => ?_⟩) hHeld ?_
                · (go_simp)
                try simp only [Act.put, List.setIfInBounds_toArray, List.set_cons_zero, List.set_cons_succ]
                refine take1 (i := 6) (v := .agg #[.int .i64 E.c, .int .i64 E.s]) rfl (by kernel_rfl) (by kernel_rfl) (by kernel_rfl) (fun _ _ _ h => h) (Or.inl ⟨by rfl, fun w hSw => ?_⟩) hHeld ?_
                · (go_simp)
                try simp only [Act.put, List.setIfInBounds_toArray, List.set_cons_zero, List.set_cons_succ]
                refine take1 (i := 7) (v := .bool false) rfl (by kernel_rfl) (by kernel_rfl) (by kernel_rfl) (fun _ _ _ h => h) (Or.inl ⟨by rfl, fun w hSw => ?_⟩) hHeld ?_
                · (go_simp)
                try simp only [Act.put, List.setIfInBounds_toArray, List.set_cons_zero, List.set_cons_succ]
                refine wpAnyH_done (by kernel_rfl) ?_ _
                refine NoPanic.normal ?_
                have HS := Lib.hid hHeld.2.2.2.2
                clear hHeld
                go_wp2_with fail
                have hcs := hcs.out
                go_roundg (L.length - (k + 1))
                case measure => omega
                case rel => exact ⟨k + 1, by omega, rfl, by go_num, (O ++ [E]), true, rfl, by (first | omega | (simp only [Bool.toNat_true, List.length_append, List.length_cons, List.length_nil]; omega)), by rw [← HP.out, rp_step (ins := true) (eq := true) (by rw [hless]; rfl) (decide_eq_true hcs)]; simp, HS.out⟩
              · have hcb : (x.c == E.c) = true := by simpa using hc
                have hsb : (x.s == E.s) = false := by simpa using hs
                have hcs := Lib.hid (show ¬ (x.c = E.c ∧ x.s = E.s) from fun h => hs h.2)
                clear hc hs
                go_wp2_with fail
                refine wp_region_noPanic ?_
                refine wp_region_held_drew (S := (fun W => W.cell? ⟨g, k * 6, none⟩ = some (.int .i64 x.c) ∧ W.cell? ⟨g, k * 6 + 1, none⟩ = some (.int .i64 x.s) ∧ W.cell? ⟨w.heap.size, 0, none⟩ = some (.int .i64 E.c) ∧ W.cell? ⟨w.heap.size, 1, none⟩ = some (.int .i64 E.s) ∧ RpS w E (O ++ [E]) v' W)) (by kernel_rfl) ?_ (fun hHeld => ?_)
                · exact (let h := HS.out.next (Below.refl _ _).drew; let c := HC.out _ h.bel; ⟨c.1, c.2.1, h.be.cell 0 rfl, h.be.cell 1 rfl, h⟩)
                clear HS
                refine take1 (i := 0) (v := .slice (some ⟨g, 0, none⟩) L.length cap) rfl (by kernel_rfl) (by kernel_rfl) (by kernel_rfl) (fun _ _ _ h => h) (Or.inl ⟨by rfl, fun w hSw => ?_⟩) hHeld ?_
                · (go_simp)
                try simp only [Act.put, List.setIfInBounds_toArray, List.set_cons_zero, List.set_cons_succ]
                refine take1 (i := 1) (v := .int .i64 (k : Int)) rfl (by kernel_rfl) (by kernel_rfl) (by kernel_rfl) (fun _ _ _ h => h) (Or.inl ⟨by rfl, fun w hSw => ?_⟩) hHeld ?_
                · (go_simp)
                try simp only [Act.put, List.setIfInBounds_toArray, List.set_cons_zero, List.set_cons_succ]
                refine take1 (i := 2) (v := .pointer (some ⟨g, k * 6, none⟩)) rfl (by kernel_rfl) (by kernel_rfl) (by kernel_rfl) (fun _ _ _ h => h) (Or.inl ⟨by rfl, fun w hSw => ?_⟩) hHeld ?_
                · (go_simp)
                try simp only [Act.put, List.setIfInBounds_toArray, List.set_cons_zero, List.set_cons_succ]
                refine take1 (i := 3) (v := .pointer (some ⟨g, k * 6, none⟩)) rfl (by kernel_rfl) (by kernel_rfl) (by kernel_rfl) (fun _ _ _ h => h) (Or.inl ⟨by rfl, fun w hSw => ?_⟩) hHeld ?_
                · (go_simp)
                try simp only [Act.put, List.setIfInBounds_toArray, List.set_cons_zero, List.set_cons_succ]
                refine take1 (i := 4) (v := .agg #[.int .i64 x.c, .int .i64 x.s]) rfl (by kernel_rfl) (by kernel_rfl) (by kernel_rfl) (fun _ _ _ h => h) (Or.inl ⟨by rfl, fun w hSw => ?_⟩) hHeld ?_
                · (go_simp)
                try simp only [Act.put, List.setIfInBounds_toArray, List.set_cons_zero, List.set_cons_succ]
                refine take1 (i := 5) (v := .pointer (some ⟨w.heap.size, 0, none⟩)) rfl (by kernel_rfl) (by kernel_rfl) (by kernel_rfl) (fun _ _ _ h => h) (Or.inl ⟨by rfl, fun w hSw => ?_⟩) hHeld ?_
                · (go_simp)
                try simp only [Act.put, List.setIfInBounds_toArray, List.set_cons_zero, List.set_cons_succ]
                refine take1 (i := 6) (v := .agg #[.int .i64 E.c, .int .i64 E.s]) rfl (by kernel_rfl) (by kernel_rfl) (by kernel_rfl) (fun _ _ _ h => h) (Or.inl ⟨by rfl, fun w hSw => ?_⟩) hHeld ?_
                · (go_simp)
                try simp only [Act.put, List.setIfInBounds_toArray, List.set_cons_zero, List.set_cons_succ]
                refine take1 (i := 7) (v := .bool true) rfl (by kernel_rfl) (by kernel_rfl) (by kernel_rfl) (fun _ _ _ h => h) (Or.inl ⟨by rfl, fun w hSw => ?_⟩) hHeld ?_
                · (go_simp)
                try simp only [Act.put, List.setIfInBounds_toArray, List.set_cons_zero, List.set_cons_succ]
                refine wpAnyH_done (by kernel_rfl) ?_ _
                refine NoPanic.normal ?_
                have HS := Lib.hid hHeld.2.2.2.2
                clear hHeld
                obtain ⟨x0, x1, x2, x3, x4, x5⟩ := HC.out _ HS.out.bel
                go_wp2_with (at_builtin; refine wpList_append_own _ rfl _ _ 29 rfl (w.heap.size + 1) 40 i0 zRe 6 40 Tryd.underlying29 hi hz0 hz1 hz2 rfl (by decide) _ _ _ rfl (HS.out.own.alloc _) ⟨_, 0, none⟩ 1 1 (reL x) rfl rfl (cell_six_new _ _ _) (six_one x) (by unfold maxLen; omega) (by omega) (by have hlen := HS.out.len; (try simp only [drew_size] at hlen); simp; omega) ?_; intro v' W' hown' hgrow _; refine Hid.out ?_)
                have HS2 := Lib.hid (HS.out.appended x hown' hgrow)
                clear HS hown' hgrow
                have HS := HS2
                clear HS2
                refine Lib.hid ?_
                clear x0 x1 x2 x3 x4 x5
                go_wp2_with fail
                have hcs := hcs.out
                go_roundg (L.length - (k + 1))
                case measure => omega
                case rel => exact ⟨k + 1, by omega, rfl, by go_num, ((O ++ [E]) ++ [x]), true, rfl, by (first | omega | (simp only [Bool.toNat_true, List.length_append, List.length_cons, List.length_nil]; omega)), by rw [← HP.out, rp_step (ins := true) (eq := false) (by rw [hless]; rfl) (decide_eq_false hcs)]; simp, HS.out⟩
            · have hcb : (x.c == E.c) = false := by simpa using hc
              have hcs := Lib.hid (show ¬ (x.c = E.c ∧ x.s = E.s) from fun h => hc h.1)
              clear hc
              go_wp2_with fail
              refine wp_region_noPanic ?_
              refine wp_region_held_drew (S := (fun W => W.cell? ⟨g, k * 6, none⟩ = some (.int .i64 x.c) ∧ W.cell? ⟨g, k * 6 + 1, none⟩ = some (.int .i64 x.s) ∧ W.cell? ⟨w.heap.size, 0, none⟩ = some (.int .i64 E.c) ∧ W.cell? ⟨w.heap.size, 1, none⟩ = some (.int .i64 E.s) ∧ RpS w E (O ++ [E]) v' W)) (by kernel_rfl) ?_ (fun hHeld => ?_)
              · exact (let h := HS.out.next (Below.refl _ _).drew; let c := HC.out _ h.bel; ⟨c.1, c.2.1, h.be.cell 0 rfl, h.be.cell 1 rfl, h⟩)
              clear HS
              refine take1 (i := 0) (v := .slice (some ⟨g, 0, none⟩) L.length cap) rfl (by kernel_rfl) (by kernel_rfl) (by kernel_rfl) (fun _ _ _ h => h) (Or.inl ⟨by rfl, fun w hSw => ?_⟩) hHeld ?_
              · (go_simp)
              try simp only [Act.put, List.setIfInBounds_toArray, List.set_cons_zero, List.set_cons_succ]
              refine take1 (i := 1) (v := .int .i64 (k : Int)) rfl (by kernel_rfl) (by kernel_rfl) (by kernel_rfl) (fun _ _ _ h => h) (Or.inl ⟨by rfl, fun w hSw => ?_⟩) hHeld ?_
              · (go_simp)
              try simp only [Act.put, List.setIfInBounds_toArray, List.set_cons_zero, List.set_cons_succ]
              refine take1 (i := 2) (v := .pointer (some ⟨g, k * 6, none⟩)) rfl (by kernel_rfl) (by kernel_rfl) (by kernel_rfl) (fun _ _ _ h => h) (Or.inl ⟨by rfl, fun w hSw => ?_⟩) hHeld ?_
              · (go_simp)
              try simp only [Act.put, List.setIfInBounds_toArray, List.set_cons_zero, List.set_cons_succ]
              refine take1 (i := 3) (v := .pointer (some ⟨g, k * 6, none⟩)) rfl (by kernel_rfl) (by kernel_rfl) (by kernel_rfl) (fun _ _ _ h => h) (Or.inl ⟨by rfl, fun w hSw => ?_⟩) hHeld ?_
              · (go_simp)
              try simp only [Act.put, List.setIfInBounds_toArray, List.set_cons_zero, List.set_cons_succ]
              refine take1 (i := 4) (v := .agg #[.int .i64 x.c, .int .i64 x.s]) rfl (by kernel_rfl) (by kernel_rfl) (by kernel_rfl) (fun _ _ _ h => h) (Or.inl ⟨by rfl, fun w hSw => ?_⟩) hHeld ?_
              · (go_simp)
              try simp only [Act.put, List.setIfInBounds_toArray, List.set_cons_zero, List.set_cons_succ]
              refine take1 (i := 5) (v := .pointer (some ⟨w.heap.size, 0, none⟩)) rfl (by kernel_rfl) (by kernel_rfl) (by kernel_rfl) (fun _ _ _ h => h) (Or.inl ⟨by rfl, fun w hSw => ?_⟩) hHeld ?_
              · (go_simp)
              try simp only [Act.put, List.setIfInBounds_toArray, List.set_cons_zero, List.set_cons_succ]
              refine take1 (i := 6) (v := .agg #[.int .i64 E.c, .int .i64 E.s]) rfl (by kernel_rfl) (by kernel_rfl) (by kernel_rfl) (fun _ _ _ h => h) (Or.inl ⟨by rfl, fun w hSw => ?_⟩) hHeld ?_
              · (go_simp)
              try simp only [Act.put, List.setIfInBounds_toArray, List.set_cons_zero, List.set_cons_succ]
              refine take1 (i := 7) (v := .bool true) rfl (by kernel_rfl) (by kernel_rfl) (by kernel_rfl) (fun _ _ _ h => h) (Or.inl ⟨by rfl, fun w hSw => ?_⟩) hHeld ?_
              · (go_simp)
              try simp only [Act.put, List.setIfInBounds_toArray, List.set_cons_zero, List.set_cons_succ]
              refine wpAnyH_done (by kernel_rfl) ?_ _
              refine NoPanic.normal ?_
              have HS := Lib.hid hHeld.2.2.2.2
              clear hHeld
              obtain ⟨x0, x1, x2, x3, x4, x5⟩ := HC.out _ HS.out.bel
              go_wp2_with (at_builtin; refine wpList_append_own _ rfl _ _ 29 rfl (w.heap.size + 1) 40 i0 zRe 6 40 Tryd.underlying29 hi hz0 hz1 hz2 rfl (by decide) _ _ _ rfl (HS.out.own.alloc _) ⟨_, 0, none⟩ 1 1 (reL x) rfl rfl (cell_six_new _ _ _) (six_one x) (by unfold maxLen; omega) (by omega) (by have hlen := HS.out.len; (try simp only [drew_size] at hlen); simp; omega) ?_; intro v' W' hown' hgrow _; refine Hid.out ?_)
              have HS2 := Lib.hid (HS.out.appended x hown' hgrow)
              clear HS hown' hgrow
              have HS := HS2
              clear HS2
              refine Lib.hid ?_
              clear x0 x1 x2 x3 x4 x5
              go_wp2_with fail
              have hcs := hcs.out
              go_roundg (L.length - (k + 1))
              case measure => omega
              case rel => exact ⟨k + 1, by omega, rfl, by go_num, ((O ++ [E]) ++ [x]), true, rfl, by (first | omega | (simp only [Bool.toNat_true, List.length_append, List.length_cons, List.length_nil]; omega)), by rw [← HP.out, rp_step (ins := true) (eq := false) (by rw [hless]; rfl) (decide_eq_false hcs)]; simp, HS.out⟩
      · obtain rfl : k = L.length := by omega
        rw [List.drop_length] at hrp
        have HP := Lib.hid hrp
        clear hrp
        cases dn with
        | true =>
          have hO : O.length ≤ L.length + 1 := hO
          go_wp2_with fail
          exact bodyPost_ret (v := .tuple #[u6, .bool true]) (by simp [results, Tryd.results7, go_sem]) rfl ⟨u6, rfl, IsR.of (by have := HP.out; rw [show rp E true [] = [] from rfl, List.append_nil] at this; rw [← this]; exact HS.out.own), HS.out.bel⟩
        | false =>
          have hO : O.length ≤ L.length := hO
          have e0 := HS.out.be.cell 0 rfl
          have e1 := HS.out.be.cell 1 rfl
          have e2 := HS.out.be.cell 2 rfl
          have e3 := HS.out.be.cell 3 rfl
          have e4 := HS.out.be.cell 4 rfl
          have e5 := HS.out.be.cell 5 rfl
          go_wp2_with (at_builtin; refine wpList_append_own _ rfl _ _ 29 rfl (w.heap.size + 1) 40 i0 zRe 6 40 Tryd.underlying29 hi hz0 hz1 hz2 rfl (by decide) _ _ _ rfl (HS.out.own.alloc _) ⟨_, 0, none⟩ 1 1 (reL E) rfl rfl (cell_six_new _ _ _) (six_one E) (by unfold maxLen; omega) (by omega) (by have hlen := HS.out.len; (try simp only [drew_size] at hlen); simp; omega) ?_; intro v' W' hown' hgrow _; refine Hid.out ?_)
          have HS2 := Lib.hid (HS.out.appended E hown' hgrow)
          clear HS hown' hgrow
          have HS := HS2
          clear HS2
          refine Lib.hid ?_
          clear e0 e1 e2 e3 e4 e5
          go_wp2_with fail
          exact bodyPost_ret (v := .tuple #[v', .bool true]) (by simp [results, Tryd.results7, go_sem]) rfl ⟨v', rfl, IsR.of (by have := HP.out; rw [show rp E false [] = [E] from rfl] at this; rw [← this]; exact HS.out.own), HS.out.bel⟩
  · have h' : mayB E.c E.s = false := by simpa using h
    rw [if_neg h, h']
    go_enter Tryd.func7, Tryd.ntmps7
    go_wp2_with (go_at_call 22; refine (may_any _ _ _).mono ?_; rintro e' w1 ⟨rfl, hb⟩; rw [h']; refine Hid.out ?_)
    have H1 := Lib.hid (H0.out.next hb)
    clear H0 hb
    refine Lib.hid ?_
    go_wp2_with fail
    exact bodyPost_ret (v := .tuple #[.slice a L.length cap, .bool false]) (by simp [results, Tryd.results7, go_sem]) rfl ⟨_, rfl, HL.out.next H1.out.bel, H1.out.bel⟩

/-- What Get answers. -/
def IdxAt (c s : Int) (L : List Re) (r : Int) : Prop := (r = -1 ∧ ∀ x ∈ L, ¬ (x.c = c ∧ x.s = s)) ∨ ∃ (i : Nat) (hi : i < L.length), r = (i : Int) ∧ L[i].c = c ∧ L[i].s = s
set_option maxHeartbeats 1600000 in
set_option maxRecDepth 100000 in
theorem refGet_any (c s : Int) (L : List Re) (v0 : Value) (w : World) (hL : IsR w v0 L) :
    Calls Tryd.prog 11 #[v0, .agg #[.int .i64 c, .int .i64 s]] w fun e w' => (∃ r, e = .returned (.int .i64 r) ∧ IdxAt c s L r) ∧ Below w.heap.size w w' := by
  have hb0 := (Below.refl w.heap.size w).alloc (Nat.le_refl _) (.cells #[.int .i64 c, .int .i64 s] 38)
  have H0 := Lib.hid (And.intro hb0 (Blk.start w [.int .i64 c, .int .i64 s] 38))
  have HL := Lib.hid hL
  obtain ⟨a, cap, rfl, hc1, hc2⟩ := hL.form
  clear hL hb0
  go_enter Tryd.func11, Tryd.ntmps11
  go_wp2_with fail
  go_loopg [5] L.length (fun g ti wr => ∃ k : Nat, k ≤ L.length ∧ g = L.length - k ∧ ti = .int .i64 (k : Int) ∧ (∀ x ∈ L.take k, ¬ (x.c = c ∧ x.s = s)) ∧ Below w.heap.size w wr ∧ Blk wr w.heap.size [.int .i64 c, .int .i64 s] 38)
  case atStart => exact ⟨0, Nat.zero_le _, rfl, rfl, fun x hx => by simp at hx, H0.out.1, H0.out.2⟩
  case round =>
    obtain ⟨k, hk, rfl, rfl, hno, hb, hB⟩ := hrel
    clear H0
    have HN := Lib.hid hno
    clear hno
    by_cases hlt : k < L.length
    · have HX := Lib.hid (fun (W : World) (hb : Below w.heap.size w W) => (HL.out.next hb).cell k hlt)
      obtain ⟨g, rfl, hg, -⟩ := HL.out.cell k hlt
      have hxx : L[k] = L[k] := rfl
      have htk : L.take (k + 1) = L.take k ++ [L[k]] := by rw [List.take_add_one, List.getElem?_eq_getElem hlt]; rfl
      have HT := Lib.hid htk
      have HI := Lib.hid (fun (h : L[k].c = c ∧ L[k].s = s) => show IdxAt c s L (k : Int) from .inr ⟨k, hlt, rfl, h⟩)
      generalize L[k] = x at *
      have HC := Lib.hid (fun (W : World) (hb : Below w.heap.size w W) => show W.cell? ⟨g, k * 6, none⟩ = some (.int .i64 x.c) ∧ W.cell? ⟨g, k * 6 + 1, none⟩ = some (.int .i64 x.s) from by
        obtain ⟨g', e, -, hj⟩ := HX.out W hb
        cases e
        exact ⟨hj 0 (by omega), hj 1 (by omega)⟩)
      clear HX hxx htk
      have HS := Lib.hid (And.intro hb hB)
      clear hb hB
      by_cases hc : x.c = c
      · by_cases hs : x.s = s
        · have hcb : (x.c == c) = true := by simpa using hc
          have hsb : (x.s == s) = true := by simpa using hs
          have hcs := Lib.hid (And.intro hc hs)
          clear hc hs
          go_wp2_with fail
          refine wp_region_noPanic ?_
          refine wp_region_held_drew (S := (fun W => W.cell? ⟨g, k * 6, none⟩ = some (.int .i64 x.c) ∧ W.cell? ⟨g, k * 6 + 1, none⟩ = some (.int .i64 x.s) ∧ W.cell? ⟨w.heap.size, 0, none⟩ = some (.int .i64 c) ∧ W.cell? ⟨w.heap.size, 1, none⟩ = some (.int .i64 s) ∧ Below w.heap.size w W ∧ Blk W w.heap.size [.int .i64 c, .int .i64 s] 38)) (by kernel_rfl) ?_ (fun hHeld => ?_)
          · exact (let h := HS.out.1.drew; let c := HC.out _ h; ⟨c.1, c.2, (HS.out.2.drew).cell 0 rfl, (HS.out.2.drew).cell 1 rfl, h, HS.out.2.drew⟩)
          clear HS
          refine take1 (i := 0) (v := .slice (some ⟨g, 0, none⟩) L.length cap) rfl (by kernel_rfl) (by kernel_rfl) (by kernel_rfl) (fun _ _ _ h => h) (Or.inl ⟨by rfl, fun w hSw => ?_⟩) hHeld ?_
          · (go_simp)
          try simp only [Act.put, List.setIfInBounds_toArray, List.set_cons_zero, List.set_cons_succ]
          refine take1 (i := 1) (v := .int .i64 (k : Int)) rfl (by kernel_rfl) (by kernel_rfl) (by kernel_rfl) (fun _ _ _ h => h) (Or.inl ⟨by rfl, fun w hSw => ?_⟩) hHeld ?_
          · (go_simp)
          try simp only [Act.put, List.setIfInBounds_toArray, List.set_cons_zero, List.set_cons_succ]
          refine take1 (i := 2) (v := .pointer (some ⟨g, k * 6, none⟩)) rfl (by kernel_rfl) (by kernel_rfl) (by kernel_rfl) (fun _ _ _ h => h) (Or.inl ⟨by rfl, fun w hSw => ?_⟩) hHeld ?_
          · (go_simp)
          try simp only [Act.put, List.setIfInBounds_toArray, List.set_cons_zero, List.set_cons_succ]
          refine take1 (i := 3) (v := .pointer (some ⟨g, k * 6, none⟩)) rfl (by kernel_rfl) (by kernel_rfl) (by kernel_rfl) (fun _ _ _ h => h) (Or.inl ⟨by rfl, fun w hSw => ?_⟩) hHeld ?_
          · (go_simp)
          try simp only [Act.put, List.setIfInBounds_toArray, List.set_cons_zero, List.set_cons_succ]
          refine take1 (i := 4) (v := .agg #[.int .i64 x.c, .int .i64 x.s]) rfl (by kernel_rfl) (by kernel_rfl) (by kernel_rfl) (fun _ _ _ h => h) (Or.inl ⟨by rfl, fun w hSw => ?_⟩) hHeld ?_
          · (go_simp)
          try simp only [Act.put, List.setIfInBounds_toArray, List.set_cons_zero, List.set_cons_succ]
          refine take1 (i := 5) (v := .agg #[.int .i64 c, .int .i64 s]) rfl (by kernel_rfl) (by kernel_rfl) (by kernel_rfl) (fun _ _ _ h => h) (Or.inl ⟨by rfl, fun w hSw => ?_⟩) hHeld ?_
          · (go_simp)
          try simp only [Act.put, List.setIfInBounds_toArray, List.set_cons_zero, List.set_cons_succ]
          refine take1 (i := 6) (v := .bool true) rfl (by kernel_rfl) (by kernel_rfl) (by kernel_rfl) (fun _ _ _ h => h) (Or.inl ⟨by rfl, fun w hSw => ?_⟩) hHeld ?_
          · (go_simp)
          try simp only [Act.put, List.setIfInBounds_toArray, List.set_cons_zero, List.set_cons_succ]
          refine wpAnyH_done (by kernel_rfl) ?_ _
          refine NoPanic.normal ?_
          have HS := Lib.hid hHeld.2.2.2.2
          clear hHeld
          go_wp2_with fail
          go_ret
          exact ⟨⟨_, rfl, HI.out hcs.out⟩, HS.out.1⟩
        · have hcb : (x.c == c) = true := by simpa using hc
          have hsb : (x.s == s) = false := by simpa using hs
          have hcs := Lib.hid (show ¬ (x.c = c ∧ x.s = s) from fun h => hs h.2)
          clear hc hs
          go_wp2_with fail
          refine wp_region_noPanic ?_
          refine wp_region_held_drew (S := (fun W => W.cell? ⟨g, k * 6, none⟩ = some (.int .i64 x.c) ∧ W.cell? ⟨g, k * 6 + 1, none⟩ = some (.int .i64 x.s) ∧ W.cell? ⟨w.heap.size, 0, none⟩ = some (.int .i64 c) ∧ W.cell? ⟨w.heap.size, 1, none⟩ = some (.int .i64 s) ∧ Below w.heap.size w W ∧ Blk W w.heap.size [.int .i64 c, .int .i64 s] 38)) (by kernel_rfl) ?_ (fun hHeld => ?_)
          · exact (let h := HS.out.1.drew; let c := HC.out _ h; ⟨c.1, c.2, (HS.out.2.drew).cell 0 rfl, (HS.out.2.drew).cell 1 rfl, h, HS.out.2.drew⟩)
          clear HS
          refine take1 (i := 0) (v := .slice (some ⟨g, 0, none⟩) L.length cap) rfl (by kernel_rfl) (by kernel_rfl) (by kernel_rfl) (fun _ _ _ h => h) (Or.inl ⟨by rfl, fun w hSw => ?_⟩) hHeld ?_
          · (go_simp)
          try simp only [Act.put, List.setIfInBounds_toArray, List.set_cons_zero, List.set_cons_succ]
          refine take1 (i := 1) (v := .int .i64 (k : Int)) rfl (by kernel_rfl) (by kernel_rfl) (by kernel_rfl) (fun _ _ _ h => h) (Or.inl ⟨by rfl, fun w hSw => ?_⟩) hHeld ?_
          · (go_simp)
          try simp only [Act.put, List.setIfInBounds_toArray, List.set_cons_zero, List.set_cons_succ]
          refine take1 (i := 2) (v := .pointer (some ⟨g, k * 6, none⟩)) rfl (by kernel_rfl) (by kernel_rfl) (by kernel_rfl) (fun _ _ _ h => h) (Or.inl ⟨by rfl, fun w hSw => ?_⟩) hHeld ?_
          · (go_simp)
          try simp only [Act.put, List.setIfInBounds_toArray, List.set_cons_zero, List.set_cons_succ]
          refine take1 (i := 3) (v := .pointer (some ⟨g, k * 6, none⟩)) rfl (by kernel_rfl) (by kernel_rfl) (by kernel_rfl) (fun _ _ _ h => h) (Or.inl ⟨by rfl, fun w hSw => ?_⟩) hHeld ?_
          · (go_simp)
          try simp only [Act.put, List.setIfInBounds_toArray, List.set_cons_zero, List.set_cons_succ]
          refine take1 (i := 4) (v := .agg #[.int .i64 x.c, .int .i64 x.s]) rfl (by kernel_rfl) (by kernel_rfl) (by kernel_rfl) (fun _ _ _ h => h) (Or.inl ⟨by rfl, fun w hSw => ?_⟩) hHeld ?_
          · (go_simp)
          try simp only [Act.put, List.setIfInBounds_toArray, List.set_cons_zero, List.set_cons_succ]
          refine take1 (i := 5) (v := .agg #[.int .i64 c, .int .i64 s]) rfl (by kernel_rfl) (by kernel_rfl) (by kernel_rfl) (fun _ _ _ h => h) (Or.inl ⟨by rfl, fun w hSw => ?_⟩) hHeld ?_
          · (go_simp)
          try simp only [Act.put, List.setIfInBounds_toArray, List.set_cons_zero, List.set_cons_succ]
          refine take1 (i := 6) (v := .bool false) rfl (by kernel_rfl) (by kernel_rfl) (by kernel_rfl) (fun _ _ _ h => h) (Or.inl ⟨by rfl, fun w hSw => ?_⟩) hHeld ?_
          · (go_simp)
          try simp only [Act.put, List.setIfInBounds_toArray, List.set_cons_zero, List.set_cons_succ]
          refine wpAnyH_done (by kernel_rfl) ?_ _
          refine NoPanic.normal ?_
          have HS := Lib.hid hHeld.2.2.2.2
          clear hHeld
          go_wp2_with fail
          go_roundg (L.length - (k + 1))
          case measure => omega
          case rel => exact ⟨k + 1, by omega, rfl, by go_num, fun y hy => by rw [HT.out] at hy; rcases List.mem_append.1 hy with h | h; exact HN.out y h; rw [List.mem_singleton.1 h]; exact hcs.out, HS.out.1, HS.out.2⟩
      · have hcb : (x.c == c) = false := by simpa using hc
        have hcs := Lib.hid (show ¬ (x.c = c ∧ x.s = s) from fun h => hc h.1)
        clear hc
        go_wp2_with fail
        refine wp_region_noPanic ?_
        refine wp_region_held_drew (S := (fun W => W.cell? ⟨g, k * 6, none⟩ = some (.int .i64 x.c) ∧ W.cell? ⟨g, k * 6 + 1, none⟩ = some (.int .i64 x.s) ∧ W.cell? ⟨w.heap.size, 0, none⟩ = some (.int .i64 c) ∧ W.cell? ⟨w.heap.size, 1, none⟩ = some (.int .i64 s) ∧ Below w.heap.size w W ∧ Blk W w.heap.size [.int .i64 c, .int .i64 s] 38)) (by kernel_rfl) ?_ (fun hHeld => ?_)
        · exact (let h := HS.out.1.drew; let c := HC.out _ h; ⟨c.1, c.2, (HS.out.2.drew).cell 0 rfl, (HS.out.2.drew).cell 1 rfl, h, HS.out.2.drew⟩)
        clear HS
        refine take1 (i := 0) (v := .slice (some ⟨g, 0, none⟩) L.length cap) rfl (by kernel_rfl) (by kernel_rfl) (by kernel_rfl) (fun _ _ _ h => h) (Or.inl ⟨by rfl, fun w hSw => ?_⟩) hHeld ?_
        · (go_simp)
        try simp only [Act.put, List.setIfInBounds_toArray, List.set_cons_zero, List.set_cons_succ]
        refine take1 (i := 1) (v := .int .i64 (k : Int)) rfl (by kernel_rfl) (by kernel_rfl) (by kernel_rfl) (fun _ _ _ h => h) (Or.inl ⟨by rfl, fun w hSw => ?_⟩) hHeld ?_
        · (go_simp)
        try simp only [Act.put, List.setIfInBounds_toArray, List.set_cons_zero, List.set_cons_succ]
        refine take1 (i := 2) (v := .pointer (some ⟨g, k * 6, none⟩)) rfl (by kernel_rfl) (by kernel_rfl) (by kernel_rfl) (fun _ _ _ h => h) (Or.inl ⟨by rfl, fun w hSw => ?_⟩) hHeld ?_
        · (go_simp)
        try simp only [Act.put, List.setIfInBounds_toArray, List.set_cons_zero, List.set_cons_succ]
        refine take1 (i := 3) (v := .pointer (some ⟨g, k * 6, none⟩)) rfl (by kernel_rfl) (by kernel_rfl) (by kernel_rfl) (fun _ _ _ h => h) (Or.inl ⟨by rfl, fun w hSw => ?_⟩) hHeld ?_
        · (go_simp)
        try simp only [Act.put, List.setIfInBounds_toArray, List.set_cons_zero, List.set_cons_succ]
        refine take1 (i := 4) (v := .agg #[.int .i64 x.c, .int .i64 x.s]) rfl (by kernel_rfl) (by kernel_rfl) (by kernel_rfl) (fun _ _ _ h => h) (Or.inl ⟨by rfl, fun w hSw => ?_⟩) hHeld ?_
        · (go_simp)
        try simp only [Act.put, List.setIfInBounds_toArray, List.set_cons_zero, List.set_cons_succ]
        refine take1 (i := 5) (v := .agg #[.int .i64 c, .int .i64 s]) rfl (by kernel_rfl) (by kernel_rfl) (by kernel_rfl) (fun _ _ _ h => h) (Or.inl ⟨by rfl, fun w hSw => ?_⟩) hHeld ?_
        · (go_simp)
        try simp only [Act.put, List.setIfInBounds_toArray, List.set_cons_zero, List.set_cons_succ]
        refine take1 (i := 6) (v := .bool false) rfl (by kernel_rfl) (by kernel_rfl) (by kernel_rfl) (fun _ _ _ h => h) (Or.inl ⟨by rfl, fun w hSw => ?_⟩) hHeld ?_
        · (go_simp)
        try simp only [Act.put, List.setIfInBounds_toArray, List.set_cons_zero, List.set_cons_succ]
        refine wpAnyH_done (by kernel_rfl) ?_ _
        refine NoPanic.normal ?_
        have HS := Lib.hid hHeld.2.2.2.2
        clear hHeld
        go_wp2_with fail
        go_roundg (L.length - (k + 1))
        case measure => omega
        case rel => exact ⟨k + 1, by omega, rfl, by go_num, fun y hy => by rw [HT.out] at hy; rcases List.mem_append.1 hy with h | h; exact HN.out y h; rw [List.mem_singleton.1 h]; exact hcs.out, HS.out.1, HS.out.2⟩
    · obtain rfl : k = L.length := by omega
      go_wp2_with fail
      go_ret
      exact ⟨⟨_, rfl, .inl ⟨rfl, fun x hx => HN.out x (by rw [List.take_length]; exact hx)⟩⟩, hb⟩
end Go.Proofs.YtkhggojghjociaaDoor
