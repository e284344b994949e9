/-
  The contract of a row's Select at a place that there is.
-/
import Derived.Test.YtjfffnnkkjceoaaDoorRow
import Derived.Deep.LoopGhost
namespace Go.Proofs.YtjfffnnkkjceoaaDoor
open Go Go.Proofs Go.RowKit

/-- The place of the k-th that is alive. -/
def selT : Tr → Int → Nat
  | .nil, _ => 0
  | .node l x r, k => if k < l.alive then selT l k else if k = l.alive ∧ x.d = false then l.size else l.size + 1 + selT r (k - (l.alive + x.al))
theorem selT_1 {l r : Tr} (x : El) {k : Int} (h : k < l.alive) : selT (.node l x r) k = selT l k := by simp only [selT]; rw [if_pos h]
theorem selT_2 {l r : Tr} (x : El) {k : Int} (h : k = l.alive) (hd : x.d = false) : selT (.node l x r) k = l.size := by simp only [selT]; rw [if_neg (by omega), if_pos ⟨h, hd⟩]
theorem selT_3 {l r : Tr} (x : El) {k : Int} (h : ¬ k < l.alive) (hd : ¬ (k = l.alive ∧ x.d = false)) : selT (.node l x r) k = l.size + 1 + selT r (k - (l.alive + x.al)) := by simp only [selT]; rw [if_neg h, if_neg hd]
/-- Where Select stands. -/
def SelAt (w : World) (T : Tr) (k : Int) (T' : Tr) (q : Option Addr) (k' at' : Int) (wr : World) : Prop :=
  Is wr q T' ∧ Below w.heap.size w wr ∧ at' + selT T' k' = selT T k ∧ 0 ≤ at' ∧ at' + T'.size ≤ 800 ∧ 0 ≤ k' ∧ k' < T'.alive

set_option maxHeartbeats 3200000 in
theorem select_any {p : Option Addr} {T : Tr} (k : Int) (w : World) (h : Is w p T) (hs : T.size ≤ 800) (hk0 : 0 ≤ k) (hk1 : k < T.alive) :
    Calls Tryd.prog 11 #[.agg #[.pointer p], .int .i64 k] w fun e w' => e = .returned (.tuple #[.int .i64 (selT T k : Int), .bool true]) ∧ Below w.heap.size w w' := by
  have hb0 := (Below.refl w.heap.size w).alloc (Nat.le_refl _) (.cells #[.pointer p] 26)
  have H0 := Lib.hid (And.intro (h.next hb0) (And.intro hb0 (Blk.start w [.pointer p] 26)))
  have hk0' : ¬ k < 0 := by omega
  clear h hb0
  go_enter Tryd.func11, Tryd.ntmps11
  go_wp2_with (go_at_call 8; refine (aliveRow_any _ H0.out.1).mono ?_; rintro e w0 ⟨rfl, hb1⟩; refine Hid.out ?_)
  have hc0 := (H0.out.2.2.next hb1).cell 0 rfl
  have H1 := Lib.hid (And.intro (H0.out.1.next hb1) (H0.out.2.1.trans (hb1.mono H0.out.2.1.size)))
  clear H0 hb1
  refine Lib.hid ?_
  go_wp2_with fail
  clear hc0
  go_loopg [1, 6, 7] T.size (fun g tk ta tn wr => ∃ (T' : Tr) (q : Option Addr) (k' at' : Int), g = T'.size ∧ tk = .int .i64 k' ∧ ta = .int .i64 at' ∧ tn = .pointer q ∧ SelAt w T k T' q k' at' wr)
  case atStart => exact ⟨T, p, k, 0, rfl, rfl, rfl, rfl, H1.out.1, H1.out.2, by omega, by omega, by omega, hk0, hk1⟩
  case round =>
    obtain ⟨T', q, k', at', rfl, rfl, rfl, rfl, hR⟩ := hrel
    clear H1 hs hk0 hk1 hk0'
    obtain ⟨hT, hbel, hsum, hat0, hat1, hk0, hk1⟩ := hR
    cases T' with
    | nil => exact absurd hk1 (by simp only [Tr.alive]; omega)
    | node l x r =>
      have hlr : at' + (l.size + 1 + r.size) ≤ 800 := by simp only [Tr.size] at hat1; omega
      have hal : k' < l.alive + x.al + r.alive := by simp only [Tr.alive] at hk1; omega
      have la := l.alive_le
      have ra := r.alive_le
      have xa := x.al_le
      have fs0 := fieldS0
      obtain ⟨b, pl, pr, rfl, -, hB, hl, hr⟩ := hT
      have HB := Lib.hid (And.intro hB (And.intro hl (And.intro hr hbel)))
      have c0 := hB.cell 0 rfl
      clear hB hl hr hbel hat1 hk1
      go_wp2_with (go_at_call 20; refine (total_any _ HB.out.2.1).mono ?_; rintro e w1 ⟨rfl, hb1⟩; refine Hid.out ?_)
      have hb2 := hb1.alloc hb1.size (.cells #[.int .i64 (l.size : Int), .int .i64 (l.alive : Int), .int .i64 (l.depth : Int)] 58)
      have hz0 := (Blk.start w1 [.int .i64 (l.size : Int), .int .i64 (l.alive : Int), .int .i64 (l.depth : Int)] 58).cell 0 rfl
      have hz1 := (Blk.start w1 [.int .i64 (l.size : Int), .int .i64 (l.alive : Int), .int .i64 (l.depth : Int)] 58).cell 1 rfl
      have d0 := (HB.out.1.next hb2).cell 0 rfl
      have d4 := (HB.out.1.next hb2).cell 4 rfl
      have HB2 := Lib.hid (And.intro (HB.out.2.2.2.trans (hb2.mono HB.out.2.2.2.size)) (And.intro (HB.out.2.1.next hb2) (And.intro (HB.out.2.2.1.next hb2) (And.intro (HB.out.1.next hb2) (Blk.start w1 [.int .i64 (l.size : Int), .int .i64 (l.alive : Int), .int .i64 (l.depth : Int)] 58)))))
      clear hb1 hb2 HB c0
      by_cases hc : k' < (l.alive : Int)
      · have HSum := Lib.hid ((selT_1 (r := r) x hc) ▸ hsum)
        clear hsum
        refine Lib.hid ?_
        go_wp2_with fail
        go_roundg l.size
        case measure => simp only [Tr.size]; omega
        case rel => exact ⟨l, pl, k', at', rfl, rfl, rfl, rfl, HB2.out.2.1, HB2.out.1, HSum.out, hat0, by omega, hk0, hc⟩
      · by_cases hc2 : k' = (l.alive : Int) ∧ x.d = false
        · obtain ⟨hc2, hd⟩ := hc2
          have HSum := Lib.hid ((selT_2 (r := r) x hc2 hd) ▸ hsum)
          clear hsum
          rw [hd] at d4
          have hq : (k' == (l.alive : Int)) = true := by simpa using hc2
          clear hc2 hd
          refine Lib.hid ?_
          go_wp2_with fail
          go_ret2
          exact ⟨by rw [← HSum.out]; rfl, HB2.out.1⟩
        · have HSum := Lib.hid ((selT_3 (r := r) x hc hc2) ▸ hsum)
          have hk2 : 0 ≤ k' - (l.alive + x.al) := by
            cases hd : x.d with
            | true => simp only [El.al, hd, if_true]; omega
            | false => have : k' ≠ l.alive := fun e => hc2 ⟨e, hd⟩
                       omega
          clear hsum
          have hq : (k' == (l.alive : Int)) = false ∨ ((k' == (l.alive : Int)) = true ∧ x.d = true) := by
            by_cases e : k' = (l.alive : Int)
            · refine Or.inr ⟨by simpa using e, ?_⟩
              cases hd : x.d with
              | true => rfl
              | false => exact absurd ⟨e, hd⟩ hc2
            · exact Or.inl (by simpa using e)
          clear hc2
          have s0 : IntKind.i64.wrap ((l.alive : Int) + x.al) = l.alive + x.al := IntWalk.i64_in _ (by omega)
          have s1 : IntKind.i64.wrap (k' - ((l.alive : Int) + x.al)) = k' - (l.alive + x.al) := IntWalk.i64_in _ (by omega)
          have HR := Lib.hid (show Pk (fun W => Below w.heap.size w W ∧ Is W pl l ∧ Is W pr r ∧ Blk W b [.pointer pl, .int .i64 x.c, .int .i64 x.s, .int .i32 x.ch, .bool x.d, .pointer pr, .int .i64 ((Tr.node l x r).size : Int), .int .i64 ((Tr.node l x r).alive : Int), .int .i64 ((Tr.node l x r).depth : Int)] 61 ∧ Blk W w1.heap.size [.int .i64 (l.size : Int), .int .i64 (l.alive : Int), .int .i64 (l.depth : Int)] 58) (w1.alloc (.cells #[.int .i64 (l.size : Int), .int .i64 (l.alive : Int), .int .i64 (l.depth : Int)] 58)) from HB2.out)
          have hKp := Lib.hid (show ∀ W W' : World, Below W.heap.size W W' → Pk (fun W => Below w.heap.size w W ∧ Is W pl l ∧ Is W pr r ∧ Blk W b [.pointer pl, .int .i64 x.c, .int .i64 x.s, .int .i32 x.ch, .bool x.d, .pointer pr, .int .i64 ((Tr.node l x r).size : Int), .int .i64 ((Tr.node l x r).alive : Int), .int .i64 ((Tr.node l x r).depth : Int)] 61 ∧ Blk W w1.heap.size [.int .i64 (l.size : Int), .int .i64 (l.alive : Int), .int .i64 (l.depth : Int)] 58) W → (fun W => W.cell? ⟨b, 0, none⟩ = some (.pointer pl) ∧ W.cell? ⟨b, 1, none⟩ = some (.int .i64 x.c) ∧ W.cell? ⟨b, 2, none⟩ = some (.int .i64 x.s) ∧ W.cell? ⟨b, 3, none⟩ = some (.int .i32 x.ch) ∧ W.cell? ⟨b, 4, none⟩ = some (.bool x.d) ∧ W.cell? ⟨b, 5, none⟩ = some (.pointer pr) ∧ W.cell? ⟨w1.heap.size, 0, none⟩ = some (.int .i64 (l.size : Int)) ∧ W.cell? ⟨w1.heap.size, 1, none⟩ = some (.int .i64 (l.alive : Int)) ∧ W.cell? ⟨w1.heap.size, 2, none⟩ = some (.int .i64 (l.depth : Int)) ∧ Pk (fun W => Below w.heap.size w W ∧ Is W pl l ∧ Is W pr r ∧ Blk W b [.pointer pl, .int .i64 x.c, .int .i64 x.s, .int .i32 x.ch, .bool x.d, .pointer pr, .int .i64 ((Tr.node l x r).size : Int), .int .i64 ((Tr.node l x r).alive : Int), .int .i64 ((Tr.node l x r).depth : Int)] 61 ∧ Blk W w1.heap.size [.int .i64 (l.size : Int), .int .i64 (l.alive : Int), .int .i64 (l.depth : Int)] 58) W) W' from fun W W' hb h => ⟨(h.2.2.2.1.next hb).cell 0 rfl, (h.2.2.2.1.next hb).cell 1 rfl, (h.2.2.2.1.next hb).cell 2 rfl, (h.2.2.2.1.next hb).cell 3 rfl, (h.2.2.2.1.next hb).cell 4 rfl, (h.2.2.2.1.next hb).cell 5 rfl, (h.2.2.2.2.next hb).cell 0 rfl, (h.2.2.2.2.next hb).cell 1 rfl, (h.2.2.2.2.next hb).cell 2 rfl, ⟨h.1.trans (hb.mono h.1.size), h.2.1.next hb, h.2.2.1.next hb, h.2.2.2.1.next hb, h.2.2.2.2.next hb⟩⟩)
          clear HB2
          have HQ := Lib.hid hq
          clear hq
          rcases HQ.out with hq | ⟨hq, hd⟩
          · clear HQ
            refine Lib.hid ?_
            go_wp2_with fail
            clear hq d0 d4 hz0 hz1
            generalize hW0 : w1.alloc (.cells #[.int .i64 (l.size : Int), .int .i64 (l.alive : Int), .int .i64 (l.depth : Int)] 58) = W0 at *
            clear hW0
            refine wp_region_noPanic ?_
            refine wp_region_held_drew (S := (fun W => W.cell? ⟨b, 0, none⟩ = some (.pointer pl) ∧ W.cell? ⟨b, 1, none⟩ = some (.int .i64 x.c) ∧ W.cell? ⟨b, 2, none⟩ = some (.int .i64 x.s) ∧ W.cell? ⟨b, 3, none⟩ = some (.int .i32 x.ch) ∧ W.cell? ⟨b, 4, none⟩ = some (.bool x.d) ∧ W.cell? ⟨b, 5, none⟩ = some (.pointer pr) ∧ W.cell? ⟨w1.heap.size, 0, none⟩ = some (.int .i64 (l.size : Int)) ∧ W.cell? ⟨w1.heap.size, 1, none⟩ = some (.int .i64 (l.alive : Int)) ∧ W.cell? ⟨w1.heap.size, 2, none⟩ = some (.int .i64 (l.depth : Int)) ∧ Pk (fun W => Below w.heap.size w W ∧ Is W pl l ∧ Is W pr r ∧ Blk W b [.pointer pl, .int .i64 x.c, .int .i64 x.s, .int .i32 x.ch, .bool x.d, .pointer pr, .int .i64 ((Tr.node l x r).size : Int), .int .i64 ((Tr.node l x r).alive : Int), .int .i64 ((Tr.node l x r).depth : Int)] 61 ∧ Blk W w1.heap.size [.int .i64 (l.size : Int), .int .i64 (l.alive : Int), .int .i64 (l.depth : Int)] 58) W)) (by kernel_rfl) ?_ (fun hHeld => ?_)
            · exact hKp.out _ _ (Below.refl _ _).drew HR.out
            clear HR
            refine take1 (i := 0) (v := .int .i64 k') rfl (by kernel_rfl) (by kernel_rfl) (by kernel_rfl) (fun _ _ _ h => h) (Or.inl ⟨by rfl, fun w hSw => ?_⟩) hHeld ?_
            · (go_simp)
            try simp only [Act.put, List.setIfInBounds_toArray, List.set_cons_zero, List.set_cons_succ]
            refine take1 (i := 1) (v := .pointer (some ⟨w1.heap.size, 1, none⟩)) rfl (by kernel_rfl) (by kernel_rfl) (by kernel_rfl) (fun _ _ _ h => h) (Or.inl ⟨by rfl, fun w hSw => ?_⟩) hHeld ?_
            · (go_simp)
            try simp only [Act.put, List.setIfInBounds_toArray, List.set_cons_zero, List.set_cons_succ]
            refine take1 (i := 2) (v := .int .i64 ((l.alive : Int))) rfl (by kernel_rfl) (by kernel_rfl) (by kernel_rfl) (fun _ _ _ h => h) (Or.inl ⟨by rfl, fun w hSw => ?_⟩) hHeld ?_
            · (go_simp)
            try simp only [Act.put, List.setIfInBounds_toArray, List.set_cons_zero, List.set_cons_succ]
            refine take1 (i := 3) (v := .pointer (some ⟨b, 0, none⟩)) rfl (by kernel_rfl) (by kernel_rfl) (by kernel_rfl) (fun _ _ _ h => h) (Or.inl ⟨by rfl, fun w hSw => ?_⟩) hHeld ?_
            · (go_simp)
            try simp only [Act.put, List.setIfInBounds_toArray, List.set_cons_zero, List.set_cons_succ]
            refine take1 (i := 4) (v := .pointer (some ⟨b, 0, none⟩)) rfl (by kernel_rfl) (by kernel_rfl) (by kernel_rfl) (fun _ _ _ h => h) (Or.inl ⟨by rfl, fun w hSw => ?_⟩) hHeld ?_
            · (go_simp)
            try simp only [Act.put, List.setIfInBounds_toArray, List.set_cons_zero, List.set_cons_succ]
            refine take1 (i := 5) (v := .pointer (some ⟨b, 1, none⟩)) rfl (by kernel_rfl) (by kernel_rfl) (by kernel_rfl) (fun _ _ _ h => h) (Or.inl ⟨by rfl, fun w hSw => ?_⟩) hHeld ?_
            · (go_simp)
            try simp only [Act.put, List.setIfInBounds_toArray, List.set_cons_zero, List.set_cons_succ]
            refine take1 (i := 6) (v := .agg #[.int .i64 x.c, .int .i64 x.s, .int .i32 x.ch, .bool x.d]) rfl (by kernel_rfl) (by kernel_rfl) (by kernel_rfl) (fun _ _ _ h => h) (Or.inl ⟨by rfl, fun w hSw => ?_⟩) hHeld ?_
            · (go_simp)
            try simp only [Act.put, List.setIfInBounds_toArray, List.set_cons_zero, List.set_cons_succ]
            refine wpAnyH_ready (rs := [7]) (by kernel_rfl) (by simp) ?_
            refine cons1 rfl (fun K hK => ?_) AllReadyH.nil
            go_simp
            refine (alive_any x _).mono ?_
            rintro e u2 ⟨rfl, hb⟩
            go_wp2_with fail
            refine hK.out _ _ (hKp.out _ _ hb hHeld.2.2.2.2.2.2.2.2.2) (fun hHeld2 => ?_)
            clear hK K hHeld hb
            have hHeld := hHeld2
            clear hHeld2
            try simp only [Act.put, List.setIfInBounds_toArray, List.set_cons_zero, List.set_cons_succ]
            refine take1 (i := 8) (v := .int .i64 ((l.alive : Int) + x.al)) rfl (by kernel_rfl) (by kernel_rfl) (by kernel_rfl) (fun _ _ _ h => h) (Or.inl ⟨by rfl, fun w hSw => ?_⟩) hHeld ?_
            · (go_simp)
            try simp only [Act.put, List.setIfInBounds_toArray, List.set_cons_zero, List.set_cons_succ]
            refine take1 (i := 9) (v := .int .i64 (k' - ((l.alive : Int) + x.al))) rfl (by kernel_rfl) (by kernel_rfl) (by kernel_rfl) (fun _ _ _ h => h) (Or.inl ⟨by rfl, fun w hSw => ?_⟩) hHeld ?_
            · (go_simp)
            try simp only [Act.put, List.setIfInBounds_toArray, List.set_cons_zero, List.set_cons_succ]
            refine take1 (i := 10) (v := .int .i64 (k' - ((l.alive : Int) + x.al))) rfl (by kernel_rfl) (by kernel_rfl) (by kernel_rfl) (fun _ _ _ h => h) (Or.inl ⟨by rfl, fun w hSw => ?_⟩) hHeld ?_
            · (go_simp)
            try simp only [Act.put, List.setIfInBounds_toArray, List.set_cons_zero, List.set_cons_succ]
            refine wpAnyH_done (by kernel_rfl) ?_ _
            refine NoPanic.normal ?_
            have HR := Lib.hid hHeld.2.2.2.2.2.2.2.2.2
            clear hHeld
            have d5 := (HR.out.2.2.2.1).cell 5 rfl
            clear s0 s1
            go_wp2_with fail
            go_roundg r.size
            case measure => simp only [Tr.size]; omega
            case rel => exact ⟨r, pr, k' - (l.alive + x.al), at' + (l.size + 1), rfl, rfl, rfl, rfl, HR.out.2.2.1, HR.out.1, by have := HSum.out; omega, by omega, by omega, hk2, by omega⟩
          · clear HQ
            rw [hd] at d4
            clear hd
            refine Lib.hid ?_
            go_wp2_with fail
            clear hq d0 d4 hz0 hz1
            generalize hW0 : w1.alloc (.cells #[.int .i64 (l.size : Int), .int .i64 (l.alive : Int), .int .i64 (l.depth : Int)] 58) = W0 at *
            clear hW0
            refine wp_region_noPanic ?_
            refine wp_region_held_drew (S := (fun W => W.cell? ⟨b, 0, none⟩ = some (.pointer pl) ∧ W.cell? ⟨b, 1, none⟩ = some (.int .i64 x.c) ∧ W.cell? ⟨b, 2, none⟩ = some (.int .i64 x.s) ∧ W.cell? ⟨b, 3, none⟩ = some (.int .i32 x.ch) ∧ W.cell? ⟨b, 4, none⟩ = some (.bool x.d) ∧ W.cell? ⟨b, 5, none⟩ = some (.pointer pr) ∧ W.cell? ⟨w1.heap.size, 0, none⟩ = some (.int .i64 (l.size : Int)) ∧ W.cell? ⟨w1.heap.size, 1, none⟩ = some (.int .i64 (l.alive : Int)) ∧ W.cell? ⟨w1.heap.size, 2, none⟩ = some (.int .i64 (l.depth : Int)) ∧ Pk (fun W => Below w.heap.size w W ∧ Is W pl l ∧ Is W pr r ∧ Blk W b [.pointer pl, .int .i64 x.c, .int .i64 x.s, .int .i32 x.ch, .bool x.d, .pointer pr, .int .i64 ((Tr.node l x r).size : Int), .int .i64 ((Tr.node l x r).alive : Int), .int .i64 ((Tr.node l x r).depth : Int)] 61 ∧ Blk W w1.heap.size [.int .i64 (l.size : Int), .int .i64 (l.alive : Int), .int .i64 (l.depth : Int)] 58) W)) (by kernel_rfl) ?_ (fun hHeld => ?_)
            · exact hKp.out _ _ (Below.refl _ _).drew HR.out
            clear HR
            refine take1 (i := 0) (v := .int .i64 k') rfl (by kernel_rfl) (by kernel_rfl) (by kernel_rfl) (fun _ _ _ h => h) (Or.inl ⟨by rfl, fun w hSw => ?_⟩) hHeld ?_
            · (go_simp)
            try simp only [Act.put, List.setIfInBounds_toArray, List.set_cons_zero, List.set_cons_succ]
            refine take1 (i := 1) (v := .pointer (some ⟨w1.heap.size, 1, none⟩)) rfl (by kernel_rfl) (by kernel_rfl) (by kernel_rfl) (fun _ _ _ h => h) (Or.inl ⟨by rfl, fun w hSw => ?_⟩) hHeld ?_
            · (go_simp)
            try simp only [Act.put, List.setIfInBounds_toArray, List.set_cons_zero, List.set_cons_succ]
            refine take1 (i := 2) (v := .int .i64 ((l.alive : Int))) rfl (by kernel_rfl) (by kernel_rfl) (by kernel_rfl) (fun _ _ _ h => h) (Or.inl ⟨by rfl, fun w hSw => ?_⟩) hHeld ?_
            · (go_simp)
            try simp only [Act.put, List.setIfInBounds_toArray, List.set_cons_zero, List.set_cons_succ]
            refine take1 (i := 3) (v := .pointer (some ⟨b, 0, none⟩)) rfl (by kernel_rfl) (by kernel_rfl) (by kernel_rfl) (fun _ _ _ h => h) (Or.inl ⟨by rfl, fun w hSw => ?_⟩) hHeld ?_
            · (go_simp)
            try simp only [Act.put, List.setIfInBounds_toArray, List.set_cons_zero, List.set_cons_succ]
            refine take1 (i := 4) (v := .pointer (some ⟨b, 0, none⟩)) rfl (by kernel_rfl) (by kernel_rfl) (by kernel_rfl) (fun _ _ _ h => h) (Or.inl ⟨by rfl, fun w hSw => ?_⟩) hHeld ?_
            · (go_simp)
            try simp only [Act.put, List.setIfInBounds_toArray, List.set_cons_zero, List.set_cons_succ]
            refine take1 (i := 5) (v := .pointer (some ⟨b, 1, none⟩)) rfl (by kernel_rfl) (by kernel_rfl) (by kernel_rfl) (fun _ _ _ h => h) (Or.inl ⟨by rfl, fun w hSw => ?_⟩) hHeld ?_
            · (go_simp)
            try simp only [Act.put, List.setIfInBounds_toArray, List.set_cons_zero, List.set_cons_succ]
            refine take1 (i := 6) (v := .agg #[.int .i64 x.c, .int .i64 x.s, .int .i32 x.ch, .bool x.d]) rfl (by kernel_rfl) (by kernel_rfl) (by kernel_rfl) (fun _ _ _ h => h) (Or.inl ⟨by rfl, fun w hSw => ?_⟩) hHeld ?_
            · (go_simp)
            try simp only [Act.put, List.setIfInBounds_toArray, List.set_cons_zero, List.set_cons_succ]
            refine wpAnyH_ready (rs := [7]) (by kernel_rfl) (by simp) ?_
            refine cons1 rfl (fun K hK => ?_) AllReadyH.nil
            go_simp
            refine (alive_any x _).mono ?_
            rintro e u2 ⟨rfl, hb⟩
            go_wp2_with fail
            refine hK.out _ _ (hKp.out _ _ hb hHeld.2.2.2.2.2.2.2.2.2) (fun hHeld2 => ?_)
            clear hK K hHeld hb
            have hHeld := hHeld2
            clear hHeld2
            try simp only [Act.put, List.setIfInBounds_toArray, List.set_cons_zero, List.set_cons_succ]
            refine take1 (i := 8) (v := .int .i64 ((l.alive : Int) + x.al)) rfl (by kernel_rfl) (by kernel_rfl) (by kernel_rfl) (fun _ _ _ h => h) (Or.inl ⟨by rfl, fun w hSw => ?_⟩) hHeld ?_
            · (go_simp)
            try simp only [Act.put, List.setIfInBounds_toArray, List.set_cons_zero, List.set_cons_succ]
            refine take1 (i := 9) (v := .int .i64 (k' - ((l.alive : Int) + x.al))) rfl (by kernel_rfl) (by kernel_rfl) (by kernel_rfl) (fun _ _ _ h => h) (Or.inl ⟨by rfl, fun w hSw => ?_⟩) hHeld ?_
            · (go_simp)
            try simp only [Act.put, List.setIfInBounds_toArray, List.set_cons_zero, List.set_cons_succ]
            refine take1 (i := 10) (v := .int .i64 (k' - ((l.alive : Int) + x.al))) rfl (by kernel_rfl) (by kernel_rfl) (by kernel_rfl) (fun _ _ _ h => h) (Or.inl ⟨by rfl, fun w hSw => ?_⟩) hHeld ?_
            · (go_simp)
            try simp only [Act.put, List.setIfInBounds_toArray, List.set_cons_zero, List.set_cons_succ]
            refine wpAnyH_done (by kernel_rfl) ?_ _
            refine NoPanic.normal ?_
            have HR := Lib.hid hHeld.2.2.2.2.2.2.2.2.2
            clear hHeld
            have d5 := (HR.out.2.2.2.1).cell 5 rfl
            clear s0 s1
            go_wp2_with fail
            go_roundg r.size
            case measure => simp only [Tr.size]; omega
            case rel => exact ⟨r, pr, k' - (l.alive + x.al), at' + (l.size + 1), rfl, rfl, rfl, rfl, HR.out.2.2.1, HR.out.1, by have := HSum.out; omega, by omega, by omega, hk2, by omega⟩
end Go.Proofs.YtjfffnnkkjceoaaDoor
