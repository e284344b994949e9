/-
  The contract of the law's Awake of layer 3: it returns true. Nothing that existed has changed.
-/
import Derived.Test.YtjfffnnkkjceoaaDoorText
import Derived.Test.YtjfffnnkkjceoaaDoorRank
import Derived.Test.YtjfffnnkkjceoaaDoorSelect
import Derived.Test.YtjfffnnkkjceoaaDoorAwake
import Derived.Lib.OthersKept
namespace Go.Proofs.YtjfffnnkkjceoaaDoor
open Go Go.Proofs Go.RowKit

theorem IsT.iter {n : Nat} {W : World} {k : Nat} {s : ByteArray} {pos : Nat} (hk : W.heap[k]? = some (.stringIter s pos)) (pos' : Nat) : ∀ {p : Option Addr} {T : Tr}, IsT n W p T → IsT n (W.iterAt k s pos') p T
  | _, .nil, h => h
  | _, .node _ _ _, ⟨c, pl, pr, hp, hn, hC, hl, hr⟩ => ⟨c, pl, pr, hp, hn, by
      unfold Blk at hC ⊢
      rw [Lib.iterAt_other _ _ _ _ _ (fun e => by subst e; rw [hk] at hC; cases hC)]
      exact hC, IsT.iter hk pos' hl, IsT.iter hk pos' hr⟩
/-- The document's row. -/
def exA : El := ⟨1, 1, 97, false, by decide, by decide⟩
def exB : El := ⟨2, 1, 98, true, by decide, by decide⟩
def exC : El := ⟨3, 1, 99, false, by decide, by decide⟩
def exT : Nat → Tr
  | 0 => .nil
  | 1 => insTop .nil 0 exA
  | 2 => insTop (insTop .nil 0 exA) 1 exB
  | _ => insTop (insTop (insTop .nil 0 exA) 1 exB) 2 exC
theorem exT_3 : exT 3 = .node (.node .nil exA .nil) exB (.node .nil exC .nil) := by rfl
theorem exT_size (k : Nat) (h : k ≤ 3) : (exT k).size ≤ 3 := by
  match k, h with
  | 0, _ => exact Nat.zero_le _
  | 1, _ => decide
  | 2, _ => decide
  | 3, _ => decide
abbrev abcS : ByteArray := ⟨#[97, 98, 99]⟩
/-- Where the loop of Awake stands. -/
def AwAt (w : World) (k : Nat) (wr : World) : Prop :=
  ∃ q, Blk wr w.heap.size [.pointer q] 26 ∧ wr.heap[w.heap.size + 1]? = some (.stringIter abcS k) ∧ Is wr q (exT k) ∧ Below w.heap.size w wr
theorem aw_step {w wr W : World} {k : Nat} {q q' : Option Addr} (hB : Blk wr w.heap.size [.pointer q] 26) (hit : wr.heap[w.heap.size + 1]? = some (.stringIter abcS (k + 1))) (hbel : Below w.heap.size w wr)
    (hq : Is W q' (exT (k + 1))) (hb : Below wr.heap.size wr W) : AwAt w (k + 1) (W.setCell ⟨w.heap.size, 0, none⟩ (.pointer q')) := by
  have hB2 := hB.next hb
  refine ⟨q', hB2.set 0 _, ?_, Is.set hB2 (by decide) _ hq, (hbel.trans (hb.mono hbel.size)).setCell (p := ⟨w.heap.size, 0, none⟩) (Nat.le_refl _) _⟩
  rw [Below.heap_setCell _ _ _ _ (by show w.heap.size + 1 ≠ w.heap.size; omega), hb.block _ (Array.getElem?_eq_some_iff.1 hit).1]
  exact hit
theorem aw_iter {w wr : World} {k : Nat} {q : Option Addr} (hB : Blk wr w.heap.size [.pointer q] 26) (hit : wr.heap[w.heap.size + 1]? = some (.stringIter abcS k)) (hT : Is wr q (exT k)) (hbel : Below w.heap.size w wr) (k' : Nat) :
    Blk (wr.iterAt (w.heap.size + 1) abcS k') w.heap.size [.pointer q] 26 ∧ (wr.iterAt (w.heap.size + 1) abcS k').heap[w.heap.size + 1]? = some (.stringIter abcS k') ∧ Is (wr.iterAt (w.heap.size + 1) abcS k') q (exT k) ∧ Below w.heap.size w (wr.iterAt (w.heap.size + 1) abcS k') := by
  refine ⟨?_, Lib.iterAt_heap _ _ _ _ _ hit, (IsT.iter hit k' hT).is, Lib.below_iterAt hbel (by omega) _ _⟩
  unfold Blk at hB ⊢
  rw [Lib.iterAt_other _ _ _ _ _ (by omega)]
  exact hB

/-- What stands behind the loop. -/
structure AwS (w : World) (q : Option Addr) (W : World) : Prop where
  bl : Blk W w.heap.size [.pointer q] 26
  tr : Is W q (exT 3)
  bel : Below w.heap.size w W
theorem AwS.next {w W W' : World} {q : Option Addr} (h : AwS w q W) (hb : Below W.heap.size W W') : AwS w q W' := ⟨h.bl.next hb, h.tr.next hb, h.bel.trans (hb.mono h.bel.size)⟩
theorem select_ex {q : Option Addr} (w : World) (h : Is w q (exT 3)) :
    Calls Tryd.prog 11 #[.agg #[.pointer q], .int .i64 1] w fun e w' => e = .returned (.tuple #[.int .i64 2, .bool true]) ∧ Below w.heap.size w w' := select_any (T := exT 3) 1 w h (by decide) (by decide) (by decide)
theorem rank_ex {q : Option Addr} (w : World) (h : Is w q (exT 3)) :
    Calls Tryd.prog 13 #[.agg #[.pointer q], .int .i64 2] w fun e w' => e = .returned (.int .i64 1) ∧ Below w.heap.size w w' := rank_any (T := exT 3) 2 w h (by decide) (by decide)
theorem text_ex {q : Option Addr} (w : World) (h : Is w q (exT 3)) :
    Calls Tryd.prog 7 #[.agg #[.pointer q]] w fun e w' => e = .returned (.string ⟨#[97, 99]⟩) ∧ Below w.heap.size w w' := by
  have := text_any (T := exT 3) w h (by decide)
  rw [show (txtL (exT 3).els).toArray = #[97, 99] by decide +kernel] at this
  exact this

set_option maxHeartbeats 3200000 in
theorem awakeC_any (w : World) (ht : Tab w) :
    Calls Tryd.prog 4 #[] w fun e w' => e = .returned (.bool true) ∧ Below w.heap.size w w' := by
  have HTab := Lib.hid ht
  clear ht
  go_enter Tryd.func4, Tryd.ntmps4
  go_wp2
  go_loopg [] 3 (fun g wr => ∃ k : Nat, k ≤ 3 ∧ g = 3 - k ∧ AwAt w k wr)
  case atStart =>
    refine ⟨0, by omega, rfl, none, (Blk.start w _ _).next ((Below.refl _ _).alloc (Nat.le_refl _) _), ?_, rfl, ((Below.refl _ w).alloc (Nat.le_refl _) _).alloc (by simp) _⟩
    have := World.iter_heap (w.alloc (.cells #[.pointer none] 26)) abcS 0
    simpa using this
  case round =>
    obtain ⟨k, hk, rfl, q, hB, hit, hT, hbel⟩ := hrel
    match k, hk, hB, hit, hT, hbel with
    | 0, _, hB, hit, hT, hbel =>
      have hnx : ∀ ty, (Instr.next (.pointer (some ⟨w.heap.size + 1, 0, none⟩)) true ty).run Tryd.prog wr = .ok (.tuple #[.bool true, .int .i64 0, .int .i32 97]) (wr.iterAt (w.heap.size + 1) abcS 1) := fun ty => Lib.run_next_ascii_at wr (w.heap.size + 1) abcS 0 ty hit (by decide) (by decide)
      obtain ⟨hB2, hit2, hT2, hbel2⟩ := aw_iter hB hit hT hbel 1
      clear hB hit hT hbel
      have hc0 := hB2.cell 0 rfl
      generalize wr.iterAt (w.heap.size + 1) abcS 1 = W2 at *
      have H2 := Lib.hid (And.intro hB2 (And.intro hit2 (And.intro hT2 hbel2)))
      clear hB2 hit2 hT2 hbel2
      go_wp2_with (go_at_call 5; refine (Insert_any 0 exA _ H2.out.2.2.1 (by decide)).mono ?_; rintro e W3 ⟨q', rfl, hq, hb3⟩; refine Hid.out ?_)
      have hB3 := H2.out.1.next hb3
      have r0 := hB3.cell 0 rfl
      have f0 := hB3.free 0
      have H3 := Lib.hid (aw_step (k := 0) H2.out.1 H2.out.2.1 H2.out.2.2.2 hq hb3)
      clear H2 hB3 hq hb3 hc0
      refine Lib.hid ?_
      go_wp2_with fail
      go_roundg 2
      case measure => omega
      case rel => exact ⟨1, by omega, rfl, H3.out⟩
    | 1, _, hB, hit, hT, hbel =>
      have hnx : ∀ ty, (Instr.next (.pointer (some ⟨w.heap.size + 1, 0, none⟩)) true ty).run Tryd.prog wr = .ok (.tuple #[.bool true, .int .i64 1, .int .i32 98]) (wr.iterAt (w.heap.size + 1) abcS 2) := fun ty => Lib.run_next_ascii_at wr (w.heap.size + 1) abcS 1 ty hit (by decide) (by decide)
      obtain ⟨hB2, hit2, hT2, hbel2⟩ := aw_iter hB hit hT hbel 2
      clear hB hit hT hbel
      have hc0 := hB2.cell 0 rfl
      generalize wr.iterAt (w.heap.size + 1) abcS 2 = W2 at *
      have H2 := Lib.hid (And.intro hB2 (And.intro hit2 (And.intro hT2 hbel2)))
      clear hB2 hit2 hT2 hbel2
      go_wp2_with (go_at_call 5; refine (Insert_any 1 exB _ H2.out.2.2.1 (by decide)).mono ?_; rintro e W3 ⟨q', rfl, hq, hb3⟩; refine Hid.out ?_)
      have hB3 := H2.out.1.next hb3
      have r0 := hB3.cell 0 rfl
      have f0 := hB3.free 0
      have H3 := Lib.hid (aw_step (k := 1) H2.out.1 H2.out.2.1 H2.out.2.2.2 hq hb3)
      clear H2 hB3 hq hb3 hc0
      refine Lib.hid ?_
      go_wp2_with fail
      go_roundg 1
      case measure => omega
      case rel => exact ⟨2, by omega, rfl, H3.out⟩
    | 2, _, hB, hit, hT, hbel =>
      have hnx : ∀ ty, (Instr.next (.pointer (some ⟨w.heap.size + 1, 0, none⟩)) true ty).run Tryd.prog wr = .ok (.tuple #[.bool true, .int .i64 2, .int .i32 99]) (wr.iterAt (w.heap.size + 1) abcS 3) := fun ty => Lib.run_next_ascii_at wr (w.heap.size + 1) abcS 2 ty hit (by decide) (by decide)
      obtain ⟨hB2, hit2, hT2, hbel2⟩ := aw_iter hB hit hT hbel 3
      clear hB hit hT hbel
      have hc0 := hB2.cell 0 rfl
      generalize wr.iterAt (w.heap.size + 1) abcS 3 = W2 at *
      have H2 := Lib.hid (And.intro hB2 (And.intro hit2 (And.intro hT2 hbel2)))
      clear hB2 hit2 hT2 hbel2
      go_wp2_with (go_at_call 5; refine (Insert_any 2 exC _ H2.out.2.2.1 (by decide)).mono ?_; rintro e W3 ⟨q', rfl, hq, hb3⟩; refine Hid.out ?_)
      have hB3 := H2.out.1.next hb3
      have r0 := hB3.cell 0 rfl
      have f0 := hB3.free 0
      have H3 := Lib.hid (aw_step (k := 2) H2.out.1 H2.out.2.1 H2.out.2.2.2 hq hb3)
      clear H2 hB3 hq hb3 hc0
      refine Lib.hid ?_
      go_wp2_with fail
      go_roundg 0
      case measure => omega
      case rel => exact ⟨3, by omega, rfl, H3.out⟩
    | 3, _, hB, hit, hT, hbel =>
      have hnx : ∀ ty, (Instr.next (.pointer (some ⟨w.heap.size + 1, 0, none⟩)) true ty).run Tryd.prog wr = .ok (.tuple #[.bool false]) wr := fun ty => Lib.run_next_end_at wr (w.heap.size + 1) abcS 3 ty hit (by decide)
      have h0 := hB.cell 0 rfl
      have H0 := Lib.hid (AwS.mk hB hT hbel)
      clear hB hit hT hbel
      go_wp2_with (go_at_call 11; refine (select_ex _ H0.out.tr).mono ?_; rintro e w1 ⟨rfl, hb1⟩; refine Hid.out ?_)
      have H1 := Lib.hid (H0.out.next hb1)
      clear H0 h0 hb1 hnx
      refine Lib.hid ?_
      go_wp2_with (go_at_call 12; refine (awake_any _ (HTab.out.next H1.out.bel)).mono ?_; rintro e w2 ⟨rfl, hb2⟩; refine Hid.out ?_)
      have H2 := Lib.hid (H1.out.next hb2)
      clear H1 hb2
      have h0 := H2.out.bl.cell 0 rfl
      refine Lib.hid ?_
      go_wp2_with (go_at_call 13; refine (rank_ex _ H2.out.tr).mono ?_; rintro e w3 ⟨rfl, hb3⟩; refine Hid.out ?_)
      have H3 := Lib.hid (H2.out.next hb3)
      clear H2 hb3 h0
      have h0 := H3.out.bl.cell 0 rfl
      refine Lib.hid ?_
      go_wp2_with (go_at_call 7; refine (text_ex _ H3.out.tr).mono ?_; rintro e w4 ⟨rfl, hb4⟩)
      go_ret
      exact ⟨rfl, H3.out.bel.trans (hb4.mono H3.out.bel.size)⟩
end Go.Proofs.YtjfffnnkkjceoaaDoor
