/-
  The walk of PmapStays at more than sixty: it returns what Awake does; and both together.
-/
import Derived.Test.YtkhggojghjociaaDoorPst
namespace Go.Proofs.YtkhggojghjociaaDoor
open Go Go.Proofs Go.RowKit

set_option maxHeartbeats 1600000 in
set_option maxRecDepth 100000 in
theorem pst_long (a a2 : Option Addr) (n1 n2 cap cap2 : Nat) (st : Int) (w : World) (h : 60 < n1 ∨ (n1 ≤ 60 ∧ 60 < n2)) (ht : Tab w) :
    Calls Tryd.prog 4 #[.slice a n1 cap, .slice a2 n2 cap2, .int .u8 st] w fun e w' => e = .returned (.bool true) ∧ Below w.heap.size w w' := by
  have hb0 : Below w.heap.size w ((w.alloc (.cells #[.int .u8 st] 5)).alloc (.cells #[.bool false] 4)) := ((Below.refl _ _).alloc (Nat.le_refl _) _).alloc (by simp) _
  have hB := Lib.hid (And.intro hb0 (Blk.startAt (W := w.alloc (.cells #[.int .u8 st] 5)) (b := w.heap.size + 1) (vs := [.bool false]) (t := 4) (by simp)))
  have HTab := Lib.hid ht
  clear hb0 ht
  rcases h with h | ⟨h1, h⟩
  all_goals
    go_enter Tryd.func4, Tryd.ntmps4
    go_wp2_with (go_at_call 5; refine (awakeD_any _ (HTab.out.next hB.out.1)).mono ?_; rintro e w1 ⟨rfl, hb1⟩; refine Hid.out ?_)
    have hB1 := hB.out.2.next hb1
    have r0 := hB1.cell 0 rfl
    have f0 := hB1.free 0
    have hz := (hB1.set 0 (.bool true)).cell 0 rfl
    have HZ := Lib.hid hz
    have hbe := Lib.hid ((hB.out.1.trans (hb1.mono hB.out.1.size)).setCell (p := ⟨w.heap.size + 1, 0, none⟩) (by show w.heap.size ≤ w.heap.size + 1; omega) (.bool true))
    clear hz hB hb1 hB1
    refine Lib.hid ?_
    go_wp2_with fail
    exact bodyPost_ret (v := .bool true) (by have := HZ.out; simp [results, Tryd.results4, go_sem, this]) rfl ⟨rfl, hbe.out⟩

theorem pst_any (v v2 : Value) (l m : List Ac) (st : Int) (w : World) (hst0 : 0 ≤ st) (hst1 : st ≤ 255) (hl : IsActs w v l) (hm : IsActs w v2 m) (ht : Tab w) :
    Calls Tryd.prog 4 #[v, v2, .int .u8 st] w fun e w' => e = .returned (.bool true) ∧ Below w.heap.size w w' := by
  obtain ⟨a, cap, rfl, h1, h2, h3⟩ := hl
  obtain ⟨a2, cap2, rfl, k1, k2, k3⟩ := hm
  by_cases c1 : l.length ≤ 60
  · by_cases c2 : m.length ≤ 60
    · exact pst_main a a2 cap cap2 l m st w hst0 hst1 c1 c2 h1 k1 h2 k2 h3 k3 ht
    · exact pst_long a a2 _ _ cap cap2 st w (Or.inr ⟨c1, by omega⟩) ht
  · exact pst_long a a2 _ _ cap cap2 st w (Or.inl (by omega)) ht
end Go.Proofs.YtkhggojghjociaaDoor
