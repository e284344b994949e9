/-
  The walk of the law TallyTurns: whatever the ids are, it returns true, and nothing that existed has changed.
-/
import Derived.Test.YtbddljkajiimmaaDoorTurns
import Derived.Test.YtbddljkajiimmaaDoorTake
namespace Go.Proofs.YtbddljkajiimmaaDoor
open Go Go.Proofs Go.RowKit

set_option maxHeartbeats 800000 in
theorem turns_long (a : Option Addr) (n cap : Nat) (cut p q : Int) (w : World) (hn : 200 < n) (hl : Libs w) :
    Calls Tryd.prog 3 #[.slice a n cap, .int .u8 cut, .agg #[.int .i64 p, .int .i64 q]] w fun e w' => e = .returned (.bool true) ∧ Below w.heap.size w w' := by
  have HL := Lib.hid hl
  clear hl
  go_enter Tryd.func3, Tryd.ntmps3
  go_wp2_with (go_at_call 5; refine (awakeB_any _ (HL.out.next ((Below.refl _ _).alloc (Nat.le_refl _) _))).mono ?_; rintro e w1 ⟨rfl, hb1⟩)
  go_ret
  exact ⟨rfl, ((Below.refl _ _).alloc (Nat.le_refl _) _).trans (hb1.mono (by simp))⟩

/-- What the walk knows inside a round: besides, the round's id, and the one at the other end. -/
structure RX (w W : World) (p q : Int) (lt lu lv lw : List (Int × Int)) (bx b oy : Nat) (x y : Int × Int) : Prop where
  ta : TA w W p q lt lu lv lw
  x : Blk W bx [.int .i64 x.1, .int .i64 x.2] 24
  y0 : W.cell? ⟨b, oy, none⟩ = some (.int .i64 y.1)
  y1 : W.cell? ⟨b, oy + 1, none⟩ = some (.int .i64 y.2)
  lt : b < w.heap.size
  gt : w.heap.size + 1 + 1 + 1 + 1 < bx
section
variable {w W W' : World} {p q : Int} {lt lu lv lw : List (Int × Int)} {bx b oy : Nat} {x y : Int × Int}
theorem RX.next (h : RX w W p q lt lu lv lw bx b oy x y) (hb : Below W.heap.size W W') : RX w W' p q lt lu lv lw bx b oy x y :=
  ⟨h.ta.next hb, h.x.next hb, (hb.cell (p := ⟨b, _, none⟩) (Nat.lt_of_lt_of_le h.lt h.ta.bel.size)).trans h.y0, (hb.cell (p := ⟨b, _, none⟩) (Nat.lt_of_lt_of_le h.lt h.ta.bel.size)).trans h.y1, h.lt, h.gt⟩
theorem cell3 {c b o : Nat} (h : b ≠ c) (x' y' z' : Value) : (((W.setCell ⟨c, 0, none⟩ x').setCell ⟨c, 1, none⟩ y').setCell ⟨c, 2, none⟩ z').cell? ⟨b, o, none⟩ = W.cell? ⟨b, o, none⟩ := by
  rw [World.cell?_setCell_other _ _ _ _ (by simp <;> omega), World.cell?_setCell_other _ _ _ _ (by simp <;> omega), World.cell?_setCell_other _ _ _ _ (by simp <;> omega)]
theorem RX.setT (h : RX w W p q lt lu lv lw bx b oy x y) (l : List (Int × Int)) : RX w (((W.setCell ⟨w.heap.size + 1, 0, none⟩ (.int .i64 (nL (l)))).setCell ⟨w.heap.size + 1, 1, none⟩ (.complex .f64 (fl (cL (l))) (fl (sL (l))))).setCell ⟨w.heap.size + 1, 2, none⟩ (.complex .f64 (fl (rL (l))) (fl (iL (l))))) p q l lu lv lw bx b oy x y := by
  have h1 := h.lt
  have h2 := h.gt
  exact ⟨h.ta.setT l, h.x.other3 (by omega) _ _ _, (cell3 (by omega) _ _ _).trans h.y0, (cell3 (by omega) _ _ _).trans h.y1, h1, h2⟩
theorem RX.setU (h : RX w W p q lt lu lv lw bx b oy x y) (l : List (Int × Int)) : RX w (((W.setCell ⟨w.heap.size + 1 + 1, 0, none⟩ (.int .i64 (nL (l)))).setCell ⟨w.heap.size + 1 + 1, 1, none⟩ (.complex .f64 (fl (cL (l))) (fl (sL (l))))).setCell ⟨w.heap.size + 1 + 1, 2, none⟩ (.complex .f64 (fl (rL (l))) (fl (iL (l))))) p q lt l lv lw bx b oy x y := by
  have h1 := h.lt
  have h2 := h.gt
  exact ⟨h.ta.setU l, h.x.other3 (by omega) _ _ _, (cell3 (by omega) _ _ _).trans h.y0, (cell3 (by omega) _ _ _).trans h.y1, h1, h2⟩
theorem RX.setV (h : RX w W p q lt lu lv lw bx b oy x y) (l : List (Int × Int)) : RX w (((W.setCell ⟨w.heap.size + 1 + 1 + 1, 0, none⟩ (.int .i64 (nL (l)))).setCell ⟨w.heap.size + 1 + 1 + 1, 1, none⟩ (.complex .f64 (fl (cL (l))) (fl (sL (l))))).setCell ⟨w.heap.size + 1 + 1 + 1, 2, none⟩ (.complex .f64 (fl (rL (l))) (fl (iL (l))))) p q lt lu l lw bx b oy x y := by
  have h1 := h.lt
  have h2 := h.gt
  exact ⟨h.ta.setV l, h.x.other3 (by omega) _ _ _, (cell3 (by omega) _ _ _).trans h.y0, (cell3 (by omega) _ _ _).trans h.y1, h1, h2⟩
theorem RX.setX (h : RX w W p q lt lu lv lw bx b oy x y) (l : List (Int × Int)) : RX w (((W.setCell ⟨w.heap.size + 1 + 1 + 1 + 1, 0, none⟩ (.int .i64 (nL (l)))).setCell ⟨w.heap.size + 1 + 1 + 1 + 1, 1, none⟩ (.complex .f64 (fl (cL (l))) (fl (sL (l))))).setCell ⟨w.heap.size + 1 + 1 + 1 + 1, 2, none⟩ (.complex .f64 (fl (rL (l))) (fl (iL (l))))) p q lt lu lv l bx b oy x y := by
  have h1 := h.lt
  have h2 := h.gt
  exact ⟨h.ta.setX l, h.x.other3 (by omega) _ _ _, (cell3 (by omega) _ _ _).trans h.y0, (cell3 (by omega) _ _ _).trans h.y1, h1, h2⟩
theorem sy_keep {P : Value} {Q : Value} (hb : Below W.heap.size W W') (h : W.cell? ⟨b, oy, none⟩ = some P ∧ W.cell? ⟨b, oy + 1, none⟩ = some Q ∧ b < W.heap.size) : W'.cell? ⟨b, oy, none⟩ = some P ∧ W'.cell? ⟨b, oy + 1, none⟩ = some Q ∧ b < W'.heap.size :=
  ⟨(hb.cell (p := ⟨b, _, none⟩) h.2.2).trans h.1, (hb.cell (p := ⟨b, _, none⟩) h.2.2).trans h.2.1, Nat.lt_of_lt_of_le h.2.2 hb.size⟩
theorem sy_store {P : Value} {Q : Value} {c : Nat} (hc : b ≠ c) (x' y' z' : Value) (h : W.cell? ⟨b, oy, none⟩ = some P ∧ W.cell? ⟨b, oy + 1, none⟩ = some Q ∧ b < W.heap.size) :
    (((W.setCell ⟨c, 0, none⟩ x').setCell ⟨c, 1, none⟩ y').setCell ⟨c, 2, none⟩ z').cell? ⟨b, oy, none⟩ = some P ∧ (((W.setCell ⟨c, 0, none⟩ x').setCell ⟨c, 1, none⟩ y').setCell ⟨c, 2, none⟩ z').cell? ⟨b, oy + 1, none⟩ = some Q ∧ b < (((W.setCell ⟨c, 0, none⟩ x').setCell ⟨c, 1, none⟩ y').setCell ⟨c, 2, none⟩ z').heap.size :=
  ⟨(cell3 hc _ _ _).trans h.1, (cell3 hc _ _ _).trans h.2.1, by simpa using h.2.2⟩
end
/-- What holds at the head of each round. -/
def TurnAt (w wr : World) (p q : Int) (l : List (Int × Int)) (cut k : Nat) : Prop :=
  TA w wr p q (l.take k) (l.reverse.take k) (l.take (min k cut)) ((l.take k).drop cut) ∧ Mays (l.take k) ∧ Mays (l.reverse.take k)

set_option maxHeartbeats 1600000 in
set_option maxRecDepth 100000 in
theorem turns_short (a : Option Addr) (cap : Nat) (l : List (Int × Int)) (cut : Nat) (p q : Int) (w : World) (hn : l.length ≤ 200) (_hcut : cut ≤ 255) (_hlc : l.length ≤ cap) (_hcap : cap ≤ 9223372036854775807) (hL : l ≠ [] → ∃ b off, a = some ⟨b, off, none⟩ ∧ Lies w b off l) (hl : Libs w) :
    Calls Tryd.prog 3 #[.slice a l.length cap, .int .u8 cut, .agg #[.int .i64 p, .int .i64 q]] w fun e w' => e = .returned (.bool true) ∧ Below w.heap.size w w' := by
  have HL := Lib.hid hl
  have HI0 := Lib.hid hL
  have hst := st_complex
  clear hl hL
  go_enter Tryd.func3, Tryd.ntmps3
  go_wp2
  have HR : Hid (TurnAt w (((((w.alloc (.cells #[.int .i64 p, .int .i64 q] 24)).alloc (.cells #[.int .i64 0, .complex .f64 0 0, .complex .f64 0 0] 28)).alloc (.cells #[.int .i64 0, .complex .f64 0 0, .complex .f64 0 0] 28)).alloc (.cells #[.int .i64 0, .complex .f64 0 0, .complex .f64 0 0] 28)).alloc (.cells #[.int .i64 0, .complex .f64 0 0, .complex .f64 0 0] 28)) p q l cut 0) := by
    refine Lib.hid ⟨?_, fun x hx => by simp at hx, fun x hx => by simp at hx⟩
    simp only [List.take_zero, Nat.zero_min, List.drop_nil]
    exact ⟨((((Blk.start _ _ _).alloc _).alloc _).alloc _).alloc _, by rw [tc_nil]; exact (((Blk.startAt (by simp)).alloc _).alloc _).alloc _, by rw [tc_nil]; exact ((Blk.startAt (by simp)).alloc _).alloc _, by rw [tc_nil]; exact (Blk.startAt (by simp)).alloc _, by rw [tc_nil]; exact Blk.startAt (by simp),
      (((((Below.refl _ _).alloc (Nat.le_refl _) _).alloc (by simp) _).alloc (by simp; omega) _).alloc (by simp; omega) _).alloc (by simp; omega) _⟩
  generalize (((((w.alloc (.cells #[.int .i64 p, .int .i64 q] 24)).alloc (.cells #[.int .i64 0, .complex .f64 0 0, .complex .f64 0 0] 28)).alloc (.cells #[.int .i64 0, .complex .f64 0 0, .complex .f64 0 0] 28)).alloc (.cells #[.int .i64 0, .complex .f64 0 0, .complex .f64 0 0] 28)).alloc (.cells #[.int .i64 0, .complex .f64 0 0, .complex .f64 0 0] 28)) = w0 at *
  go_loopg [23] l.length (fun g i wr => ∃ k : Nat, k ≤ l.length ∧ g = l.length - k ∧ i = .int .i64 k ∧ TurnAt w wr p q l cut k)
  case atStart => exact ⟨0, by omega, rfl, rfl, HR.out⟩
  case round =>
    obtain ⟨k, hk, rfl, rfl, hF, hM1, hM2⟩ := hrel
    by_cases hk' : k < l.length
    · obtain ⟨b, off, rfl, hLies⟩ := HI0.out (by rintro rfl; simp at hk')
      have HI := Lib.hid hLies
      clear hLies HI0
      have hx := HI.out k hk'
      obtain ⟨hx0', hx1'⟩ := hx
      have hbl : b < w.heap.size := World.block_lt_of_cell? _ _ hx0'
      have hx0 : wr.cell? ⟨b, off + k * 2, none⟩ = some (.int .i64 l[k].1) := (hF.bel.cell (p := ⟨b, _, none⟩) hbl).trans hx0'
      have hx1 : wr.cell? ⟨b, off + k * 2 + 1, none⟩ = some (.int .i64 l[k].2) := (hF.bel.cell (p := ⟨b, _, none⟩) hbl).trans hx1'
      clear hx0' hx1'
      have HF := Lib.hid hF
      have HM := Lib.hid (And.intro hM1 hM2)
      clear hF hM1 hM2
      go_upto_region 7 with fail
      obtain ⟨j, hj⟩ : ∃ j : Nat, (l.length : Int) - 1 - k = j := ⟨l.length - 1 - k, by omega⟩
      have hjl : j < l.length := by omega
      have hy := HI.out j hjl
      have hy0 : wr.cell? ⟨b, off + j * 2, none⟩ = some (.int .i64 l[j].1) := (HF.out.bel.cell (p := ⟨b, _, none⟩) hbl).trans hy.1
      have hy1 : wr.cell? ⟨b, off + j * 2 + 1, none⟩ = some (.int .i64 l[j].2) := (HF.out.bel.cell (p := ⟨b, _, none⟩) hbl).trans hy.2
      have et : l.take (k + 1) = l.take k ++ [l[k]] := List.take_succ_eq_append_getElem hk'
      have eu : l.reverse.take (k + 1) = l.reverse.take k ++ [l[j]] := by
        rw [List.take_succ_eq_append_getElem (by simpa using hk'), List.getElem_reverse]
        have : l.length - 1 - k = j := by omega
        simp only [this]
      have hlt : (l.take k).length ≤ 200 := by simp; omega
      have hlu : (l.reverse.take k).length ≤ 200 := by simp; omega
      have hlv : (l.take (min k cut)).length ≤ 200 := by simp; omega
      have hlw : ((l.take k).drop cut).length ≤ 200 := by simp; omega
      have hV1 : k < cut → l.take (min (k + 1) cut) = l.take (min k cut) ++ [l[k]] ∧ (l.take (k + 1)).drop cut = (l.take k).drop cut := fun h => by
        constructor
        · rw [Nat.min_eq_left (by omega), Nat.min_eq_left (by omega)]; exact et
        · rw [List.drop_eq_nil_of_le (by simp; omega), List.drop_eq_nil_of_le (by simp; omega)]
      have hV2 : ¬ k < cut → l.take (min (k + 1) cut) = l.take (min k cut) ∧ (l.take (k + 1)).drop cut = (l.take k).drop cut ++ [l[k]] := fun h => by
        constructor
        · rw [Nat.min_eq_right (by omega), Nat.min_eq_right (by omega)]
        · rw [et, List.drop_append_of_le_length (by simp; omega)]
      have hMv : Mays (l.take (min k cut)) := fun y hy => HM.out.1 y (by
        rw [show l.take (min k cut) = (l.take k).take cut by rw [List.take_take, Nat.min_comm]] at hy
        exact List.mem_of_mem_take hy)
      have hMw : Mays ((l.take k).drop cut) := fun y hy => HM.out.1 y (List.mem_of_mem_drop hy)
      have HE := Lib.hid (And.intro et (And.intro eu (And.intro hV1 (And.intro hV2 (And.intro hMv hMw)))))
      have HN := Lib.hid (And.intro hlt (And.intro hlu (And.intro hlv hlw)))
      have HX := Lib.hid (RX.mk (x := l[k]) (y := l[j]) (HF.out.next ((Below.refl _ _).alloc (Nat.le_refl _) (.cells #[.int .i64 l[k].1, .int .i64 l[k].2] 24)))
        (Blk.start wr [.int .i64 l[k].1, .int .i64 l[k].2] 24)
        ((((Below.refl _ _).alloc (Nat.le_refl _) _).cell (p := ⟨b, _, none⟩) (Nat.lt_of_lt_of_le hbl HF.out.bel.size)).trans hy0)
        ((((Below.refl _ _).alloc (Nat.le_refl _) _).cell (p := ⟨b, _, none⟩) (Nat.lt_of_lt_of_le hbl HF.out.bel.size)).trans hy1) hbl HF.out.x.lt)
      clear hx0 hx1 hy0 hy1 hy HF et eu hlt hlu hlv hlw hV1 hV2 hMv hMw
      generalize wr.alloc (.cells #[.int .i64 l[k].1, .int .i64 l[k].2] 24) = wx at *
      generalize wr.heap.size = bx at *
      generalize l[k] = x at *
      generalize l[j] = y at *
      have x0 := HX.out.x.cell 0 rfl
      have x1 := HX.out.x.cell 1 rfl
      rcases hmx : mayB x.1 x.2 with _ | _
      · have HX3 := HX
        clear HX3
        go_wp2_with (go_at_call 7; refine (of_any _ _ _).mono ?_; rintro e w1 ⟨rfl, hb⟩; refine Hid.out ?_)
        have HX2 := Lib.hid (HX.out.next hb)
        clear hb HX
        have HX := HX2
        clear HX2
        refine Lib.hid ?_
        go_wp2_with (go_at_call 6; refine (may_any _ _ _).mono ?_; rintro e w2 ⟨rfl, hb⟩; refine Hid.out ?_)
        have HX2 := Lib.hid (HX.out.next hb)
        clear hb HX
        have HX := HX2
        clear HX2
        refine Lib.hid ?_
        go_wp2_with (go_at_call 5; refine (awakeB_any _ (HL.out.next HX.out.ta.bel)).mono ?_; rintro e w3 ⟨rfl, hb⟩)
        go_ret
        exact ⟨rfl, HX.out.ta.bel.trans (hb.mono HX.out.ta.bel.size)⟩
      · rcases hmy : mayB y.1 y.2 with _ | _
        · clear x0 x1
          have x0 := HX.out.x.cell 0 rfl
          have x1 := HX.out.x.cell 1 rfl
          go_wp2_with (go_at_call 7; refine (of_any _ _ _).mono ?_; rintro e w1 ⟨rfl, hb⟩; refine Hid.out ?_)
          have HX2 := Lib.hid (HX.out.next hb)
          clear hb HX
          have HX := HX2
          clear HX2
          refine Lib.hid ?_
          go_wp2_with (go_at_call 6; refine (may_any _ _ _).mono ?_; rintro e w2 ⟨rfl, hb⟩; refine Hid.out ?_)
          have HX2 := Lib.hid (HX.out.next hb)
          clear hb HX
          have HX := HX2
          clear HX2
          refine Lib.hid ?_
          have y0 := HX.out.y0
          have y1 := HX.out.y1
          go_wp2_with (go_at_call 7; refine (of_any _ _ _).mono ?_; rintro e w3 ⟨rfl, hb⟩; refine Hid.out ?_)
          have HX2 := Lib.hid (HX.out.next hb)
          clear hb HX
          have HX := HX2
          clear HX2
          refine Lib.hid ?_
          go_wp2_with (go_at_call 6; refine (may_any _ _ _).mono ?_; rintro e w4 ⟨rfl, hb⟩; refine Hid.out ?_)
          have HX2 := Lib.hid (HX.out.next hb)
          clear hb HX
          have HX := HX2
          clear HX2
          refine Lib.hid ?_
          go_wp2_with (go_at_call 5; refine (awakeB_any _ (HL.out.next HX.out.ta.bel)).mono ?_; rintro e w5 ⟨rfl, hb⟩)
          go_ret
          exact ⟨rfl, HX.out.ta.bel.trans (hb.mono HX.out.ta.bel.size)⟩
        · clear x0 x1
          have x0 := HX.out.x.cell 0 rfl
          have x1 := HX.out.x.cell 1 rfl
          go_wp2_with (go_at_call 7; refine (of_any _ _ _).mono ?_; rintro e w1 ⟨rfl, hb⟩; refine Hid.out ?_)
          have HX2 := Lib.hid (HX.out.next hb)
          clear hb HX
          have HX := HX2
          clear HX2
          refine Lib.hid ?_
          go_wp2_with (go_at_call 6; refine (may_any _ _ _).mono ?_; rintro e w2 ⟨rfl, hb⟩; refine Hid.out ?_)
          have HX2 := Lib.hid (HX.out.next hb)
          clear hb HX
          have HX := HX2
          clear HX2
          refine Lib.hid ?_
          have y0 := HX.out.y0
          have y1 := HX.out.y1
          go_wp2_with (go_at_call 7; refine (of_any _ _ _).mono ?_; rintro e w3 ⟨rfl, hb⟩; refine Hid.out ?_)
          have HX2 := Lib.hid (HX.out.next hb)
          clear hb HX
          have HX := HX2
          clear HX2
          refine Lib.hid ?_
          go_wp2_with (go_at_call 6; refine (may_any _ _ _).mono ?_; rintro e w4 ⟨rfl, hb⟩; refine Hid.out ?_)
          have HX2 := Lib.hid (HX.out.next hb)
          clear hb HX
          have HX := HX2
          clear HX2
          refine Lib.hid ?_
          clear x0 x1 y0 y1
          have x0 := HX.out.x.cell 0 rfl
          have x1 := HX.out.x.cell 1 rfl
          obtain ⟨t0, t1, t2, _⟩ := HX.out.ta.t.has3
          go_wp2_with (go_at_call 8; refine (put_L _ HM.out.1 hmx (by have := HN.out.1; omega)).mono ?_; rintro e w5 ⟨rfl, hb⟩; refine Hid.out ?_)
          have HX2 := Lib.hid (HX.out.next hb)
          clear hb HX
          have HX := HX2
          clear HX2
          refine Lib.hid ?_
          clear t0 t1 t2 x0 x1
          obtain ⟨t0, t1, t2, f0, f1, f2⟩ := HX.out.ta.t.has3
          go_upto_region 10 with fail
          have HX2 := Lib.hid (HX.out.setT (l.take k ++ [x]))
          clear HX t0 t1 t2 f0 f1 f2
          have HX := HX2
          clear HX2
          generalize (((w5.setCell ⟨w.heap.size + 1, 0, none⟩ (.int .i64 (nL (l.take k ++ [x])))).setCell ⟨w.heap.size + 1, 1, none⟩ (.complex .f64 (fl (cL (l.take k ++ [x]))) (fl (sL (l.take k ++ [x]))))).setCell ⟨w.heap.size + 1, 2, none⟩ (.complex .f64 (fl (rL (l.take k ++ [x]))) (fl (iL (l.take k ++ [x]))))) = w6 at *
          have HX2 := Lib.hid (HX.out.next (Below.refl _ _).drew)
          clear HX
          have HX := HX2
          clear HX2
          obtain ⟨u0, u1, u2, _⟩ := HX.out.ta.u.has3
          have hjb : 0 ≤ (j : Int) := by omega
          have hj2 : (j : Int) < l.length := by omega
          refine wp_region_noPanic ?_
          refine wp_region_held_drew (S := (fun W => W.cell? ⟨b, off + j * 2, none⟩ = some (.int .i64 y.1) ∧ W.cell? ⟨b, off + j * 2 + 1, none⟩ = some (.int .i64 y.2) ∧ b < W.heap.size)) (by kernel_rfl) ?_ (fun hHeld => ?_)
          · exact ⟨HX.out.y0, HX.out.y1, Nat.lt_of_lt_of_le hbl HX.out.ta.bel.size⟩
          refine take1 (i := 1) (v := .slice (some ⟨b, off, none⟩) l.length cap) rfl (by kernel_rfl) (by kernel_rfl) (by kernel_rfl) (fun _ _ _ h => h) (Or.inl ⟨by rfl, fun w hSw => ?_⟩) hHeld ?_
          · (go_simp)
          try simp only [Act.put, List.setIfInBounds_toArray, List.set_cons_zero, List.set_cons_succ]
          refine take1 (i := 2) (v := .slice (some ⟨b, off, none⟩) l.length cap) rfl (by kernel_rfl) (by kernel_rfl) (by kernel_rfl) (fun _ _ _ h => h) (Or.inl ⟨by rfl, fun w hSw => ?_⟩) hHeld ?_
          · (go_simp)
          try simp only [Act.put, List.setIfInBounds_toArray, List.set_cons_zero, List.set_cons_succ]
          refine take1 (i := 3) (v := .int .i64 (l.length : Int)) rfl (by kernel_rfl) (by kernel_rfl) (by kernel_rfl) (fun _ _ _ h => h) (Or.inl ⟨by rfl, fun w hSw => ?_⟩) hHeld ?_
          · (go_simp)
          try simp only [Act.put, List.setIfInBounds_toArray, List.set_cons_zero, List.set_cons_succ]
          refine take1 (i := 4) (v := .int .i64 ((l.length : Int) - 1)) rfl (by kernel_rfl) (by kernel_rfl) (by kernel_rfl) (fun _ _ _ h => h) (Or.inl ⟨by rfl, fun w hSw => ?_⟩) hHeld ?_
          · (go_simp; exact IntWalk.i64_in _ ⟨by omega, by omega⟩)
          try simp only [Act.put, List.setIfInBounds_toArray, List.set_cons_zero, List.set_cons_succ]
          refine take1 (i := 5) (v := .int .i64 (k : Int)) rfl (by kernel_rfl) (by kernel_rfl) (by kernel_rfl) (fun _ _ _ h => h) (Or.inl ⟨by rfl, fun w hSw => ?_⟩) hHeld ?_
          · (go_simp)
          try simp only [Act.put, List.setIfInBounds_toArray, List.set_cons_zero, List.set_cons_succ]
          refine take1 (i := 6) (v := .int .i64 (j : Int)) rfl (by kernel_rfl) (by kernel_rfl) (by kernel_rfl) (fun _ _ _ h => h) (Or.inl ⟨by rfl, fun w hSw => ?_⟩) hHeld ?_
          · (go_simp; exact IntWalk.i64_in _ ⟨by omega, by omega⟩)
          try simp only [Act.put, List.setIfInBounds_toArray, List.set_cons_zero, List.set_cons_succ]
          refine take1 (i := 7) (v := .pointer (some ⟨b, off + j * 2, none⟩)) rfl (by kernel_rfl) (by kernel_rfl) (by kernel_rfl) (fun _ _ _ h => h) (Or.inl ⟨by rfl, fun w hSw => ?_⟩) hHeld ?_
          · (go_simp)
          try simp only [Act.put, List.setIfInBounds_toArray, List.set_cons_zero, List.set_cons_succ]
          refine take1 (i := 8) (v := .agg #[.int .i64 y.1, .int .i64 y.2]) rfl (by kernel_rfl) (by kernel_rfl) (by kernel_rfl) (fun _ _ _ h => h) (Or.inl ⟨by rfl, fun w hSw => ?_⟩) hHeld ?_
          · (go_simp)
          try simp only [Act.put, List.setIfInBounds_toArray, List.set_cons_zero, List.set_cons_succ]
          refine wpAnyH_ready (rs := [0]) (by kernel_rfl) (by simp) ?_
          refine cons1 rfl (fun K hK => ?_) AllReadyH.nil
          go_simp
          go_wp2_with fail
          refine hK.out _ _ (hHeld) (fun hHeld2 => ?_)
          clear hK K hHeld u0 u1 u2
          have hHeld := hHeld2
          clear hHeld2
          try simp only [Act.put, List.setIfInBounds_toArray, List.set_cons_zero, List.set_cons_succ]
          refine wpAnyH_ready (rs := [9]) (by kernel_rfl) (by simp) ?_
          refine cons1 rfl (fun K hK => ?_) AllReadyH.nil
          go_simp
          refine (put_L _ HM.out.2 hmy (by have := HN.out.2.1; omega)).mono ?_
          rintro e w7 ⟨rfl, hb⟩
          go_wp2_with fail
          refine hK.out _ _ (sy_keep hb hHeld) (fun hHeld2 => ?_)
          clear hK K hHeld 
          have hHeld := hHeld2
          clear hHeld2
          try simp only [Act.put, List.setIfInBounds_toArray, List.set_cons_zero, List.set_cons_succ]
          have HX2 := Lib.hid (HX.out.next hb)
          clear hb HX
          have HX := HX2
          clear HX2
          obtain ⟨u0, u1, u2, g0, g1, g2⟩ := HX.out.ta.u.has3
          refine take1 (i := 10) (v := .tuple #[.agg #[.int .i64 (nL (l.reverse.take k ++ [y])), .complex .f64 (fl (cL (l.reverse.take k ++ [y]))) (fl (sL (l.reverse.take k ++ [y]))), .complex .f64 (fl (rL (l.reverse.take k ++ [y]))) (fl (iL (l.reverse.take k ++ [y])))], .int .i64 0]) rfl (by kernel_rfl) (by kernel_rfl) (by kernel_rfl) (fun _ _ _ h => h) (Or.inl ⟨by rfl, fun w hSw => ?_⟩) hHeld ?_
          · (go_simp)
          try simp only [Act.put, List.setIfInBounds_toArray, List.set_cons_zero, List.set_cons_succ]
          refine take1 (i := 11) (v := .agg #[.int .i64 (nL (l.reverse.take k ++ [y])), .complex .f64 (fl (cL (l.reverse.take k ++ [y]))) (fl (sL (l.reverse.take k ++ [y]))), .complex .f64 (fl (rL (l.reverse.take k ++ [y]))) (fl (iL (l.reverse.take k ++ [y])))]) rfl (by kernel_rfl) (by kernel_rfl) (by kernel_rfl) (fun _ _ _ h => h) (Or.inl ⟨by rfl, fun w hSw => ?_⟩) hHeld ?_
          · (go_simp)
          try simp only [Act.put, List.setIfInBounds_toArray, List.set_cons_zero, List.set_cons_succ]
          refine take1 (i := 12) (v := .int .i64 0) rfl (by kernel_rfl) (by kernel_rfl) (by kernel_rfl) (fun _ _ _ h => h) (Or.inl ⟨by rfl, fun w hSw => ?_⟩) hHeld ?_
          · (go_simp)
          try simp only [Act.put, List.setIfInBounds_toArray, List.set_cons_zero, List.set_cons_succ]
          refine wpAnyH_ready (rs := [13]) (by kernel_rfl) (by simp) ?_
          refine cons1 rfl (fun K hK => ?_) AllReadyH.nil
          go_simp
          go_wp2_with fail
          refine hK.out _ _ (sy_store (by omega) _ _ _ hHeld) (fun hHeld2 => ?_)
          clear hK K hHeld u0 u1 u2 g0 g1 g2
          have hHeld := hHeld2
          clear hHeld2
          try simp only [Act.put, List.setIfInBounds_toArray, List.set_cons_zero, List.set_cons_succ]
          refine wpAnyH_done (by kernel_rfl) ?_ _
          refine NoPanic.normal ?_
          have HX2 := Lib.hid (HX.out.setU (l.reverse.take k ++ [y]))
          clear HX hHeld
          have HX := HX2
          clear HX2
          generalize (((w7.setCell ⟨w.heap.size + 1 + 1, 0, none⟩ (.int .i64 (nL (l.reverse.take k ++ [y])))).setCell ⟨w.heap.size + 1 + 1, 1, none⟩ (.complex .f64 (fl (cL (l.reverse.take k ++ [y]))) (fl (sL (l.reverse.take k ++ [y]))))).setCell ⟨w.heap.size + 1 + 1, 2, none⟩ (.complex .f64 (fl (rL (l.reverse.take k ++ [y]))) (fl (iL (l.reverse.take k ++ [y]))))) = w8 at *
          have x0 := HX.out.x.cell 0 rfl
          have x1 := HX.out.x.cell 1 rfl
          by_cases hkc : k < cut
          · obtain ⟨v0, v1, v2, _⟩ := HX.out.ta.v.has3
            go_wp2_with (go_at_call 8; refine (put_L _ HE.out.2.2.2.2.1 hmx (by have := HN.out.2.2.1; omega)).mono ?_; rintro e w9 ⟨rfl, hb⟩; refine Hid.out ?_)
            have HX2 := Lib.hid (HX.out.next hb)
            clear hb HX
            have HX := HX2
            clear HX2
            refine Lib.hid ?_
            clear v0 v1 v2 x0 x1
            obtain ⟨v0, v1, v2, f0, f1, f2⟩ := HX.out.ta.v.has3
            go_wp2
            go_roundg (l.length - (k + 1))
            case measure => omega
            case rel =>
              obtain ⟨e1, e2, e3, e4, _⟩ := HE.out
              refine ⟨k + 1, by omega, rfl, by go_num, ?_⟩
              unfold TurnAt
              rw [e1, e2, (e3 hkc).1, ← e1, (e3 hkc).2, e1]
              exact ⟨(HX.out.setV _).ta, HM.out.1.snoc hmx, HM.out.2.snoc hmy⟩
          · obtain ⟨v0, v1, v2, _⟩ := HX.out.ta.x.has3
            go_wp2_with (go_at_call 8; refine (put_L _ HE.out.2.2.2.2.2 hmx (by have := HN.out.2.2.2; omega)).mono ?_; rintro e w9 ⟨rfl, hb⟩; refine Hid.out ?_)
            have HX2 := Lib.hid (HX.out.next hb)
            clear hb HX
            have HX := HX2
            clear HX2
            refine Lib.hid ?_
            clear v0 v1 v2 x0 x1
            obtain ⟨v0, v1, v2, f0, f1, f2⟩ := HX.out.ta.x.has3
            go_wp2
            go_roundg (l.length - (k + 1))
            case measure => omega
            case rel =>
              obtain ⟨e1, e2, e3, e4, _⟩ := HE.out
              refine ⟨k + 1, by omega, rfl, by go_num, ?_⟩
              unfold TurnAt
              rw [e1, e2, (e4 hkc).1, ← e1, (e4 hkc).2, e1]
              exact ⟨(HX.out.setX _).ta, HM.out.1.snoc hmx, HM.out.2.snoc hmy⟩
    · obtain rfl : k = l.length := by omega
      have er : l.reverse.take l.length = l.reverse := List.take_of_length_le (by simp)
      have em : l.take (min l.length cut) = l.take cut := by rw [Nat.min_comm, ← List.take_take, List.take_length]
      rw [er, em, List.take_length] at hF
      rw [er] at hM2
      rw [List.take_length] at hM1
      have hMd : Mays (l.drop cut) := fun y hy => hM1 y (List.mem_of_mem_drop hy)
      have hMc : Mays (l.take cut) := fun y hy => hM1 y (List.mem_of_mem_take hy)
      have hMx : Mays (l.drop cut ++ l.take cut) := fun y hy => (List.mem_append.1 hy).elim (hMd y) (hMc y)
      have hlx : (l.drop cut).length + (l.take cut).length ≤ 4096 := by simp; omega
      have s1 := same_rev l
      have s2 := same_parts l cut
      have s3 := same_self l
      have s4 := same_more l (p, q)
      have hnl : nL l = (l.length : Int) := rfl
      have HN := Lib.hid hnl
      have HX := Lib.hid hF
      have HM := Lib.hid (And.intro hM1 (And.intro hM2 (And.intro hMd (And.intro hMc (And.intro hMx hlx)))))
      clear er em hF hM1 hM2 hMd hMc hMx hlx hnl
      obtain ⟨v0, v1, v2, _⟩ := HX.out.v.has3
      obtain ⟨w0, w1, w2, _⟩ := HX.out.x.has3
      go_upto_region 16 with (go_at_call 9; refine (and_L _ HM.out.2.2.1 HM.out.2.2.2.1 HM.out.2.2.2.2.2).mono ?_; rintro e wa ⟨rfl, hb⟩)
      have HX2 := Lib.hid (HX.out.next (hb.alloc hb.size (.cells #[.int .i64 (nL (l.drop cut ++ l.take cut)), .complex .f64 (fl (cL (l.drop cut ++ l.take cut))) (fl (sL (l.drop cut ++ l.take cut))), .complex .f64 (fl (rL (l.drop cut ++ l.take cut))) (fl (iL (l.drop cut ++ l.take cut)))] 28)))
      have hXB : Blk (wa.alloc (.cells #[.int .i64 (nL (l.drop cut ++ l.take cut)), .complex .f64 (fl (cL (l.drop cut ++ l.take cut))) (fl (sL (l.drop cut ++ l.take cut))), .complex .f64 (fl (rL (l.drop cut ++ l.take cut))) (fl (iL (l.drop cut ++ l.take cut)))] 28)) wa.heap.size (tc (l.drop cut ++ l.take cut)) 28 := Blk.start _ _ _
      clear hb HX v0 v1 v2 w0 w1 w2
      have HX := HX2
      have HXB := Lib.hid hXB
      clear HX2 hXB
      generalize wa.alloc (.cells #[.int .i64 (nL (l.drop cut ++ l.take cut)), .complex .f64 (fl (cL (l.drop cut ++ l.take cut))) (fl (sL (l.drop cut ++ l.take cut))), .complex .f64 (fl (rL (l.drop cut ++ l.take cut))) (fl (iL (l.drop cut ++ l.take cut)))] 28) = wb at *
      generalize wa.heap.size = bz at *
      obtain ⟨t0, t1, t2, _⟩ := HX.out.t.has3
      obtain ⟨u0, u1, u2, _⟩ := HX.out.u.has3
      go_wp2_with (go_at_call 10; refine (same_L _ HM.out.1 HM.out.2.1 (by omega) (by simp; omega)).mono ?_; rintro e wc ⟨rfl, hb⟩; refine Hid.out ?_)
      have HX2 := Lib.hid (HX.out.next hb)
      have HXB2 := Lib.hid (HXB.out.next hb)
      clear hb HX
      have HX := HX2
      clear HX2
      refine Lib.hid ?_
      clear t0 t1 t2 u0 u1 u2
      obtain ⟨t0, t1, t2, _⟩ := HX.out.t.has3
      obtain ⟨z0, z1, z2, _⟩ := HXB2.out.has3
      go_wp2_with (go_at_call 10; refine (same_L _ HM.out.1 HM.out.2.2.2.2.1 (by omega) (by have := HM.out.2.2.2.2.2; simp; omega)).mono ?_; rintro e wd ⟨rfl, hb⟩; refine Hid.out ?_)
      have HX2 := Lib.hid (HX.out.next hb)
      clear hb HX
      have HX := HX2
      clear HX2
      refine Lib.hid ?_
      clear t0 t1 t2 z0 z1 z2 HXB HXB2
      obtain ⟨t0, t1, t2, _⟩ := HX.out.t.has3
      have hnn : (nL l != (l.length : Int)) = false := by rw [HN.out]; simp
      have a0 := HX.out.a.cell 0 rfl
      have a1 := HX.out.a.cell 1 rfl
      go_upto_region 18 with fail
      rcases hma : mayB p q with _ | _
      · go_upto_region 19 with (go_at_call 8; refine (put_range (N := nL l) (a := cL l) (b := sL l) (c := rL l) (d := iL l) _ hma).mono ?_; rintro e we ⟨rfl, hb⟩)
        have HX2 := Lib.hid (HX.out.next (hb.alloc hb.size (.cells #[.int .i64 0, .complex .f64 0 0, .complex .f64 0 0] 28)))
        clear hb HX t0 t1 t2 a0 a1
        have HX := HX2
        clear HX2
        generalize we.alloc (.cells #[.int .i64 0, .complex .f64 0 0, .complex .f64 0 0] 28) = wf at *
        go_wp2_with (go_at_call 5; refine (awakeB_any _ (HL.out.next HX.out.bel)).mono ?_; rintro e wg ⟨rfl, hb⟩; refine Hid.out ?_)
        have HX2 := Lib.hid (HX.out.next hb)
        clear hb HX
        have HX := HX2
        clear HX2
        refine Lib.hid ?_
        have a0 := HX.out.a.cell 0 rfl
        have a1 := HX.out.a.cell 1 rfl
        go_wp2_with (go_at_call 7; refine (of_any _ _ _).mono ?_; rintro e wh ⟨rfl, hb⟩; refine Hid.out ?_)
        have HX2 := Lib.hid (HX.out.next hb)
        clear hb HX
        have HX := HX2
        clear HX2
        refine Lib.hid ?_
        go_wp2_with (go_at_call 6; refine (may_any _ _ _).mono ?_; rintro e wi ⟨rfl, hb⟩; refine Hid.out ?_)
        have HX2 := Lib.hid (HX.out.next hb)
        clear hb HX
        have HX := HX2
        clear HX2
        refine Lib.hid ?_
        go_wp2
        go_ret
        exact ⟨rfl, HX.out.bel⟩
      · go_upto_region 19 with (go_at_call 8; refine (put_L (l := l) (x := (p, q)) _ HM.out.1 hma (by omega)).mono ?_; rintro e we ⟨rfl, hb⟩)
        have HX2 := Lib.hid (HX.out.next (hb.alloc hb.size (.cells #[.int .i64 (nL (l ++ [(p, q)])), .complex .f64 (fl (cL (l ++ [(p, q)]))) (fl (sL (l ++ [(p, q)]))), .complex .f64 (fl (rL (l ++ [(p, q)]))) (fl (iL (l ++ [(p, q)])))] 28)))
        have hY : Blk (we.alloc (.cells #[.int .i64 (nL (l ++ [(p, q)])), .complex .f64 (fl (cL (l ++ [(p, q)]))) (fl (sL (l ++ [(p, q)]))), .complex .f64 (fl (rL (l ++ [(p, q)]))) (fl (iL (l ++ [(p, q)])))] 28)) we.heap.size (tc (l ++ [(p, q)])) 28 := Blk.start _ _ _
        clear hb HX t0 t1 t2 a0 a1
        have HX := HX2
        have HY := Lib.hid hY
        clear HX2 hY
        generalize we.alloc (.cells #[.int .i64 (nL (l ++ [(p, q)])), .complex .f64 (fl (cL (l ++ [(p, q)]))) (fl (sL (l ++ [(p, q)]))), .complex .f64 (fl (rL (l ++ [(p, q)]))) (fl (iL (l ++ [(p, q)])))] 28) = wf at *
        generalize we.heap.size = be at *
        have a0 := HX.out.a.cell 0 rfl
        have a1 := HX.out.a.cell 1 rfl
        obtain ⟨y0, y1, y2, _⟩ := HY.out.has3
        go_upto_region 22 with (go_at_call 11; refine (take_L (l := l) (x := (p, q)) _ HM.out.1 hma (by omega)).mono ?_; rintro e wg ⟨rfl, hb⟩)
        have HX2 := Lib.hid (HX.out.next (hb.alloc hb.size (.cells #[.int .i64 (nL (l)), .complex .f64 (fl (cL (l))) (fl (sL (l))), .complex .f64 (fl (rL (l))) (fl (iL (l)))] 28)))
        have HY2 := Lib.hid (HY.out.next (hb.alloc hb.size (.cells #[.int .i64 (nL (l)), .complex .f64 (fl (cL (l))) (fl (sL (l))), .complex .f64 (fl (rL (l))) (fl (iL (l)))] 28)))
        have hZ : Blk (wg.alloc (.cells #[.int .i64 (nL (l)), .complex .f64 (fl (cL (l))) (fl (sL (l))), .complex .f64 (fl (rL (l))) (fl (iL (l)))] 28)) wg.heap.size (tc l) 28 := Blk.start _ _ _
        clear hb HX HY a0 a1 y0 y1 y2
        have HX := HX2
        have HY := HY2
        have HZ := Lib.hid hZ
        clear HX2 HY2 hZ
        generalize wg.alloc (.cells #[.int .i64 (nL (l)), .complex .f64 (fl (cL (l))) (fl (sL (l))), .complex .f64 (fl (rL (l))) (fl (iL (l)))] 28) = wh at *
        generalize wg.heap.size = bg at *
        go_wp2_with (go_at_call 5; refine (awakeB_any _ (HL.out.next HX.out.bel)).mono ?_; rintro e wi ⟨rfl, hb⟩; refine Hid.out ?_)
        have HX2 := Lib.hid (HX.out.next hb)
        have HY2 := Lib.hid (HY.out.next hb)
        have HZ2 := Lib.hid (HZ.out.next hb)
        clear HY HZ
        clear hb HX
        have HX := HX2
        clear HX2
        refine Lib.hid ?_
        have HY := HY2
        have HZ := HZ2
        clear HY2 HZ2
        obtain ⟨t0, t1, t2, _⟩ := HX.out.t.has3
        obtain ⟨z0, z1, z2, _⟩ := HZ.out.has3
        go_wp2_with (go_at_call 10; refine (same_L _ HM.out.1 HM.out.1 (by omega) (by omega)).mono ?_; rintro e wj ⟨rfl, hb⟩; refine Hid.out ?_)
        have HX2 := Lib.hid (HX.out.next hb)
        have HY2 := Lib.hid (HY.out.next hb)
        clear HY
        clear hb HX
        have HX := HX2
        clear HX2
        refine Lib.hid ?_
        have HY := HY2
        clear HY2 t0 t1 t2 z0 z1 z2 HZ
        obtain ⟨t0, t1, t2, _⟩ := HX.out.t.has3
        obtain ⟨y0, y1, y2, _⟩ := HY.out.has3
        go_wp2_with (go_at_call 10; refine (same_L _ (HM.out.1.snoc (x := (p, q)) hma) HM.out.1 (by simp; omega) (by omega)).mono ?_; rintro e wk ⟨rfl, hb⟩; refine Hid.out ?_)
        have HX2 := Lib.hid (HX.out.next hb)
        clear hb HX
        have HX := HX2
        clear HX2
        refine Lib.hid ?_
        go_wp2
        go_ret
        exact ⟨rfl, HX.out.bel⟩

theorem turns_any (v : Value) (l : List (Int × Int)) (cut p q : Int) (w : World) (hv : IsIds w v l) (h0 : 0 ≤ cut) (h1 : cut ≤ 255) (hl : Libs w) :
    Calls Tryd.prog 3 #[v, .int .u8 cut, .agg #[.int .i64 p, .int .i64 q]] w fun e w' => e = .returned (.bool true) ∧ Below w.heap.size w w' := by
  obtain ⟨a, cap, rfl, k1, k2, k3⟩ := hv
  by_cases h : 200 < l.length
  · exact turns_long a l.length cap cut p q w h hl
  · have := turns_short a cap l cut.toNat p q w (by omega) (by omega) k1 k2 k3 hl
    rwa [Int.toNat_of_nonneg h0] at this
end Go.Proofs.YtbddljkajiimmaaDoor
