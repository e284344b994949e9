/-
  The contracts of a row's Len, Alive, Insert, Set.
-/
import Derived.Test.YtjfffnnkkjceoaaDoorGrow
namespace Go.Proofs.YtjfffnnkkjceoaaDoor
open Go Go.Proofs Go.RowKit

set_option maxHeartbeats 400000 in
theorem len_any {n : Nat} {p : Option Addr} {T : Tr} (w : World) (h : IsT n w p T) :
    Calls Tryd.prog 10 #[.agg #[.pointer p]] w fun e w' => e = .returned (.int .i64 (T.size : Int)) ∧ Below w.heap.size w w' := by
  have hb0 := Lib.hid ((Below.refl w.heap.size w).alloc (Nat.le_refl _) (.cells #[.pointer p] 26))
  have H0 := Lib.hid (h.is.next hb0.out)
  have fs0 := fieldS0
  clear h
  go_enter Tryd.func10, Tryd.ntmps10
  go_wp2_with (go_at_call 20; refine (total_any _ H0.out).mono ?_; rintro e w1 ⟨rfl, hb1⟩)
  go_ret
  exact ⟨rfl, hb0.out.trans (hb1.mono hb0.out.size)⟩
set_option maxHeartbeats 400000 in
theorem aliveRow_any {n : Nat} {p : Option Addr} {T : Tr} (w : World) (h : IsT n w p T) :
    Calls Tryd.prog 8 #[.agg #[.pointer p]] w fun e w' => e = .returned (.int .i64 (T.alive : Int)) ∧ Below w.heap.size w w' := by
  have hb0 := Lib.hid ((Below.refl w.heap.size w).alloc (Nat.le_refl _) (.cells #[.pointer p] 26))
  have H0 := Lib.hid (h.is.next hb0.out)
  have fs1 := fieldS1
  clear h
  go_enter Tryd.func8, Tryd.ntmps8
  go_wp2_with (go_at_call 20; refine (total_any _ H0.out).mono ?_; rintro e w1 ⟨rfl, hb1⟩)
  go_ret
  exact ⟨rfl, hb0.out.trans (hb1.mono hb0.out.size)⟩

/-- A row is handed back, and nothing that existed has changed. -/
def RetTr (T : Tr) (b : Bool) (w : World) (e : Ending) (w' : World) : Prop := ∃ q, e = .returned (.tuple #[.agg #[.pointer q], .bool b]) ∧ Is w' q T ∧ Below w.heap.size w w'
/-- Insert of a row. -/
def insTop (T : Tr) (i : Int) (e : El) : Tr := if 0 ≤ i ∧ i ≤ T.size then insT T i e else T
/-- Set of a row. -/
def setTop (T : Tr) (i : Int) (e : El) : Tr := if 0 ≤ i ∧ i < T.size then setT T i e else T
theorem insTop_size (T : Tr) (i : Int) (e : El) : (insTop T i e).size ≤ T.size + 1 := by
  unfold insTop; split
  · rw [insT_size]; omega
  · omega
theorem setTop_size (T : Tr) (i : Int) (e : El) : (setTop T i e).size = T.size := by
  unfold setTop; split
  · rw [setT_size]
  · rfl

/-- The three boxes of Insert and Set: the row, the element, the row that is handed back. -/
structure RW (w : World) (T : Tr) (e : El) (p : Option Addr) (W : World) : Prop where
  tr : Is W p T
  bel : Below w.heap.size w W
  b0 : Blk W w.heap.size [.pointer p] 26
  b1 : Blk W (w.heap.size + 1) (elL e) 30
  b2 : Blk W (w.heap.size + 1 + 1) [.pointer none] 26
theorem RW.next {w : World} {T : Tr} {e : El} {p : Option Addr} {W W' : World} (h : RW w T e p W) (hb : Below W.heap.size W W') : RW w T e p W' :=
  ⟨h.tr.next hb, h.bel.trans (hb.mono h.bel.size), h.b0.next hb, h.b1.next hb, h.b2.next hb⟩
theorem RW.start {w : World} {T : Tr} (e : El) {p : Option Addr} (h : Is w p T) :
    RW w T e p (((w.alloc (.cells #[.pointer p] 26)).alloc (.cells #[.int .i64 e.c, .int .i64 e.s, .int .i32 e.ch, .bool e.d] 30)).alloc (.cells #[.pointer none] 26)) := by
  have hb : Below w.heap.size w (((w.alloc (.cells #[.pointer p] 26)).alloc (.cells #[.int .i64 e.c, .int .i64 e.s, .int .i32 e.ch, .bool e.d] 30)).alloc (.cells #[.pointer none] 26)) :=
    (((Below.refl _ _).alloc (Nat.le_refl _) _).alloc (by simp) _).alloc (by simp; omega) _
  exact ⟨h.next hb, hb, ((Blk.start w _ _).alloc _).alloc _, (Blk.startAt (by simp)).alloc _, Blk.startAt (by simp)⟩
theorem RW.put {w : World} {T : Tr} {e : El} {p q : Option Addr} {W : World} (h : RW w T e p W) : Below w.heap.size w (W.setCell ⟨w.heap.size + 1 + 1, 0, none⟩ (.pointer q)) := h.bel.setCell (p := ⟨w.heap.size + 1 + 1, 0, none⟩) (by show w.heap.size ≤ w.heap.size + 1 + 1; omega) _
theorem IsT.set {n : Nat} {W : World} {b i : Nat} {t : TypeId} {vs : List Value} (hB : Blk W b vs t) (ht : t ≠ 61) (v : Value) : ∀ {p : Option Addr} {T : Tr}, IsT n W p T → IsT n (W.setCell ⟨b, i, none⟩ v) p T
  | _, .nil, h => h
  | _, .node _ _ _, ⟨c, pl, pr, hp, hn, hC, hl, hr⟩ => ⟨c, pl, pr, hp, hn, hC.other _ (fun e => by
      have e' : c = b := e
      subst e'
      unfold Blk at hB hC
      rw [hB] at hC
      simp only [Option.some.injEq, Obj.cells.injEq] at hC
      exact ht hC.2.1) _, IsT.set hB ht v hl, IsT.set hB ht v hr⟩
theorem Is.set {W : World} {b i : Nat} {t : TypeId} {vs : List Value} (hB : Blk W b vs t) (ht : t ≠ 61) (v : Value) {p : Option Addr} {T : Tr} (h : Is W p T) : Is (W.setCell ⟨b, i, none⟩ v) p T := (IsT.set hB ht v h).is

set_option maxHeartbeats 800000 in
theorem Insert_ok {p : Option Addr} {T : Tr} (i : Int) (e : El) (w : World) (h : Is w p T) (hs : T.size ≤ 800) (h0 : 0 ≤ i) (h1 : i ≤ T.size) :
    Calls Tryd.prog 5 #[.agg #[.pointer p], .int .i64 i, .agg #[.int .i64 e.c, .int .i64 e.s, .int .i32 e.ch, .bool e.d]] w (RetTr (insT T i e) true w) := by
  have H0 := Lib.hid (RW.start e h)
  have h0' : ¬ i < 0 := by omega
  clear h
  go_enter Tryd.func5, Tryd.ntmps5
  go_wp2_with (go_at_call 10; refine (len_any _ H0.out.tr).mono ?_; rintro e' w1 ⟨rfl, hb1⟩; refine Hid.out ?_)
  have H1 := Lib.hid (H0.out.next hb1)
  clear H0 hb1
  have hp := H1.out.b0.cell 0 rfl
  have hx0 := H1.out.b1.cell 0 rfl
  have hx1 := H1.out.b1.cell 1 rfl
  have hx2 := H1.out.b1.cell 2 rfl
  have hx3 := H1.out.b1.cell 3 rfl
  refine Lib.hid ?_
  go_wp2_with (go_at_call 14; refine (insert_any e T i _ _ H1.out.tr hs h0 (by omega)).mono ?_; rintro e' w2 ⟨q, rfl, hq, hb2⟩; refine Hid.out ?_)
  have H2 := Lib.hid (H1.out.next hb2)
  clear H1 hb2 hp hx0 hx1 hx2 hx3
  have hr := H2.out.b2.cell 0 rfl
  have hf := H2.out.b2.free 0
  have hZ := Lib.hid ((H2.out.b2.set 0 (.pointer q)).cell 0 rfl)
  refine Lib.hid ?_
  go_wp2_with fail
  exact bodyPost_ret (v := .tuple #[.agg #[.pointer q], .bool true]) (by have := hZ.out; simp [results, Tryd.results5, go_sem, this]) rfl ⟨q, rfl, Is.set H2.out.b2 (by decide) _ hq, H2.out.put⟩
set_option maxHeartbeats 800000 in
theorem Insert_no1 {p : Option Addr} {T : Tr} (i : Int) (e : El) (w : World) (h : Is w p T) (h0 : i < 0) :
    Calls Tryd.prog 5 #[.agg #[.pointer p], .int .i64 i, .agg #[.int .i64 e.c, .int .i64 e.s, .int .i32 e.ch, .bool e.d]] w (RetTr T false w) := by
  have hb : Below w.heap.size w (((w.alloc (.cells #[.pointer p] 26)).alloc (.cells #[.int .i64 e.c, .int .i64 e.s, .int .i32 e.ch, .bool e.d] 30)).alloc (.cells #[.pointer p] 26)) :=
    (((Below.refl _ _).alloc (Nat.le_refl _) _).alloc (by simp) _).alloc (by simp; omega) _
  have H0 := Lib.hid (And.intro (h.next hb) hb)
  clear h hb
  go_enter Tryd.func5, Tryd.ntmps5
  go_wp2
  exact bodyPost_ret (v := .tuple #[.agg #[.pointer p], .bool false]) (by simp [results, Tryd.results5, go_sem]) rfl ⟨p, rfl, H0.out.1, H0.out.2⟩
set_option maxHeartbeats 800000 in
theorem Insert_no2 {p : Option Addr} {T : Tr} (i : Int) (e : El) (w : World) (h : Is w p T) (h0 : 0 ≤ i) (h1 : ¬ i ≤ T.size) :
    Calls Tryd.prog 5 #[.agg #[.pointer p], .int .i64 i, .agg #[.int .i64 e.c, .int .i64 e.s, .int .i32 e.ch, .bool e.d]] w (RetTr T false w) := by
  have H0 := Lib.hid (RW.start e h)
  have h0' : ¬ i < 0 := by omega
  clear h h0
  go_enter Tryd.func5, Tryd.ntmps5
  go_wp2_with (go_at_call 10; refine (len_any _ H0.out.tr).mono ?_; rintro e' w1 ⟨rfl, hb1⟩; refine Hid.out ?_)
  have H1 := Lib.hid (H0.out.next hb1)
  clear H0 hb1
  have hp := H1.out.b0.cell 0 rfl
  have hr := H1.out.b2.cell 0 rfl
  have hf := H1.out.b2.free 0
  have hZ := Lib.hid ((H1.out.b2.set 0 (.pointer p)).cell 0 rfl)
  refine Lib.hid ?_
  go_wp2_with fail
  exact bodyPost_ret (v := .tuple #[.agg #[.pointer p], .bool false]) (by have := hZ.out; simp [results, Tryd.results5, go_sem, this]) rfl ⟨p, rfl, Is.set H1.out.b2 (by decide) _ H1.out.tr, H1.out.put⟩
/-- Is the place one of the row's? -/
def insTB (T : Tr) (i : Int) : Bool := decide (0 ≤ i ∧ i ≤ T.size)
theorem Insert_any {p : Option Addr} {T : Tr} (i : Int) (e : El) (w : World) (h : Is w p T) (hs : T.size ≤ 800) :
    Calls Tryd.prog 5 #[.agg #[.pointer p], .int .i64 i, .agg #[.int .i64 e.c, .int .i64 e.s, .int .i32 e.ch, .bool e.d]] w (RetTr (insTop T i e) (insTB T i) w) := by
  by_cases hc : 0 ≤ i ∧ i ≤ T.size
  · rw [show insTop T i e = insT T i e by unfold insTop; rw [if_pos hc], show insTB T i = true by simp [insTB, hc]]
    exact Insert_ok i e w h hs hc.1 hc.2
  · rw [show insTop T i e = T by unfold insTop; rw [if_neg hc], show insTB T i = false by unfold insTB; simpa using hc]
    by_cases h0 : i < 0
    · exact Insert_no1 i e w h h0
    · exact Insert_no2 i e w h (by omega) (fun h1 => hc ⟨by omega, h1⟩)


set_option maxHeartbeats 800000 in
theorem Set_ok {p : Option Addr} {T : Tr} (i : Int) (e : El) (w : World) (h : Is w p T) (hs : T.size ≤ 800) (h0 : 0 ≤ i) (h1 : i < T.size) :
    Calls Tryd.prog 9 #[.agg #[.pointer p], .int .i64 i, .agg #[.int .i64 e.c, .int .i64 e.s, .int .i32 e.ch, .bool e.d]] w (RetTr (setT T i e) true w) := by
  have H0 := Lib.hid (RW.start e h)
  have h0' : ¬ i < 0 := by omega
  clear h
  go_enter Tryd.func9, Tryd.ntmps9
  go_wp2_with (go_at_call 10; refine (len_any _ H0.out.tr).mono ?_; rintro e' w1 ⟨rfl, hb1⟩; refine Hid.out ?_)
  have H1 := Lib.hid (H0.out.next hb1)
  clear H0 hb1
  have hp := H1.out.b0.cell 0 rfl
  have hx0 := H1.out.b1.cell 0 rfl
  have hx1 := H1.out.b1.cell 1 rfl
  have hx2 := H1.out.b1.cell 2 rfl
  have hx3 := H1.out.b1.cell 3 rfl
  refine Lib.hid ?_
  go_wp2_with (go_at_call 21; refine (set_any e T i _ _ H1.out.tr hs h0 (by omega)).mono ?_; rintro e' w2 ⟨q, rfl, hq, hb2⟩; refine Hid.out ?_)
  have H2 := Lib.hid (H1.out.next hb2)
  clear H1 hb2 hp hx0 hx1 hx2 hx3
  have hr := H2.out.b2.cell 0 rfl
  have hf := H2.out.b2.free 0
  have hZ := Lib.hid ((H2.out.b2.set 0 (.pointer q)).cell 0 rfl)
  refine Lib.hid ?_
  go_wp2_with fail
  exact bodyPost_ret (v := .tuple #[.agg #[.pointer q], .bool true]) (by have := hZ.out; simp [results, Tryd.results9, go_sem, this]) rfl ⟨q, rfl, Is.set H2.out.b2 (by decide) _ hq, H2.out.put⟩
set_option maxHeartbeats 800000 in
theorem Set_no1 {p : Option Addr} {T : Tr} (i : Int) (e : El) (w : World) (h : Is w p T) (h0 : i < 0) :
    Calls Tryd.prog 9 #[.agg #[.pointer p], .int .i64 i, .agg #[.int .i64 e.c, .int .i64 e.s, .int .i32 e.ch, .bool e.d]] w (RetTr T false w) := by
  have hb : Below w.heap.size w (((w.alloc (.cells #[.pointer p] 26)).alloc (.cells #[.int .i64 e.c, .int .i64 e.s, .int .i32 e.ch, .bool e.d] 30)).alloc (.cells #[.pointer p] 26)) :=
    (((Below.refl _ _).alloc (Nat.le_refl _) _).alloc (by simp) _).alloc (by simp; omega) _
  have H0 := Lib.hid (And.intro (h.next hb) hb)
  clear h hb
  go_enter Tryd.func9, Tryd.ntmps9
  go_wp2
  exact bodyPost_ret (v := .tuple #[.agg #[.pointer p], .bool false]) (by simp [results, Tryd.results9, go_sem]) rfl ⟨p, rfl, H0.out.1, H0.out.2⟩
set_option maxHeartbeats 800000 in
theorem Set_no2 {p : Option Addr} {T : Tr} (i : Int) (e : El) (w : World) (h : Is w p T) (h0 : 0 ≤ i) (h1 : ¬ i < T.size) :
    Calls Tryd.prog 9 #[.agg #[.pointer p], .int .i64 i, .agg #[.int .i64 e.c, .int .i64 e.s, .int .i32 e.ch, .bool e.d]] w (RetTr T false w) := by
  have H0 := Lib.hid (RW.start e h)
  have h0' : ¬ i < 0 := by omega
  clear h h0
  go_enter Tryd.func9, Tryd.ntmps9
  go_wp2_with (go_at_call 10; refine (len_any _ H0.out.tr).mono ?_; rintro e' w1 ⟨rfl, hb1⟩; refine Hid.out ?_)
  have H1 := Lib.hid (H0.out.next hb1)
  clear H0 hb1
  have hp := H1.out.b0.cell 0 rfl
  have hr := H1.out.b2.cell 0 rfl
  have hf := H1.out.b2.free 0
  have hZ := Lib.hid ((H1.out.b2.set 0 (.pointer p)).cell 0 rfl)
  refine Lib.hid ?_
  go_wp2_with fail
  exact bodyPost_ret (v := .tuple #[.agg #[.pointer p], .bool false]) (by have := hZ.out; simp [results, Tryd.results9, go_sem, this]) rfl ⟨p, rfl, Is.set H1.out.b2 (by decide) _ H1.out.tr, H1.out.put⟩
/-- Is the place one of the row's? -/
def setTB (T : Tr) (i : Int) : Bool := decide (0 ≤ i ∧ i < T.size)
theorem Set_any {p : Option Addr} {T : Tr} (i : Int) (e : El) (w : World) (h : Is w p T) (hs : T.size ≤ 800) :
    Calls Tryd.prog 9 #[.agg #[.pointer p], .int .i64 i, .agg #[.int .i64 e.c, .int .i64 e.s, .int .i32 e.ch, .bool e.d]] w (RetTr (setTop T i e) (setTB T i) w) := by
  by_cases hc : 0 ≤ i ∧ i < T.size
  · rw [show setTop T i e = setT T i e by unfold setTop; rw [if_pos hc], show setTB T i = true by simp [setTB, hc]]
    exact Set_ok i e w h hs hc.1 hc.2
  · rw [show setTop T i e = T by unfold setTop; rw [if_neg hc], show setTB T i = false by unfold setTB; simpa using hc]
    by_cases h0 : i < 0
    · exact Set_no1 i e w h h0
    · exact Set_no2 i e w h (by omega) (fun h1 => hc ⟨by omega, h1⟩)

end Go.Proofs.YtjfffnnkkjceoaaDoor
