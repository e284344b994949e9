/-
  A block that holds an id, whole; and the contract of the law's Awake of layer 1: it returns true. Nothing that existed has changed.
-/
import Derived.Test.YtbfnehpmlngagaaDoorString
import Derived.OneCell
namespace Go.Proofs.YtbfnehpmlngagaaDoor
open Go Go.Proofs Go.RowKit

/-! A block of two cells, whole. -/
/-- Block b holds just an id. -/
def Two (W : World) (b : Nat) (t : TypeId) (c s : Int) : Prop := W.heap[b]? = some (.cells #[.int .i64 c, .int .i64 s] t (0, 0))
theorem Two.c0 {W : World} {b : Nat} {t : TypeId} {c s : Int} (h : Two W b t c s) : W.cell? ⟨b, 0, none⟩ = some (.int .i64 c) := by unfold Two at h; simp [World.cell?, h]
theorem Two.c1 {W : World} {b : Nat} {t : TypeId} {c s : Int} (h : Two W b t c s) : W.cell? ⟨b, 1, none⟩ = some (.int .i64 s) := by unfold Two at h; simp [World.cell?, h]
theorem Two.f0 {W : World} {b : Nat} {t : TypeId} {c s : Int} (h : Two W b t c s) : W.frozen? ⟨b, 0, none⟩ = false := by unfold Two at h; simp [World.frozen?, h]
theorem Two.f1 {W : World} {b : Nat} {t : TypeId} {c s : Int} (h : Two W b t c s) : W.frozen? ⟨b, 1, none⟩ = false := by unfold Two at h; simp [World.frozen?, h]
theorem Two.lt {W : World} {b : Nat} {t : TypeId} {c s : Int} (h : Two W b t c s) : b < W.heap.size := lt_of_block h
theorem Two.below {B : Nat} {W W' : World} {b : Nat} {t : TypeId} {c s : Int} (h : Two W b t c s) (hb : Below B W W') (hB : b < B) : Two W' b t c s := by
  unfold Two at h ⊢; rw [hb.block b hB]; exact h
theorem Two.next {W W' : World} {b : Nat} {t : TypeId} {c s : Int} (h : Two W b t c s) (hb : Below W.heap.size W W') : Two W' b t c s := h.below hb h.lt
theorem Two.alloc {W : World} {b : Nat} {t : TypeId} {c s : Int} (h : Two W b t c s) (o : Obj) : Two (W.alloc o) b t c s := h.next ((Below.refl _ _).alloc (Nat.le_refl _) _)
theorem Two.drew {W : World} {b : Nat} {t : TypeId} {c s : Int} (h : Two W b t c s) : Two W.drew b t c s := h
theorem Two.start (W : World) (t : TypeId) (c s : Int) : Two (W.alloc (.cells #[.int .i64 c, .int .i64 s] t)) W.heap.size t c s := by
  show (W.heap.push _)[W.heap.size]? = _
  simp
theorem Two.startAt {W : World} {b : Nat} {t : TypeId} {c s : Int} (h : b = W.heap.size) : Two (W.alloc (.cells #[.int .i64 c, .int .i64 s] t)) b t c s := h ▸ Two.start W t c s
theorem Two.other {W : World} {b : Nat} {t : TypeId} {c s : Int} (h : Two W b t c s) (p : Addr) (hp : b ≠ p.block) (u : Value) : Two (W.setCell p u) b t c s := by
  unfold Two at h ⊢; rw [Below.heap_setCell _ _ _ _ hp]; exact h
theorem two_set0 {W : World} {b : Nat} {t : TypeId} {x y u : Value} (h : W.heap[b]? = some (.cells #[x, y] t (0, 0))) : (W.setCell ⟨b, 0, none⟩ u).heap[b]? = some (.cells #[u, y] t (0, 0)) := by
  have hlt := lt_of_block h
  have h' : W.heap[b] = .cells #[x, y] t (0, 0) := by simpa [Array.getElem?_eq_getElem hlt] using h
  show (W.heap.modify b _)[b]? = _
  rw [Array.getElem?_eq_getElem (by simpa using hlt), Array.getElem_modify_self, h']
  rfl
theorem two_set1 {W : World} {b : Nat} {t : TypeId} {x y u : Value} (h : W.heap[b]? = some (.cells #[x, y] t (0, 0))) : (W.setCell ⟨b, 1, none⟩ u).heap[b]? = some (.cells #[x, u] t (0, 0)) := by
  have hlt := lt_of_block h
  have h' : W.heap[b] = .cells #[x, y] t (0, 0) := by simpa [Array.getElem?_eq_getElem hlt] using h
  show (W.heap.modify b _)[b]? = _
  rw [Array.getElem?_eq_getElem (by simpa using hlt), Array.getElem_modify_self, h']
  rfl
theorem Two.store {W : World} {b : Nat} {t : TypeId} {c s : Int} (h : Two W b t c s) (c' s' : Int) : Two ((W.setCell ⟨b, 0, none⟩ (.int .i64 c')).setCell ⟨b, 1, none⟩ (.int .i64 s')) b t c' s' :=
  two_set1 (two_set0 h)

theorem less_3241 : lessB 3 2 4 1 = true := by decide
theorem less_3231 : lessB 3 2 3 1 = false := by decide
theorem txt_32 : txtB 3 2 = ⟨#[51, 46, 50]⟩ := by
  unfold txtB dotB digB
  rw [show (3 : Int).toNat = 3 from rfl, show (2 : Int).toNat = 2 from rfl, Lib.decDigits_one (by omega), Lib.decDigits_one (by omega)]
  rfl

set_option maxHeartbeats 800000 in
theorem awake_any (w : World) (ht : Tab w) :
    Calls Tryd.prog 12 #[] w fun e w' => e = .returned (.bool true) ∧ Below w.heap.size w w' := by
  have h1 := less_3241
  have h2 := less_3231
  have h3 := txt_32
  have HS := Lib.hid (box_start 3 2 w 24 ht)
  clear ht
  go_enter Tryd.func12, Tryd.ntmps12
  go_wp2_with (go_at_call 26; refine (less_any _ _ _ _ _).mono ?_; rintro e w1 ⟨rfl, hb1⟩; refine Hid.out ?_)
  have hs1 := keep_box hb1 HS.out
  clear HS hb1
  obtain ⟨hc0, hc1, hB1⟩ := hs1
  have HB1 := Lib.hid hB1
  clear hB1
  refine Lib.hid ?_
  go_wp2_with (go_at_call 26; refine (less_any _ _ _ _ _).mono ?_; rintro e w2 ⟨rfl, hb2⟩; refine Hid.out ?_)
  have hs2 := keep_box hb2 ⟨hc0, hc1, HB1.out⟩
  clear HB1 hb2 hc0 hc1
  obtain ⟨hc0, hc1, hB2⟩ := hs2
  have HB2 := Lib.hid hB2
  clear hB2
  refine Lib.hid ?_
  go_wp2_with (go_at_call 21; refine (string_yes _ _ _ (by decide) HB2.out.2.1).mono ?_; rintro e w3 ⟨rfl, hb3⟩)
  go_ret
  refine ⟨rfl, IsBox.belowIt (b := w.heap.size) (c := 3) (s := 2) (keep_box hb3 ⟨hc0, hc1, HB2.out⟩)⟩
end Go.Proofs.YtbfnehpmlngagaaDoor
