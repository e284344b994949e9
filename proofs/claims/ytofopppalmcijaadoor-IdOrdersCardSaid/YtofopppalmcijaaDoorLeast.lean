/-
  The contracts of the law's Awake (it returns true) and of Least of package id: the id below which none is, None without any. Nothing that existed has changed.
-/
import Derived.Test.YtofopppalmcijaaDoorString
import Derived.OneCell
namespace Go.Proofs.YtofopppalmcijaaDoor
open Go Go.Proofs Go.RowKit

/-! A block of two cells, whole. -/
/-- Block b holds just an id. -/
def Two (W : World) (b : Nat) (t : TypeId) (c s : Int) : Prop := W.heap[b]? = some (.cells #[.int .i64 c, .int .i64 s] t (0, 0))
theorem Two.c0 {W : World} {b : Nat} {t : TypeId} {c s : Int} (h : Two W b t c s) : W.cell? ⟨b, 0, none⟩ = some (.int .i64 c) := by unfold Two at h; simp [World.cell?, h]
theorem Two.c1 {W : World} {b : Nat} {t : TypeId} {c s : Int} (h : Two W b t c s) : W.cell? ⟨b, 1, none⟩ = some (.int .i64 s) := by unfold Two at h; simp [World.cell?, h]
theorem Two.f0 {W : World} {b : Nat} {t : TypeId} {c s : Int} (h : Two W b t c s) : W.frozen? ⟨b, 0, none⟩ = false := by unfold Two at h; simp [World.frozen?, h]
theorem Two.f1 {W : World} {b : Nat} {t : TypeId} {c s : Int} (h : Two W b t c s) : W.frozen? ⟨b, 1, none⟩ = false := by unfold Two at h; simp [World.frozen?, h]
theorem Two.lt {W : World} {b : Nat} {t : TypeId} {c s : Int} (h : Two W b t c s) : b < W.heap.size := lt_of_block h
theorem Two.below {B : Nat} {W W' : World} {b : Nat} {t : TypeId} {c s : Int} (h : Two W b t c s) (hb : Below B W W') (hB : b < B) : Two W' b t c s := by
  unfold Two at h ⊢; rw [hb.block b hB]; exact h
theorem Two.next {W W' : World} {b : Nat} {t : TypeId} {c s : Int} (h : Two W b t c s) (hb : Below W.heap.size W W') : Two W' b t c s := h.below hb h.lt
theorem Two.alloc {W : World} {b : Nat} {t : TypeId} {c s : Int} (h : Two W b t c s) (o : Obj) : Two (W.alloc o) b t c s := h.next ((Below.refl _ _).alloc (Nat.le_refl _) _)
theorem Two.drew {W : World} {b : Nat} {t : TypeId} {c s : Int} (h : Two W b t c s) : Two W.drew b t c s := h
theorem Two.start (W : World) (t : TypeId) (c s : Int) : Two (W.alloc (.cells #[.int .i64 c, .int .i64 s] t)) W.heap.size t c s := by
  show (W.heap.push _)[W.heap.size]? = _
  simp
theorem Two.startAt {W : World} {b : Nat} {t : TypeId} {c s : Int} (h : b = W.heap.size) : Two (W.alloc (.cells #[.int .i64 c, .int .i64 s] t)) b t c s := h ▸ Two.start W t c s
theorem Two.other {W : World} {b : Nat} {t : TypeId} {c s : Int} (h : Two W b t c s) (p : Addr) (hp : b ≠ p.block) (u : Value) : Two (W.setCell p u) b t c s := by
  unfold Two at h ⊢; rw [Below.heap_setCell _ _ _ _ hp]; exact h
theorem two_set0 {W : World} {b : Nat} {t : TypeId} {x y u : Value} (h : W.heap[b]? = some (.cells #[x, y] t (0, 0))) : (W.setCell ⟨b, 0, none⟩ u).heap[b]? = some (.cells #[u, y] t (0, 0)) := by
  have hlt := lt_of_block h
  have h' : W.heap[b] = .cells #[x, y] t (0, 0) := by simpa [Array.getElem?_eq_getElem hlt] using h
  show (W.heap.modify b _)[b]? = _
  rw [Array.getElem?_eq_getElem (by simpa using hlt), Array.getElem_modify_self, h']
  rfl
theorem two_set1 {W : World} {b : Nat} {t : TypeId} {x y u : Value} (h : W.heap[b]? = some (.cells #[x, y] t (0, 0))) : (W.setCell ⟨b, 1, none⟩ u).heap[b]? = some (.cells #[x, u] t (0, 0)) := by
  have hlt := lt_of_block h
  have h' : W.heap[b] = .cells #[x, y] t (0, 0) := by simpa [Array.getElem?_eq_getElem hlt] using h
  show (W.heap.modify b _)[b]? = _
  rw [Array.getElem?_eq_getElem (by simpa using hlt), Array.getElem_modify_self, h']
  rfl
theorem Two.store {W : World} {b : Nat} {t : TypeId} {c s : Int} (h : Two W b t c s) (c' s' : Int) : Two ((W.setCell ⟨b, 0, none⟩ (.int .i64 c')).setCell ⟨b, 1, none⟩ (.int .i64 s')) b t c' s' :=
  two_set1 (two_set0 h)

theorem less_3241 : lessB 3 2 4 1 = true := by decide
theorem less_3231 : lessB 3 2 3 1 = false := by decide
theorem txt_32 : txtB 3 2 = ⟨#[51, 46, 50]⟩ := by
  unfold txtB dotB digB
  rw [show (3 : Int).toNat = 3 from rfl, show (2 : Int).toNat = 2 from rfl, Lib.decDigits_one (by omega), Lib.decDigits_one (by omega)]
  rfl

set_option maxHeartbeats 800000 in
theorem awake_any (w : World) (ht : Tab w) :
    Calls Tryd.prog 5 #[] w fun e w' => e = .returned (.bool true) ∧ Below w.heap.size w w' := by
  have h1 := less_3241
  have h2 := less_3231
  have h3 := txt_32
  have HS := Lib.hid (box_start 3 2 w 23 ht)
  clear ht
  go_enter Tryd.func5, Tryd.ntmps5
  go_wp2_with (go_at_call 10; refine (less_any _ _ _ _ _).mono ?_; rintro e w1 ⟨rfl, hb1⟩; refine Hid.out ?_)
  have hs1 := keep_box hb1 HS.out
  clear HS hb1
  obtain ⟨hc0, hc1, hB1⟩ := hs1
  have HB1 := Lib.hid hB1
  clear hB1
  refine Lib.hid ?_
  go_wp2_with (go_at_call 10; refine (less_any _ _ _ _ _).mono ?_; rintro e w2 ⟨rfl, hb2⟩; refine Hid.out ?_)
  have hs2 := keep_box hb2 ⟨hc0, hc1, HB1.out⟩
  clear HB1 hb2 hc0 hc1
  obtain ⟨hc0, hc1, hB2⟩ := hs2
  have HB2 := Lib.hid hB2
  clear hB2
  refine Lib.hid ?_
  go_wp2_with (go_at_call 12; refine (string_yes _ _ _ (by decide) HB2.out.2.1).mono ?_; rintro e w3 ⟨rfl, hb3⟩)
  go_ret
  refine ⟨rfl, IsBox.belowIt (b := w.heap.size) (c := 3) (s := 2) (keep_box hb3 ⟨hc0, hc1, HB2.out⟩)⟩

/-- The least of some ids, by the document's order: the first one below which none is. -/
def leastFrom (m : Int × Int) (l : List (Int × Int)) : Int × Int := l.foldl (fun m x => if lessB x.1 x.2 m.1 m.2 then x else m) m
theorem leastFrom_snoc (m x : Int × Int) (l : List (Int × Int)) : leastFrom m (l ++ [x]) = if lessB x.1 x.2 (leastFrom m l).1 (leastFrom m l).2 then x else leastFrom m l := by
  unfold leastFrom; rw [List.foldl_append]; rfl

/-- A slice of ids: its cells lie from off on in block b. -/
def Lies (w : World) (b off : Nat) (l : List (Int × Int)) : Prop :=
  ∀ i (hi : i < l.length), w.cell? ⟨b, off + i * 2, none⟩ = some (.int .i64 l[i].1) ∧ w.cell? ⟨b, off + i * 2 + 1, none⟩ = some (.int .i64 l[i].2)

/-- What holds at the head of each round of Least. -/
def LeastAt (w wr : World) (x : Int × Int) (l : List (Int × Int)) : Prop :=
  Two wr w.heap.size 23 0 0 ∧ Two wr (w.heap.size + 1) 23 (leastFrom x l).1 (leastFrom x l).2 ∧ Below w.heap.size w wr

set_option maxHeartbeats 800000 in
theorem least_many (b off cap : Nat) (x : Int × Int) (l : List (Int × Int)) (w : World) (hl : l.length ≤ 49) (hcap : l.length + 1 ≤ cap) (hcap2 : 2 ≤ cap) (hmax : cap ≤ 9223372036854775807)
    (h : Lies w b off (x :: l)) :
    Calls Tryd.prog 14 #[.slice (some ⟨b, off, none⟩) (l.length + 1) cap] w
      fun e w' => e = .returned (.agg #[.int .i64 (leastFrom x l).1, .int .i64 (leastFrom x l).2]) ∧ Below w.heap.size w w' := by
  have hx := h 0 (by simp)
  simp only [List.getElem_cons_zero, Nat.zero_mul, Nat.add_zero] at hx
  obtain ⟨hx0', hx1'⟩ := hx
  have hbl : b < w.heap.size := World.block_lt_of_cell? _ _ hx0'
  have hx0 : ∀ o, (w.alloc o).cell? ⟨b, off, none⟩ = some (.int .i64 x.1) := fun o => by rw [World.cell?_alloc_old _ _ _ (by show b ≠ w.heap.size; omega)]; exact hx0'
  have hx1 : ∀ o, (w.alloc o).cell? ⟨b, off + 1, none⟩ = some (.int .i64 x.2) := fun o => by rw [World.cell?_alloc_old _ _ _ (by show b ≠ w.heap.size; omega)]; exact hx1'
  clear hx0' hx1'
  have HL := Lib.hid h
  clear h
  go_enter Tryd.func14, Tryd.ntmps14
  go_wp2
  go_loopg [16] l.length (fun g i wr => ∃ k : Nat, k ≤ l.length ∧ g = l.length - k ∧ i = .int .i64 k ∧ LeastAt w wr x (l.take k))
  case atStart => exact ⟨0, Nat.zero_le _, rfl, rfl, (Two.start _ _ _ _).alloc _, Two.startAt (by simp), ((Below.refl _ _).alloc (Nat.le_refl _) _).alloc (by simp) _⟩
  case round =>
    obtain ⟨k, hk, rfl, rfl, hR⟩ := hrel
    clear hx0 hx1
    by_cases hlt : k < l.length
    · have hsn : Hid (leastFrom x (l.take (k + 1)) = if lessB l[k].1 l[k].2 (leastFrom x (l.take k)).1 (leastFrom x (l.take k)).2 then l[k] else leastFrom x (l.take k)) := by
        rw [List.take_succ_eq_append_getElem hlt]
        exact leastFrom_snoc _ _ _
      have hcl := HL.out (k + 1) (by simpa using hlt)
      simp only [List.getElem_cons_succ] at hcl
      have hy0 : wr.cell? ⟨b, off + 2 + k * 2, none⟩ = some (.int .i64 l[k].1) := by rw [hR.2.2.cell (p := ⟨b, _, none⟩) hbl, show off + 2 + k * 2 = off + (k + 1) * 2 by omega]; exact hcl.1
      have hy1 : wr.cell? ⟨b, off + 2 + k * 2 + 1, none⟩ = some (.int .i64 l[k].2) := by rw [hR.2.2.cell (p := ⟨b, _, none⟩) hbl, show off + 2 + k * 2 + 1 = off + (k + 1) * 2 + 1 by omega]; exact hcl.2
      clear hcl
      have HR := Lib.hid hR
      have hm0 : ∀ o, (wr.alloc o).cell? ⟨w.heap.size + 1, 0, none⟩ = some (.int .i64 (leastFrom x (l.take k)).1) := fun o => (hR.2.1.alloc o).c0
      have hm1 : ∀ o, (wr.alloc o).cell? ⟨w.heap.size + 1, 1, none⟩ = some (.int .i64 (leastFrom x (l.take k)).2) := fun o => (hR.2.1.alloc o).c1
      clear hR
      generalize l[k] = y at *
      generalize hm : leastFrom x (l.take k) = m at *
      have HM := Lib.hid hm
      clear hm
      rcases hless : lessB y.1 y.2 m.1 m.2 with _ | _
      · go_wp2_with (go_at_call 10; refine (less_any _ _ _ _ _).mono ?_; rintro e w1 ⟨rfl, hb1⟩)
        go_roundg (l.length - (k + 1))
        case measure => omega
        case rel =>
          refine ⟨k + 1, by omega, rfl, by go_num, ?_⟩
          have e : leastFrom x (l.take (k + 1)) = leastFrom x (l.take k) := by rw [hsn.out, HM.out, if_neg (by simp [hless])]
          unfold LeastAt
          rw [e]
          have hR := HR.out
          exact ⟨(hR.1.alloc _).next hb1, (hR.2.1.alloc _).next hb1, (hR.2.2.alloc hR.2.2.size _).trans (hb1.mono (by have := hR.2.2.size; simp; omega))⟩
      · go_wp2_with (go_at_call 10; refine (less_any _ _ _ _ _).mono ?_; rintro e w1 ⟨rfl, hb1⟩; refine Hid.out ?_)
        have hX : Two w1 wr.heap.size 23 y.1 y.2 := (Two.start _ _ _ _).next hb1
        have hM : Two w1 (w.heap.size + 1) 23 m.1 m.2 := by have := (HR.out.2.1.alloc _).next hb1; rw [HM.out] at this; exact this
        have hQ : Two w1 w.heap.size 23 0 0 := (HR.out.1.alloc _).next hb1
        have hbel : Below w.heap.size w w1 := (HR.out.2.2.alloc HR.out.2.2.size _).trans (hb1.mono (by have := HR.out.2.2.size; simp; omega))
        have ca := hX.c0
        have cb := hX.c1
        have cc := hM.c0
        have cd := hM.c1
        have fa := hM.f0
        have fb := hM.f1
        have HH := Lib.hid (⟨hM, hQ, hbel⟩ : Two w1 (w.heap.size + 1) 23 m.1 m.2 ∧ Two w1 w.heap.size 23 0 0 ∧ Below w.heap.size w w1)
        clear hX hM hQ hbel hb1 hy0 hy1 hm0 hm1
        refine Lib.hid ?_
        go_wp2
        go_roundg (l.length - (k + 1))
        case measure => omega
        case rel =>
          refine ⟨k + 1, by omega, rfl, by go_num, ?_⟩
          have e : leastFrom x (l.take (k + 1)) = y := by rw [hsn.out, if_pos hless]
          unfold LeastAt
          rw [e]
          obtain ⟨hM, hQ, hbel⟩ := HH.out
          exact ⟨(hQ.other _ (by show w.heap.size ≠ w.heap.size + 1; omega) _).other _ (by show w.heap.size ≠ w.heap.size + 1; omega) _, hM.store _ _, (hbel.setCell (by show w.heap.size ≤ w.heap.size + 1; omega) _).setCell (by show w.heap.size ≤ w.heap.size + 1; omega) _⟩
    · have hkl : k = l.length := by omega
      have e : l.take k = l := by rw [hkl]; exact List.take_length
      rw [e] at hR
      have ca := hR.1.c0
      have cb := hR.1.c1
      have fa := hR.1.f0
      have fb := hR.1.f1
      have cc := hR.2.1.c0
      have cd := hR.2.1.c1
      have HR := Lib.hid hR
      clear hR e hkl
      go_wp2
      exact bodyPost_ret (v := .agg #[.int .i64 (leastFrom x l).1, .int .i64 (leastFrom x l).2]) (by simp [results, Tryd.results14, go_sem, ca, cb]) rfl ⟨rfl, (HR.out.2.2.setCell (Nat.le_refl _) _).setCell (Nat.le_refl _) _⟩

set_option maxHeartbeats 800000 in
theorem least_zero (a : Option Addr) (cap : Nat) (w : World) :
    Calls Tryd.prog 14 #[.slice a 0 cap] w
      fun e w' => e = .returned (.agg #[.int .i64 0, .int .i64 0]) ∧ Below w.heap.size w w' := by
  go_enter Tryd.func14, Tryd.ntmps14
  go_wp2
  exact bodyPost_ret (v := .agg #[.int .i64 0, .int .i64 0]) (by simp [results, Tryd.results14, go_sem]) rfl ⟨rfl, (Below.refl _ _).alloc (Nat.le_refl _) _⟩

set_option maxHeartbeats 800000 in
theorem least_one (b off : Nat) (x : Int × Int) (w : World) (h : Lies w b off [x]) :
    Calls Tryd.prog 14 #[.slice (some ⟨b, off, none⟩) 1 1] w
      fun e w' => e = .returned (.agg #[.int .i64 x.1, .int .i64 x.2]) ∧ Below w.heap.size w w' := by
  have hx := h 0 (by simp)
  simp only [List.getElem_cons_zero, Nat.zero_mul, Nat.add_zero] at hx
  obtain ⟨hx0', hx1'⟩ := hx
  have hbl : b < w.heap.size := World.block_lt_of_cell? _ _ hx0'
  have hx0 : ∀ o, (w.alloc o).cell? ⟨b, off, none⟩ = some (.int .i64 x.1) := fun o => by rw [World.cell?_alloc_old _ _ _ (by show b ≠ w.heap.size; omega)]; exact hx0'
  have hx1 : ∀ o, (w.alloc o).cell? ⟨b, off + 1, none⟩ = some (.int .i64 x.2) := fun o => by rw [World.cell?_alloc_old _ _ _ (by show b ≠ w.heap.size; omega)]; exact hx1'
  clear hx0' hx1' h
  go_enter Tryd.func14, Tryd.ntmps14
  go_wp2
  refine wp_loop_rounds 1 ?_
  rw [rounds_succ]
  go_wp2
  exact bodyPost_ret (v := .agg #[.int .i64 x.1, .int .i64 x.2]) (by simp [results, Tryd.results14, go_sem]) rfl ⟨rfl, (((Below.refl _ _).alloc (Nat.le_refl _) _).alloc (by simp) _)⟩

/-- The least of some ids; None without any. -/
def leastOf : List (Int × Int) → Int × Int
  | [] => (0, 0)
  | x :: l => leastFrom x l

/-- v is a slice of the ids l, at most fifty. -/
def IsIds (w : World) (v : Value) (l : List (Int × Int)) : Prop :=
  ∃ a cap, v = .slice a l.length cap ∧ l.length ≤ cap ∧ cap ≤ 9223372036854775807 ∧ (l ≠ [] → ∃ b off, a = some ⟨b, off, none⟩ ∧ Lies w b off l)

theorem least_any (v : Value) (l : List (Int × Int)) (w : World) (hl : l.length ≤ 50) (h : IsIds w v l) :
    Calls Tryd.prog 14 #[v] w
      fun e w' => e = .returned (.agg #[.int .i64 (leastOf l).1, .int .i64 (leastOf l).2]) ∧ Below w.heap.size w w' := by
  obtain ⟨a, cap, rfl, h1, h2, h3⟩ := h
  match l, hl, h1, h3 with
  | [], _, _, _ => exact least_zero a cap w
  | x :: l, hl, h1, h3 =>
    obtain ⟨b, off, rfl, hL⟩ := h3 (by simp)
    simp only [List.length_cons] at hl h1
    by_cases hc : 2 ≤ cap
    · exact least_many b off cap x l w (by omega) h1 hc h2 hL
    · have hl0 : l = [] := by
        apply List.eq_nil_of_length_eq_zero
        omega
      subst hl0
      obtain rfl : cap = 1 := by simp at h1 hc; omega
      exact least_one b off x w hL
end Go.Proofs.YtofopppalmcijaaDoor
