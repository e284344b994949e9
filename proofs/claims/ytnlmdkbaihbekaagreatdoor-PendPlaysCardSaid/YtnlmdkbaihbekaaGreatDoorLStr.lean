/-
  The contract of String of package id: the document's text of any id; and of the document's Text: the same. Nothing that existed has changed. It takes that the library's table of powers of ten reads as its initialiser lays it.
  A block that holds an id, whole; and the contract of the law's Awake of layer 1: it returns true. Nothing that existed has changed.
  Contracts of the library's Builder at this program: copyCheck of a builder that has been used, and WriteRune.
  The contract of the document's Char of layer 3: a character's bytes of UTF-8.
-/
import Derived.Deep.LoopGhost
import Derived.Deep.RegionHeld3
import Derived.Laws.Concat
import Derived.Laws.IdiomStrings
import Derived.Lib.AppendIntMem
import Derived.Lib.Hide
import Derived.Lib.ItoaLen
import Derived.Lib.ItoaMem
import Derived.Lib.ItoaNum
import Derived.Lib.LaidTab
import Derived.Lib.RuneBytes
import Derived.OneCell
import Derived.WalkSmall
import Derived.Test.YtnlmdkbaihbekaaGreatDoorLBase
import Derived.Test.YtnlmdkbaihbekaaGreatDoorLTree
import Derived.Test.YtnlmdkbaihbekaaGreatDoorShelf
namespace Go.Proofs.YtnlmdkbaihbekaaGreatDoor
open Go Go.Proofs Go.RowKit

/-- The library's table of powers of ten reads as its initialiser lays it. -/
def Tab (w : World) : Prop := Lib.TabIs Tryz.prog w "internal/strconv.uint64pow10" .u64 Lib.pow10Tab

theorem gTab : Tryz.prog.globalNamed "internal/strconv.uint64pow10" = some 1 := by kernel_rfl

theorem Tab.lt {w : World} (h : Tab w) : 1 < w.heap.size := by
  have hc := Lib.TabIs.cell h gTab 0 (by decide)
  exact World.block_lt_of_cell? _ _ hc

theorem Tab.below {B : Nat} {w w' : World} (h : Tab w) (hb : Below B w w') (hB : w.heap.size ≤ B) : Tab w' :=
  var?_below hb gTab (Nat.lt_of_lt_of_le h.lt hB) h
theorem Tab.next {w w' : World} (h : Tab w) (hb : Below w.heap.size w w') : Tab w' := h.below hb (Nat.le_refl _)
theorem Tab.alloc {w : World} (h : Tab w) (o : Obj) : Tab (w.alloc o) := h.next ((Below.refl _ _).alloc (Nat.le_refl _) _)

theorem itoa_pos {c : Int} (h : 0 ≤ c) : Lib.itoa c = Lib.decDigits c.toNat := by
  unfold Lib.itoa; rw [if_neg (by omega)]
theorem dec_len {c : Int} (h0 : 0 ≤ c) (h1 : c ≤ 1048576) : (Lib.decDigits c.toNat).length ≤ 21 := by
  have := Lib.itoa_length_le c (by omega) (by omega)
  rwa [itoa_pos h0] at this

/-- The decimal digits of a number, as a string. -/
def digB (c : Int) : ByteArray := ⟨(Lib.decDigits c.toNat).toArray⟩
def dotB (c : Int) : ByteArray := digB c ++ ⟨#[46]⟩
/-- The text of an id that may be: the counter's digits, a point, the site's. -/
def txtB (c s : Int) : ByteArray := dotB c ++ digB s
theorem digB_size {c : Int} (h0 : 0 ≤ c) (h1 : c ≤ 1048576) : (digB c).size ≤ 21 := by
  have := dec_len h0 h1
  show (Lib.decDigits c.toNat).toArray.size ≤ 21
  simpa using this
theorem dotB_size {c : Int} (h0 : 0 ≤ c) (h1 : c ≤ 1048576) : (dotB c).size ≤ 22 := by
  have := digB_size h0 h1
  have e : (⟨#[46]⟩ : ByteArray).size = 1 := rfl
  unfold dotB
  rw [ByteArray.size_append, e]; omega
theorem add_dot {c : Int} (h0 : 0 ≤ c) (h1 : c ≤ 1048576) (W : World) : (Op.stringOp .add (digB c) ⟨#[46]⟩).run Tryz.prog W = .ok (.string (dotB c)) W := by
  have := digB_size h0 h1
  have e : (⟨#[46]⟩ : ByteArray).size = 1 := rfl
  exact run_string_add_sum W _ _ (by rw [e]; omega)
theorem add_txt {c s : Int} (h0 : 0 ≤ c) (h1 : c ≤ 1048576) (h2 : 0 ≤ s) (h3 : s ≤ 1048576) (W : World) : (Op.stringOp .add (dotB c) (digB s)).run Tryz.prog W = .ok (.string (txtB c s)) W := by
  have := dotB_size h0 h1
  have := digB_size h2 h3
  exact run_string_add_sum W _ _ (by omega)

theorem format_any (c : Int) (h0 : 0 ≤ c) (h1 : c ≤ 1048576) (w : World) (ht : Tab w) :
    Calls Tryz.prog 79 #[.int .i64 c, .int .i64 10] w
      fun e w' => e = .returned (.string (digB c)) ∧ Below w.heap.size w w' := by
  refine (Tryz.strconv_FormatInt_10 c (by omega) (by omega) w ht).mono ?_
  rintro e w' ⟨rfl, k, os, rfl⟩
  exact ⟨by rw [itoa_pos h0]; rfl, Lib.below_grow _ _ (Nat.le_refl _) _ _⟩

theorem itoa_any (c : Int) (h0 : 0 ≤ c) (h1 : c ≤ 1048576) (w : World) (ht : Tab w) :
    Calls Tryz.prog 80 #[.int .i64 c] w
      fun e w' => e = .returned (.string (digB c)) ∧ Below w.heap.size w w' := by
  refine (Tryz.strconv_Itoa c (by omega) (by omega) w ht).mono ?_
  rintro e w' ⟨rfl, k, os, rfl⟩
  exact ⟨by rw [itoa_pos h0]; rfl, Lib.below_grow _ _ (Nat.le_refl _) _ _⟩

/-- A box lies in block b, the table reads as it should, and below B all is as it was in w. -/
def Boxed (B b : Nat) (w W : World) : Prop := b < W.heap.size ∧ Tab W ∧ Below B w W ∧ B ≤ W.heap.size
/-- The box in block b holds c and s. -/
def IsBox (B b : Nat) (c s : Int) (w W : World) : Prop :=
  W.cell? ⟨b, 0, none⟩ = some (.int .i64 c) ∧ W.cell? ⟨b, 1, none⟩ = some (.int .i64 s) ∧ Boxed B b w W
theorem IsBox.belowIt {B b : Nat} {c s : Int} {w W : World} (h : IsBox B b c s w W) : Below B w W := h.2.2.2.2.1
theorem keep_box {B b : Nat} {c s : Int} {w W W' : World} (hb : Below W.heap.size W W') (h : IsBox B b c s w W) : IsBox B b c s w W' := by
  obtain ⟨h0, h1, h2, h3, h4, h5⟩ := h
  exact ⟨by rw [hb.cell (p := ⟨b, 0, none⟩) h2]; exact h0, by rw [hb.cell (p := ⟨b, 1, none⟩) h2]; exact h1, Nat.lt_of_lt_of_le h2 hb.size, h3.next hb, h4.trans (hb.mono h5), Nat.le_trans h5 hb.size⟩
theorem keep_drew {B b : Nat} {c s : Int} {w W : World} (h : IsBox B b c s w W) : IsBox B b c s w W.drew :=
  keep_box ((Below.refl _ _).drew) h

/-- Behind the boxing of an id. -/
theorem box_start (c s : Int) (w : World) (t : TypeId) (ht : Tab w) : IsBox w.heap.size w.heap.size c s w (w.alloc (.cells #[.int .i64 c, .int .i64 s] t)) :=
  ⟨by simp [go_sem], by simp [go_sem], by simp, ht.alloc _, (Below.refl _ _).alloc (Nat.le_refl _) _, by simp⟩

set_option maxHeartbeats 800000 in
theorem string_yes (c s : Int) (w : World) (h : mayB c s = true) (ht : Tab w) :
    Calls Tryz.prog 50 #[.agg #[.int .i64 c, .int .i64 s]] w
      fun e w' => e = .returned (.string (txtB c s)) ∧ Below w.heap.size w w' := by
  have hm : 1 ≤ c ∧ c ≤ 1048576 ∧ 1 ≤ s ∧ s ≤ 1000 := by simpa [mayB] using h
  obtain ⟨h1, h2, h3, h4⟩ := hm
  have hn : noneB c s = false := by unfold noneB; simp; omega
  have hadd1 := fun W => add_dot (c := c) (by omega) (by omega) W
  have hadd2 := fun W => add_txt (c := c) (s := s) (by omega) (by omega) (by omega) (by omega) W
  have HS := Lib.hid (box_start c s w 36 ht)
  have HM := Lib.hid h
  clear ht h
  go_enter Tryz.func50, Tryz.ntmps50
  go_wp2_with (go_at_call 64; refine (none_any _ _ _).mono ?_; rintro e w1 ⟨rfl, hb1⟩; refine Hid.out ?_)
  have hs1 := keep_box hb1 HS.out
  clear HS hb1
  obtain ⟨hc0, hc1, hB1⟩ := hs1
  have HB1 := Lib.hid hB1
  clear hB1
  refine Lib.hid ?_
  go_wp2_with (go_at_call 60; refine (check_yes _ _ _ HM.out).mono ?_; rintro e w2 ⟨rfl, hb2⟩; refine Hid.out ?_)
  have hs2 := keep_drew (keep_box hb2 ⟨hc0, hc1, HB1.out⟩)
  clear HB1 hb2 hc0 hc1
  refine Lib.hid ?_
  go_wp2_with fail
  go_region_held3 (fun w' => w'.cell? ⟨w.heap.size, 0, none⟩ = some (.int .i64 c) ∧ w'.cell? ⟨w.heap.size, 1, none⟩ = some (.int .i64 s) ∧ Boxed w.heap.size w.heap.size w w')
    (first | exact hs2 | (apply keep_box (c := c) (s := s); assumption; assumption))
    (first | (go_at_call 79; refine (format_any c ?_ ?_ _ ?_).mono ?_; (omega); (omega); (exact (by assumption : IsBox w.heap.size w.heap.size c s w _).2.2.2.1); rintro e w' ⟨rfl, hb⟩) | (go_at_call 80; refine (itoa_any s ?_ ?_ _ ?_).mono ?_; (omega); (omega); (exact (by assumption : IsBox w.heap.size w.heap.size c s w _).2.2.2.1); rintro e w' ⟨rfl, hb⟩))
  go_wp2
  go_ret
  refine ⟨rfl, IsBox.belowIt (b := w.heap.size) (c := c) (s := s) ?_⟩
  assumption

set_option maxHeartbeats 800000 in
theorem string_none (w : World) :
    Calls Tryz.prog 50 #[.agg #[.int .i64 0, .int .i64 0]] w
      fun e w' => e = .returned (.string ⟨#[45]⟩) ∧ Below w.heap.size w w' := by
  have hn : noneB 0 0 = true := by unfold noneB; simp
  go_enter Tryz.func50, Tryz.ntmps50
  go_wp2_with (go_at_call 64; refine (none_any _ _ _).mono ?_; rintro e w1 ⟨rfl, hb1⟩)
  go_ret
  exact ⟨rfl, ((Below.refl _ _).alloc (Nat.le_refl _) _).trans (hb1.mono (by simp))⟩

set_option maxHeartbeats 800000 in
theorem string_wrong (c s : Int) (w : World) (hn : noneB c s = false) (h : mayB c s = false) :
    Calls Tryz.prog 50 #[.agg #[.int .i64 c, .int .i64 s]] w
      fun e w' => e = .returned (.string ⟨#[63]⟩) ∧ Below w.heap.size w w' := by
  have HM := Lib.hid h
  clear h
  go_enter Tryz.func50, Tryz.ntmps50
  go_wp2_with (go_at_call 64; refine (none_any _ _ _).mono ?_; rintro e w1 ⟨rfl, hb1⟩; refine Hid.out ?_)
  have hbA : Below w.heap.size w w1 := ((Below.refl _ _).alloc (Nat.le_refl _) _).trans (hb1.mono (by simp))
  have hc0 : w1.cell? ⟨w.heap.size, 0, none⟩ = some (.int .i64 c) := by rw [hb1.cell (p := ⟨w.heap.size, 0, none⟩) (by simp)]; simp [go_sem]
  have hc1 : w1.cell? ⟨w.heap.size, 1, none⟩ = some (.int .i64 s) := by rw [hb1.cell (p := ⟨w.heap.size, 1, none⟩) (by simp)]; simp [go_sem]
  clear hb1
  refine Lib.hid ?_
  go_wp2_with (go_at_call 60; refine (check_no _ _ _ HM.out).mono ?_; rintro e w2 ⟨rfl, hb2⟩)
  go_ret
  exact ⟨rfl, hbA.trans (hb2.mono hbA.size)⟩





end Go.Proofs.YtnlmdkbaihbekaaGreatDoor
namespace Go.Proofs.YtnlmdkbaihbekaaGreatDoor
open Go Go.Proofs Go.RowKit

/-! A block of two cells, whole. -/
/-- Block b holds just an id. -/
def Two (W : World) (b : Nat) (t : TypeId) (c s : Int) : Prop := W.heap[b]? = some (.cells #[.int .i64 c, .int .i64 s] t (0, 0))
theorem Two.c0 {W : World} {b : Nat} {t : TypeId} {c s : Int} (h : Two W b t c s) : W.cell? ⟨b, 0, none⟩ = some (.int .i64 c) := by unfold Two at h; simp [World.cell?, h]
theorem Two.c1 {W : World} {b : Nat} {t : TypeId} {c s : Int} (h : Two W b t c s) : W.cell? ⟨b, 1, none⟩ = some (.int .i64 s) := by unfold Two at h; simp [World.cell?, h]
theorem Two.f0 {W : World} {b : Nat} {t : TypeId} {c s : Int} (h : Two W b t c s) : W.frozen? ⟨b, 0, none⟩ = false := by unfold Two at h; simp [World.frozen?, h]
theorem Two.f1 {W : World} {b : Nat} {t : TypeId} {c s : Int} (h : Two W b t c s) : W.frozen? ⟨b, 1, none⟩ = false := by unfold Two at h; simp [World.frozen?, h]
theorem Two.lt {W : World} {b : Nat} {t : TypeId} {c s : Int} (h : Two W b t c s) : b < W.heap.size := lt_of_block h
theorem Two.below {B : Nat} {W W' : World} {b : Nat} {t : TypeId} {c s : Int} (h : Two W b t c s) (hb : Below B W W') (hB : b < B) : Two W' b t c s := by
  unfold Two at h ⊢; rw [hb.block b hB]; exact h
theorem Two.next {W W' : World} {b : Nat} {t : TypeId} {c s : Int} (h : Two W b t c s) (hb : Below W.heap.size W W') : Two W' b t c s := h.below hb h.lt
theorem Two.alloc {W : World} {b : Nat} {t : TypeId} {c s : Int} (h : Two W b t c s) (o : Obj) : Two (W.alloc o) b t c s := h.next ((Below.refl _ _).alloc (Nat.le_refl _) _)
theorem Two.drew {W : World} {b : Nat} {t : TypeId} {c s : Int} (h : Two W b t c s) : Two W.drew b t c s := h
theorem Two.start (W : World) (t : TypeId) (c s : Int) : Two (W.alloc (.cells #[.int .i64 c, .int .i64 s] t)) W.heap.size t c s := by
  show (W.heap.push _)[W.heap.size]? = _
  simp
theorem Two.startAt {W : World} {b : Nat} {t : TypeId} {c s : Int} (h : b = W.heap.size) : Two (W.alloc (.cells #[.int .i64 c, .int .i64 s] t)) b t c s := h ▸ Two.start W t c s
theorem Two.other {W : World} {b : Nat} {t : TypeId} {c s : Int} (h : Two W b t c s) (p : Addr) (hp : b ≠ p.block) (u : Value) : Two (W.setCell p u) b t c s := by
  unfold Two at h ⊢; rw [Below.heap_setCell _ _ _ _ hp]; exact h
theorem two_set0 {W : World} {b : Nat} {t : TypeId} {x y u : Value} (h : W.heap[b]? = some (.cells #[x, y] t (0, 0))) : (W.setCell ⟨b, 0, none⟩ u).heap[b]? = some (.cells #[u, y] t (0, 0)) := by
  have hlt := lt_of_block h
  have h' : W.heap[b] = .cells #[x, y] t (0, 0) := by simpa [Array.getElem?_eq_getElem hlt] using h
  show (W.heap.modify b _)[b]? = _
  rw [Array.getElem?_eq_getElem (by simpa using hlt), Array.getElem_modify_self, h']
  rfl
theorem two_set1 {W : World} {b : Nat} {t : TypeId} {x y u : Value} (h : W.heap[b]? = some (.cells #[x, y] t (0, 0))) : (W.setCell ⟨b, 1, none⟩ u).heap[b]? = some (.cells #[x, u] t (0, 0)) := by
  have hlt := lt_of_block h
  have h' : W.heap[b] = .cells #[x, y] t (0, 0) := by simpa [Array.getElem?_eq_getElem hlt] using h
  show (W.heap.modify b _)[b]? = _
  rw [Array.getElem?_eq_getElem (by simpa using hlt), Array.getElem_modify_self, h']
  rfl
theorem Two.store {W : World} {b : Nat} {t : TypeId} {c s : Int} (h : Two W b t c s) (c' s' : Int) : Two ((W.setCell ⟨b, 0, none⟩ (.int .i64 c')).setCell ⟨b, 1, none⟩ (.int .i64 s')) b t c' s' :=
  two_set1 (two_set0 h)

theorem less_3241 : lessB 3 2 4 1 = true := by decide
theorem less_3231 : lessB 3 2 3 1 = false := by decide
theorem txt_32 : txtB 3 2 = ⟨#[51, 46, 50]⟩ := by
  unfold txtB dotB digB
  rw [show (3 : Int).toNat = 3 from rfl, show (2 : Int).toNat = 2 from rfl, Lib.decDigits_one (by omega), Lib.decDigits_one (by omega)]
  rfl

set_option maxHeartbeats 800000 in
theorem awake_any (w : World) (ht : Tab w) :
    Calls Tryz.prog 47 #[] w fun e w' => e = .returned (.bool true) ∧ Below w.heap.size w w' := by
  have h1 := less_3241
  have h2 := less_3231
  have h3 := txt_32
  have HS := Lib.hid (box_start 3 2 w 36 ht)
  clear ht
  go_enter Tryz.func47, Tryz.ntmps47
  go_wp2_with (go_at_call 72; refine (less_any _ _ _ _ _).mono ?_; rintro e w1 ⟨rfl, hb1⟩; refine Hid.out ?_)
  have hs1 := keep_box hb1 HS.out
  clear HS hb1
  obtain ⟨hc0, hc1, hB1⟩ := hs1
  have HB1 := Lib.hid hB1
  clear hB1
  refine Lib.hid ?_
  go_wp2_with (go_at_call 72; refine (less_any _ _ _ _ _).mono ?_; rintro e w2 ⟨rfl, hb2⟩; refine Hid.out ?_)
  have hs2 := keep_box hb2 ⟨hc0, hc1, HB1.out⟩
  clear HB1 hb2 hc0 hc1
  obtain ⟨hc0, hc1, hB2⟩ := hs2
  have HB2 := Lib.hid hB2
  clear hB2
  refine Lib.hid ?_
  go_wp2_with (go_at_call 50; refine (string_yes _ _ _ (by decide) HB2.out.2.1).mono ?_; rintro e w3 ⟨rfl, hb3⟩)
  go_ret
  refine ⟨rfl, IsBox.belowIt (b := w.heap.size) (c := 3) (s := 2) (keep_box hb3 ⟨hc0, hc1, HB2.out⟩)⟩
end Go.Proofs.YtnlmdkbaihbekaaGreatDoor
namespace Go.Proofs.YtnlmdkbaihbekaaGreatDoor
open Go Go.Proofs Go.RowKit

theorem sizeBuilder : (Tryz.prog.info? 101).map (·.size) = some 2 := by kernel_rfl
set_option maxHeartbeats 1600000 in
set_option maxRecDepth 100000 in
theorem copyCheck_used (b : Nat) (w : World) (h0 : w.cell? ⟨b, 0, none⟩ = some (.pointer (some ⟨b, 0, none⟩))) :
    Calls Tryz.prog 83 #[.pointer (some ⟨b, 0, none⟩)] w fun e w' => e = .returned (.tuple #[]) ∧ w = w' := by
  obtain ⟨j, hj, _⟩ := Option.map_eq_some_iff.1 sizeBuilder
  go_enter Tryz.func83, Tryz.ntmps83
  go_wp2
  rw [Lib.run_neq_ptr_same w _ Tryz.underlying98 hj]
  go_wp2
  go_end0
  exact ⟨rfl, rfl⟩

set_option maxHeartbeats 2000000 in
set_option maxRecDepth 100000 in
theorem writeRune_any (B b : Nat) (bs : List Value) (r : Int) (hr0 : -2147483648 ≤ r) (hr1 : r ≤ 2147483647) (w1 : World) (h1 : Lib.BuilderAtF 101 5 B b (.pointer (some ⟨b, 0, none⟩)) bs w1) (hlen : bs.length + 4 ≤ 140737488355328) (hBw : B ≤ w1.heap.size) :
    Calls Tryz.prog 56 #[.pointer (some ⟨b, 0, none⟩), .int .i32 r] w1 fun e w' => e = .returned (.tuple #[.int .i64 (Lib.runeCells r).length, .nilIface]) ∧ (Lib.BuilderAtF 101 5 B b (.pointer (some ⟨b, 0, none⟩)) (bs ++ Lib.runeCells r) w' ∧ Below B w1 w' ∧ Lib.OthersKept 5 (some b) w1 w') := by
  have hk4 := Lib.runeCells_le r
  obtain ⟨hB, v, hbk, hown, hne⟩ := h1
  obtain ⟨ao, cap, rfl⟩ : ∃ ao cap, v = .slice ao bs.length cap := by
    rcases hown.2 with ⟨hv, h0⟩ | ⟨g, cap, cur, fz, hv, _⟩
    · exact ⟨none, 0, by rw [hv, h0]⟩
    · exact ⟨_, _, hv⟩
  have c0 : w1.cell? ⟨b, 0, none⟩ = some (.pointer (some ⟨b, 0, none⟩)) := by rw [Lib.cell_of_heap hbk]; rfl
  have c1 : w1.cell? ⟨b, 1, none⟩ = some (.slice ao bs.length cap) := by rw [Lib.cell_of_heap hbk]; rfl
  go_enter Tryz.func56, Tryz.ntmps56
  go_wp2_with (first
    | (go_at_call 83; refine (copyCheck_used b _ c0).mono ?_; rintro e w' ⟨rfl, rfl⟩)
    | (go_at_call 87; refine (Tryz.utf8_AppendRune_row B _ bs.length bs r hr0 hr1 _ hown hlen hBw).mono ?_))
  rintro e w2 ⟨v', rfl, hown', o, hgrow⟩
  have hlt : b < w1.heap.size := by
    rcases Nat.lt_or_ge b w1.heap.size with h' | h'
    · exact h'
    · simp [Array.getElem?_eq_none h'] at hbk
  have hb2 : w2.heap[b]? = some (.cells #[.pointer (some ⟨b, 0, none⟩), .slice ao bs.length cap] 101 (0, 0)) := by
    rw [hgrow.block b (by simp; omega) (fun e => hne e.symm), Lib.alloc_old w1 _ b hlt]
    exact hbk
  have d0 : w2.cell? ⟨b, 0, none⟩ = some (.pointer (some ⟨b, 0, none⟩)) := by rw [Lib.cell_of_heap hb2]; rfl
  have d1 : w2.cell? ⟨b, 1, none⟩ = some (.slice ao bs.length cap) := by rw [Lib.cell_of_heap hb2]; rfl
  have f1 : w2.frozen? ⟨b, 1, none⟩ = false := Lib.frozen_of_heap hb2 1
  obtain ⟨g, cap', rfl⟩ : ∃ g cap', v' = .slice (some ⟨g, 0, none⟩) (bs.length + (Lib.runeCells r).length) cap' := by
    rcases hown'.2 with ⟨_, h0⟩ | ⟨g, cap', cur, fz, hv, _⟩
    · omega
    · exact ⟨g, cap', hv⟩
  go_wp2
  go_ret2
  refine ⟨?_, ?_, ?_, (((Lib.OthersKept.refl _ _ w1).alloc _).grown hgrow (Lib.ownsRowF_kind (hown.alloc _))).setCell ⟨b, 1, none⟩ rfl _⟩
  · have e : ((bs.length : Int) + ((Lib.runeCells r).length : Int) - (bs.length : Int)) = ((Lib.runeCells r).length : Int) := by omega
    simp [e]
  · exact Lib.BuilderAtF.put (T := 101) (e := 5) hB hb2 (bs' := bs ++ Lib.runeCells r) (by simpa using hown') (by decide)
  · exact (((Below.refl B w1).alloc hBw _).grown hgrow (by simp; omega) (fun k hk => (hown.lt k hk).1)).setCell (p := ⟨b, 1, none⟩) hB _
end Go.Proofs.YtnlmdkbaihbekaaGreatDoor
namespace Go.Proofs.YtnlmdkbaihbekaaGreatDoor
open Go Go.Proofs Go.RowKit

/-- The bytes of some numbers. -/
def bytesI (l : List Int) : ByteArray := ⟨(l.map fun x => x.toNat.toUInt8).toArray⟩
/-- 'string([]byte{..})' of bytes that were just laid. -/
theorem conv_ints (l : List Int) (hl : ∀ x ∈ l, 0 ≤ x ∧ x ≤ 255) (w : World) :
    (convert 99 9 (.slice (some ⟨w.heap.size, 0, none⟩) l.length l.length)).run Tryz.prog (w.alloc (.cells ⟨l.map (Value.int .u8)⟩ 5)) =
      .ok (.string (bytesI l)) (w.alloc (.cells ⟨l.map (Value.int .u8)⟩ 5)) := by
  have h := run_convert_bytes_back (P := Tryz.prog) (w.alloc (.cells ⟨l.map (Value.int .u8)⟩ 5)) 99 9 5 ⟨w.heap.size, 0, none⟩ l.length (l.map fun x => x.toNat.toUInt8)
    Tryz.underlying99 Tryz.underlying5 Tryz.underlying9 (fun j hj => by
      have hj' : j < l.length := by simpa using hj
      have h0 := hl l[j] (List.getElem_mem hj')
      have e : ((l.map fun x : Int => x.toNat.toUInt8)[j].toNat : Int) = l[j] := by
        rw [List.getElem_map]
        have : (l[j].toNat.toUInt8).toNat = l[j].toNat := by
          rw [UInt8.toNat_ofNat']
          omega
        rw [this]
        omega
      rw [e, show (⟨w.heap.size, 0, none⟩ : Addr).add j = ⟨w.heap.size, j, none⟩ by unfold Addr.add; split <;> simp_all]
      exact (Blk.start w (l.map (Value.int .u8)) 5).cell j (by rw [List.getElem?_map, List.getElem?_eq_getElem hj']; rfl))
  rw [List.length_map] at h
  exact h
theorem ret_enc {w w' : World} {l : List Int} {v : Int} (h : Lib.encodeRuneZ v = l) (hb : Below w.heap.size w w') : (Ending.returned (.string (bytesI l)) : Ending) = .returned (.string ⟨(Lib.encodeRune v).toArray⟩) ∧ Below w.heap.size w w' := ⟨by unfold bytesI Lib.encodeRune; rw [h], hb⟩
end Go.Proofs.YtnlmdkbaihbekaaGreatDoor
