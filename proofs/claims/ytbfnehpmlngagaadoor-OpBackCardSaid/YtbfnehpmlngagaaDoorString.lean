/-
  The contract of String of package id: the document's text of any id; and of the document's Text: the same. Nothing that existed has changed. It takes that the library's table of powers of ten reads as its initialiser lays it.
-/
import Derived.Test.YtbfnehpmlngagaaDoorDigits
import Derived.Test.YtbfnehpmlngagaaDoorLeaf
import Derived.Deep.LoopGhost
import Derived.Lib.ItoaNum
import Derived.Lib.Hide
import Derived.Laws.IdiomStrings
import Derived.Test.YtbfnehpmlngagaaDoorShelf
import Derived.Deep.RegionHeld3
import Derived.Lib.ItoaLen
import Derived.Lib.ItoaMem
import Derived.WalkSmall
import Derived.Lib.LaidTab
import Derived.Lib.AppendIntMem
import Derived.Laws.Concat
namespace Go.Proofs.YtbfnehpmlngagaaDoor
open Go Go.Proofs Go.RowKit

/-- The library's table of powers of ten reads as its initialiser lays it. -/
def Tab (w : World) : Prop := Lib.TabIs Tryd.prog w "internal/strconv.uint64pow10" .u64 Lib.pow10Tab

theorem gTab : Tryd.prog.globalNamed "internal/strconv.uint64pow10" = some 0 := by kernel_rfl

theorem Tab.lt {w : World} (h : Tab w) : 0 < w.heap.size := by
  have hc := Lib.TabIs.cell h gTab 0 (by decide)
  exact World.block_lt_of_cell? _ _ hc

theorem Tab.below {B : Nat} {w w' : World} (h : Tab w) (hb : Below B w w') (hB : w.heap.size ≤ B) : Tab w' :=
  var?_below hb gTab (Nat.lt_of_lt_of_le h.lt hB) h
theorem Tab.next {w w' : World} (h : Tab w) (hb : Below w.heap.size w w') : Tab w' := h.below hb (Nat.le_refl _)
theorem Tab.alloc {w : World} (h : Tab w) (o : Obj) : Tab (w.alloc o) := h.next ((Below.refl _ _).alloc (Nat.le_refl _) _)

theorem itoa_pos {c : Int} (h : 0 ≤ c) : Lib.itoa c = Lib.decDigits c.toNat := by
  unfold Lib.itoa; rw [if_neg (by omega)]
theorem dec_len {c : Int} (h0 : 0 ≤ c) (h1 : c ≤ 1048576) : (Lib.decDigits c.toNat).length ≤ 21 := by
  have := Lib.itoa_length_le c (by omega) (by omega)
  rwa [itoa_pos h0] at this

/-- The decimal digits of a number, as a string. -/
def digB (c : Int) : ByteArray := ⟨(Lib.decDigits c.toNat).toArray⟩
def dotB (c : Int) : ByteArray := digB c ++ ⟨#[46]⟩
/-- The text of an id that may be: the counter's digits, a point, the site's. -/
def txtB (c s : Int) : ByteArray := dotB c ++ digB s
theorem digB_size {c : Int} (h0 : 0 ≤ c) (h1 : c ≤ 1048576) : (digB c).size ≤ 21 := by
  have := dec_len h0 h1
  show (Lib.decDigits c.toNat).toArray.size ≤ 21
  simpa using this
theorem dotB_size {c : Int} (h0 : 0 ≤ c) (h1 : c ≤ 1048576) : (dotB c).size ≤ 22 := by
  have := digB_size h0 h1
  have e : (⟨#[46]⟩ : ByteArray).size = 1 := rfl
  unfold dotB
  rw [ByteArray.size_append, e]; omega
theorem add_dot {c : Int} (h0 : 0 ≤ c) (h1 : c ≤ 1048576) (W : World) : (Op.stringOp .add (digB c) ⟨#[46]⟩).run Tryd.prog W = .ok (.string (dotB c)) W := by
  have := digB_size h0 h1
  have e : (⟨#[46]⟩ : ByteArray).size = 1 := rfl
  exact run_string_add_sum W _ _ (by rw [e]; omega)
theorem add_txt {c s : Int} (h0 : 0 ≤ c) (h1 : c ≤ 1048576) (h2 : 0 ≤ s) (h3 : s ≤ 1048576) (W : World) : (Op.stringOp .add (dotB c) (digB s)).run Tryd.prog W = .ok (.string (txtB c s)) W := by
  have := dotB_size h0 h1
  have := digB_size h2 h3
  exact run_string_add_sum W _ _ (by omega)

theorem format_any (c : Int) (h0 : 0 ≤ c) (h1 : c ≤ 1048576) (w : World) (ht : Tab w) :
    Calls Tryd.prog 22 #[.int .i64 c, .int .i64 10] w
      fun e w' => e = .returned (.string (digB c)) ∧ Below w.heap.size w w' := by
  refine (Tryd.strconv_FormatInt_10 c (by omega) (by omega) w ht).mono ?_
  rintro e w' ⟨rfl, k, os, rfl⟩
  exact ⟨by rw [itoa_pos h0]; rfl, Lib.below_grow _ _ (Nat.le_refl _) _ _⟩

theorem itoa_any (c : Int) (h0 : 0 ≤ c) (h1 : c ≤ 1048576) (w : World) (ht : Tab w) :
    Calls Tryd.prog 29 #[.int .i64 c] w
      fun e w' => e = .returned (.string (digB c)) ∧ Below w.heap.size w w' := by
  refine (Tryd.strconv_Itoa c (by omega) (by omega) w ht).mono ?_
  rintro e w' ⟨rfl, k, os, rfl⟩
  exact ⟨by rw [itoa_pos h0]; rfl, Lib.below_grow _ _ (Nat.le_refl _) _ _⟩

/-- A box lies in block b, the table reads as it should, and below B all is as it was in w. -/
def Boxed (B b : Nat) (w W : World) : Prop := b < W.heap.size ∧ Tab W ∧ Below B w W ∧ B ≤ W.heap.size
/-- The box in block b holds c and s. -/
def IsBox (B b : Nat) (c s : Int) (w W : World) : Prop :=
  W.cell? ⟨b, 0, none⟩ = some (.int .i64 c) ∧ W.cell? ⟨b, 1, none⟩ = some (.int .i64 s) ∧ Boxed B b w W
theorem IsBox.belowIt {B b : Nat} {c s : Int} {w W : World} (h : IsBox B b c s w W) : Below B w W := h.2.2.2.2.1
theorem keep_box {B b : Nat} {c s : Int} {w W W' : World} (hb : Below W.heap.size W W') (h : IsBox B b c s w W) : IsBox B b c s w W' := by
  obtain ⟨h0, h1, h2, h3, h4, h5⟩ := h
  exact ⟨by rw [hb.cell (p := ⟨b, 0, none⟩) h2]; exact h0, by rw [hb.cell (p := ⟨b, 1, none⟩) h2]; exact h1, Nat.lt_of_lt_of_le h2 hb.size, h3.next hb, h4.trans (hb.mono h5), Nat.le_trans h5 hb.size⟩
theorem keep_drew {B b : Nat} {c s : Int} {w W : World} (h : IsBox B b c s w W) : IsBox B b c s w W.drew :=
  keep_box ((Below.refl _ _).drew) h

/-- Behind the boxing of an id. -/
theorem box_start (c s : Int) (w : World) (t : TypeId) (ht : Tab w) : IsBox w.heap.size w.heap.size c s w (w.alloc (.cells #[.int .i64 c, .int .i64 s] t)) :=
  ⟨by simp [go_sem], by simp [go_sem], by simp, ht.alloc _, (Below.refl _ _).alloc (Nat.le_refl _) _, by simp⟩

set_option maxHeartbeats 800000 in
theorem string_yes (c s : Int) (w : World) (h : mayB c s = true) (ht : Tab w) :
    Calls Tryd.prog 21 #[.agg #[.int .i64 c, .int .i64 s]] w
      fun e w' => e = .returned (.string (txtB c s)) ∧ Below w.heap.size w w' := by
  have hm : 1 ≤ c ∧ c ≤ 1048576 ∧ 1 ≤ s ∧ s ≤ 1000 := by simpa [mayB] using h
  obtain ⟨h1, h2, h3, h4⟩ := hm
  have hn : noneB c s = false := by unfold noneB; simp; omega
  have hadd1 := fun W => add_dot (c := c) (by omega) (by omega) W
  have hadd2 := fun W => add_txt (c := c) (s := s) (by omega) (by omega) (by omega) (by omega) W
  have HS := Lib.hid (box_start c s w 24 ht)
  have HM := Lib.hid h
  clear ht h
  go_enter Tryd.func21, Tryd.ntmps21
  go_wp2_with (go_at_call 27; refine (none_any _ _ _).mono ?_; rintro e w1 ⟨rfl, hb1⟩; refine Hid.out ?_)
  have hs1 := keep_box hb1 HS.out
  clear HS hb1
  obtain ⟨hc0, hc1, hB1⟩ := hs1
  have HB1 := Lib.hid hB1
  clear hB1
  refine Lib.hid ?_
  go_wp2_with (go_at_call 15; refine (check_yes _ _ _ HM.out).mono ?_; rintro e w2 ⟨rfl, hb2⟩; refine Hid.out ?_)
  have hs2 := keep_drew (keep_box hb2 ⟨hc0, hc1, HB1.out⟩)
  clear HB1 hb2 hc0 hc1
  refine Lib.hid ?_
  go_wp2_with fail
  go_region_held3 (fun w' => w'.cell? ⟨w.heap.size, 0, none⟩ = some (.int .i64 c) ∧ w'.cell? ⟨w.heap.size, 1, none⟩ = some (.int .i64 s) ∧ Boxed w.heap.size w.heap.size w w')
    (first | exact hs2 | (apply keep_box (c := c) (s := s); assumption; assumption))
    (first | (go_at_call 22; refine (format_any c ?_ ?_ _ ?_).mono ?_; (omega); (omega); (exact (by assumption : IsBox w.heap.size w.heap.size c s w _).2.2.2.1); rintro e w' ⟨rfl, hb⟩) | (go_at_call 29; refine (itoa_any s ?_ ?_ _ ?_).mono ?_; (omega); (omega); (exact (by assumption : IsBox w.heap.size w.heap.size c s w _).2.2.2.1); rintro e w' ⟨rfl, hb⟩))
  go_wp2
  go_ret
  refine ⟨rfl, IsBox.belowIt (b := w.heap.size) (c := c) (s := s) ?_⟩
  assumption

set_option maxHeartbeats 800000 in
theorem string_none (w : World) :
    Calls Tryd.prog 21 #[.agg #[.int .i64 0, .int .i64 0]] w
      fun e w' => e = .returned (.string ⟨#[45]⟩) ∧ Below w.heap.size w w' := by
  have hn : noneB 0 0 = true := by unfold noneB; simp
  go_enter Tryd.func21, Tryd.ntmps21
  go_wp2_with (go_at_call 27; refine (none_any _ _ _).mono ?_; rintro e w1 ⟨rfl, hb1⟩)
  go_ret
  exact ⟨rfl, ((Below.refl _ _).alloc (Nat.le_refl _) _).trans (hb1.mono (by simp))⟩

set_option maxHeartbeats 800000 in
theorem string_wrong (c s : Int) (w : World) (hn : noneB c s = false) (h : mayB c s = false) :
    Calls Tryd.prog 21 #[.agg #[.int .i64 c, .int .i64 s]] w
      fun e w' => e = .returned (.string ⟨#[63]⟩) ∧ Below w.heap.size w w' := by
  have HM := Lib.hid h
  clear h
  go_enter Tryd.func21, Tryd.ntmps21
  go_wp2_with (go_at_call 27; refine (none_any _ _ _).mono ?_; rintro e w1 ⟨rfl, hb1⟩; refine Hid.out ?_)
  have hbA : Below w.heap.size w w1 := ((Below.refl _ _).alloc (Nat.le_refl _) _).trans (hb1.mono (by simp))
  have hc0 : w1.cell? ⟨w.heap.size, 0, none⟩ = some (.int .i64 c) := by rw [hb1.cell (p := ⟨w.heap.size, 0, none⟩) (by simp)]; simp [go_sem]
  have hc1 : w1.cell? ⟨w.heap.size, 1, none⟩ = some (.int .i64 s) := by rw [hb1.cell (p := ⟨w.heap.size, 1, none⟩) (by simp)]; simp [go_sem]
  clear hb1
  refine Lib.hid ?_
  go_wp2_with (go_at_call 15; refine (check_no _ _ _ HM.out).mono ?_; rintro e w2 ⟨rfl, hb2⟩)
  go_ret
  exact ⟨rfl, hbA.trans (hb2.mono hbA.size)⟩

theorem digitsI (c : Int) (h0 : 0 ≤ c) (h1 : c ≤ 1048576) (w : World) :
    Calls Tryd.prog 31 #[.int .i64 c] w
      fun e w' => e = .returned (.string (digB c)) ∧ Below w.heap.size w w' := by
  have h := digits_any c.toNat (by omega) w
  rw [Int.toNat_of_nonneg h0] at h
  exact h

set_option maxHeartbeats 800000 in
theorem text_none (w : World) :
    Calls Tryd.prog 23 #[.agg #[.int .i64 0, .int .i64 0]] w
      fun e w' => e = .returned (.string ⟨#[45]⟩) ∧ Below w.heap.size w w' := by
  go_enter Tryd.func23, Tryd.ntmps23
  go_wp2
  go_ret
  exact ⟨rfl, (Below.refl _ _).alloc (Nat.le_refl _) _⟩

set_option maxHeartbeats 800000 in
theorem text_wrong (c s : Int) (w : World) (hn : noneB c s = false) (h : mayB c s = false) :
    Calls Tryd.prog 23 #[.agg #[.int .i64 c, .int .i64 s]] w
      fun e w' => e = .returned (.string ⟨#[63]⟩) ∧ Below w.heap.size w w' := by
  have hn' : ¬ (c = 0 ∧ s = 0) := by simpa [noneB] using hn
  by_cases hc : c = 0
  · have hs : (s == 0) = false := by simp; omega
    have hc' : (c == 0) = true := by simpa using hc
    clear hn hn' hc
    go_enter Tryd.func23, Tryd.ntmps23
    go_wp2_with (go_at_call 19; refine (may_any _ _ _).mono ?_; rintro e w1 ⟨rfl, hb1⟩)
    go_ret
    exact ⟨rfl, ((Below.refl _ _).alloc (Nat.le_refl _) _).trans (hb1.mono (by simp))⟩
  · have hc' : (c == 0) = false := by simpa using hc
    clear hn hn' hc
    go_enter Tryd.func23, Tryd.ntmps23
    go_wp2_with (go_at_call 19; refine (may_any _ _ _).mono ?_; rintro e w1 ⟨rfl, hb1⟩)
    go_ret
    exact ⟨rfl, ((Below.refl _ _).alloc (Nat.le_refl _) _).trans (hb1.mono (by simp))⟩

set_option maxHeartbeats 800000 in
theorem text_yes (c s : Int) (w : World) (h : mayB c s = true) (ht : Tab w) :
    Calls Tryd.prog 23 #[.agg #[.int .i64 c, .int .i64 s]] w
      fun e w' => e = .returned (.string (txtB c s)) ∧ Below w.heap.size w w' := by
  have hm : 1 ≤ c ∧ c ≤ 1048576 ∧ 1 ≤ s ∧ s ≤ 1000 := by simpa [mayB] using h
  obtain ⟨h1, h2, h3, h4⟩ := hm
  have hc' : (c == 0) = false := by simp; omega
  have hadd1 := fun W => add_dot (c := c) (by omega) (by omega) W
  have hadd2 := fun W => add_txt (c := c) (s := s) (by omega) (by omega) (by omega) (by omega) W
  have HS := Lib.hid (box_start c s w 31 ht)
  clear ht
  go_enter Tryd.func23, Tryd.ntmps23
  go_wp2_with (go_at_call 19; refine (may_any _ _ _).mono ?_; rintro e w1 ⟨rfl, hb1⟩; refine Hid.out ?_)
  have hs2 := keep_drew (keep_box hb1 HS.out)
  clear HS hb1
  refine Lib.hid ?_
  go_wp2_with fail
  go_region_held3 (fun w' => w'.cell? ⟨w.heap.size, 0, none⟩ = some (.int .i64 c) ∧ w'.cell? ⟨w.heap.size, 1, none⟩ = some (.int .i64 s) ∧ Boxed w.heap.size w.heap.size w w')
    (first | exact hs2 | (apply keep_box (c := c) (s := s); assumption; assumption))
    (first | (go_at_call_of 31 (Value.int .i64 c); refine (digitsI c ?_ ?_ _).mono ?_; (omega); (omega); rintro e w' ⟨rfl, hb⟩) | (go_at_call 31; refine (digitsI s ?_ ?_ _).mono ?_; (omega); (omega); rintro e w' ⟨rfl, hb⟩))
  go_wp2
  go_ret
  refine ⟨rfl, IsBox.belowIt (b := w.heap.size) (c := c) (s := s) ?_⟩
  assumption

end Go.Proofs.YtbfnehpmlngagaaDoor
