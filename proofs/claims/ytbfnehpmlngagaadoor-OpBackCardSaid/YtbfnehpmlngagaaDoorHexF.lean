/-
  The contracts of the library's formatBits and FormatInt in hexadecimal, of numbers from 0 to 1114111: their hexadecimal digits. Nothing that existed has changed.
-/
import Derived.Test.YtbfnehpmlngagaaDoorHex
namespace Go.Proofs.YtbfnehpmlngagaaDoor
open Go Go.Proofs Go.RowKit

theorem wraps_u64 (n : Int) (h₀ : 0 ≤ n) (h₁ : n < 2 ^ 62) : IntKind.u64.wrap n = n := IntWalk.u64_in _ (by omega)
theorem and15 (x : Int) (h₀ : 0 ≤ x) (h₁ : x < 4611686018427387904) : bits .and .u64 x 15 = x % 16 := bits_mask .u64 62 (by decide) wraps_u64 4 (by decide) x h₀ h₁

theorem tab_at (d : Nat) (hd : d < 16) (h : d < (⟨#[48, 49, 50, 51, 52, 53, 54, 55, 56, 57, 97, 98, 99, 100, 101, 102, 103, 104, 105, 106, 107, 108, 109, 110, 111, 112, 113, 114, 115, 116, 117, 118, 119, 120, 121, 122]⟩ : ByteArray).size) : (⟨#[48, 49, 50, 51, 52, 53, 54, 55, 56, 57, 97, 98, 99, 100, 101, 102, 103, 104, 105, 106, 107, 108, 109, 110, 111, 112, 113, 114, 115, 116, 117, 118, 119, 120, 121, 122]⟩ : ByteArray)[d]'h = hxU d := by
  have : ∀ d : Fin 16, (⟨#[48, 49, 50, 51, 52, 53, 54, 55, 56, 57, 97, 98, 99, 100, 101, 102, 103, 104, 105, 106, 107, 108, 109, 110, 111, 112, 113, 114, 115, 116, 117, 118, 119, 120, 121, 122]⟩ : ByteArray)[d.val]'(Nat.lt_trans d.isLt (by decide)) = hxU d.val := by decide
  exact this ⟨d, hd⟩
theorem slice_tail (W : World) (b q n : Nat) (h : q + (n + 1) = 65) :
    (Instr.sliceAt 74 (.pointer (some ⟨b, 0, none⟩)) (some (.int .i64 (q : Int))) none none).run Tryd.prog W = .ok (.slice (some ⟨b, q, none⟩) (n + 1) (n + 1)) W := by
  have hal : Tryd.prog.arrayLen 74 = 65 := by kernel_rfl
  have hel : Tryd.prog.elem 74 = 5 := by kernel_rfl
  rw [run_sliceAt_array_l (P := Tryd.prog) W 74 ⟨b, 0, none⟩ (by rw [hal, hel]; exact Tryd.underlying74) .i64 (q : Int) (by omega) (by rw [hal]; omega)]
  rw [hal, hel]
  have hne : ¬ 65 = q := by omega
  have hn : 65 - q = n + 1 := by omega
  simp [go_sem, slicedAt, hne, hn]

/-- What holds at the head of each round of formatBits: m is still to be written, suf has been, from cell q + 1 on. -/
structure FbIs (w wr : World) (u m q : Nat) (suf : List UInt8) : Prop where
  bel : Below w.heap.size w wr
  dig : hexD u = hexD m ++ suf
  le : m ≤ u
  pl : q + 1 + suf.length = 65
  blk : ∃ vs : List Value, vs.length = 65 ∧ Blk wr w.heap.size vs 74 ∧ ∀ j (h : j < suf.length), vs[q + 1 + j]? = some (.int .u8 suf[j].toNat)
theorem FbIs.len {w wr : World} {u m q : Nat} {suf : List UInt8} (h : FbIs w wr u m q suf) (hu : u ≤ 1114111) : suf.length + 1 ≤ 6 := by
  have h1 := hexD_six hu
  have h2 := hexD_pos m
  rw [h.dig] at h1
  simp at h1
  omega
theorem fb_put {vs : List Value} {q : Nat} {suf : List UInt8} (b : UInt8) (hl : vs.length = 65) (hp : q + 1 + suf.length = 65) (h : ∀ j (h : j < suf.length), vs[q + 1 + j]? = some (.int .u8 suf[j].toNat)) :
    ∀ j (h : j < (b :: suf).length), (vs.set q (.int .u8 b.toNat))[q + j]? = some (.int .u8 (b :: suf)[j].toNat) := by
  intro j hj
  cases j with
  | zero =>
    have : q < vs.length := by omega
    simp [this]
  | succ j =>
    have := h j (by simpa using hj)
    rw [List.getElem?_set_ne (by omega)]
    simp only [List.getElem_cons_succ]
    rw [← this]
    congr 1
    omega

theorem FbIs.step {w wr : World} {u m q : Nat} {suf : List UInt8} (h : FbIs w wr u m (q + 1) suf) (hm : ¬ m < 16) : FbIs w (wr.setCell ⟨w.heap.size, q + 1, none⟩ (.int .u8 (hxU (m % 16)).toNat)) u (m / 16) q (hxU (m % 16) :: suf) := by
  obtain ⟨vs, hl, hB, hj⟩ := h.blk
  have hp := h.pl
  refine ⟨h.bel.setCell (p := ⟨w.heap.size, q + 1, none⟩) (Nat.le_refl _) _, by rw [h.dig, hexD_more hm]; simp, Nat.le_trans (Nat.div_le_self _ _) h.le, by simp; omega, _, by simpa using hl, hB.set (q + 1) _, fb_put _ hl hp hj⟩
theorem FbIs.conv {w wr : World} {u m q : Nat} {suf : List UInt8} (h : FbIs w wr u m q suf) (hm : m < 16) :
    (convert 47 9 (.slice (some ⟨w.heap.size, q, none⟩) (suf.length + 1) (suf.length + 1))).run Tryd.prog (wr.setCell ⟨w.heap.size, q, none⟩ (.int .u8 (hxU m).toNat)) = .ok (.string ⟨(hexD u).toArray⟩) (wr.setCell ⟨w.heap.size, q, none⟩ (.int .u8 (hxU m).toNat)) := by
  obtain ⟨vs, hl, hB, hj⟩ := h.blk
  have hp := h.pl
  have hd : hexD u = hxU m :: suf := by rw [h.dig, hexD_one hm]; rfl
  have he : suf.length + 1 = (hexD u).length := by rw [hd]; simp
  rw [he]
  refine run_convert_bytes_back (P := Tryd.prog) _ 47 9 5 ⟨w.heap.size, q, none⟩ _ (hexD u) Tryd.underlying47 Tryd.underlying5 Tryd.underlying9 (fun j hj' => ?_)
  have := (hB.set q (.int .u8 (hxU m).toNat)).cell (q + j) (fb_put _ hl hp hj j (by rw [hd] at hj'; exact hj'))
  simp only [hd]
  rw [Lib.add_plain]
  exact this

set_option maxHeartbeats 1600000 in
set_option maxRecDepth 100000 in
theorem bits_any (u : Nat) (hu : u ≤ 1114111) (w : World) (ht : Tabs w) :
    Calls Tryd.prog 39 #[.slice none 0 0, .int .u64 u, .int .i64 16, .bool false, .bool false] w
      fun e w' => e = .returned (.tuple #[.slice none 0 0, .string ⟨(hexD u).toArray⟩]) ∧ Below w.heap.size w w' := by
  have HT := Lib.hid ht
  clear ht
  go_enter Tryd.func39, Tryd.ntmps39
  go_wp2_with (first | (go_at_call 48; refine (isPow _).mono ?_; rintro e w' ⟨rfl, rfl⟩) | (go_at_call 49; refine (tz _ (HT.out.alloc _)).mono ?_; rintro e w' ⟨rfl, rfl⟩))
  go_loopg [1, 13] u (fun g uv iv wr => ∃ (m q : Nat) (suf : List UInt8), uv = .int .u64 (m : Int) ∧ iv = .int .i64 ((q + 1 : Nat) : Int) ∧ g = m ∧ FbIs w wr u m q suf)
  case atStart => exact ⟨u, 64, [], rfl, rfl, rfl, (Below.refl _ _).alloc (Nat.le_refl _) _, by simp, Nat.le_refl _, rfl, _, rfl, Blk.start _ _ _, fun j h => by simp at h⟩
  case round =>
    obtain ⟨m, q, suf, rfl, rfl, hg, hI⟩ := hrel
    have hlen := hI.len hu
    have hpl := hI.pl
    have hmu : m ≤ u := hI.le
    obtain ⟨q, rfl⟩ : ∃ q', q = q' + 1 := ⟨q - 1, by omega⟩
    obtain ⟨vs, hvl, hB, hj⟩ := hI.blk
    obtain ⟨lv, fv⟩ := hB.live (q + 1) (by omega)
    have s1 : IntKind.i64.wrap (((q + 1 + 1 : Nat) : Int) - 1) = ((q + 1 : Nat) : Int) := by rw [IntWalk.i64_in _ (by omega)]; omega
    have hbel := Lib.hid hI.bel
    have HI := Lib.hid hI
    have HG := Lib.hid hg
    clear hI hB hj hg
    by_cases hm : 16 ≤ m
    · have s2 := and15 (m : Int) (by omega) (by omega)
      have htab := tab_at (m % 16) (by omega)
      go_wp2
      go_roundg (m / 16)
      case measure => have := HG.out; omega
      case rel => exact ⟨m / 16, q, hxU (m % 16) :: suf, by go_num, by go_num, rfl, HI.out.step (by omega)⟩
    · have htab := tab_at m (by omega)
      have hsl := fun W => slice_tail W w.heap.size (q + 1) suf.length (by omega)
      have hcv := HI.out.conv (by omega)
      have hcast : ((q + 1 : Nat) : Int) = (q : Int) + 1 := by omega
      simp only [hcast] at hsl
      clear hcast
      go_wp2
      go_ret2
      exact ⟨rfl, hbel.out.setCell (p := ⟨w.heap.size, q + 1, none⟩) (Nat.le_refl _) _⟩

set_option maxHeartbeats 400000 in
theorem formatHex (u : Nat) (hu : u ≤ 1114111) (w : World) (ht : Tabs w) :
    Calls Tryd.prog 30 #[.int .i64 u, .int .i64 16] w
      fun e w' => e = .returned (.string ⟨(hexD u).toArray⟩) ∧ Below w.heap.size w w' := by
  have HT := Lib.hid ht
  have s1 : IntKind.u64.wrap (u : Int) = (u : Int) := IntWalk.u64_in _ (by omega)
  have s2 : ((u : Int) < 0) = False := by simp <;> omega
  clear ht
  go_enter Tryd.func30, Tryd.ntmps30
  go_wp2_with (go_at_call 39; refine (bits_any u hu _ HT.out).mono ?_; rintro e w' ⟨rfl, hb⟩)
  go_ret
  exact ⟨rfl, hb⟩
theorem fmtHex (u : Nat) (hu : u ≤ 1114111) (w : World) (ht : Tabs w) :
    Calls Tryd.prog 22 #[.int .i64 u, .int .i64 16] w
      fun e w' => e = .returned (.string ⟨(hexD u).toArray⟩) ∧ Below w.heap.size w w' := by
  have HT := Lib.hid ht
  clear ht
  go_enter Tryd.func22, Tryd.ntmps22
  go_wp2_with (go_at_call 30; refine (formatHex u hu _ HT.out).mono ?_; rintro e w' ⟨rfl, hb⟩)
  go_ret
  exact ⟨rfl, hb⟩
end Go.Proofs.YtbfnehpmlngagaaDoor
