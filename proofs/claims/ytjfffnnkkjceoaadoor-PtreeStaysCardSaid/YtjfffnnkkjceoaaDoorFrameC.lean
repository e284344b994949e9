/-
  What the row of this seat takes: the table of powers of ten out of the listed variables, the witness's heap, and how a slice of what is done, and a byte, that came in are read.
-/
import Derived.Test.YtjfffnnkkjceoaaDoorRows
import Derived.Test.YtjfffnnkkjceoaaDoorTie
import Derived.Test.YtjfffnnkkjceoaaDoorCards
import Derived.Test.YtjfffnnkkjceoaaDoorStaysL
import Derived.ProofKit
import Derived.LaidMore
import Derived.OpenShut
import Derived.Stop.Joined
import Derived.Stop.LaidErr
import Derived.Lib.SmallJoins
import Derived.Deep.Slices
import Derived.Deep.Strs
import Derived.ChangeSame
import Derived.ChangeOld
namespace Go.Proofs.YtjfffnnkkjceoaaDoor
open Go Go.Proofs Go.ChangeShapes Go.WideShapes Go.ChangeAt Go.RowKit Go.Joins Go.Deep

theorem own : ownKnob Tryd.prog.godebug = none := by kernel_rfl
theorem laidOut : laidOutB Tryd.prog = true := by kernel_rfl
theorem cellsAct : Tryd.prog.cellsOf 32 = 6 := by kernel_rfl
theorem cellsEl : Tryd.prog.cellsOf 30 = 4 := by kernel_rfl
theorem cellsId : Tryd.prog.cellsOf 28 = 2 := by kernel_rfl
theorem cellsBool : Tryd.prog.cellsOf 4 = 1 := by kernel_rfl
theorem cellsInt : Tryd.prog.cellsOf 3 = 1 := by kernel_rfl
theorem cellsI64 : Tryd.prog.cellsOf 2 = 1 := by kernel_rfl
theorem cellsI32 : Tryd.prog.cellsOf 21 = 1 := by kernel_rfl

/-- What the rows list. -/
def laid3 : List (String × DataW Unit) := [("math/bits.deBruijn32tab", Rows.laid_math_bits_deBruijn32tab), ("math/bits.deBruijn64tab", Rows.laid_math_bits_deBruijn64tab), ("internal/strconv.uint64pow10", Rows.laid_internal_strconv_uint64pow10)]
/-- The door's own heap meets the condition. -/
theorem door_met (os : Os) (args : Array Value) : laidMetH Tryd.prog laid3 ((World.doorLaid Tryd.prog 400 os).forCall (fun _ _ => 0) ⟨#[], args, []⟩).memory :=
  laidMetH_of_parts3 (fuel := 8) (laidMet_of_run' 8 (by kernel_rfl) (by kernel_rfl)) (by kernel_rfl) (by kernel_rfl)
theorem tTab : (Tryd.prog.globals[1]?).map (·.type) = some 82 := by kernel_rfl
/-- What the condition gives the walks: the table of powers of ten. -/
theorem tab_of_laid {W : World} (h : laidMetH Tryd.prog laid3 W) : Tab W := by
  rw [MakeChecks.laidMetH_plain _ _ _ (by kernel_rfl)] at h
  have h2 := laidMet.tail (laidMet.tail h)
  exact Lib.tabIs_of_head gTab tTab Tryd.underlying82 Tryd.underlying76 (by kernel_rfl) (by kernel_rfl) h2

section
variable {H : Type} {enc : TypeId × Value → H} {W : World} {base : Nat}
theorem wf_i32 {n : Int} (h : (Lit.int .i32 n).wf = true) : -2147483648 ≤ n ∧ n ≤ 2147483647 := by
  have : IntKind.i32.min ≤ n ∧ n ≤ IntKind.i32.max := by simpa [Lit.wf] using h
  exact this
theorem wf_u8 {n : Int} (h : (Lit.int .u8 n).wf = true) : 0 ≤ n ∧ n ≤ 255 := by
  have : IntKind.u8.min ≤ n ∧ n ≤ IntKind.u8.max := by simpa [Lit.wf] using h
  exact this
instance : Inhabited Ac := ⟨⟨false, 0, ⟨0, 0, 0, false, by decide, by decide⟩⟩⟩
/-- The cells of something done. -/
theorem act_cells {sp : Nat → Bool} {held : Bool} {n : Nat} {cs : List Value} {y : DataW H × List MemPlace} (h : DataW.trod enc Tryd.prog W base sp held n 32 cs = some y) :
    ∃ x : Ac, cs = [.bool x.o, .int .i64 x.i, .int .i64 x.e.c, .int .i64 x.e.s, .int .i32 x.e.ch, .bool x.e.d] := by
  obtain ⟨y0, y1, y2, k, _, hl, h0, h1, h2⟩ := trod_struct3 Tryd.underlying32 h
  rw [cellsAct] at hl
  match cs, hl with
  | [v0, v1, v2, v3, v4, v5], _ =>
    simp only [cellsBool, cellsInt, cellsEl, List.drop_zero, List.drop_succ_cons, List.take_succ_cons, List.take_zero] at h0 h1 h2
    obtain ⟨o, e0, _⟩ := DataW.trod_bool Tryd.underlying4 h0
    obtain ⟨i, e1, _, _⟩ := DataW.trod_int Tryd.underlying3 h1
    obtain ⟨z0, z1, z2, k2, _, _, g0, g1, g2⟩ := trod_struct3 Tryd.underlying30 h2
    simp only [cellsBool, cellsI32, cellsId, List.drop_zero, List.drop_succ_cons, List.take_succ_cons, List.take_zero] at g0 g1 g2
    obtain ⟨ch, e4, _, hch⟩ := DataW.trod_int Tryd.underlying21 g1
    obtain ⟨d, e5, _⟩ := DataW.trod_bool Tryd.underlying4 g2
    obtain ⟨u0, u1, k3, _, _, f0, f1⟩ := trod_struct2 Tryd.underlying28 g0
    simp only [cellsInt, cellsI64, List.drop_zero, List.drop_succ_cons, List.take_succ_cons, List.take_zero] at f0 f1
    obtain ⟨c, e2, _, _⟩ := DataW.trod_int Tryd.underlying2 f0
    obtain ⟨s, e3, _, _⟩ := DataW.trod_int Tryd.underlying3 f1
    simp only [List.cons.injEq, and_true] at e0 e1 e2 e3 e4 e5
    exact ⟨⟨o, i, ⟨c, s, ch, d, (wf_i32 hch).1, (wf_i32 hch).2⟩⟩, by simp [e0, e1, e2, e3, e4, e5]⟩
/-- A slice of what is done that came in. -/
theorem open_acts {a : Option Addr} {len cap : Nat} {d : DataW H} {p : List MemPlace} {sp : Nat → Bool} {held : Bool}
    (h : DataW.Trod enc Tryd.prog W base sp held 22 (.slice a len cap) d p) : ∃ l : List Ac, IsActs W (.slice a len cap) l := by
  obtain ⟨fuel, hf⟩ := h
  rcases open_slice Tryd.underlying22 hf with ⟨hcs, _⟩ | ⟨x, len', cap', m, n, D, Pl, hcs, _, hl, hm, hmm, _, hx⟩
  · simp [Value.cells] at hcs
    obtain ⟨rfl, rfl, rfl⟩ := hcs
    exact ⟨[], none, 0, rfl, Nat.le_refl _, by omega, fun h => absurd rfl h⟩
  · simp [Value.cells] at hcs
    obtain ⟨rfl, rfl, rfl⟩ := hcs
    have hlm : len ≤ m := by rw [hmm]; split <;> omega
    have each : ∀ i, i < len → ∃ q : Ac, ∀ j, j < 6 → W.cell? (x.add (i * 6 + j)) = ([.bool q.o, .int .i64 q.i, .int .i64 q.e.c, .int .i64 q.e.s, .int .i32 q.e.ch, .bool q.e.d] : List Value)[j]? := fun i hi => by
      obtain ⟨cs', h1, h2⟩ := hx i (by omega)
      rw [cellsAct] at h1
      obtain ⟨q, rfl⟩ := act_cells h2
      obtain ⟨_, _, hcell⟩ := World.cells?_some h1
      refine ⟨q, fun j hj => ?_⟩
      have := hcell j hj
      rw [add_add] at this
      exact this
    obtain ⟨q, hq⟩ := choose_lt each
    refine ⟨(List.range len).map q, some x, cap, by simp, by simpa using hl, by unfold maxLen at hm; omega, fun hne => ?_⟩
    have hpos : 0 < len := by
      rcases Nat.eq_zero_or_pos len with h | h
      · subst h; simp at hne
      · exact h
    obtain ⟨b, off, spot⟩ := x
    have h00 := hq 0 hpos 0 (by omega)
    have hspot : spot = none := by simpa [Addr.add] using World.cell?_spot h00
    subst hspot
    simp only [add_plain] at hq h00
    refine ⟨b, off, rfl, World.block_lt_of_cell? _ _ h00, fun j hj => ?_⟩
    have hj' : j < len := by simpa using hj
    have := hq j hj'
    simp only [List.getElem_map, List.getElem_range]
    refine ⟨by simpa using this 0 (by omega), by simpa [Nat.add_assoc] using this 1 (by omega), by simpa [Nat.add_assoc] using this 2 (by omega), by simpa [Nat.add_assoc] using this 3 (by omega), by simpa [Nat.add_assoc] using this 4 (by omega), by simpa [Nat.add_assoc] using this 5 (by omega)⟩
end
end Go.Proofs.YtjfffnnkkjceoaaDoor
