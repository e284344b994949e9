/-
  What the rows of this seat take: the tables out of the listed variables, the witness's heap, and how an operation that came in is read.
-/
import Derived.Test.YtbfnehpmlngagaaDoorRows
import Derived.Test.YtbfnehpmlngagaaDoorTie
import Derived.Test.YtbfnehpmlngagaaDoorCards
import Derived.Test.YtbfnehpmlngagaaDoorHexF
import Derived.ProofKit
import Derived.LaidMore
import Derived.OpenShut
import Derived.Stop.Joined
import Derived.Stop.LaidErr
import Derived.Lib.SmallJoins
import Derived.ChangeSame
import Derived.ChangeOld
namespace Go.Proofs.YtbfnehpmlngagaaDoor
open Go Go.Proofs Go.ChangeShapes Go.WideShapes Go.ChangeAt Go.RowKit Go.Joins Go.Deep

theorem own : ownKnob Tryd.prog.godebug = none := by kernel_rfl
theorem laidOut : laidOutB Tryd.prog = true := by kernel_rfl
theorem cellsOp : Tryd.prog.cellsOf 26 = 6 := by kernel_rfl
theorem cellsKind : Tryd.prog.cellsOf 22 = 1 := by kernel_rfl
theorem cellsId : Tryd.prog.cellsOf 24 = 2 := by kernel_rfl
theorem cellsInt : Tryd.prog.cellsOf 3 = 1 := by kernel_rfl
theorem cellsI64 : Tryd.prog.cellsOf 2 = 1 := by kernel_rfl
theorem cellsI32 : Tryd.prog.cellsOf 21 = 1 := by kernel_rfl

/-- What the rows list. -/
def laid3 : List (String × DataW Unit) := [("math/bits.deBruijn32tab", Rows.laid_math_bits_deBruijn32tab), ("math/bits.deBruijn64tab", Rows.laid_math_bits_deBruijn64tab), ("internal/strconv.uint64pow10", Rows.laid_internal_strconv_uint64pow10)]
/-- The door's own heap meets the condition. -/
theorem door_met (os : Os) (args : Array Value) : laidMetH Tryd.prog laid3 ((World.doorLaid Tryd.prog 400 os).forCall (fun _ _ => 0) ⟨#[], args, []⟩).memory :=
  laidMetH_of_parts3 (fuel := 8) (laidMet_of_run' 8 (by kernel_rfl) (by kernel_rfl)) (by kernel_rfl) (by kernel_rfl)
theorem tTab : (Tryd.prog.globals[0]?).map (·.type) = some 72 := by kernel_rfl
theorem gZer : Tryd.prog.globalNamed "math/bits.deBruijn64tab" = some 2 := by kernel_rfl
theorem tZer : (Tryd.prog.globals[2]?).map (·.type) = some 83 := by kernel_rfl
/-- The table of trailing zeros. -/
def zerTab : List Int := [0,1,56,2,57,49,28,3,61,58,42,50,38,29,17,4,62,47,59,36,45,43,51,22,53,39,33,30,24,18,12,5,63,55,48,27,60,41,37,16,46,35,44,21,52,32,23,11,54,26,40,15,34,20,31,10,25,14,19,9,13,8,7,6]
/-- What the condition gives the walks: the table of powers of ten, and a place of the table of trailing zeros. -/
theorem tabs_of_laid {W : World} (h : laidMetH Tryd.prog laid3 W) : Tabs W := by
  rw [MakeChecks.laidMetH_plain _ _ _ (by kernel_rfl)] at h
  have h1 := laidMet.tail h
  have h2 := laidMet.tail h1
  have hz : Lib.TabIs Tryd.prog W "math/bits.deBruijn64tab" .u8 zerTab := Lib.tabIs_of_head gZer tZer Tryd.underlying83 Tryd.underlying5 (by kernel_rfl) (by kernel_rfl) h1
  exact ⟨Lib.tabIs_of_head gTab tTab Tryd.underlying72 Tryd.underlying58 (by kernel_rfl) (by kernel_rfl) h2, Lib.TabIs.cell hz gZer 15 (by decide)⟩

section
variable {H : Type} {enc : TypeId × Value → H} {W : World} {base : Nat}
/-- The cells of an id. -/
theorem id_cells {sp : Nat → Bool} {held : Bool} {n : Nat} {cs : List Value} {y : DataW H × List MemPlace} (h : DataW.trod enc Tryd.prog W base sp held n 24 cs = some y) : ∃ c s : Int, cs = [.int .i64 c, .int .i64 s] := by
  obtain ⟨u0, u1, k3, _, hl, f0, f1⟩ := trod_struct2 Tryd.underlying24 h
  rw [cellsId] at hl
  match cs, hl with
  | [v0, v1], _ =>
    simp only [cellsInt, cellsI64, List.drop_zero, List.drop_succ_cons, List.take_succ_cons, List.take_zero] at f0 f1
    obtain ⟨c, e2, _, _⟩ := DataW.trod_int Tryd.underlying2 f0
    obtain ⟨s, e3, _, _⟩ := DataW.trod_int Tryd.underlying3 f1
    simp only [List.cons.injEq, and_true] at e2 e3
    exact ⟨c, s, by rw [e2, e3]⟩
/-- An operation that came in. -/
theorem open_op {r : Reach} {b0 : Nat} {v : Value} {d : DataW H} {p : List MemPlace} {sp : Nat → Bool} {held : Bool}
    (hv : Value.okWide Tryd.prog W r b0 26 v) (h : DataW.Trod enc Tryd.prog W base sp held 26 v d p) : ∃ k c s a n ch : Int, v = .agg #[.int .i64 k, .int .i64 c, .int .i64 s, .int .i64 a, .int .i64 n, .int .i32 ch] := by
  obtain ⟨⟨cs⟩, rfl, hsz⟩ := okWide_struct Tryd.underlying26 hv
  rw [cellsOp] at hsz
  obtain ⟨fuel, hf⟩ := h
  obtain ⟨y0, y1, y2, y3, m, _, _, g0, g1, g2, g3⟩ := trod_struct4 Tryd.underlying26 hf
  match cs, hsz with
  | [v0, v1, v2, v3, v4, v5], _ =>
    simp only [Value.cells, cellsKind, cellsI32, cellsId, List.drop_zero, List.drop_succ_cons, List.take_succ_cons, List.take_zero] at g0 g1 g2 g3
    obtain ⟨k, e0, _, _⟩ := DataW.trod_int Tryd.underlying22 g0
    obtain ⟨c, s, e1⟩ := id_cells g1
    obtain ⟨a, n, e2⟩ := id_cells g2
    obtain ⟨ch, e3, _, _⟩ := DataW.trod_int Tryd.underlying21 g3
    simp only [List.cons.injEq, and_true] at e0 e1 e2 e3
    obtain ⟨rfl, rfl⟩ := e1
    obtain ⟨rfl, rfl⟩ := e2
    exact ⟨k, c, s, a, n, ch, by rw [e0, e3]⟩
end
end Go.Proofs.YtbfnehpmlngagaaDoor
