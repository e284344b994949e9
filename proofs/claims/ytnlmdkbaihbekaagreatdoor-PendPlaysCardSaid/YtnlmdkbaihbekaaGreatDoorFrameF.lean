/-
  What the rows of this seat take: the tables out of the listed variables, the witness's heap, and how a slice of operations, and an id, that came in are read.
-/
import Derived.Test.YtnlmdkbaihbekaaGreatDoorRows
import Derived.Test.YtnlmdkbaihbekaaGreatDoorTie
import Derived.Test.YtnlmdkbaihbekaaGreatDoorCards
import Derived.Test.YtnlmdkbaihbekaaGreatDoorAw6
import Derived.ProofKit
import Derived.LaidMore
import Derived.OpenShut
import Derived.Stop.Joined
import Derived.Stop.LaidErr
import Derived.Lib.SmallJoins
import Derived.Deep.Slices
import Derived.Deep.Strs
import Derived.ChangeSame
import Derived.ChangeOld
namespace Go.Proofs.YtnlmdkbaihbekaaGreatDoor
open Go Go.Proofs Go.ChangeShapes Go.WideShapes Go.ChangeAt Go.RowKit Go.Joins Go.Deep

theorem own : ownKnob Tryz.prog.godebug = none := by kernel_rfl
theorem laidOut : laidOutB Tryz.prog = true := by kernel_rfl
theorem cellsOp : Tryz.prog.cellsOf 38 = 6 := by kernel_rfl
theorem cellsKind : Tryz.prog.cellsOf 34 = 1 := by kernel_rfl
theorem cellsId : Tryz.prog.cellsOf 36 = 2 := by kernel_rfl
theorem cellsInt : Tryz.prog.cellsOf 3 = 1 := by kernel_rfl
theorem cellsI64 : Tryz.prog.cellsOf 2 = 1 := by kernel_rfl
theorem cellsI32 : Tryz.prog.cellsOf 21 = 1 := by kernel_rfl

/-- What the rows list. -/
def laid3 : List (String × DataW Unit) := [("math/bits.deBruijn32tab", Rows.laid_math_bits_deBruijn32tab), ("math/bits.deBruijn64tab", Rows.laid_math_bits_deBruijn64tab), ("internal/strconv.uint64pow10", Rows.laid_internal_strconv_uint64pow10)]
/-- The door's own heap meets the condition. -/
theorem door_met (os : Os) (args : Array Value) : laidMetH Tryz.prog laid3 ((World.doorLaid Tryz.prog 400 os).forCall (fun _ _ => 0) ⟨#[], args, []⟩).memory :=
  laidMetH_of_parts3 (fuel := 8) (laidMet_of_run' 8 (by kernel_rfl) (by kernel_rfl)) (by kernel_rfl) (by kernel_rfl)
theorem tTab : (Tryz.prog.globals[1]?).map (·.type) = some 151 := by kernel_rfl
theorem gZer : Tryz.prog.globalNamed "math/bits.deBruijn64tab" = some 3 := by kernel_rfl
theorem tZer : (Tryz.prog.globals[3]?).map (·.type) = some 157 := by kernel_rfl
/-- The table of trailing zeros. -/
def zerTab : List Int := [0,1,56,2,57,49,28,3,61,58,42,50,38,29,17,4,62,47,59,36,45,43,51,22,53,39,33,30,24,18,12,5,63,55,48,27,60,41,37,16,46,35,44,21,52,32,23,11,54,26,40,15,34,20,31,10,25,14,19,9,13,8,7,6]
/-- What the condition gives the walks: the table of powers of ten, and a place of the table of trailing zeros. -/
theorem tabs_of_laid {W : World} (h : laidMetH Tryz.prog laid3 W) : Tabs W := by
  rw [MakeChecks.laidMetH_plain _ _ _ (by kernel_rfl)] at h
  have h1 := laidMet.tail h
  have h2 := laidMet.tail h1
  have hz : Lib.TabIs Tryz.prog W "math/bits.deBruijn64tab" .u8 zerTab := Lib.tabIs_of_head gZer tZer Tryz.underlying157 Tryz.underlying5 (by kernel_rfl) (by kernel_rfl) h1
  exact ⟨Lib.tabIs_of_head gTab tTab Tryz.underlying151 Tryz.underlying145 (by kernel_rfl) (by kernel_rfl) h2, Lib.TabIs.cell hz gZer 15 (by decide)⟩

section
variable {H : Type} {enc : TypeId × Value → H} {W : World} {base : Nat}
set_option maxRecDepth 100000 in
/-- The cells of an id. -/
theorem id_cells {sp : Nat → Bool} {held : Bool} {n : Nat} {cs : List Value} {y : DataW H × List MemPlace} (h : DataW.trod enc Tryz.prog W base sp held n 36 cs = some y) : ∃ c s : Int, cs = [.int .i64 c, .int .i64 s] := by
  obtain ⟨u0, u1, k3, _, hl, f0, f1⟩ := trod_struct2 Tryz.underlying36 h
  rw [cellsId] at hl
  match cs, hl with
  | [v0, v1], _ =>
    simp only [cellsInt, cellsI64, List.drop_zero, List.drop_succ_cons, List.take_succ_cons, List.take_zero] at f0 f1
    obtain ⟨c, e2, _, _⟩ := DataW.trod_int Tryz.underlying2 f0
    obtain ⟨s, e3, _, _⟩ := DataW.trod_int Tryz.underlying3 f1
    simp only [List.cons.injEq, and_true] at e2 e3
    exact ⟨c, s, by rw [e2, e3]⟩
set_option maxRecDepth 100000 in
/-- An id that came in. -/
theorem open_id {r : Reach} {b0 : Nat} {v : Value} {d : DataW H} {p : List MemPlace} {sp : Nat → Bool} {held : Bool}
    (hv : Value.okWide Tryz.prog W r b0 36 v) (h : DataW.Trod enc Tryz.prog W base sp held 36 v d p) : ∃ c s : Int, v = .agg #[.int .i64 c, .int .i64 s] := by
  obtain ⟨v0, v1, y0, y1, m, rfl, _, _, hy0, hy1⟩ := open_agg2 Tryz.underlying36 (by kernel_rfl) cellsId hv h
  obtain ⟨c, e0, _, _⟩ := DataW.trod_int Tryz.underlying2 hy0
  obtain ⟨s, e1, _, _⟩ := DataW.trod_int Tryz.underlying3 hy1
  simp at e0 e1
  subst e0 e1
  exact ⟨c, s, rfl⟩
theorem wf_i32 {n : Int} (h : (Lit.int .i32 n).wf = true) : -2147483648 ≤ n ∧ n ≤ 2147483647 := by
  have : IntKind.i32.min ≤ n ∧ n ≤ IntKind.i32.max := by simpa [Lit.wf] using h
  exact this
instance : Inhabited Oq := ⟨⟨0, 0, 0, 0, 0, 0, by decide, by decide⟩⟩
set_option maxRecDepth 100000 in
/-- The cells of an operation. -/
theorem op_cells {sp : Nat → Bool} {held : Bool} {n : Nat} {cs : List Value} {y : DataW H × List MemPlace} (h : DataW.trod enc Tryz.prog W base sp held n 38 cs = some y) : ∃ x : Oq, cs = oqL x := by
  obtain ⟨y0, y1, y2, y3, m, _, hl, g0, g1, g2, g3⟩ := trod_struct4 Tryz.underlying38 h
  rw [cellsOp] at hl
  match cs, hl with
  | [v0, v1, v2, v3, v4, v5], _ =>
    simp only [cellsKind, cellsI32, cellsId, List.drop_zero, List.drop_succ_cons, List.take_succ_cons, List.take_zero] at g0 g1 g2 g3
    obtain ⟨k, e0, _, _⟩ := DataW.trod_int Tryz.underlying34 g0
    obtain ⟨c, s, e1⟩ := id_cells g1
    obtain ⟨a, n, e2⟩ := id_cells g2
    obtain ⟨ch, e3, hd, _⟩ := DataW.trod_int Tryz.underlying21 g3
    simp only [List.cons.injEq, and_true] at e0 e1 e2 e3
    obtain ⟨rfl, rfl⟩ := e1
    obtain ⟨rfl, rfl⟩ := e2
    have hw := wf_i32 (n := ch) (by first | exact hd | exact hd.1 | assumption)
    exact ⟨⟨k, c, s, a, n, ch, hw.1, hw.2⟩, by rw [e0, e3]; rfl⟩
set_option maxRecDepth 100000 in
/-- A slice of operations that came in. -/
theorem open_ops {a : Option Addr} {len cap : Nat} {d : DataW H} {p : List MemPlace} {sp : Nat → Bool} {held : Bool}
    (h : DataW.Trod enc Tryz.prog W base sp held 22 (.slice a len cap) d p) : ∃ l : List Oq, IsOps W (.slice a len cap) l := by
  obtain ⟨fuel, hf⟩ := h
  rcases open_slice Tryz.underlying22 hf with ⟨hcs, _⟩ | ⟨x, len', cap', m, n, D, Pl, hcs, _, hl, hm, hmm, _, hx⟩
  · simp [Value.cells] at hcs
    obtain ⟨rfl, rfl, rfl⟩ := hcs
    exact ⟨[], none, 0, rfl, Nat.le_refl _, by omega, fun h => absurd rfl h⟩
  · simp [Value.cells] at hcs
    obtain ⟨rfl, rfl, rfl⟩ := hcs
    have hlm : len ≤ m := by rw [hmm]; split <;> omega
    have each : ∀ i, i < len → ∃ q : Oq, ∀ j, j < 6 → W.cell? (x.add (i * 6 + j)) = (oqL q)[j]? := fun i hi => by
      obtain ⟨cs', h1, h2⟩ := hx i (by omega)
      rw [cellsOp] at h1
      obtain ⟨q, rfl⟩ := op_cells h2
      obtain ⟨_, _, hcell⟩ := World.cells?_some h1
      refine ⟨q, fun j hj => ?_⟩
      have := hcell j hj
      rw [add_add] at this
      exact this
    obtain ⟨q, hq⟩ := choose_lt each
    refine ⟨(List.range len).map q, some x, cap, by simp, by simpa using hl, by unfold maxLen at hm; omega, fun hne => ?_⟩
    have hpos : 0 < len := by
      rcases Nat.eq_zero_or_pos len with h | h
      · subst h; simp at hne
      · exact h
    obtain ⟨b, off, spot⟩ := x
    have h00 := hq 0 hpos 0 (by omega)
    have hspot : spot = none := by simpa [Addr.add] using World.cell?_spot h00
    subst hspot
    simp only [add_plain] at hq h00
    refine ⟨b, off, rfl, World.block_lt_of_cell? _ _ h00, fun j hj => ?_⟩
    have hj' : j < len := by simpa using hj
    have := hq j hj'
    simp only [List.getElem_map, List.getElem_range]
    refine ⟨by simpa [oqL] using this 0 (by omega), by simpa [oqL, Nat.add_assoc] using this 1 (by omega), by simpa [oqL, Nat.add_assoc] using this 2 (by omega), by simpa [oqL, Nat.add_assoc] using this 3 (by omega), by simpa [oqL, Nat.add_assoc] using this 4 (by omega), by simpa [oqL, Nat.add_assoc] using this 5 (by omega)⟩
theorem wf_u8 {n : Int} (h : (Lit.int .u8 n).wf = true) : 0 ≤ n ∧ n ≤ 255 := by
  have : IntKind.u8.min ≤ n ∧ n ≤ IntKind.u8.max := by simpa [Lit.wf] using h
  exact this
/-- A byte that came in. -/
theorem open_byte {n : Int} {d : DataW H} {p : List MemPlace} {sp : Nat → Bool} {held : Bool} (h : DataW.Trod enc Tryz.prog W base sp held 5 (.int .u8 n) d p) : ∃ m : Nat, m ≤ 255 ∧ n = (m : Int) := by
  obtain ⟨fuel, hf⟩ := h
  obtain ⟨z, e, hd, _⟩ := DataW.trod_int Tryz.underlying5 hf
  simp [Value.cells] at e
  subst e
  have hw := wf_u8 (n := n) (by first | exact hd | assumption)
  exact ⟨n.toNat, by omega, by omega⟩
end
end Go.Proofs.YtnlmdkbaihbekaaGreatDoor
