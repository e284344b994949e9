/-
  What the rows of this seat take: the table of powers of ten out of the listed variables, the witness's heap, and how a slice of what is done, an id, and a byte, that came in are read.
-/
import Derived.Test.YtkhggojghjociaaDoorRows
import Derived.Test.YtkhggojghjociaaDoorTie
import Derived.Test.YtkhggojghjociaaDoorCards
import Derived.Test.YtkhggojghjociaaDoorPlays
import Derived.ProofKit
import Derived.LaidMore
import Derived.OpenShut
import Derived.Stop.Joined
import Derived.Stop.LaidErr
import Derived.Lib.SmallJoins
import Derived.Deep.Slices
import Derived.Deep.Strs
import Derived.ChangeSame
import Derived.ChangeOld
namespace Go.Proofs.YtkhggojghjociaaDoor
open Go Go.Proofs Go.ChangeShapes Go.WideShapes Go.ChangeAt Go.RowKit Go.Joins Go.Deep

theorem own : ownKnob Tryd.prog.godebug = none := by kernel_rfl
theorem laidOut : laidOutB Tryd.prog = true := by kernel_rfl
theorem cellsAct : Tryd.prog.cellsOf 33 = 6 := by kernel_rfl
theorem cellsEn : Tryd.prog.cellsOf 31 = 4 := by kernel_rfl
theorem cellsId : Tryd.prog.cellsOf 24 = 2 := by kernel_rfl
theorem cellsBool : Tryd.prog.cellsOf 4 = 1 := by kernel_rfl
theorem cellsInt : Tryd.prog.cellsOf 3 = 1 := by kernel_rfl
theorem cellsI64 : Tryd.prog.cellsOf 2 = 1 := by kernel_rfl
theorem cellsI32 : Tryd.prog.cellsOf 21 = 1 := by kernel_rfl

/-- What the rows list. -/
def laid3 : List (String × DataW Unit) := [("math/bits.deBruijn32tab", Rows.laid_math_bits_deBruijn32tab), ("math/bits.deBruijn64tab", Rows.laid_math_bits_deBruijn64tab), ("internal/strconv.uint64pow10", Rows.laid_internal_strconv_uint64pow10)]
/-- The door's own heap meets the condition. -/
theorem door_met (os : Os) (args : Array Value) : laidMetH Tryd.prog laid3 ((World.doorLaid Tryd.prog 400 os).forCall (fun _ _ => 0) ⟨#[], args, []⟩).memory :=
  laidMetH_of_parts3 (fuel := 8) (laidMet_of_run' 8 (by kernel_rfl) (by kernel_rfl)) (by kernel_rfl) (by kernel_rfl)
theorem tTab : (Tryd.prog.globals[0]?).map (·.type) = some 83 := by kernel_rfl
/-- What the condition gives the walks: the table of powers of ten. -/
theorem tab_of_laid {W : World} (h : laidMetH Tryd.prog laid3 W) : Tab W := by
  rw [MakeChecks.laidMetH_plain _ _ _ (by kernel_rfl)] at h
  have h2 := laidMet.tail (laidMet.tail h)
  exact Lib.tabIs_of_head gTab tTab Tryd.underlying83 Tryd.underlying75 (by kernel_rfl) (by kernel_rfl) h2

section
variable {H : Type} {enc : TypeId × Value → H} {W : World} {base : Nat}
theorem wf_u8 {n : Int} (h : (Lit.int .u8 n).wf = true) : 0 ≤ n ∧ n ≤ 255 := by
  have : IntKind.u8.min ≤ n ∧ n ≤ IntKind.u8.max := by simpa [Lit.wf] using h
  exact this
instance : Inhabited Ac := ⟨⟨0, 0, ⟨0, 0, 0, false⟩⟩⟩
/-- The cells of an id. -/
theorem id_cells {sp : Nat → Bool} {held : Bool} {n : Nat} {cs : List Value} {y : DataW H × List MemPlace} (h : DataW.trod enc Tryd.prog W base sp held n 24 cs = some y) : ∃ c s : Int, cs = [.int .i64 c, .int .i64 s] := by
  obtain ⟨u0, u1, k3, _, hl, f0, f1⟩ := trod_struct2 Tryd.underlying24 h
  rw [cellsId] at hl
  match cs, hl with
  | [v0, v1], _ =>
    simp only [cellsInt, cellsI64, List.drop_zero, List.drop_succ_cons, List.take_succ_cons, List.take_zero] at f0 f1
    obtain ⟨c, e2, _, _⟩ := DataW.trod_int Tryd.underlying2 f0
    obtain ⟨s, e3, _, _⟩ := DataW.trod_int Tryd.underlying3 f1
    simp only [List.cons.injEq, and_true] at e2 e3
    exact ⟨c, s, by rw [e2, e3]⟩
/-- The cells of something done. -/
theorem act_cells {sp : Nat → Bool} {held : Bool} {n : Nat} {cs : List Value} {y : DataW H × List MemPlace} (h : DataW.trod enc Tryd.prog W base sp held n 33 cs = some y) :
    ∃ x : Ac, cs = [.int .i64 x.c, .int .i64 x.s, .int .i64 x.e.ac, .int .i64 x.e.an, .int .i32 x.e.ch, .bool x.e.d] := by
  obtain ⟨y0, y1, k, _, hl, h0, h1⟩ := trod_struct2 Tryd.underlying33 h
  rw [cellsAct] at hl
  match cs, hl with
  | [v0, v1, v2, v3, v4, v5], _ =>
    simp only [cellsId, cellsEn, List.drop_zero, List.drop_succ_cons, List.take_succ_cons, List.take_zero] at h0 h1
    obtain ⟨c, s, e0⟩ := id_cells h0
    obtain ⟨z0, z1, z2, k2, _, _, g0, g1, g2⟩ := trod_struct3 Tryd.underlying31 h1
    simp only [cellsBool, cellsI32, cellsId, List.drop_zero, List.drop_succ_cons, List.take_succ_cons, List.take_zero] at g0 g1 g2
    obtain ⟨ac, an, e1⟩ := id_cells g0
    obtain ⟨ch, e4, _, _⟩ := DataW.trod_int Tryd.underlying21 g1
    obtain ⟨d, e5, _⟩ := DataW.trod_bool Tryd.underlying4 g2
    simp only [List.cons.injEq, and_true] at e0 e1 e4 e5
    exact ⟨⟨c, s, ⟨ac, an, ch, d⟩⟩, by simp [e0, e1, e4, e5]⟩
/-- An id that came in. -/
theorem open_id {r : Reach} {b0 : Nat} {v : Value} {d : DataW H} {p : List MemPlace} {sp : Nat → Bool} {held : Bool}
    (hv : Value.okWide Tryd.prog W r b0 24 v) (h : DataW.Trod enc Tryd.prog W base sp held 24 v d p) : ∃ c s : Int, v = .agg #[.int .i64 c, .int .i64 s] := by
  obtain ⟨v0, v1, y0, y1, m, rfl, _, _, hy0, hy1⟩ := open_agg2 Tryd.underlying24 (by kernel_rfl) cellsId hv h
  obtain ⟨c, e0, _, _⟩ := DataW.trod_int Tryd.underlying2 hy0
  obtain ⟨s, e1, _, _⟩ := DataW.trod_int Tryd.underlying3 hy1
  simp at e0 e1
  subst e0 e1
  exact ⟨c, s, rfl⟩
/-- A slice of what is done that came in. -/
theorem open_acts {a : Option Addr} {len cap : Nat} {d : DataW H} {p : List MemPlace} {sp : Nat → Bool} {held : Bool}
    (h : DataW.Trod enc Tryd.prog W base sp held 22 (.slice a len cap) d p) : ∃ l : List Ac, IsActs W (.slice a len cap) l := by
  obtain ⟨fuel, hf⟩ := h
  rcases open_slice Tryd.underlying22 hf with ⟨hcs, _⟩ | ⟨x, len', cap', m, n, D, Pl, hcs, _, hl, hm, hmm, _, hx⟩
  · simp [Value.cells] at hcs
    obtain ⟨rfl, rfl, rfl⟩ := hcs
    exact ⟨[], none, 0, rfl, Nat.le_refl _, by omega, fun h => absurd rfl h⟩
  · simp [Value.cells] at hcs
    obtain ⟨rfl, rfl, rfl⟩ := hcs
    have hlm : len ≤ m := by rw [hmm]; split <;> omega
    have each : ∀ i, i < len → ∃ q : Ac, ∀ j, j < 6 → W.cell? (x.add (i * 6 + j)) = (acL q)[j]? := fun i hi => by
      obtain ⟨cs', h1, h2⟩ := hx i (by omega)
      rw [cellsAct] at h1
      obtain ⟨q, rfl⟩ := act_cells h2
      obtain ⟨_, _, hcell⟩ := World.cells?_some h1
      refine ⟨q, fun j hj => ?_⟩
      have := hcell j hj
      rw [add_add] at this
      exact this
    obtain ⟨q, hq⟩ := choose_lt each
    refine ⟨(List.range len).map q, some x, cap, by simp, by simpa using hl, by unfold maxLen at hm; omega, fun hne => ?_⟩
    have hpos : 0 < len := by
      rcases Nat.eq_zero_or_pos len with h | h
      · subst h; simp at hne
      · exact h
    obtain ⟨b, off, spot⟩ := x
    have h00 := hq 0 hpos 0 (by omega)
    have hspot : spot = none := by simpa [Addr.add] using World.cell?_spot h00
    subst hspot
    simp only [add_plain] at hq h00
    refine ⟨b, off, rfl, World.block_lt_of_cell? _ _ h00, fun j hj => ?_⟩
    have hj' : j < len := by simpa using hj
    have := hq j hj'
    simp only [List.getElem_map, List.getElem_range]
    refine ⟨by simpa [acL] using this 0 (by omega), by simpa [acL, Nat.add_assoc] using this 1 (by omega), by simpa [acL, Nat.add_assoc] using this 2 (by omega), by simpa [acL, Nat.add_assoc] using this 3 (by omega), by simpa [acL, Nat.add_assoc] using this 4 (by omega), by simpa [acL, Nat.add_assoc] using this 5 (by omega)⟩
end
end Go.Proofs.YtkhggojghjociaaDoor
