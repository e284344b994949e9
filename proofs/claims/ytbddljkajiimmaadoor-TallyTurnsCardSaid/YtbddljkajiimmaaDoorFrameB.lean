/-
  What the rows of this seat share: the library's tables out of the listed variables, the witness's heap, and how an id and a slice of ids that came in are read.
-/
import Derived.Test.YtbddljkajiimmaaDoorRows
import Derived.Test.YtbddljkajiimmaaDoorTie
import Derived.Test.YtbddljkajiimmaaDoorCards
import Derived.Test.YtbddljkajiimmaaDoorAwakeB
import Derived.ProofKit
import Derived.LaidMore
import Derived.OpenShut
import Derived.Stop.Joined
import Derived.Stop.LaidErr
import Derived.Lib.SmallJoins
import Derived.Lib.LaidU8
import Derived.Deep.SlicePairs
import Derived.ChangeOld
import Derived.Lay
set_option maxRecDepth 100000
namespace Go.Proofs.YtbddljkajiimmaaDoor
open Go Go.Proofs Go.ChangeShapes Go.WideShapes Go.ChangeAt Go.RowKit Go.Joins Go.Deep

theorem own : ownKnob Tryd.prog.godebug = none := by kernel_rfl
theorem laidOut : laidOutB Tryd.prog = true := by kernel_rfl
theorem cellsId : Tryd.prog.cellsOf 24 = 2 := by kernel_rfl

/-- What the rows list. -/
def laid6 : List (String × DataW Unit) := [("math/bits.deBruijn32tab", Rows.laid_math_bits_deBruijn32tab), ("math/bits.deBruijn64tab", Rows.laid_math_bits_deBruijn64tab), ("internal/strconv.optimize", Rows.laid_internal_strconv_optimize), ("internal/strconv.uint64pow10", Rows.laid_internal_strconv_uint64pow10), ("internal/strconv.leftcheats", Rows.laid_internal_strconv_leftcheats), ("internal/strconv.pow10Tab", Rows.laid_internal_strconv_pow10Tab)]

theorem tTab : (Tryd.prog.globals[0]?).map (·.type) = some 75 := by kernel_rfl
/-- What the condition gives the walks: the table of powers of ten. -/
theorem tab_of_laid {W : World} (h : laidMet Tryd.prog laid6 W) : Tab W := by
  have h2 := laidMet.tail (laidMet.tail (laidMet.tail h))
  exact Lib.tabIs_of_head gTab tTab Tryd.underlying75 Tryd.underlying62 (by kernel_rfl) (by kernel_rfl) h2

theorem gPow : Tryd.prog.globalNamed "internal/strconv.pow10Tab" = some 5 := by kernel_rfl
theorem tPow : (Tryd.prog.globals[5]?).map (·.type) = some 116 := by kernel_rfl
theorem gOpt : Tryd.prog.globalNamed "internal/strconv.optimize" = some 2 := by kernel_rfl
theorem tOpt : (Tryd.prog.globals[2]?).map (·.type) = some 4 := by kernel_rfl

/-- An entry of the table of powers. -/
theorem pow_at {W : World} (h : laidMet Tryd.prog laid6 W) (i : Nat) (hi : i < 696) (a b : Nat) (ha : Pinned.pow10Rows[i]? = some (a, b)) :
    W.cell? ⟨5, i * 2, none⟩ = some (.int .u64 a) ∧ W.cell? ⟨5, i * 2 + 1, none⟩ = some (.int .u64 b) := by
  have hm : ("internal/strconv.pow10Tab", Rows.laid_internal_strconv_pow10Tab) ∈ laid6 := by simp [laid6]
  obtain ⟨g, t, cs, fuel, p, hg, ht, hvar, hd⟩ := Lib.laidMet.reads h hm
  obtain rfl := Option.some.inj (gPow.symm.trans hg)
  obtain rfl := Option.some.inj (tPow.symm.trans ht)
  obtain ⟨xs, m, _, hx, _, hxl, hat⟩ := DataW.trod_array Tryd.underlying116 hd
  have e1 : xs.map (·.1) = Pinned.pow10Rows.map fun x => (DataW.agg [.lit (.int .u64 x.1), .lit (.int .u64 x.2)] : DataW Unit) := by
    have := congrArg Prod.fst hx
    have hp : Rows.laid_internal_strconv_pow10Tab = DataW.agg (Pinned.pow10Rows.map fun x => .agg [.lit (.int .u64 x.1), .lit (.int .u64 x.2)]) := rfl
    rw [hp] at this
    exact (DataW.agg.inj this).symm
  have e2 : (xs.map (·.1))[i]? = some (DataW.agg [.lit (.int .u64 a), .lit (.int .u64 b)]) := by rw [e1, List.getElem?_map, ha]; rfl
  rw [List.getElem?_map] at e2
  obtain ⟨x, hxi, hx1⟩ := Option.map_eq_some_iff.1 e2
  have hel := hat i hi
  rw [hxi, show Tryd.prog.cellsOf 115 = 2 by kernel_rfl] at hel
  have hel2 : DataW.trod (fun _ => ()) Tryd.prog W 0 (fun _ => true) false m 115 ((cs.toList.drop (i * 2)).take 2) = some (.agg ([(a : Int), (b : Int)].map fun z => .lit (.int .u64 z)), x.2) := by
    rw [hel]; exact congrArg some (Prod.ext hx1 rfl)
  have hc := Lib.ints_of_struct Tryd.underlying115 (fun j f hj => by
    rcases j with _ | _ | j
    · obtain rfl := Option.some.inj hj; exact ⟨Tryd.underlying62, rfl, by kernel_rfl⟩
    · obtain rfl := Option.some.inj hj; exact ⟨Tryd.underlying62, rfl, by kernel_rfl⟩
    · simp at hj) (by kernel_rfl) hel2
  have c0 := congrArg (·[0]?) hc
  have c1 := congrArg (·[1]?) hc
  simp only [List.getElem?_take, List.getElem?_drop] at c0 c1
  simp at c0 c1
  have v0 := World.var?_cell gPow hvar (i * 2)
  have v1 := World.var?_cell gPow hvar (i * 2 + 1)
  exact ⟨v0.trans c0, v1.trans c1⟩

theorem opt_at {W : World} (h : laidMet Tryd.prog laid6 W) : W.cell? ⟨2, 0, none⟩ = some (.bool true) := by
  have hm : ("internal/strconv.optimize", Rows.laid_internal_strconv_optimize) ∈ laid6 := by simp [laid6]
  obtain ⟨g, t, cs, fuel, p, hg, ht, hvar, hd⟩ := Lib.laidMet.reads h hm
  obtain rfl := Option.some.inj (gOpt.symm.trans hg)
  obtain rfl := Option.some.inj (tOpt.symm.trans ht)
  obtain ⟨b, hc, hx⟩ := DataW.trod_bool Tryd.underlying4 hd
  have hb : b = true := by
    have := congrArg Prod.fst hx
    have e : Rows.laid_internal_strconv_optimize (H := Unit) = .lit (.bool true) := rfl
    rw [e] at this
    simpa using this.symm
  subst hb
  have v0 := World.var?_cell gOpt hvar 0
  rw [v0, ← Array.getElem?_toList, hc]
  rfl

/-- What the condition gives the walks: the library's tables. -/
theorem libs_of_laid {W : World} (h0 : laidMetH Tryd.prog laid6 W) : Libs W := by
  have h : laidMet Tryd.prog laid6 W := by rw [MakeChecks.laidMetH_plain _ _ _ (by kernel_rfl)] at h0; exact h0
  obtain ⟨a0, a1⟩ := pow_at h 348 (by decide) 9223372036854775808 0 (by kernel_rfl)
  obtain ⟨b0, b1⟩ := pow_at h 349 (by decide) 11529215046068469760 0 (by kernel_rfl)
  exact ⟨⟨a0, a1, b0, b1, opt_at h⟩, tab_of_laid h⟩

/-- The witness's heap meets the condition. -/
theorem all_met (os : Os) (args : Array Value) : laidMetH Tryd.prog laid6 ((World.laidAll Tryd.prog os laid6).forCall (fun _ _ => 0) ⟨#[], args, []⟩).memory := by
  rw [MakeChecks.laidMetH_plain _ _ _ (by kernel_rfl)]
  exact laidMet_laidAll _ (by kernel_rfl) (by kernel_rfl)

section
variable {H : Type} {enc : TypeId × Value → H} {W : World} {base : Nat}
/-- An id that came in, by value. -/
theorem open_id {r : Reach} {b0 : Nat} {v : Value} {d : DataW H} {p : List MemPlace} {sp : Nat → Bool} {held : Bool}
    (hv : Value.okWide Tryd.prog W r b0 24 v) (h : DataW.Trod enc Tryd.prog W base sp held 24 v d p) : ∃ c s : Int, v = .agg #[.int .i64 c, .int .i64 s] := by
  obtain ⟨v0, v1, y0, y1, m, rfl, _, _, hy0, hy1⟩ := open_agg2 Tryd.underlying24 (by kernel_rfl) cellsId hv h
  obtain ⟨c, e0, _, _⟩ := DataW.trod_int Tryd.underlying2 hy0
  obtain ⟨s, e1, _, _⟩ := DataW.trod_int Tryd.underlying3 hy1
  simp at e0 e1
  subst e0 e1
  exact ⟨c, s, rfl⟩
end
end Go.Proofs.YtbddljkajiimmaaDoor
