/-
  How a slice of bools that came in is read.
-/
import Derived.Test.YtnlmdkbaihbekaaGreatDoorFrameF
import Derived.Test.YtnlmdkbaihbekaaGreatDoorPl7
namespace Go.Proofs.YtnlmdkbaihbekaaGreatDoor
open Go Go.Proofs Go.ChangeShapes Go.WideShapes Go.ChangeAt Go.RowKit Go.Joins Go.Deep

section
variable {H : Type} {enc : TypeId × Value → H} {W : World} {base : Nat}
theorem cellsBool : Tryz.prog.cellsOf 4 = 1 := by kernel_rfl
set_option maxRecDepth 100000 in
/-- A slice of bools that came in. -/
theorem open_bools {a : Option Addr} {len cap : Nat} {d : DataW H} {p : List MemPlace} {sp : Nat → Bool} {held : Bool}
    (h : DataW.Trod enc Tryz.prog W base sp held 23 (.slice a len cap) d p) : ∃ l : List Bool, IsBools W (.slice a len cap) l := by
  obtain ⟨fuel, hf⟩ := h
  rcases open_slice Tryz.underlying23 hf with ⟨hcs, _⟩ | ⟨x, len', cap', m, n, D, Pl, hcs, _, hl, hm, hmm, _, hx⟩
  · simp [Value.cells] at hcs
    obtain ⟨rfl, rfl, rfl⟩ := hcs
    exact ⟨[], none, 0, rfl, Nat.le_refl _, by omega, fun h => absurd rfl h⟩
  · simp [Value.cells] at hcs
    obtain ⟨rfl, rfl, rfl⟩ := hcs
    have hlm : len ≤ m := by rw [hmm]; split <;> omega
    have each : ∀ i, i < len → ∃ q : Bool, W.cell? (x.add i) = some (.bool q) := fun i hi => by
      obtain ⟨cs', h1, h2⟩ := hx i (by omega)
      rw [cellsBool] at h1
      obtain ⟨q, rfl, _⟩ := DataW.trod_bool Tryz.underlying4 h2
      obtain ⟨_, _, hcell⟩ := World.cells?_some h1
      refine ⟨q, ?_⟩
      have := hcell 0 (by omega)
      rw [add_add] at this
      simpa using this
    obtain ⟨q, hq⟩ := choose_lt each
    refine ⟨(List.range len).map q, some x, cap, by simp, by simpa using hl, by unfold maxLen at hm; omega, fun hne => ?_⟩
    have hpos : 0 < len := by
      rcases Nat.eq_zero_or_pos len with h | h
      · subst h; simp at hne
      · exact h
    obtain ⟨b, off, spot⟩ := x
    have h00 := hq 0 hpos
    have hspot : spot = none := by simpa [Addr.add] using World.cell?_spot h00
    subst hspot
    simp only [add_plain] at hq h00
    refine ⟨b, off, rfl, World.block_lt_of_cell? _ _ h00, fun j hj => ?_⟩
    have hj' : j < len := by simpa using hj
    have := hq j hj'
    simp only [List.getElem_map, List.getElem_range]
    exact this
end
end Go.Proofs.YtnlmdkbaihbekaaGreatDoor
