/-
  A block of cells that is known whole: what its cells read, that they may be written, what a store makes of it, and that it stays as it is where nothing that existed changes. Plain lemmas on the model's memory.
-/
import Derived.Test.YtbfnehpmlngagaaDoorProg
import Derived.Tactics
import Derived.Tactics2
import Derived.WalkKit
import Derived.Below
import Derived.OneCell
namespace Go.Proofs.YtbfnehpmlngagaaDoor
open Go Go.Proofs Go.RowKit

/-- Block b holds just these cells. -/
def Blk (W : World) (b : Nat) (vs : List Value) (t : TypeId) : Prop := W.heap[b]? = some (.cells ⟨vs⟩ t (0, 0))
theorem Blk.cell {W : World} {b : Nat} {vs : List Value} {t : TypeId} (h : Blk W b vs t) (i : Nat) {v : Value} (hv : vs[i]? = some v) : W.cell? ⟨b, i, none⟩ = some v := by
  unfold Blk at h; simp [World.cell?, h, hv]
theorem Blk.free {W : World} {b : Nat} {vs : List Value} {t : TypeId} (h : Blk W b vs t) (i : Nat) : W.frozen? ⟨b, i, none⟩ = false := by
  unfold Blk at h; simp [World.frozen?, h]
theorem Blk.lt {W : World} {b : Nat} {vs : List Value} {t : TypeId} (h : Blk W b vs t) : b < W.heap.size := lt_of_block h
theorem Blk.below {B : Nat} {W W' : World} {b : Nat} {vs : List Value} {t : TypeId} (h : Blk W b vs t) (hb : Below B W W') (hB : b < B) : Blk W' b vs t := by
  unfold Blk at h ⊢; rw [hb.block b hB]; exact h
theorem Blk.next {W W' : World} {b : Nat} {vs : List Value} {t : TypeId} (h : Blk W b vs t) (hb : Below W.heap.size W W') : Blk W' b vs t := h.below hb h.lt
theorem Blk.alloc {W : World} {b : Nat} {vs : List Value} {t : TypeId} (h : Blk W b vs t) (o : Obj) : Blk (W.alloc o) b vs t := h.next ((Below.refl _ _).alloc (Nat.le_refl _) _)
theorem Blk.drew {W : World} {b : Nat} {vs : List Value} {t : TypeId} (h : Blk W b vs t) : Blk W.drew b vs t := h
theorem Blk.start (W : World) (vs : List Value) (t : TypeId) : Blk (W.alloc (.cells ⟨vs⟩ t)) W.heap.size vs t := by
  show (W.heap.push _)[W.heap.size]? = _
  simp
theorem Blk.startAt {W : World} {b : Nat} {vs : List Value} {t : TypeId} (h : b = W.heap.size) : Blk (W.alloc (.cells ⟨vs⟩ t)) b vs t := h ▸ Blk.start W vs t
theorem Blk.other {W : World} {b : Nat} {vs : List Value} {t : TypeId} (h : Blk W b vs t) (p : Addr) (hp : b ≠ p.block) (u : Value) : Blk (W.setCell p u) b vs t := by
  unfold Blk at h ⊢; rw [Below.heap_setCell _ _ _ _ hp]; exact h
theorem Blk.set {W : World} {b : Nat} {vs : List Value} {t : TypeId} (h : Blk W b vs t) (i : Nat) (u : Value) : Blk (W.setCell ⟨b, i, none⟩ u) b (vs.set i u) t := by
  unfold Blk at h ⊢
  have hlt := lt_of_block h
  have h' : W.heap[b] = .cells ⟨vs⟩ t (0, 0) := by simpa [Array.getElem?_eq_getElem hlt] using h
  show (W.heap.modify b _)[b]? = _
  rw [Array.getElem?_eq_getElem (by simpa using hlt), Array.getElem_modify_self, h']
  simp

/-- What a cell holds, by a name that the walk does not open. -/
def cellAt (W : World) (p : Addr) : Value := (W.cell? p).getD undef
/-- A cell is there, and may be written. -/
def Live (W : World) (p : Addr) : Prop := W.cell? p = some (cellAt W p) ∧ W.frozen? p = false
theorem cellAt_of {W : World} {p : Addr} {v : Value} (h : W.cell? p = some v) : W.cell? p = some (cellAt W p) := by unfold cellAt; rw [h]; rfl
theorem Blk.live {W : World} {b : Nat} {vs : List Value} {t : TypeId} (h : Blk W b vs t) (i : Nat) (hi : i < vs.length) : Live W ⟨b, i, none⟩ :=
  ⟨cellAt_of (h.cell i (List.getElem?_eq_getElem hi)), h.free i⟩
theorem Live.next {W W' : World} {p : Addr} (h : Live W p) (hb : Below W.heap.size W W') (hp : p.block < W.heap.size) : Live W' p :=
  ⟨cellAt_of (by rw [hb.cell hp]; exact h.1), by rw [hb.frozen hp]; exact h.2⟩

/-- From W to W' nothing that existed has changed but cells of block b, and those that could be written still can. -/
structure Off (b : Nat) (W W' : World) : Prop where
  size : W.heap.size ≤ W'.heap.size
  cell : ∀ p : Addr, p.block < W.heap.size → p.block ≠ b → W'.cell? p = W.cell? p
  frozen : ∀ p : Addr, p.block < W.heap.size → W'.frozen? p = W.frozen? p
  live : ∀ p : Addr, p.block < W.heap.size → Live W p → Live W' p
  below : ∀ (B : Nat) (W0 : World), B ≤ b → B ≤ W.heap.size → Below B W0 W → Below B W0 W'
theorem Off.of {b : Nat} {W W' : World} (h : Below W.heap.size W W') : Off b W W' where
  size := h.size
  cell _ hp _ := h.cell hp
  frozen _ hp := h.frozen hp
  live _ hp hl := hl.next h hp
  below _ _ _ hB h0 := h0.trans (h.mono hB)
theorem Off.trans {b : Nat} {W W' W'' : World} (h : Off b W W') (h' : Off b W' W'') : Off b W W'' where
  size := Nat.le_trans h.size h'.size
  cell p hp hb := by rw [h'.cell p (Nat.lt_of_lt_of_le hp h.size) hb, h.cell p hp hb]
  frozen p hp := by rw [h'.frozen p (Nat.lt_of_lt_of_le hp h.size), h.frozen p hp]
  live p hp hl := h'.live p (Nat.lt_of_lt_of_le hp h.size) (h.live p hp hl)
  below B W0 hb hB h0 := h'.below B W0 hb (Nat.le_trans hB h.size) (h.below B W0 hb hB h0)
theorem Off.store (b i : Nat) (W : World) (u : Value) : Off b W (W.setCell ⟨b, i, none⟩ u) where
  size := by simp
  cell _ _ hb := World.cell?_setCell_other _ _ _ _ (by rintro rfl; exact hb rfl)
  frozen _ _ := by simp
  live _ _ hl := ⟨by
    obtain ⟨v', hv⟩ := cell?_setCell_some (p := ⟨b, i, none⟩) (x := u) hl.1
    exact cellAt_of hv, by simpa using hl.2⟩
  below _ _ hb _ h0 := h0.setCell hb _
theorem Off.drew (b : Nat) (W : World) : Off b W W.drew := .of (Below.refl _ _).drew
theorem Off.store3 (b : Nat) (W : World) (x y z : Value) : Off b W (((W.setCell ⟨b, 0, none⟩ x).setCell ⟨b, 1, none⟩ y).setCell ⟨b, 2, none⟩ z) :=
  ((Off.store b 0 W x).trans (Off.store b 1 _ y)).trans (Off.store b 2 _ z)
end Go.Proofs.YtbfnehpmlngagaaDoor
