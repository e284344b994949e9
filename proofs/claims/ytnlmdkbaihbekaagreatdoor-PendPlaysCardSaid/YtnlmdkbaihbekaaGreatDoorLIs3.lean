/-
  The contracts of the document's Text, Rank and Flat of layer 3, at what a row holds; of a row's At and Depth; of the law's Of.
  The contract of the law's Is of layer 3: a row is the document's, in all that it tells, if its elements are.
-/
import Derived.Deep.DeepCutAuto
import Derived.Test.YtnlmdkbaihbekaaGreatDoorLBase
import Derived.Test.YtnlmdkbaihbekaaGreatDoorLRef
import Derived.Test.YtnlmdkbaihbekaaGreatDoorLStr
import Derived.Test.YtnlmdkbaihbekaaGreatDoorLText
import Derived.Test.YtnlmdkbaihbekaaGreatDoorLTree
namespace Go.Proofs.YtnlmdkbaihbekaaGreatDoor
open Go Go.Proofs Go.RowKit

theorem str_app (a b : List UInt8) : (⟨a.toArray⟩ : ByteArray) ++ ⟨b.toArray⟩ = ⟨(a ++ b).toArray⟩ := by
  apply ByteArray.ext
  simp [ByteArray.data_append]
theorem str_len (a : List UInt8) : (⟨a.toArray⟩ : ByteArray).size = a.length := by show a.toArray.size = _; simp
/-- The text of elements. -/
def txtS (l : List El) : ByteArray := ⟨(txtL l).toArray⟩
theorem txtS_size (l : List El) : (txtS l).size ≤ 4 * l.length := by unfold txtS; rw [str_len]; exact txtL_le l
theorem txtS_take {l : List El} {k : Nat} (h : k < l.length) : txtS (l.take (k + 1)) = txtS (l.take k) ++ ⟨(chL l[k]).toArray⟩ := by
  unfold txtS; rw [List.take_succ_eq_append_getElem h, txtL_snoc, str_app]
theorem alive_take {l : List El} {k : Nat} (h : k < l.length) : ((l.take (k + 1)).map El.al).sum = ((l.take k).map El.al).sum + l[k].al := by
  rw [List.take_succ_eq_append_getElem h]; simp only [List.map_append, List.sum_append, List.map_cons, List.map_nil, List.sum_cons, List.sum_nil, Nat.add_zero]
theorem alive_le (l : List El) : (l.map El.al).sum ≤ l.length := by
  induction l with
  | nil => simp
  | cons x l ih => have := x.al_le; simp only [List.map_cons, List.sum_cons, List.length_cons]; omega


/-- Is a depth as the document bounds it? -/
def FlatOk (d n : Nat) : Prop := (n = 0 ∧ d = 0) ∨ (0 < n ∧ 0 < d ∧ 2 ^ (d / 3) ≤ n + 1)
theorem flat_ok {T : Tr} (h : Avl T) : FlatOk T.depth T.size := by
  cases T with
  | nil => exact .inl ⟨rfl, rfl⟩
  | node l x r => exact .inr ⟨by show 0 < l.size + 1 + r.size; omega, by rw [node_depth]; omega, avl_third h⟩

theorem eqlF (p : Value) (w : World) : (binOp .eql 104 (.func (.func 85) #[] #[p]) .nilFunc).run Tryz.prog w = .ok (.bool false) w := by kernel_rfl


theorem idx_get : ∀ (l : List El) (k n : Nat), (idx k l)[n]? = (l[n]?).map fun x => (k + n, x)
  | [], k, n => by simp [idx]
  | x :: l, k, 0 => by simp [idx]
  | x :: l, k, n + 1 => by
    simp only [idx, List.getElem?_cons_succ, idx_get l (k + 1) n]
    cases l[n]? with
    | none => rfl
    | some y => simp only [Option.map_some]; rw [show k + 1 + n = k + (n + 1) by omega]
theorem idx_no {l : List El} {pre : List (Nat × El)} {x : Nat × El} (hk : pre.length < l.length) (hne : x ≠ (pre.length, l[pre.length])) : ¬ (pre ++ [x]) <+: idx 0 l := by
  rintro ⟨t, ht⟩
  have h1 : (pre ++ [x] ++ t)[pre.length]? = some x := by rw [List.getElem?_append_left (by simp), List.getElem?_append_right (Nat.le_refl _)]; simp
  rw [ht, idx_get, List.getElem?_eq_getElem hk] at h1
  have h2 := Option.some.inj h1
  rw [Nat.zero_add] at h2
  exact hne h2.symm

theorem Boxed.nextX {W W' : World} {B : Nat} {t : TypeId} {v : Value} (h : Go.Boxed W B t v) (hb : Below W.heap.size W W') : Go.Boxed W' B t v := (hb.block B h.lt).trans h
theorem keeps_belowX {W W' : World} (hb : Below W.heap.size W W') : KeepsOthers W W' := ⟨hb.size, fun k o hk _ => by rw [hb.block k (Array.getElem?_eq_some_iff.1 hk).1]; exact hk⟩
theorem Blk.putO {W : World} {b D : Nat} {vs : List Value} {t : TypeId} (h : Blk W b vs t) (hne : b ≠ D) (o : Obj) : Blk (W.putObj D o) b vs t := (World.putObj_heap_other hne).trans h
theorem El.same {x y : El} (h1 : x.c = y.c) (h2 : x.s = y.s) (h3 : x.ch = y.ch) (h4 : x.d = y.d) : x = y := by
  cases x; cases y; simp only at h1 h2 h3 h4; subst h1 h2 h3 h4; rfl

end Go.Proofs.YtnlmdkbaihbekaaGreatDoor
