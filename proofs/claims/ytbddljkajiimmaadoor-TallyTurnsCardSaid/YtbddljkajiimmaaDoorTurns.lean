/-
  The walk of the law TallyTurns: whatever the ids are, it returns true, and nothing that existed has changed.
-/
import Derived.Test.YtbddljkajiimmaaDoorAwakeB
import Derived.Deep.LoopGhost
namespace Go.Proofs.YtbddljkajiimmaaDoor
open Go Go.Proofs Go.RowKit

/-! Sums over lists of ids. -/
def sm (f : Int × Int → Int) (l : List (Int × Int)) : Int := (l.map f).sum
theorem sm_nil (f : Int × Int → Int) : sm f [] = 0 := rfl
theorem sm_append (f : Int × Int → Int) (l m : List (Int × Int)) : sm f (l ++ m) = sm f l + sm f m := by
  unfold sm; rw [List.map_append, List.sum_append_int]
theorem sm_one (f : Int × Int → Int) (x : Int × Int) : sm f [x] = f x := by unfold sm; simp
theorem sm_reverse (f : Int × Int → Int) (l : List (Int × Int)) : sm f l.reverse = sm f l := by
  induction l with
  | nil => rfl
  | cons x l ih => rw [List.reverse_cons, sm_append, ih, sm_one]; unfold sm; simp; omega
theorem sm_bd (f : Int × Int → Int) (B : Int) (l : List (Int × Int)) (h : ∀ x ∈ l, -B ≤ f x ∧ f x ≤ B) : -(l.length * B) ≤ sm f l ∧ sm f l ≤ l.length * B := by
  induction l with
  | nil => simp [sm]
  | cons x l ih =>
    have h1 := h x (List.mem_cons_self ..)
    have h2 := ih fun y hy => h y (List.mem_cons_of_mem _ hy)
    have e : sm f (x :: l) = f x + sm f l := by unfold sm; simp
    have e2 : ((x :: l).length : Int) * B = l.length * B + B := by
      rw [List.length_cons, Int.natCast_add, Int.add_mul]; simp
    rw [e, e2]; omega
/-- How many ids, and the four sums. -/
def nL (l : List (Int × Int)) : Int := l.length
def cL (l : List (Int × Int)) : Int := sm (fun x => x.1) l
def sL (l : List (Int × Int)) : Int := sm (fun x => x.2) l
def rL (l : List (Int × Int)) : Int := sm (fun x => sqR x.1 x.2) l
def iL (l : List (Int × Int)) : Int := sm (fun x => sqI x.1 x.2) l
/-- All ids may be. -/
def Mays (l : List (Int × Int)) : Prop := ∀ x ∈ l, mayB x.1 x.2 = true
theorem sums_L {l : List (Int × Int)} (h : Mays l) (hl : l.length ≤ 4096) : Sums (cL l) (sL l) (rL l) (iL l) := by
  have k1 := sm_bd (fun x => x.1) 1048576 l fun x hx => by have := sq_bd (h x hx); constructor <;> omega
  have k2 := sm_bd (fun x => x.2) 1048576 l fun x hx => by have := sq_bd (h x hx); constructor <;> omega
  have k3 := sm_bd (fun x => sqR x.1 x.2) 1099511627776 l fun x hx => by have := sq_bd (h x hx); constructor <;> omega
  have k4 := sm_bd (fun x => sqI x.1 x.2) 1099511627776 l fun x hx => by have := sq_bd (h x hx); constructor <;> omega
  unfold cL sL rL iL
  exact ⟨small_of (by omega) (by omega), small_of (by omega) (by omega), small_of (by omega) (by omega), small_of (by omega) (by omega)⟩
theorem nL_snoc (l : List (Int × Int)) (x : Int × Int) : nL (l ++ [x]) = nL l + 1 := by unfold nL; simp
theorem cL_snoc (l : List (Int × Int)) (x : Int × Int) : cL (l ++ [x]) = cL l + x.1 := by unfold cL; rw [sm_append, sm_one]
theorem sL_snoc (l : List (Int × Int)) (x : Int × Int) : sL (l ++ [x]) = sL l + x.2 := by unfold sL; rw [sm_append, sm_one]
theorem rL_snoc (l : List (Int × Int)) (x : Int × Int) : rL (l ++ [x]) = rL l + sqR x.1 x.2 := by unfold rL; rw [sm_append, sm_one]
theorem iL_snoc (l : List (Int × Int)) (x : Int × Int) : iL (l ++ [x]) = iL l + sqI x.1 x.2 := by unfold iL; rw [sm_append, sm_one]
theorem Mays.snoc {l : List (Int × Int)} {x : Int × Int} (h : Mays l) (hx : mayB x.1 x.2 = true) : Mays (l ++ [x]) := fun y hy => by
  rcases List.mem_append.1 hy with hy | hy
  · exact h y hy
  · simp at hy; subst hy; exact hx

/-- The cells of the tally of some ids. -/
def tc (l : List (Int × Int)) : List Value := [.int .i64 (nL l), .complex .f64 (fl (cL l)) (fl (sL l)), .complex .f64 (fl (rL l)) (fl (iL l))]
theorem tc_nil : tc [] = [.int .i64 0, .complex .f64 0 0, .complex .f64 0 0] := by
  unfold tc nL cL sL rL iL; simp only [sm_nil, fl_zero]; rfl

theorem put_L {l : List (Int × Int)} {x : Int × Int} (w : World) (h : Mays l) (hx : mayB x.1 x.2 = true) (hl : l.length ≤ 4095) :
    Calls Tryd.prog 8 #[.agg #[.int .i64 (nL l), .complex .f64 (fl (cL l)) (fl (sL l)), .complex .f64 (fl (rL l)) (fl (iL l))], .agg #[.int .i64 x.1, .int .i64 x.2]] w
      fun e w' => e = .returned (.tuple #[.agg #[.int .i64 (nL (l ++ [x])), .complex .f64 (fl (cL (l ++ [x]))) (fl (sL (l ++ [x]))), .complex .f64 (fl (rL (l ++ [x]))) (fl (iL (l ++ [x])))], .int .i64 0]) ∧ Below w.heap.size w w' := by
  have hs := sums_L h (by omega)
  have hs' := sums_L (h.snoc hx) (by simp; omega)
  rw [nL_snoc, cL_snoc, sL_snoc, rL_snoc, iL_snoc]
  rw [cL_snoc, sL_snoc, rL_snoc, iL_snoc] at hs'
  exact put_ok w hx (by unfold nL; omega) (by unfold nL; omega) hs (sums_of hx) hs'
theorem and_L {l m : List (Int × Int)} (w : World) (h : Mays l) (h' : Mays m) (hl : l.length + m.length ≤ 4096) :
    Calls Tryd.prog 9 #[.agg #[.int .i64 (nL l), .complex .f64 (fl (cL l)) (fl (sL l)), .complex .f64 (fl (rL l)) (fl (iL l))], .agg #[.int .i64 (nL m), .complex .f64 (fl (cL m)) (fl (sL m)), .complex .f64 (fl (rL m)) (fl (iL m))]] w
      fun e w' => e = .returned (.tuple #[.agg #[.int .i64 (nL (l ++ m)), .complex .f64 (fl (cL (l ++ m))) (fl (sL (l ++ m))), .complex .f64 (fl (rL (l ++ m))) (fl (iL (l ++ m)))], .int .i64 0]) ∧ Below w.heap.size w w' := by
  have hs := sums_L h (by omega)
  have hs' := sums_L h' (by omega)
  have hs'' := sums_L (l := l ++ m) (fun x hx => (List.mem_append.1 hx).elim (h x) (h' x)) (by simp; omega)
  have e1 : nL (l ++ m) = nL l + nL m := by unfold nL; simp
  have e2 : cL (l ++ m) = cL l + cL m := sm_append ..
  have e3 : sL (l ++ m) = sL l + sL m := sm_append ..
  have e4 : rL (l ++ m) = rL l + rL m := sm_append ..
  have e5 : iL (l ++ m) = iL l + iL m := sm_append ..
  rw [e2, e3, e4, e5] at hs''
  rw [e1, e2, e3, e4, e5]
  exact and_ok w (by unfold nL; omega) (by unfold nL; omega) (by unfold nL; omega) hs hs' hs''
theorem same_L {l m : List (Int × Int)} (w : World) (h : Mays l) (h' : Mays m) (hl : l.length ≤ 4096) (hm : m.length ≤ 4096) :
    Calls Tryd.prog 10 #[.agg #[.int .i64 (nL l), .complex .f64 (fl (cL l)) (fl (sL l)), .complex .f64 (fl (rL l)) (fl (iL l))], .agg #[.int .i64 (nL m), .complex .f64 (fl (cL m)) (fl (sL m)), .complex .f64 (fl (rL m)) (fl (iL m))]] w
      fun e w' => e = .returned (.bool (sameB (nL l) (cL l) (sL l) (rL l) (iL l) (nL m) (cL m) (sL m) (rL m) (iL m))) ∧ Below w.heap.size w w' := by
  obtain ⟨a1, a2, a3, a4⟩ := sums_L h hl
  obtain ⟨b1, b2, b3, b4⟩ := sums_L h' hm
  exact same_any a1 a2 a3 a4 b1 b2 b3 b4 w
/-- The same sums. -/
theorem sameB_of {l m : List (Int × Int)} (h1 : nL l = nL m) (h2 : cL l = cL m) (h3 : sL l = sL m) (h4 : rL l = rL m) (h5 : iL l = iL m) :
    sameB (nL l) (cL l) (sL l) (rL l) (iL l) (nL m) (cL m) (sL m) (rL m) (iL m) = true := by
  unfold sameB; simp [h1, h2, h3, h4, h5]
theorem same_rev (l : List (Int × Int)) : sameB (nL l) (cL l) (sL l) (rL l) (iL l) (nL l.reverse) (cL l.reverse) (sL l.reverse) (rL l.reverse) (iL l.reverse) = true :=
  sameB_of (by unfold nL; simp) (sm_reverse ..).symm (sm_reverse ..).symm (sm_reverse ..).symm (sm_reverse ..).symm
theorem same_parts (l : List (Int × Int)) (n : Nat) : sameB (nL l) (cL l) (sL l) (rL l) (iL l) (nL (l.drop n ++ l.take n)) (cL (l.drop n ++ l.take n)) (sL (l.drop n ++ l.take n)) (rL (l.drop n ++ l.take n)) (iL (l.drop n ++ l.take n)) = true := by
  have e (f : Int × Int → Int) : sm f l = sm f (l.drop n ++ l.take n) := by
    rw [sm_append, Int.add_comm, ← sm_append, List.take_append_drop]
  exact sameB_of (by unfold nL; simp; omega) (e _) (e _) (e _) (e _)
theorem take_L {l : List (Int × Int)} {x : Int × Int} (w : World) (h : Mays l) (hx : mayB x.1 x.2 = true) (hl : l.length ≤ 4095) :
    Calls Tryd.prog 11 #[.agg #[.int .i64 (nL (l ++ [x])), .complex .f64 (fl (cL (l ++ [x]))) (fl (sL (l ++ [x]))), .complex .f64 (fl (rL (l ++ [x]))) (fl (iL (l ++ [x])))], .agg #[.int .i64 x.1, .int .i64 x.2]] w
      fun e w' => e = .returned (.tuple #[.agg #[.int .i64 (nL l), .complex .f64 (fl (cL l)) (fl (sL l)), .complex .f64 (fl (rL l)) (fl (iL l))], .int .i64 0]) ∧ Below w.heap.size w w' := by
  have hs := sums_L h (by omega)
  have hs' := sums_L (h.snoc hx) (by simp; omega)
  have hn : 0 ≤ nL l := by unfold nL; omega
  have hn' : nL l ≤ 4095 := by unfold nL; omega
  rw [cL_snoc, sL_snoc, rL_snoc, iL_snoc] at hs'
  rw [nL_snoc, cL_snoc, sL_snoc, rL_snoc, iL_snoc]
  have ht := take_ok (N := nL l + 1) w hx (by omega) (by omega) hs' (sums_of hx) (by
    rw [Int.add_sub_cancel, Int.add_sub_cancel, Int.add_sub_cancel, Int.add_sub_cancel]; exact hs)
  rw [Int.add_sub_cancel, Int.add_sub_cancel, Int.add_sub_cancel, Int.add_sub_cancel, Int.add_sub_cancel] at ht
  exact ht
theorem same_self (l : List (Int × Int)) : sameB (nL l) (cL l) (sL l) (rL l) (iL l) (nL l) (cL l) (sL l) (rL l) (iL l) = true := sameB_of rfl rfl rfl rfl rfl
theorem same_more (l : List (Int × Int)) (x : Int × Int) : sameB (nL (l ++ [x])) (cL (l ++ [x])) (sL (l ++ [x])) (rL (l ++ [x])) (iL (l ++ [x])) (nL l) (cL l) (sL l) (rL l) (iL l) = false := by
  unfold sameB
  rw [nL_snoc]
  simp
  intro h; omega

/-- A slice of ids: its cells lie from off on in block b. -/
def Lies (w : World) (b off : Nat) (l : List (Int × Int)) : Prop :=
  ∀ i (hi : i < l.length), w.cell? ⟨b, off + i * 2, none⟩ = some (.int .i64 l[i].1) ∧ w.cell? ⟨b, off + i * 2 + 1, none⟩ = some (.int .i64 l[i].2)
/-- v is a slice of the ids l. -/
def IsIds (w : World) (v : Value) (l : List (Int × Int)) : Prop :=
  ∃ a cap, v = .slice a l.length cap ∧ l.length ≤ cap ∧ cap ≤ 9223372036854775807 ∧ (l ≠ [] → ∃ b off, a = some ⟨b, off, none⟩ ∧ Lies w b off l)

theorem Blk.put3 {W : World} {b : Nat} {x y z : Value} {t : TypeId} (h : Blk W b [x, y, z] t) (x' y' z' : Value) :
    Blk (((W.setCell ⟨b, 0, none⟩ x').setCell ⟨b, 1, none⟩ y').setCell ⟨b, 2, none⟩ z') b [x', y', z'] t := ((h.set 0 x').set 1 y').set 2 z'
theorem Blk.other3 {W : World} {b c : Nat} {vs : List Value} {t : TypeId} (h : Blk W b vs t) (hc : b ≠ c) (x' y' z' : Value) :
    Blk (((W.setCell ⟨c, 0, none⟩ x').setCell ⟨c, 1, none⟩ y').setCell ⟨c, 2, none⟩ z') b vs t := ((h.other _ hc _).other _ hc _).other _ hc _
theorem below3 {B : Nat} {W0 W : World} {c : Nat} (h : Below B W0 W) (hc : B ≤ c) (x' y' z' : Value) :
    Below B W0 (((W.setCell ⟨c, 0, none⟩ x').setCell ⟨c, 1, none⟩ y').setCell ⟨c, 2, none⟩ z') :=
  ((h.setCell (p := ⟨c, 0, none⟩) hc _).setCell (p := ⟨c, 1, none⟩) hc _).setCell (p := ⟨c, 2, none⟩) hc _

/-- What the walk knows: the four tallies, the id, and that below all is as it was. -/
structure TA (w W : World) (p q : Int) (lt lu lv lw : List (Int × Int)) : Prop where
  a : Blk W w.heap.size [.int .i64 p, .int .i64 q] 24
  t : Blk W (w.heap.size + 1) (tc lt) 28
  u : Blk W (w.heap.size + 1 + 1) (tc lu) 28
  v : Blk W (w.heap.size + 1 + 1 + 1) (tc lv) 28
  x : Blk W (w.heap.size + 1 + 1 + 1 + 1) (tc lw) 28
  bel : Below w.heap.size w W
variable {w W W' : World} {p q : Int} {lt lu lv lw : List (Int × Int)}
theorem TA.next (h : TA w W p q lt lu lv lw) (hb : Below W.heap.size W W') : TA w W' p q lt lu lv lw :=
  ⟨h.a.next hb, h.t.next hb, h.u.next hb, h.v.next hb, h.x.next hb, h.bel.trans (hb.mono h.bel.size)⟩
theorem TA.setT (h : TA w W p q lt lu lv lw) (l : List (Int × Int)) : TA w (((W.setCell ⟨w.heap.size + 1, 0, none⟩ (.int .i64 (nL l))).setCell ⟨w.heap.size + 1, 1, none⟩ (.complex .f64 (fl (cL l)) (fl (sL l)))).setCell ⟨w.heap.size + 1, 2, none⟩ (.complex .f64 (fl (rL l)) (fl (iL l)))) p q l lu lv lw :=
  ⟨h.a.other3 (by omega) _ _ _, h.t.put3 _ _ _, h.u.other3 (by omega) _ _ _, h.v.other3 (by omega) _ _ _, h.x.other3 (by omega) _ _ _, below3 h.bel (by omega) _ _ _⟩
theorem TA.setU (h : TA w W p q lt lu lv lw) (l : List (Int × Int)) : TA w (((W.setCell ⟨w.heap.size + 1 + 1, 0, none⟩ (.int .i64 (nL l))).setCell ⟨w.heap.size + 1 + 1, 1, none⟩ (.complex .f64 (fl (cL l)) (fl (sL l)))).setCell ⟨w.heap.size + 1 + 1, 2, none⟩ (.complex .f64 (fl (rL l)) (fl (iL l)))) p q lt l lv lw :=
  ⟨h.a.other3 (by omega) _ _ _, h.t.other3 (by omega) _ _ _, h.u.put3 _ _ _, h.v.other3 (by omega) _ _ _, h.x.other3 (by omega) _ _ _, below3 h.bel (by omega) _ _ _⟩
theorem TA.setV (h : TA w W p q lt lu lv lw) (l : List (Int × Int)) : TA w (((W.setCell ⟨w.heap.size + 1 + 1 + 1, 0, none⟩ (.int .i64 (nL l))).setCell ⟨w.heap.size + 1 + 1 + 1, 1, none⟩ (.complex .f64 (fl (cL l)) (fl (sL l)))).setCell ⟨w.heap.size + 1 + 1 + 1, 2, none⟩ (.complex .f64 (fl (rL l)) (fl (iL l)))) p q lt lu l lw :=
  ⟨h.a.other3 (by omega) _ _ _, h.t.other3 (by omega) _ _ _, h.u.other3 (by omega) _ _ _, h.v.put3 _ _ _, h.x.other3 (by omega) _ _ _, below3 h.bel (by omega) _ _ _⟩
theorem TA.setX (h : TA w W p q lt lu lv lw) (l : List (Int × Int)) : TA w (((W.setCell ⟨w.heap.size + 1 + 1 + 1 + 1, 0, none⟩ (.int .i64 (nL l))).setCell ⟨w.heap.size + 1 + 1 + 1 + 1, 1, none⟩ (.complex .f64 (fl (cL l)) (fl (sL l)))).setCell ⟨w.heap.size + 1 + 1 + 1 + 1, 2, none⟩ (.complex .f64 (fl (rL l)) (fl (iL l)))) p q lt lu lv l :=
  ⟨h.a.other3 (by omega) _ _ _, h.t.other3 (by omega) _ _ _, h.u.other3 (by omega) _ _ _, h.v.other3 (by omega) _ _ _, h.x.put3 _ _ _, below3 h.bel (by omega) _ _ _⟩
end Go.Proofs.YtbddljkajiimmaaDoor
