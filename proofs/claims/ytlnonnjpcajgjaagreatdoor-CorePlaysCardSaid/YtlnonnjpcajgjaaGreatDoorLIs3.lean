/-
  The contracts of the document's Text, Rank and Flat of layer 3, at what a row holds; of a row's At and Depth; of the law's Of.
  The contract of the law's Is of layer 3: a row is the document's, in all that it tells, if its elements are.
-/
import Derived.Deep.DeepCutAuto
import Derived.Test.YtlnonnjpcajgjaaGreatDoorLBase
import Derived.Test.YtlnonnjpcajgjaaGreatDoorLRef
import Derived.Test.YtlnonnjpcajgjaaGreatDoorLStr
import Derived.Test.YtlnonnjpcajgjaaGreatDoorLText
import Derived.Test.YtlnonnjpcajgjaaGreatDoorLTree
namespace Go.Proofs.YtlnonnjpcajgjaaGreatDoor
open Go Go.Proofs Go.RowKit

theorem str_app (a b : List UInt8) : (⟨a.toArray⟩ : ByteArray) ++ ⟨b.toArray⟩ = ⟨(a ++ b).toArray⟩ := by
  apply ByteArray.ext
  simp [ByteArray.data_append]
theorem str_len (a : List UInt8) : (⟨a.toArray⟩ : ByteArray).size = a.length := by show a.toArray.size = _; simp
/-- The text of elements. -/
def txtS (l : List El) : ByteArray := ⟨(txtL l).toArray⟩
theorem txtS_size (l : List El) : (txtS l).size ≤ 4 * l.length := by unfold txtS; rw [str_len]; exact txtL_le l
theorem txtS_take {l : List El} {k : Nat} (h : k < l.length) : txtS (l.take (k + 1)) = txtS (l.take k) ++ ⟨(chL l[k]).toArray⟩ := by
  unfold txtS; rw [List.take_succ_eq_append_getElem h, txtL_snoc, str_app]
theorem alive_take {l : List El} {k : Nat} (h : k < l.length) : ((l.take (k + 1)).map El.al).sum = ((l.take k).map El.al).sum + l[k].al := by
  rw [List.take_succ_eq_append_getElem h]; simp only [List.map_append, List.sum_append, List.map_cons, List.map_nil, List.sum_cons, List.sum_nil, Nat.add_zero]
theorem alive_le (l : List El) : (l.map El.al).sum ≤ l.length := by
  induction l with
  | nil => simp
  | cons x l ih => have := x.al_le; simp only [List.map_cons, List.sum_cons, List.length_cons]; omega
set_option maxHeartbeats 3200000 in
theorem refText_any (L : List El) (v0 : Value) (w : World) (hL : IsE w v0 L) (hl : L.length ≤ 20000) :
    Calls Tryz.prog 51 #[v0] w fun e w' => e = .returned (.string (txtS L)) ∧ Below w.heap.size w w' := by
  have HL := Lib.hid hL
  obtain ⟨a, cap, rfl, hc1, hc2⟩ := Sl.form hL
  clear hL
  go_enter Tryz.func51, Tryz.ntmps51
  go_wp2_with fail
  go_loopg [3, 4] L.length (fun g ts ti wr => ∃ k : Nat, k ≤ L.length ∧ g = L.length - k ∧ ti = .int .i64 (k : Int) ∧ ts = .string (txtS (L.take k)) ∧ Below w.heap.size w wr)
  case atStart => exact ⟨0, Nat.zero_le _, rfl, rfl, rfl, Below.refl _ _⟩
  case round =>
    obtain ⟨k, hk, rfl, rfl, rfl, hB⟩ := hrel
    by_cases hlt : k < L.length
    · obtain ⟨g, rfl, hg, hC⟩ := HL.out.at k hlt
      have HT := Lib.hid (txtS_take hlt)
      have hch : L[k].d = false → chL L[k] = Lib.encodeRune L[k].ch := fun h => by unfold chL; rw [if_neg (by simp [h])]
      have hcd : L[k].d = true → chL L[k] = [] := fun h => by unfold chL; rw [if_pos h]
      have hsz := txtS_size (L.take k)
      have hle := Lib.runeCells_le L[k].ch
      rw [Lib.runeCells_length] at hle
      generalize L[k] = x at *
      have hll : (L.take k).length ≤ 20000 := by rw [List.length_take]; omega
      generalize txtS (L.take k) = s at *
      have x2 := (hC wr hB).2.2.1
      have x3 := (hC wr hB).2.2.2
      have HC := Lib.hid (fun (W : World) (hb : Below w.heap.size w W) => hC W hb)
      have HE := Lib.hid (And.intro hch hcd)
      have HB := Lib.hid hB
      clear hC hch hcd hB
      cases hd : x.d with
      | true =>
        rw [hd] at x3
        go_wp2_with fail
        go_roundg (L.length - (k + 1))
        case measure => omega
        case rel => exact ⟨k + 1, by omega, rfl, by go_num, by rw [HT.out, HE.out.2 hd]; congr 1; exact (ByteArray.append_empty).symm, HB.out⟩
      | false =>
        rw [hd] at x3
        go_wp2_with (go_at_call 85; refine (refChar_any _ _).mono ?_; rintro e' w1 ⟨rfl, hb⟩)
        go_roundg (L.length - (k + 1))
        case measure => omega
        case rel => exact ⟨k + 1, by omega, rfl, by go_num, by rw [HT.out, HE.out.1 hd], HB.out.trans (hb.mono HB.out.size)⟩
    · obtain rfl : k = L.length := by omega
      rw [List.take_length]
      go_wp2_with fail
      go_ret
      exact ⟨rfl, hB⟩

set_option maxHeartbeats 3200000 in
theorem refRank_all (L : List El) (v0 : Value) (w : World) (hL : IsE w v0 L) (hl : L.length ≤ 20000) :
    Calls Tryz.prog 50 #[v0, .int .i64 (L.length : Int)] w fun e w' => e = .returned (.int .i64 ((L.map El.al).sum : Int)) ∧ Below w.heap.size w w' := by
  have HL := Lib.hid hL
  obtain ⟨a, cap, rfl, hc1, hc2⟩ := Sl.form hL
  clear hL
  go_enter Tryz.func50, Tryz.ntmps50
  go_wp2_with fail
  go_loopg [5, 6] L.length (fun g tn ti wr => ∃ k : Nat, k ≤ L.length ∧ g = L.length - k ∧ ti = .int .i64 (k : Int) ∧ tn = .int .i64 (((L.take k).map El.al).sum : Int) ∧ Below w.heap.size w wr)
  case atStart => exact ⟨0, Nat.zero_le _, rfl, rfl, rfl, Below.refl _ _⟩
  case round =>
    obtain ⟨k, hk, rfl, rfl, rfl, hB⟩ := hrel
    by_cases hlt : k < L.length
    · obtain ⟨g, rfl, hg, hC⟩ := HL.out.at k hlt
      have HT := Lib.hid (alive_take hlt)
      have hsz := alive_le (L.take k)
      generalize L[k] = x at *
      have hll : (L.take k).length ≤ 20000 := by rw [List.length_take]; omega
      generalize ((L.take k).map El.al).sum = s at *
      have x3 := (hC wr hB).2.2.2
      have HB := Lib.hid hB
      clear hC hB
      cases hd : x.d with
      | true =>
        rw [hd] at x3
        go_wp2_with fail
        go_roundg (L.length - (k + 1))
        case measure => omega
        case rel => exact ⟨k + 1, by omega, rfl, by go_num, by rw [HT.out]; simp [El.al, hd], HB.out⟩
      | false =>
        rw [hd] at x3
        go_wp2_with fail
        go_roundg (L.length - (k + 1))
        case measure => omega
        case rel => exact ⟨k + 1, by omega, rfl, by go_num, by rw [HT.out]; simp [El.al, hd], HB.out⟩
    · obtain rfl : k = L.length := by omega
      rw [List.take_length]
      go_wp2_with fail
      go_ret
      exact ⟨rfl, hB⟩

/-- Is a depth as the document bounds it? -/
def FlatOk (d n : Nat) : Prop := (n = 0 ∧ d = 0) ∨ (0 < n ∧ 0 < d ∧ 2 ^ (d / 3) ≤ n + 1)
theorem flat_ok {T : Tr} (h : Avl T) : FlatOk T.depth T.size := by
  cases T with
  | nil => exact .inl ⟨rfl, rfl⟩
  | node l x r => exact .inr ⟨by show 0 < l.size + 1 + r.size; omega, by rw [node_depth]; omega, avl_third h⟩
set_option maxHeartbeats 3200000 in
theorem refFlat_any (d n : Nat) (h : FlatOk d n) (hd : d ≤ 20000) (hn : n ≤ 20000) (w : World) :
    Calls Tryz.prog 54 #[.int .i64 (d : Int), .int .i64 (n : Int)] w fun e w' => e = .returned (.bool true) ∧ Below w.heap.size w w' := by
  rcases h with ⟨rfl, rfl⟩ | ⟨hpn, h0, h1⟩
  · go_enter Tryz.func54, Tryz.ntmps54
    go_wp2_with fail
    go_ret
    exact ⟨rfl, Below.refl _ _⟩
  · have hn0 : n ≠ 0 := by omega
    have hnb : ((n : Int) == 0) = false := by simpa using hn0
    have H1 := Lib.hid h1
    clear h1
    go_enter Tryz.func54, Tryz.ntmps54
    go_wp2_with fail
    go_loopg [5, 6] (d / 3) (fun g tv ti wr => ∃ i : Nat, i ≤ d / 3 ∧ g = d / 3 - i ∧ ti = .int .i64 (i : Int) ∧ tv = .int .i64 ((2 ^ i : Nat) : Int) ∧ Below w.heap.size w wr)
    case atStart => exact ⟨0, Nat.zero_le _, rfl, rfl, rfl, Below.refl _ _⟩
    case round =>
      obtain ⟨i, hi, rfl, rfl, rfl, hB⟩ := hrel
      have HB := Lib.hid hB
      clear hB
      by_cases hlt : i < d / 3
      · have HP := Lib.hid (show 2 ^ (i + 1) = 2 ^ i * 2 from Nat.pow_succ 2 i)
        have hp : 2 ^ i * 2 ≤ n + 1 := by
          have := Nat.pow_le_pow_right (n := 2) (by decide) hlt
          rw [Nat.succ_eq_add_one, Nat.pow_succ] at this
          exact Nat.le_trans this H1.out
        generalize 2 ^ i = p at *
        go_wp2_with fail
        go_roundg (d / 3 - (i + 1))
        case measure => omega
        case rel => exact ⟨i + 1, by omega, rfl, by go_num, by rw [HP.out]; go_num, HB.out⟩
      · obtain rfl : i = d / 3 := by omega
        generalize 2 ^ (d / 3) = p at *
        go_wp2_with fail
        go_ret
        exact ⟨rfl, HB.out⟩
end Go.Proofs.YtlnonnjpcajgjaaGreatDoor
namespace Go.Proofs.YtlnonnjpcajgjaaGreatDoor
open Go Go.Proofs Go.RowKit Go.Shelf

attribute [local go_sem] Oper.semAt_some

theorem eqlF (p : Value) (w : World) : (binOp .eql 73 (.func (.func 58) #[] #[p]) .nilFunc).run Tryz.prog w = .ok (.bool false) w := by kernel_rfl
set_option maxHeartbeats 1600000 in
/-- At at any place. -/
theorem At_no {p : Option Addr} {T : Tr} (i : Nat) (w : World) (h : Is w p T) (hi : T.size ≤ i) :
    Calls Tryz.prog 52 #[.agg #[.pointer p], .int .i64 (i : Int)] w fun r w' => r = .returned (.tuple #[.agg #[.int .i64 0, .int .i64 0, .int .i32 0, .bool false], .bool false]) ∧ Below w.heap.size w w' := by
  have hb0 : Below w.heap.size w ((w.alloc (.cells #[.pointer p] 28)).alloc (.cells #[.int .i64 0, .int .i64 0, .int .i32 0, .bool false] 76)) := ((Below.refl _ _).alloc (Nat.le_refl _) _).alloc (by simp) _
  have H0 := Lib.hid (And.intro (show AtS w T p ((w.alloc (.cells #[.pointer p] 28)).alloc (.cells #[.int .i64 0, .int .i64 0, .int .i32 0, .bool false] 76)) from ⟨hb0, h.next hb0, Blk.startAt (by simp)⟩) (((Blk.start w [.pointer p] 28).alloc (.cells #[.int .i64 0, .int .i64 0, .int .i32 0, .bool false] 76))))
  clear h hb0
  have hd1 : decide ((i : Int) < 0) = false := by simp
  have hd2 : decide (T.size ≤ i) = true := by simpa using hi
  go_enter Tryz.func52, Tryz.ntmps52
  go_wp2_with (go_at_call 49; refine (len_any _ H0.out.1.tr).mono ?_; rintro e' w1 ⟨rfl, hb1⟩; refine Hid.out ?_)
  have H1 := Lib.hid (H0.out.1.next hb1)
  clear H0 hb1
  refine Lib.hid ?_
  have r0 := H1.out.br.cell 0 rfl
  have r1 := H1.out.br.cell 1 rfl
  have r2 := H1.out.br.cell 2 rfl
  have r3 := H1.out.br.cell 3 rfl
  have f0 := H1.out.br.free 0
  have f1 := H1.out.br.free 1
  have f2 := H1.out.br.free 2
  have f3 := H1.out.br.free 3
  have HW := Lib.hid ((((H1.out.br.set 0 (.int .i64 0)).set 1 (.int .i64 0)).set 2 (.int .i32 0)).set 3 (.bool false))
  have HQ := Lib.hid ((((H1.out.bel.setCell (p := ⟨w.heap.size + 1, 0, none⟩) (by show w.heap.size ≤ w.heap.size + 1; omega) (.int .i64 0)).setCell (p := ⟨w.heap.size + 1, 1, none⟩) (by show w.heap.size ≤ w.heap.size + 1; omega) (.int .i64 0)).setCell (p := ⟨w.heap.size + 1, 2, none⟩) (by show w.heap.size ≤ w.heap.size + 1; omega) (.int .i32 0)).setCell (p := ⟨w.heap.size + 1, 3, none⟩) (by show w.heap.size ≤ w.heap.size + 1; omega) (.bool false))
  go_wp2_with fail
  exact bodyPost_ret (v := .tuple #[.agg #[.int .i64 0, .int .i64 0, .int .i32 0, .bool false], .bool false]) (by have a0 := HW.out.cell 0 rfl; have a1 := HW.out.cell 1 rfl; have a2 := HW.out.cell 2 rfl; have a3 := HW.out.cell 3 rfl; simp [results, Tryz.results52, go_sem, a0, a1, a2, a3]) rfl ⟨rfl, HQ.out⟩
theorem At_all {p : Option Addr} {T : Tr} (i : Nat) (w : World) (h : Is w p T) (hs : T.size ≤ 20000) :
    Calls Tryz.prog 52 #[.agg #[.pointer p], .int .i64 (i : Int)] w fun r w' => ∃ (e : El) (b : Bool), r = .returned (.tuple #[.agg #[.int .i64 e.c, .int .i64 e.s, .int .i32 e.ch, .bool e.d], .bool b]) ∧ (∀ x, T.els[i]? = some x → e = x ∧ b = true) ∧ Below w.heap.size w w' := by
  have hl := Tr.els_length T
  by_cases hi : i < T.size
  · have hx : T.els[i]? = some (T.els[i]'(by omega)) := List.getElem?_eq_getElem (by omega)
    refine (At_any i _ w h hs hi hx).mono ?_
    rintro r w' ⟨rfl, hb⟩
    exact ⟨_, true, rfl, fun x hx' => by rw [hx] at hx'; exact ⟨Option.some.inj hx', rfl⟩, hb⟩
  · refine (At_no i w h (by omega)).mono ?_
    rintro r w' ⟨rfl, hb⟩
    exact ⟨⟨0, 0, 0, false, by decide, by decide⟩, false, rfl, fun x hx' => absurd ((List.getElem?_eq_none (show T.els.length ≤ i by omega)).symm.trans hx') (by simp), hb⟩

/-- The boxes of Is ahead of its range. -/
structure IsB3 (w : World) (p : Option Addr) (v : Value) (T : Tr) (W : World) : Prop where
  bel : Below w.heap.size w W
  bt : Blk W w.heap.size [.pointer p] 28
  bl : Blk W (w.heap.size + 1) [v] 47
  br : ∃ u, Blk W (w.heap.size + 1 + 1) [u] 4
  tr : Is W p T
  ls : IsE W v T.els
theorem IsB3.next {w : World} {p : Option Addr} {v : Value} {T : Tr} {W W' : World} (h : IsB3 w p v T W) (hb : Below W.heap.size W W') : IsB3 w p v T W' :=
  ⟨h.bel.trans (hb.mono h.bel.size), h.bt.next hb, h.bl.next hb, let ⟨u, hu⟩ := h.br; ⟨u, hu.next hb⟩, h.tr.next hb, h.ls.next hb⟩
theorem IsB3.start {w : World} {p : Option Addr} {v : Value} {T : Tr} (h1 : Is w p T) (h2 : IsE w v T.els) : IsB3 w p v T (((w.alloc (.cells #[.pointer p] 28)).alloc (.cells #[v] 47)).alloc (.cells #[.bool false] 4)) := by
  have hb : Below w.heap.size w (((w.alloc (.cells #[.pointer p] 28)).alloc (.cells #[v] 47)).alloc (.cells #[.bool false] 4)) := (((Below.refl _ _).alloc (Nat.le_refl _) _).alloc (by simp) _).alloc (by simp; omega) _
  exact ⟨hb, ((Blk.start w _ _).alloc _).alloc _, (Blk.startAt (by simp)).alloc _, ⟨_, Blk.startAt (by simp)⟩, h1.next hb, h2.next hb⟩

theorem refRank_T {T : Tr} {a : Option Addr} {cap : Nat} (w : World) (hL : IsE w (.slice a T.size cap) T.els) (hs : T.size ≤ 20000) :
    Calls Tryz.prog 50 #[.slice a T.size cap, .int .i64 (T.size : Int)] w fun e w' => e = .returned (.int .i64 (T.alive : Int)) ∧ Below w.heap.size w w' := by
  have := refRank_all T.els _ w hL (by rw [Tr.els_length]; exact hs)
  rw [Tr.els_length, ← alive_els] at this
  exact this
theorem idx_get : ∀ (l : List El) (k n : Nat), (idx k l)[n]? = (l[n]?).map fun x => (k + n, x)
  | [], k, n => by simp [idx]
  | x :: l, k, 0 => by simp [idx]
  | x :: l, k, n + 1 => by
    simp only [idx, List.getElem?_cons_succ, idx_get l (k + 1) n]
    cases l[n]? with
    | none => rfl
    | some y => simp only [Option.map_some]; rw [show k + 1 + n = k + (n + 1) by omega]
theorem idx_no {l : List El} {pre : List (Nat × El)} {x : Nat × El} (hk : pre.length < l.length) (hne : x ≠ (pre.length, l[pre.length])) : ¬ (pre ++ [x]) <+: idx 0 l := by
  rintro ⟨t, ht⟩
  have h1 : (pre ++ [x] ++ t)[pre.length]? = some x := by rw [List.getElem?_append_left (by simp), List.getElem?_append_right (Nat.le_refl _)]; simp
  rw [ht, idx_get, List.getElem?_eq_getElem hk] at h1
  have h2 := Option.some.inj h1
  rw [Nat.zero_add] at h2
  exact hne h2.symm

/-- The boxes of Of. -/
structure OfB3 (w : World) (e : El) (vs : List Value) (W : World) : Prop where
  bel : Below w.heap.size w W
  be : Blk W w.heap.size (elL e) 76
  br : Blk W (w.heap.size + 1) vs 63
theorem OfB3.next {w : World} {e : El} {vs : List Value} {W W' : World} (h : OfB3 w e vs W) (hb : Below W.heap.size W W') : OfB3 w e vs W' :=
  ⟨h.bel.trans (hb.mono h.bel.size), h.be.next hb, h.br.next hb⟩
theorem OfB3.put {w : World} {e : El} {vs : List Value} {W : World} (h : OfB3 w e vs W) (hl : vs.length = 4) :
    OfB3 w e (elL e) ((((W.setCell ⟨w.heap.size + 1, 0, none⟩ (.int .i64 e.c)).setCell ⟨w.heap.size + 1, 1, none⟩ (.int .i64 e.s)).setCell ⟨w.heap.size + 1, 2, none⟩ (.int .i32 e.ch)).setCell ⟨w.heap.size + 1, 3, none⟩ (.bool e.d)) := by
  have n0 : w.heap.size ≠ w.heap.size + 1 := by omega
  have hle : w.heap.size ≤ w.heap.size + 1 := by omega
  refine ⟨(((h.bel.setCell (p := ⟨w.heap.size + 1, 0, none⟩) hle _).setCell (p := ⟨w.heap.size + 1, 1, none⟩) hle _).setCell (p := ⟨w.heap.size + 1, 2, none⟩) hle _).setCell (p := ⟨w.heap.size + 1, 3, none⟩) hle _, (((h.be.other _ n0 _).other _ n0 _).other _ n0 _).other _ n0 _, ?_⟩
  have hs := (((h.br.set 0 (.int .i64 e.c)).set 1 (.int .i64 e.s)).set 2 (.int .i32 e.ch)).set 3 (.bool e.d)
  match vs, hl, hs with
  | [_, _, _, _], _, hs => exact hs
set_option maxHeartbeats 1600000 in
theorem of3_any (e : El) (w : World) :
    Calls Tryz.prog 53 #[.agg #[.int .i64 e.c, .int .i64 e.s, .int .i32 e.ch, .bool e.d]] w fun r w' => r = .returned (.agg #[.int .i64 e.c, .int .i64 e.s, .int .i32 e.ch, .bool e.d]) ∧ Below w.heap.size w w' := by
  have H0 := Lib.hid (show OfB3 w e [.int .i64 0, .int .i64 0, .int .i32 0, .bool false] ((w.alloc (.cells #[.int .i64 e.c, .int .i64 e.s, .int .i32 e.ch, .bool e.d] 76)).alloc (.cells #[.int .i64 0, .int .i64 0, .int .i32 0, .bool false] 63)) from
    ⟨((Below.refl _ _).alloc (Nat.le_refl _) _).alloc (by simp) _, (Blk.start w _ _).alloc _, Blk.startAt (by simp)⟩)
  go_enter Tryz.func53, Tryz.ntmps53
  go_wp2_with fail
  refine wp_region_noPanic ?_
  refine wp_region_held_drew (S := (fun W => W.cell? ⟨w.heap.size, 0, none⟩ = some (.int .i64 e.c) ∧ W.cell? ⟨w.heap.size, 1, none⟩ = some (.int .i64 e.s) ∧ W.cell? ⟨w.heap.size, 2, none⟩ = some (.int .i32 e.ch) ∧ W.cell? ⟨w.heap.size, 3, none⟩ = some (.bool e.d) ∧ ∃ vs, vs.length = 4 ∧ OfB3 w e vs W)) (by kernel_rfl) ?_ (fun hHeld => ?_)
  · exact (let h := H0.out.next (Below.refl _ _).drew; ⟨h.be.cell 0 rfl, h.be.cell 1 rfl, h.be.cell 2 rfl, h.be.cell 3 rfl, _, rfl, h⟩)
  clear H0
  refine tk 0 (.pointer (some ⟨w.heap.size, 0, none⟩)) hHeld (fun w hSw => ?_) ?_
  · (go_simp)
  try simp only [Act.put, List.setIfInBounds_toArray, List.set_cons_zero, List.set_cons_succ]
  refine tk 1 (.agg #[.int .i64 e.c, .int .i64 e.s]) hHeld (fun w hSw => ?_) ?_
  · (go_simp)
  try simp only [Act.put, List.setIfInBounds_toArray, List.set_cons_zero, List.set_cons_succ]
  refine tk 3 (.pointer (some ⟨w.heap.size, 2, none⟩)) hHeld (fun w hSw => ?_) ?_
  · (go_simp)
  try simp only [Act.put, List.setIfInBounds_toArray, List.set_cons_zero, List.set_cons_succ]
  refine tk 4 (.int .i32 e.ch) hHeld (fun w hSw => ?_) ?_
  · (go_simp)
  try simp only [Act.put, List.setIfInBounds_toArray, List.set_cons_zero, List.set_cons_succ]
  refine tk 5 (.pointer (some ⟨w.heap.size, 3, none⟩)) hHeld (fun w hSw => ?_) ?_
  · (go_simp)
  try simp only [Act.put, List.setIfInBounds_toArray, List.set_cons_zero, List.set_cons_succ]
  refine tk 6 (.bool e.d) hHeld (fun w hSw => ?_) ?_
  · (go_simp)
  try simp only [Act.put, List.setIfInBounds_toArray, List.set_cons_zero, List.set_cons_succ]
  refine wpAnyH_ready (rs := [2]) (by kernel_rfl) (by simp) ?_
  refine cons1 rfl (fun KK hK => ?_) AllReadyH.nil
  go_simp
  refine (of_any _ _ _).mono ?_
  rintro e' u1 ⟨rfl, hb⟩
  go_wp2_with fail
  refine hK.out _ _ ((let ⟨vs, hl, hB⟩ := hHeld.2.2.2.2; let h := hB.next hb; ⟨h.be.cell 0 rfl, h.be.cell 1 rfl, h.be.cell 2 rfl, h.be.cell 3 rfl, vs, hl, h⟩)) (fun hHeld2 => ?_)
  clear hK KK hHeld hb
  have hHeld := hHeld2
  clear hHeld2
  try simp only [Act.put, List.setIfInBounds_toArray, List.set_cons_zero, List.set_cons_succ]
  obtain ⟨vs, hl, hB⟩ := hHeld.2.2.2.2
  obtain ⟨k0, f0⟩ := hB.br.live 0 (by omega)
  obtain ⟨k1, f1⟩ := hB.br.live 1 (by omega)
  obtain ⟨k2, f2⟩ := hB.br.live 2 (by omega)
  obtain ⟨k3, f3⟩ := hB.br.live 3 (by omega)
  have HB := Lib.hid hB
  have HL := Lib.hid hl
  clear hB hl
  refine tk 7 (.agg #[.int .i64 e.c, .int .i64 e.s, .int .i32 e.ch, .bool e.d]) hHeld (fun w hSw => ?_) ?_
  · (go_simp)
  try simp only [Act.put, List.setIfInBounds_toArray, List.set_cons_zero, List.set_cons_succ]
  refine wpAnyH_ready (rs := [8]) (by kernel_rfl) (by simp) ?_
  refine cons1 rfl (fun KK hK => ?_) AllReadyH.nil
  go_simp
  go_wp2_with fail
  refine hK.out _ _ ((let h := HB.out.put HL.out; ⟨h.be.cell 0 rfl, h.be.cell 1 rfl, h.be.cell 2 rfl, h.be.cell 3 rfl, _, rfl, h⟩)) (fun hHeld2 => ?_)
  clear hK KK hHeld k0 k1 k2 k3 f0 f1 f2 f3
  have hHeld := hHeld2
  clear hHeld2
  try simp only [Act.put, List.setIfInBounds_toArray, List.set_cons_zero, List.set_cons_succ]
  have HP := Lib.hid (HB.out.put HL.out)
  clear HB HL
  refine wpAnyH_done (by kernel_rfl) ?_ _
  refine NoPanic.normal ?_
  clear hHeld
  have HY := Lib.hid (And.intro (HP.out.br.cell 0 rfl) (And.intro (HP.out.br.cell 1 rfl) (And.intro (HP.out.br.cell 2 rfl) (HP.out.br.cell 3 rfl))))
  go_wp2_with fail
  exact bodyPost_ret (v := .agg #[.int .i64 e.c, .int .i64 e.s, .int .i32 e.ch, .bool e.d]) (by obtain ⟨y0, y1, y2, y3⟩ := HY.out; simp [results, Tryz.results53, go_sem, y0, y1, y2, y3]) rfl ⟨rfl, HP.out.bel⟩
/-- A round of Is. -/
structure Rd3 (w : World) (p : Option Addr) (v : Value) (T : Tr) (N k Be Bx : Nat) (e ea : El) (X : World) : Prop where
  base : IsB3 w p v T X
  bn : Go.Boxed X N 3 (.int .i64 (k : Int))
  be : Blk X Be (elL e) 76
  bx : Blk X Bx (elL ea) 76
theorem Boxed.nextX {W W' : World} {B : Nat} {t : TypeId} {v : Value} (h : Go.Boxed W B t v) (hb : Below W.heap.size W W') : Go.Boxed W' B t v := (hb.block B h.lt).trans h
theorem Rd3.next {w : World} {p : Option Addr} {v : Value} {T : Tr} {N k Be Bx : Nat} {e ea : El} {X X' : World} (h : Rd3 w p v T N k Be Bx e ea X) (hb : Below X.heap.size X X') : Rd3 w p v T N k Be Bx e ea X' :=
  ⟨h.base.next hb, Boxed.nextX h.bn hb, h.be.next hb, h.bx.next hb⟩
theorem keeps_belowX {W W' : World} (hb : Below W.heap.size W W') : KeepsOthers W W' := ⟨hb.size, fun k o hk _ => by rw [hb.block k (Array.getElem?_eq_some_iff.1 hk).1]; exact hk⟩
theorem Blk.putO {W : World} {b D : Nat} {vs : List Value} {t : TypeId} (h : Blk W b vs t) (hne : b ≠ D) (o : Obj) : Blk (W.putObj D o) b vs t := (World.putObj_heap_other hne).trans h
/-- What stands behind the range of Is. -/
structure IsF3 (w : World) (p : Option Addr) (v : Value) (T : Tr) (N D : Nat) (X : World) : Prop where
  base : IsB3 w p v T X
  bn : Go.Boxed X N 3 (.int .i64 (T.size : Int))
  dk : X.heap[D]? = some (.deferred (some []))
theorem IsF3.next {w : World} {p : Option Addr} {v : Value} {T : Tr} {N D : Nat} {X X' : World} (h : IsF3 w p v T N D X) (hb : Below X.heap.size X X') : IsF3 w p v T N D X' :=
  ⟨h.base.next hb, Boxed.nextX h.bn hb, (hb.block D (Array.getElem?_eq_some_iff.1 h.dk).1).trans h.dk⟩
theorem El.same {x y : El} (h1 : x.c = y.c) (h2 : x.s = y.s) (h3 : x.ch = y.ch) (h4 : x.d = y.d) : x = y := by
  cases x; cases y; simp only at h1 h2 h3 h4; subst h1 h2 h3 h4; rfl
theorem IsF3.put {w : World} {p : Option Addr} {v : Value} {T : Tr} {N D : Nat} {X : World} (h : IsF3 w p v T N D X) (hN : w.heap.size + 1 + 1 < N) (z : Bool) :
    IsF3 w p v T N D (X.setCell ⟨w.heap.size + 1 + 1, 0, none⟩ (.bool z)) ∧ Blk (X.setCell ⟨w.heap.size + 1 + 1, 0, none⟩ (.bool z)) (w.heap.size + 1 + 1) [.bool z] 4 := by
  obtain ⟨u, hu⟩ := h.base.br
  have n0 : w.heap.size ≠ w.heap.size + 1 + 1 := by omega
  have n1 : w.heap.size + 1 ≠ w.heap.size + 1 + 1 := by omega
  have hD : D ≠ w.heap.size + 1 + 1 := by rintro rfl; have := h.dk; unfold Blk at hu; rw [hu] at this; cases this
  exact ⟨⟨⟨h.base.bel.setCell (p := ⟨w.heap.size + 1 + 1, 0, none⟩) (by show w.heap.size ≤ w.heap.size + 1 + 1; omega) _, h.base.bt.other _ n0 _, h.base.bl.other _ n1 _, ⟨_, hu.set 0 _⟩, Is.set hu (by decide) _ h.base.tr, Sl.set hu (by decide) 0 _ h.base.ls⟩, h.bn.other (by omega) _, (Below.heap_setCell _ _ _ _ hD).trans h.dk⟩, hu.set 0 _⟩

set_option maxHeartbeats 6400000 in
set_option maxRecDepth 100000 in
theorem is3_any {p : Option Addr} {T : Tr} (v0 : Value) (w : World) (hT : Is w p T) (ha : Avl T) (hL : IsE w v0 T.els) (hs : T.size ≤ 1000) :
    Calls Tryz.prog 25 #[.agg #[.pointer p], v0] w fun e w' => e = .returned (.bool true) ∧ Below w.heap.size w w' := by
  obtain ⟨a, cap, rfl, hc1, hc2⟩ := Sl.form hL
  have hel := Tr.els_length T
  rw [hel] at hc1 hL ⊢
  have H0 := Lib.hid (IsB3.start hT hL)
  clear hT hL
  have HA := Lib.hid ha
  clear ha
  have HEL := Lib.hid hel
  clear hel
  refine (callsIn_wide (n := 5)).1 (callsIn_of_wp_marks Tryz.func25 rfl trivial (wpIn_wide.2 ?_) rfl)
  simp only [Tryz.ntmps25, List.size_toArray, List.length_cons, List.length_nil, Nat.reduceAdd, Nat.reduceSub, Array.replicate_succ, Array.replicate_zero, List.push_toArray, List.append_toArray, List.nil_append, List.cons_append]
  go_wp2_with fail
  have hsz : (((w.alloc (.cells #[.pointer p] 28)).alloc (.cells #[.slice a T.size cap] 47)).alloc (.cells #[.bool false] 4)).heap.size = w.heap.size + 1 + 1 + 1 := by simp
  generalize ((w.alloc (.cells #[.pointer p] 28)).alloc (.cells #[.slice a T.size cap] 47)).alloc (.cells #[.bool false] 4) = W1 at *
  have HTX := Lib.hid (show txtS T.els = ⟨(txtL T.els).toArray⟩ from rfl)
  have hrt := fun W (h : IsE W (.slice a T.size cap) T.els) => refText_any T.els _ W h (by rw [HEL.out]; omega)
  have htt := fun W (h : Is W p T) => text_any W h (by omega)
  rw [← HTX.out] at htt
  generalize txtS T.els = tx at *
  have HRT := Lib.hid hrt
  have HTT := Lib.hid htt
  clear hrt htt HTX
  refine wp_region_noPanic ?_
  refine wp_region_held_drew (S := (fun W => W.cell? ⟨w.heap.size, 0, none⟩ = some (.pointer p) ∧ W.cell? ⟨w.heap.size + 1, 0, none⟩ = some (.slice a T.size cap) ∧ IsB3 w p (.slice a T.size cap) T W)) (by kernel_rfl) ?_ (fun hHeld => ?_)
  · exact (let h := H0.out.next (Below.refl _ _).drew; ⟨h.bt.cell 0 rfl, h.bl.cell 0 rfl, h⟩)
  refine tk 0 (.agg #[.pointer p]) hHeld (fun w hSw => ?_) ?_
  · (go_simp)
  try simp only [Act.put, List.setIfInBounds_toArray, List.set_cons_zero, List.set_cons_succ]
  refine tk 2 (.slice a T.size cap) hHeld (fun w hSw => ?_) ?_
  · (go_simp)
  try simp only [Act.put, List.setIfInBounds_toArray, List.set_cons_zero, List.set_cons_succ]
  refine tk 3 (.int .i64 ((T.size : Int))) hHeld (fun w hSw => ?_) ?_
  · (go_simp)
  try simp only [Act.put, List.setIfInBounds_toArray, List.set_cons_zero, List.set_cons_succ]
  refine wpAnyH_ready (rs := [1]) (by kernel_rfl) (by simp) ?_
  refine cons1 rfl (fun KK hK => ?_) AllReadyH.nil
  go_simp
  refine (len_any _ hHeld.2.2.tr).mono ?_
  rintro e' u1 ⟨rfl, hb⟩
  go_wp2_with fail
  refine hK.out _ _ ((let h := hHeld.2.2.next hb; ⟨h.bt.cell 0 rfl, h.bl.cell 0 rfl, h⟩)) (fun hHeld2 => ?_)
  clear hK KK hHeld hb
  have hHeld := hHeld2
  clear hHeld2
  try simp only [Act.put, List.setIfInBounds_toArray, List.set_cons_zero, List.set_cons_succ]
  refine tk 4 (.bool false) hHeld (fun w hSw => ?_) ?_
  · (go_simp)
  try simp only [Act.put, List.setIfInBounds_toArray, List.set_cons_zero, List.set_cons_succ]
  refine tk 5 (.bool false) hHeld (fun w hSw => ?_) ?_
  · (go_simp)
  try simp only [Act.put, List.setIfInBounds_toArray, List.set_cons_zero, List.set_cons_succ]
  refine tk 6 (.agg #[.pointer p]) hHeld (fun w hSw => ?_) ?_
  · (go_simp)
  try simp only [Act.put, List.setIfInBounds_toArray, List.set_cons_zero, List.set_cons_succ]
  refine tk 8 (.slice a T.size cap) hHeld (fun w hSw => ?_) ?_
  · (go_simp)
  try simp only [Act.put, List.setIfInBounds_toArray, List.set_cons_zero, List.set_cons_succ]
  refine tk 9 (.slice a T.size cap) hHeld (fun w hSw => ?_) ?_
  · (go_simp)
  try simp only [Act.put, List.setIfInBounds_toArray, List.set_cons_zero, List.set_cons_succ]
  refine tk 10 (.int .i64 ((T.size : Int))) hHeld (fun w hSw => ?_) ?_
  · (go_simp)
  try simp only [Act.put, List.setIfInBounds_toArray, List.set_cons_zero, List.set_cons_succ]
  refine wpAnyH_ready (rs := [7]) (by kernel_rfl) (by simp) ?_
  refine cons1 rfl (fun KK hK => ?_) AllReadyH.nil
  go_simp
  refine (aliveRow_any _ hHeld.2.2.tr).mono ?_
  rintro e' u7 ⟨rfl, hb⟩
  go_wp2_with fail
  refine hK.out _ _ ((let h := hHeld.2.2.next hb; ⟨h.bt.cell 0 rfl, h.bl.cell 0 rfl, h⟩)) (fun hHeld2 => ?_)
  clear hK KK hHeld hb
  have hHeld := hHeld2
  clear hHeld2
  try simp only [Act.put, List.setIfInBounds_toArray, List.set_cons_zero, List.set_cons_succ]
  refine wpAnyH_ready (rs := [11]) (by kernel_rfl) (by simp) ?_
  refine cons1 rfl (fun KK hK => ?_) AllReadyH.nil
  go_simp
  refine (refRank_T _ hHeld.2.2.ls (by omega)).mono ?_
  rintro e' u11 ⟨rfl, hb⟩
  go_wp2_with fail
  refine hK.out _ _ ((let h := hHeld.2.2.next hb; ⟨h.bt.cell 0 rfl, h.bl.cell 0 rfl, h⟩)) (fun hHeld2 => ?_)
  clear hK KK hHeld hb
  have hHeld := hHeld2
  clear hHeld2
  try simp only [Act.put, List.setIfInBounds_toArray, List.set_cons_zero, List.set_cons_succ]
  refine tk 12 (.bool false) hHeld (fun w hSw => ?_) ?_
  · (go_simp)
  try simp only [Act.put, List.setIfInBounds_toArray, List.set_cons_zero, List.set_cons_succ]
  refine tk 13 (.bool false) hHeld (fun w hSw => ?_) ?_
  · (go_simp)
  try simp only [Act.put, List.setIfInBounds_toArray, List.set_cons_zero, List.set_cons_succ]
  refine tk 14 (.bool false) hHeld (fun w hSw => ?_) ?_
  · (go_simp)
  try simp only [Act.put, List.setIfInBounds_toArray, List.set_cons_zero, List.set_cons_succ]
  refine tk 15 (.agg #[.pointer p]) hHeld (fun w hSw => ?_) ?_
  · (go_simp)
  try simp only [Act.put, List.setIfInBounds_toArray, List.set_cons_zero, List.set_cons_succ]
  refine tk 17 (.slice a T.size cap) hHeld (fun w hSw => ?_) ?_
  · (go_simp)
  try simp only [Act.put, List.setIfInBounds_toArray, List.set_cons_zero, List.set_cons_succ]
  refine wpAnyH_ready (rs := [16]) (by kernel_rfl) (by simp) ?_
  refine cons1 rfl (fun KK hK => ?_) AllReadyH.nil
  go_simp
  refine (HTT.out _ hHeld.2.2.tr).mono ?_
  rintro e' u16 ⟨rfl, hb⟩
  go_wp2_with fail
  refine hK.out _ _ ((let h := hHeld.2.2.next hb; ⟨h.bt.cell 0 rfl, h.bl.cell 0 rfl, h⟩)) (fun hHeld2 => ?_)
  clear hK KK hHeld hb
  have hHeld := hHeld2
  clear hHeld2
  try simp only [Act.put, List.setIfInBounds_toArray, List.set_cons_zero, List.set_cons_succ]
  refine wpAnyH_ready (rs := [18]) (by kernel_rfl) (by simp) ?_
  refine cons1 rfl (fun KK hK => ?_) AllReadyH.nil
  go_simp
  refine (HRT.out _ hHeld.2.2.ls).mono ?_
  rintro e' u18 ⟨rfl, hb⟩
  go_wp2_with fail
  refine hK.out _ _ ((let h := hHeld.2.2.next hb; ⟨h.bt.cell 0 rfl, h.bl.cell 0 rfl, h⟩)) (fun hHeld2 => ?_)
  clear hK KK hHeld hb
  have hHeld := hHeld2
  clear hHeld2
  try simp only [Act.put, List.setIfInBounds_toArray, List.set_cons_zero, List.set_cons_succ]
  refine tk 19 (.bool false) hHeld (fun w hSw => ?_) ?_
  · (go_simp)
  try simp only [Act.put, List.setIfInBounds_toArray, List.set_cons_zero, List.set_cons_succ]
  refine tk 20 (.bool false) hHeld (fun w hSw => ?_) ?_
  · (go_simp)
  try simp only [Act.put, List.setIfInBounds_toArray, List.set_cons_zero, List.set_cons_succ]
  refine wpAnyH_done (by kernel_rfl) ?_ _
  refine NoPanic.normal ?_
  have HS := Lib.hid hHeld.2.2
  clear hHeld H0 HTT HRT
  have ef := eqlF
  have m0 := HS.out.bt.cell 0 rfl
  have m1 := fun o => (HS.out.bt.alloc o).cell 0 rfl
  have m2 := fun o o' => ((HS.out.bt.alloc o).alloc o').cell 0 rfl
  go_wp2_with (go_at_call 27; refine (all_any _ _).mono ?_; rintro e w' ⟨rfl, rfl⟩)
  clear m0 m1 m2 ef
  have hbk : Go.Boxed (((u18.alloc (.cells #[.int .i64 0] 3)).alloc (.cells #[.pointer p] 28)).alloc (.cells #[.pointer p] 28)) u18.heap.size 3 (.int .i64 0) := ((Go.Boxed.new u18 _ _).alloc _).alloc _
  have hbt := (Blk.startAt (W := (u18.alloc (.cells #[.int .i64 0] 3)).alloc (.cells #[.pointer p] 28)) (b := u18.heap.size + 1 + 1) (vs := [.pointer p]) (t := 28) (by simp)).cell 0 rfl
  have hb3 : Below u18.heap.size u18 (((u18.alloc (.cells #[.int .i64 0] 3)).alloc (.cells #[.pointer p] 28)).alloc (.cells #[.pointer p] 28)) := (((Below.refl _ _).alloc (Nat.le_refl _) _).alloc (by simp) _).alloc (by simp; omega) _
  have hz3 : u18.heap.size + 1 + 1 < (((u18.alloc (.cells #[.int .i64 0] 3)).alloc (.cells #[.pointer p] 28)).alloc (.cells #[.pointer p] 28)).heap.size := by simp
  generalize ((u18.alloc (.cells #[.int .i64 0] 3)).alloc (.cells #[.pointer p] 28)).alloc (.cells #[.pointer p] 28) = W3 at *
  have hT3 : IsT u18.heap.size W3 p T := (show IsT u18.heap.size u18 p T from HS.out.tr).below hb3
  have hN : w.heap.size + 1 + 1 < u18.heap.size := by obtain ⟨u, hu⟩ := HS.out.br; exact hu.lt
  have hmx : Tryz.prog.follows .mixedOrders = true := by kernel_rfl
  obtain ⟨N, hNN⟩ : ∃ N, N = u18.heap.size := ⟨_, rfl⟩
  rw [← hNN] at hbk hbt hb3 hz3 hT3 hN ⊢
  have HNN := Lib.hid hNN
  have hNa : N ≤ u18.heap.size := by omega
  have hNb : u18.heap.size ≤ N := by omega
  clear hNN
  refine (wpIn_wide (n := 5)).1 ?_
  refine wpIn_rangeFunc_ownH rfl (by omega) (gf := 58) (lb := #[.pointer (some ⟨N + 1 + 1, 0, none⟩)]) rfl trivial (enters_of Tryz.func58 (by kernel_rfl) rfl)
    (all_stops _ (N + 1 + 1) N p T W3 hz3 (by omega) (by omega) hbt hT3) belowK_t (belowK_b (by omega)) (Below.refl _ _) (fun _ => rfl)
    (fun pre W => Go.Boxed W N 3 (.int .i64 (pre.length : Int)) ∧ Below N u18 W)
    (fun _ xs _ => ¬ xs <+: idx 0 T.els)
    (OwnFrom.and (Own.from (boxed_own N 3 (fun pre : List (Nat × El) => .int .i64 (pre.length : Int))) _) (ownFrom_below (by omega) (by omega)))
    (fun _ _ _ _ _ hs _ _ => hs)
    ⟨hbk, hb3⟩
    (fun x a' W => ∃ Be, Blk W Be (elL x.2) 76 ∧ a' = { tmps := #[Value.agg #[Value.pointer p], Value.slice a T.size cap, Value.pointer (some ⟨w.heap.size, 0, none⟩), Value.pointer (some ⟨w.heap.size + 1, 0, none⟩), Value.pointer (some ⟨w.heap.size + 1 + 1, 0, none⟩), Value.pointer (some ⟨N, 0, none⟩), .int .i64 (x.1 : Int), .pointer (some ⟨Be, 0, none⟩), undef, undef, Value.agg #[Value.pointer p], Value.int IntKind.i64 (T.size : Int), Value.slice a T.size cap, Value.int IntKind.i64 (T.size : Int), Value.bool false, Value.bool false, Value.agg #[Value.pointer p], Value.int IntKind.i64 (T.alive : Int), Value.slice a T.size cap, Value.slice a T.size cap, Value.int IntKind.i64 (T.size : Int), Value.int IntKind.i64 (T.alive : Int), Value.bool false, Value.bool false, Value.bool false, Value.agg #[Value.pointer p], Value.string tx, Value.slice a T.size cap, Value.string tx, Value.bool false, Value.bool false, Value.agg #[Value.pointer p], Value.func (Fn.func 58) #[] #[Value.pointer (some ⟨N + 1, 0, none⟩)], Value.bool false, Value.agg #[Value.pointer p], Value.func (Fn.func 58) #[] #[Value.pointer (some ⟨N + 1 + 1, 0, none⟩)], .int .i64 (x.1 : Int), .agg #[.int .i64 x.2.c, .int .i64 x.2.s, .int .i32 x.2.ch, .bool x.2.d], undef, undef, undef, undef, undef, undef, undef, undef, undef, undef, undef, undef, undef, undef, undef, undef, undef, undef, undef, undef, undef, undef, undef, undef, undef, undef, undef, undef, undef, undef, undef, undef, undef, undef, undef, undef, undef, undef, undef, undef, undef, undef, undef, undef, undef, undef], defers := [] })
    (fun x a' _ W W' row hs hg hr => by obtain ⟨Be, hb, he⟩ := hs; exact ⟨Be, hb.grown hg (fun r e => (hr r e).2), he⟩)
    ?assign ?body ?done ?stop
  case assign =>
    rintro l' pre x W K ⟨hi1, hi3⟩ hK
    gi_wp2
    exact hK _ _ ((KeepsOthers.alloc _ _).from _) ((Below.refl _ W).alloc (by have := hi1.lt; omega) _) ⟨hi1.alloc _, hi3.alloc (by have := hi1.lt; omega) _⟩ ⟨W.heap.size, Blk.start _ _ _, rfl⟩
  case stop =>
    rintro D c pre W _ hp h _
    exact absurd hp h
  case body =>
    rintro l' pre ⟨k', e'⟩ a' W hl' - ⟨hi1, hi3⟩ ⟨Be, hbe, rfl⟩ hlt'
    have hbe : Blk W Be (elL e') 76 := hbe
    have hsn : (((pre ++ [(k', e')]).length : Nat) : Int) = (pre.length : Int) + 1 := by simp
    have hnb := hi1.lt
    have hi3' : Below u18.heap.size u18 W := by rw [← HNN.out]; exact hi3
    have hB := HS.out.next hi3'
    have m0 := hB.bt.cell 0 rfl
    have hkL : pre.length < T.els.length := by rw [HEL.out]; exact hlt'
    obtain ⟨g, rfl, -, -⟩ := hB.ls.at pre.length hkL
    have HC := Lib.hid (fun (X : World) (h : IsE X (.slice (some ⟨g, 0, none⟩) T.size cap) T.els) => show EC X g pre.length T.els[pre.length] from by
      obtain ⟨g', e, -, h1⟩ := h.at pre.length hkL
      cases e
      exact h1 X (Below.refl _ _))
    have HNP := Lib.hid (fun (hne : (k', e') ≠ (pre.length, T.els[pre.length])) => idx_no hkL hne)
    have HAT := Lib.hid (show k' = pre.length → T.els[k']? = some T.els[pre.length] from fun h => by subst h; exact List.getElem?_eq_getElem hkL)
    generalize hk9 : pre.length = k at *
    generalize T.els[k] = y at *
    have hkN : (k : Int) < (T.size : Int) := by omega
    have HBW := Lib.hid (And.intro hB (And.intro hi1 hbe))
    have HGE := Lib.hid (fun (n : Nat) X (h : Is X p T) => CallsIn.inRound (n := n) l' (callsIn_wide.2 (At_all k' X h (by omega))))
    have hdep : ∀ k : Nat, ((Fence.wide.inRound l').depth.isSome = true → 1 ≤ k) := fun k h => by cases h
    clear hi1 hB hbe hlt' hkL
    gi_wp2_with ((try refine ⟨hdep _, ?_⟩); (try refine ⟨trivial, ?_⟩); gi_at_call 52; refine (HGE.out _ _ HBW.out.1.tr).mono ?_; rintro e X1 ⟨ea, ba, rfl, hfa, hb⟩)
    have hBZ : Below W.heap.size W (X1.alloc (.cells #[.int .i64 ea.c, .int .i64 ea.s, .int .i32 ea.ch, .bool ea.d] 76)) := hb.alloc hb.size _
    have HBZ := Lib.hid hBZ
    have HR := Lib.hid (show Rd3 w p (.slice (some ⟨g, 0, none⟩) T.size cap) T N k Be X1.heap.size e' ea (X1.alloc (.cells #[.int .i64 ea.c, .int .i64 ea.s, .int .i32 ea.ch, .bool ea.d] 76)) from
      ⟨HBW.out.1.next hBZ, Boxed.nextX HBW.out.2.1 hBZ, HBW.out.2.2.next hBZ, Blk.start _ _ _⟩)
    have HFA := Lib.hid hfa
    clear hb hBZ HBW m0 HGE hfa
    generalize (X1.alloc (.cells #[.int .i64 ea.c, .int .i64 ea.s, .int .i32 ea.ch, .bool ea.d] 76)) = X2 at *
    generalize X1.heap.size = Bx at *
    by_cases hKq : k' = k
    · have hK2 := hKq.symm
      subst hK2
      by_cases hE : e' = y
      · have hE2 := hE.symm
        subst hE2
        obtain ⟨hq, rfl⟩ := HFA.out _ (HAT.out rfl)
        have hq2 := hq.symm
        subst hq2
        clear HFA HAT HNP
        refine region_round (S := (fun X => X.cell? ⟨N, 0, none⟩ = some (.int .i64 ((k : Int))) ∧ X.cell? ⟨w.heap.size + 1, 0, none⟩ = some (.slice ((some ⟨g, 0, none⟩)) T.size cap) ∧ X.cell? ⟨Be, 0, none⟩ = some (.int .i64 y.c) ∧ X.cell? ⟨Be, 1, none⟩ = some (.int .i64 y.s) ∧ X.cell? ⟨Be, 2, none⟩ = some (.int .i32 y.ch) ∧ X.cell? ⟨Be, 3, none⟩ = some (.bool y.d) ∧ X.cell? ⟨Bx, 0, none⟩ = some (.int .i64 y.c) ∧ X.cell? ⟨Bx, 1, none⟩ = some (.int .i64 y.s) ∧ X.cell? ⟨Bx, 2, none⟩ = some (.int .i32 y.ch) ∧ X.cell? ⟨Bx, 3, none⟩ = some (.bool y.d) ∧ X.cell? ⟨g, k * 4, none⟩ = some (.int .i64 y.c) ∧ X.cell? ⟨g, k * 4 + 1, none⟩ = some (.int .i64 y.s) ∧ X.cell? ⟨g, k * 4 + 2, none⟩ = some (.int .i32 y.ch) ∧ X.cell? ⟨g, k * 4 + 3, none⟩ = some (.bool y.d) ∧ Rd3 w p (.slice (some ⟨g, 0, none⟩) T.size cap) T N k Be Bx y y X)) hmx (by kernel_rfl) ((let h := HR.out.next (Below.refl _ _).drew; let c := HC.out _ h.base.ls; ⟨h.bn.cell, h.base.bl.cell 0 rfl, h.be.cell 0 rfl, h.be.cell 1 rfl, h.be.cell 2 rfl, h.be.cell 3 rfl, h.bx.cell 0 rfl, h.bx.cell 1 rfl, h.bx.cell 2 rfl, h.bx.cell 3 rfl, c.1, c.2.1, c.2.2.1, c.2.2.2, h⟩)) (fun hHeld => ?_)
        refine tk 0 (.int .i64 ((k : Int))) hHeld (fun w hSw => ?_) ?_
        · (go_simp)
        try simp only [Act.put, List.setIfInBounds_toArray, List.set_cons_zero, List.set_cons_succ]
        refine tk 1 (.slice ((some ⟨g, 0, none⟩)) T.size cap) hHeld (fun w hSw => ?_) ?_
        · (go_simp)
        try simp only [Act.put, List.setIfInBounds_toArray, List.set_cons_zero, List.set_cons_succ]
        refine tk 2 (.int .i64 ((T.size : Int))) hHeld (fun w hSw => ?_) ?_
        · (go_simp)
        try simp only [Act.put, List.setIfInBounds_toArray, List.set_cons_zero, List.set_cons_succ]
        refine tk 3 (.bool false) hHeld (fun w hSw => ?_) ?_
        · (go_simp; try omega)
        try simp only [Act.put, List.setIfInBounds_toArray, List.set_cons_zero, List.set_cons_succ]
        refine tk 4 (.bool false) hHeld (fun w hSw => ?_) ?_
        · (go_simp)
        try simp only [Act.put, List.setIfInBounds_toArray, List.set_cons_zero, List.set_cons_succ]
        refine tk 5 (.int .i64 ((k : Int))) hHeld (fun w hSw => ?_) ?_
        · (go_simp)
        try simp only [Act.put, List.setIfInBounds_toArray, List.set_cons_zero, List.set_cons_succ]
        refine tk 6 (.int .i64 ((k : Int))) hHeld (fun w hSw => ?_) ?_
        · (go_simp)
        try simp only [Act.put, List.setIfInBounds_toArray, List.set_cons_zero, List.set_cons_succ]
        refine tk 7 (.bool false) hHeld (fun w hSw => ?_) ?_
        · (go_simp; try omega)
        try simp only [Act.put, List.setIfInBounds_toArray, List.set_cons_zero, List.set_cons_succ]
        refine tk 8 (.bool false) hHeld (fun w hSw => ?_) ?_
        · (go_simp)
        try simp only [Act.put, List.setIfInBounds_toArray, List.set_cons_zero, List.set_cons_succ]
        refine tk 9 (.bool false) hHeld (fun w hSw => ?_) ?_
        · (go_simp)
        try simp only [Act.put, List.setIfInBounds_toArray, List.set_cons_zero, List.set_cons_succ]
        refine tk 10 (.agg #[.int .i64 y.c, .int .i64 y.s, .int .i32 y.ch, .bool y.d]) hHeld (fun w hSw => ?_) ?_
        · (go_simp)
        try simp only [Act.put, List.setIfInBounds_toArray, List.set_cons_zero, List.set_cons_succ]
        refine tk 12 (.slice ((some ⟨g, 0, none⟩)) T.size cap) hHeld (fun w hSw => ?_) ?_
        · (go_simp)
        try simp only [Act.put, List.setIfInBounds_toArray, List.set_cons_zero, List.set_cons_succ]
        refine tk 13 (.int .i64 ((k : Int))) hHeld (fun w hSw => ?_) ?_
        · (go_simp)
        try simp only [Act.put, List.setIfInBounds_toArray, List.set_cons_zero, List.set_cons_succ]
        refine tk 14 (.pointer (some ⟨g, k * 4, none⟩)) hHeld (fun w hSw => ?_) ?_
        · (go_simp)
        try simp only [Act.put, List.setIfInBounds_toArray, List.set_cons_zero, List.set_cons_succ]
        refine tk 15 (.agg #[.int .i64 y.c, .int .i64 y.s, .int .i32 y.ch, .bool y.d]) hHeld (fun w hSw => ?_) ?_
        · (go_simp)
        try simp only [Act.put, List.setIfInBounds_toArray, List.set_cons_zero, List.set_cons_succ]
        refine wpAnyH_ready (rs := [11]) (by kernel_rfl) (by simp) ?_
        refine cons1 rfl (fun KK hK => ?_) AllReadyH.nil
        go_simp
        refine (of3_any y _).mono ?_
        rintro e2 u1 ⟨rfl, hb⟩
        go_wp2_with fail
        refine hK.out _ _ ((let h := hHeld.2.2.2.2.2.2.2.2.2.2.2.2.2.2.next hb; let c := HC.out _ h.base.ls; ⟨h.bn.cell, h.base.bl.cell 0 rfl, h.be.cell 0 rfl, h.be.cell 1 rfl, h.be.cell 2 rfl, h.be.cell 3 rfl, h.bx.cell 0 rfl, h.bx.cell 1 rfl, h.bx.cell 2 rfl, h.bx.cell 3 rfl, c.1, c.2.1, c.2.2.1, c.2.2.2, h⟩)) (fun hHeld2 => ?_)
        clear hK KK hHeld 
        have hHeld := hHeld2
        clear hHeld2
        try simp only [Act.put, List.setIfInBounds_toArray, List.set_cons_zero, List.set_cons_succ]
        have HBB := Lib.hid (show Below X2.heap.size X2 u1 from (Below.refl X2.heap.size X2).drew.trans hb)
        clear hb
        refine tk 16 (.bool false) hHeld (fun w hSw => ?_) ?_
        · (go_simp)
        try simp only [Act.put, List.setIfInBounds_toArray, List.set_cons_zero, List.set_cons_succ]
        refine tk 17 (.bool false) hHeld (fun w hSw => ?_) ?_
        · (go_simp)
        try simp only [Act.put, List.setIfInBounds_toArray, List.set_cons_zero, List.set_cons_succ]
        refine tk 18 (.bool false) hHeld (fun w hSw => ?_) ?_
        · (go_simp)
        try simp only [Act.put, List.setIfInBounds_toArray, List.set_cons_zero, List.set_cons_succ]
        refine tk 19 (.bool true) hHeld (fun w hSw => ?_) ?_
        · (go_simp)
        try simp only [Act.put, List.setIfInBounds_toArray, List.set_cons_zero, List.set_cons_succ]
        refine tk 20 (.bool false) hHeld (fun w hSw => ?_) ?_
        · (go_simp)
        try simp only [Act.put, List.setIfInBounds_toArray, List.set_cons_zero, List.set_cons_succ]
        refine tk 21 (.bool false) hHeld (fun w hSw => ?_) ?_
        · (go_simp)
        try simp only [Act.put, List.setIfInBounds_toArray, List.set_cons_zero, List.set_cons_succ]
        refine tk 22 (.bool false) hHeld (fun w hSw => ?_) ?_
        · (go_simp)
        try simp only [Act.put, List.setIfInBounds_toArray, List.set_cons_zero, List.set_cons_succ]
        refine tk 23 (.agg #[.int .i64 y.c, .int .i64 y.s, .int .i32 y.ch, .bool y.d]) hHeld (fun w hSw => ?_) ?_
        · (go_simp)
        try simp only [Act.put, List.setIfInBounds_toArray, List.set_cons_zero, List.set_cons_succ]
        refine tk 24 (.agg #[.int .i64 y.c, .int .i64 y.s, .int .i32 y.ch, .bool y.d]) hHeld (fun w hSw => ?_) ?_
        · (go_simp)
        try simp only [Act.put, List.setIfInBounds_toArray, List.set_cons_zero, List.set_cons_succ]
        refine tk 25 (.bool false) hHeld (fun w hSw => ?_) ?_
        · (go_simp)
        try simp only [Act.put, List.setIfInBounds_toArray, List.set_cons_zero, List.set_cons_succ]
        refine tk 26 (.bool false) hHeld (fun w hSw => ?_) ?_
        · (go_simp)
        try simp only [Act.put, List.setIfInBounds_toArray, List.set_cons_zero, List.set_cons_succ]
        refine wpAnyH_done (by kernel_rfl) ?_ _
        refine OnlyN.normal ?_
        have HZ := Lib.hid hHeld.2.2.2.2.2.2.2.2.2.2.2.2.2.2
        clear hHeld
        have hcn := HZ.out.bn.cell
        have hfn := HZ.out.bn.frozen
        have s1 : IntKind.i64.wrap ((k : Int) + 1) = (k : Int) + 1 := IntWalk.i64_in _ (by omega)
        gi_wp2
        have hbz := HZ.out.bn.set (.int .i64 ((k : Int) + 1))
        have hle : N ≤ W.heap.size := Nat.le_of_lt hnb
        exact ⟨((keeps_belowX (HBZ.out.trans (HBB.out.mono (by have := HBZ.out.size; exact this)))).trans (KeepsOthers.setCell _ _ _)).from _, ((HBZ.out.mono hle).trans (HBB.out.mono (Nat.le_trans hle HBZ.out.size))).setCell (p := ⟨N, 0, none⟩) (Nat.le_refl _) _, by rw [hsn]; exact hbz, (hi3.trans ((HBZ.out.mono hle).trans (HBB.out.mono (Nat.le_trans hle HBZ.out.size)))).setCell (p := ⟨N, 0, none⟩) (Nat.le_refl _) _⟩
      · have HNE := Lib.hid hE
        have HNPE := Lib.hid (HNP.out (fun h => hE (congrArg Prod.snd h)))
        clear hE HFA HAT HNP
        refine region_round (S := (fun X => X.cell? ⟨N, 0, none⟩ = some (.int .i64 ((k : Int))) ∧ X.cell? ⟨w.heap.size + 1, 0, none⟩ = some (.slice ((some ⟨g, 0, none⟩)) T.size cap) ∧ X.cell? ⟨Be, 0, none⟩ = some (.int .i64 e'.c) ∧ X.cell? ⟨Be, 1, none⟩ = some (.int .i64 e'.s) ∧ X.cell? ⟨Be, 2, none⟩ = some (.int .i32 e'.ch) ∧ X.cell? ⟨Be, 3, none⟩ = some (.bool e'.d) ∧ X.cell? ⟨Bx, 0, none⟩ = some (.int .i64 ea.c) ∧ X.cell? ⟨Bx, 1, none⟩ = some (.int .i64 ea.s) ∧ X.cell? ⟨Bx, 2, none⟩ = some (.int .i32 ea.ch) ∧ X.cell? ⟨Bx, 3, none⟩ = some (.bool ea.d) ∧ X.cell? ⟨g, k * 4, none⟩ = some (.int .i64 y.c) ∧ X.cell? ⟨g, k * 4 + 1, none⟩ = some (.int .i64 y.s) ∧ X.cell? ⟨g, k * 4 + 2, none⟩ = some (.int .i32 y.ch) ∧ X.cell? ⟨g, k * 4 + 3, none⟩ = some (.bool y.d) ∧ Rd3 w p (.slice (some ⟨g, 0, none⟩) T.size cap) T N k Be Bx e' ea X)) hmx (by kernel_rfl) ((let h := HR.out.next (Below.refl _ _).drew; let c := HC.out _ h.base.ls; ⟨h.bn.cell, h.base.bl.cell 0 rfl, h.be.cell 0 rfl, h.be.cell 1 rfl, h.be.cell 2 rfl, h.be.cell 3 rfl, h.bx.cell 0 rfl, h.bx.cell 1 rfl, h.bx.cell 2 rfl, h.bx.cell 3 rfl, c.1, c.2.1, c.2.2.1, c.2.2.2, h⟩)) (fun hHeld => ?_)
        refine tk 0 (.int .i64 ((k : Int))) hHeld (fun w hSw => ?_) ?_
        · (go_simp)
        try simp only [Act.put, List.setIfInBounds_toArray, List.set_cons_zero, List.set_cons_succ]
        refine tk 1 (.slice ((some ⟨g, 0, none⟩)) T.size cap) hHeld (fun w hSw => ?_) ?_
        · (go_simp)
        try simp only [Act.put, List.setIfInBounds_toArray, List.set_cons_zero, List.set_cons_succ]
        refine tk 2 (.int .i64 ((T.size : Int))) hHeld (fun w hSw => ?_) ?_
        · (go_simp)
        try simp only [Act.put, List.setIfInBounds_toArray, List.set_cons_zero, List.set_cons_succ]
        refine tk 3 (.bool false) hHeld (fun w hSw => ?_) ?_
        · (go_simp; try omega)
        try simp only [Act.put, List.setIfInBounds_toArray, List.set_cons_zero, List.set_cons_succ]
        refine tk 4 (.bool false) hHeld (fun w hSw => ?_) ?_
        · (go_simp)
        try simp only [Act.put, List.setIfInBounds_toArray, List.set_cons_zero, List.set_cons_succ]
        refine tk 5 (.int .i64 ((k : Int))) hHeld (fun w hSw => ?_) ?_
        · (go_simp)
        try simp only [Act.put, List.setIfInBounds_toArray, List.set_cons_zero, List.set_cons_succ]
        refine tk 6 (.int .i64 ((k : Int))) hHeld (fun w hSw => ?_) ?_
        · (go_simp)
        try simp only [Act.put, List.setIfInBounds_toArray, List.set_cons_zero, List.set_cons_succ]
        refine tk 7 (.bool false) hHeld (fun w hSw => ?_) ?_
        · (go_simp; try omega)
        try simp only [Act.put, List.setIfInBounds_toArray, List.set_cons_zero, List.set_cons_succ]
        refine tk 8 (.bool false) hHeld (fun w hSw => ?_) ?_
        · (go_simp)
        try simp only [Act.put, List.setIfInBounds_toArray, List.set_cons_zero, List.set_cons_succ]
        refine tk 9 (.bool false) hHeld (fun w hSw => ?_) ?_
        · (go_simp)
        try simp only [Act.put, List.setIfInBounds_toArray, List.set_cons_zero, List.set_cons_succ]
        refine tk 10 (.agg #[.int .i64 e'.c, .int .i64 e'.s, .int .i32 e'.ch, .bool e'.d]) hHeld (fun w hSw => ?_) ?_
        · (go_simp)
        try simp only [Act.put, List.setIfInBounds_toArray, List.set_cons_zero, List.set_cons_succ]
        refine tk 12 (.slice ((some ⟨g, 0, none⟩)) T.size cap) hHeld (fun w hSw => ?_) ?_
        · (go_simp)
        try simp only [Act.put, List.setIfInBounds_toArray, List.set_cons_zero, List.set_cons_succ]
        refine tk 13 (.int .i64 ((k : Int))) hHeld (fun w hSw => ?_) ?_
        · (go_simp)
        try simp only [Act.put, List.setIfInBounds_toArray, List.set_cons_zero, List.set_cons_succ]
        refine tk 14 (.pointer (some ⟨g, k * 4, none⟩)) hHeld (fun w hSw => ?_) ?_
        · (go_simp)
        try simp only [Act.put, List.setIfInBounds_toArray, List.set_cons_zero, List.set_cons_succ]
        refine tk 15 (.agg #[.int .i64 y.c, .int .i64 y.s, .int .i32 y.ch, .bool y.d]) hHeld (fun w hSw => ?_) ?_
        · (go_simp)
        try simp only [Act.put, List.setIfInBounds_toArray, List.set_cons_zero, List.set_cons_succ]
        refine wpAnyH_ready (rs := [11]) (by kernel_rfl) (by simp) ?_
        refine cons1 rfl (fun KK hK => ?_) AllReadyH.nil
        go_simp
        refine (of3_any e' _).mono ?_
        rintro e2 u1 ⟨rfl, hb⟩
        go_wp2_with fail
        refine hK.out _ _ ((let h := hHeld.2.2.2.2.2.2.2.2.2.2.2.2.2.2.next hb; let c := HC.out _ h.base.ls; ⟨h.bn.cell, h.base.bl.cell 0 rfl, h.be.cell 0 rfl, h.be.cell 1 rfl, h.be.cell 2 rfl, h.be.cell 3 rfl, h.bx.cell 0 rfl, h.bx.cell 1 rfl, h.bx.cell 2 rfl, h.bx.cell 3 rfl, c.1, c.2.1, c.2.2.1, c.2.2.2, h⟩)) (fun hHeld2 => ?_)
        clear hK KK hHeld 
        have hHeld := hHeld2
        clear hHeld2
        try simp only [Act.put, List.setIfInBounds_toArray, List.set_cons_zero, List.set_cons_succ]
        have HBB := Lib.hid (show Below X2.heap.size X2 u1 from (Below.refl X2.heap.size X2).drew.trans hb)
        clear hb
        refine tk 16 (.bool true) hHeld (fun w hSw => ?_) ?_
        · (go_simp; intro h1 h2 h3 h4; exact HNE.out (El.same h1 h2 h3 h4))
        try simp only [Act.put, List.setIfInBounds_toArray, List.set_cons_zero, List.set_cons_succ]
        refine tk 17 (.bool true) hHeld (fun w hSw => ?_) ?_
        · (go_simp)
        try simp only [Act.put, List.setIfInBounds_toArray, List.set_cons_zero, List.set_cons_succ]
        refine tk 18 (.bool true) hHeld (fun w hSw => ?_) ?_
        · (go_simp)
        try simp only [Act.put, List.setIfInBounds_toArray, List.set_cons_zero, List.set_cons_succ]
        refine sk 19 hHeld ?_
        try simp only [Act.put, List.setIfInBounds_toArray, List.set_cons_zero, List.set_cons_succ]
        refine sk 20 hHeld ?_
        try simp only [Act.put, List.setIfInBounds_toArray, List.set_cons_zero, List.set_cons_succ]
        refine tk 21 (.bool true) hHeld (fun w hSw => ?_) ?_
        · (go_simp)
        try simp only [Act.put, List.setIfInBounds_toArray, List.set_cons_zero, List.set_cons_succ]
        refine tk 22 (.bool true) hHeld (fun w hSw => ?_) ?_
        · (go_simp)
        try simp only [Act.put, List.setIfInBounds_toArray, List.set_cons_zero, List.set_cons_succ]
        refine sk 23 hHeld ?_
        try simp only [Act.put, List.setIfInBounds_toArray, List.set_cons_zero, List.set_cons_succ]
        refine sk 24 hHeld ?_
        try simp only [Act.put, List.setIfInBounds_toArray, List.set_cons_zero, List.set_cons_succ]
        refine sk 25 hHeld ?_
        try simp only [Act.put, List.setIfInBounds_toArray, List.set_cons_zero, List.set_cons_succ]
        refine tk 26 (.bool true) hHeld (fun w hSw => ?_) ?_
        · (go_simp)
        try simp only [Act.put, List.setIfInBounds_toArray, List.set_cons_zero, List.set_cons_succ]
        refine wpAnyH_done (by kernel_rfl) ?_ _
        refine OnlyN.normal ?_
        have HZ := Lib.hid hHeld.2.2.2.2.2.2.2.2.2.2.2.2.2.2
        clear hHeld
        obtain ⟨u, hu⟩ := HZ.out.base.br
        have hcr := hu.cell 0 rfl
        have hfr := hu.free 0
        clear hu
        gi_wp2
        exact ⟨((keeps_belowX (HBZ.out.trans (HBB.out.mono (by have := HBZ.out.size; exact this)))).trans (KeepsOthers.setCell _ _ _)).from _, HNPE.out⟩
    · have HNPE := Lib.hid (HNP.out (fun h => hKq (congrArg Prod.fst h)))
      clear HFA HAT HNP
      refine region_round (S := (fun X => X.cell? ⟨N, 0, none⟩ = some (.int .i64 ((k : Int))) ∧ X.cell? ⟨w.heap.size + 1, 0, none⟩ = some (.slice ((some ⟨g, 0, none⟩)) T.size cap) ∧ X.cell? ⟨Be, 0, none⟩ = some (.int .i64 e'.c) ∧ X.cell? ⟨Be, 1, none⟩ = some (.int .i64 e'.s) ∧ X.cell? ⟨Be, 2, none⟩ = some (.int .i32 e'.ch) ∧ X.cell? ⟨Be, 3, none⟩ = some (.bool e'.d) ∧ X.cell? ⟨Bx, 0, none⟩ = some (.int .i64 ea.c) ∧ X.cell? ⟨Bx, 1, none⟩ = some (.int .i64 ea.s) ∧ X.cell? ⟨Bx, 2, none⟩ = some (.int .i32 ea.ch) ∧ X.cell? ⟨Bx, 3, none⟩ = some (.bool ea.d) ∧ X.cell? ⟨g, k * 4, none⟩ = some (.int .i64 y.c) ∧ X.cell? ⟨g, k * 4 + 1, none⟩ = some (.int .i64 y.s) ∧ X.cell? ⟨g, k * 4 + 2, none⟩ = some (.int .i32 y.ch) ∧ X.cell? ⟨g, k * 4 + 3, none⟩ = some (.bool y.d) ∧ Rd3 w p (.slice (some ⟨g, 0, none⟩) T.size cap) T N k Be Bx e' ea X)) hmx (by kernel_rfl) ((let h := HR.out.next (Below.refl _ _).drew; let c := HC.out _ h.base.ls; ⟨h.bn.cell, h.base.bl.cell 0 rfl, h.be.cell 0 rfl, h.be.cell 1 rfl, h.be.cell 2 rfl, h.be.cell 3 rfl, h.bx.cell 0 rfl, h.bx.cell 1 rfl, h.bx.cell 2 rfl, h.bx.cell 3 rfl, c.1, c.2.1, c.2.2.1, c.2.2.2, h⟩)) (fun hHeld => ?_)
      refine tk 0 (.int .i64 ((k : Int))) hHeld (fun w hSw => ?_) ?_
      · (go_simp)
      try simp only [Act.put, List.setIfInBounds_toArray, List.set_cons_zero, List.set_cons_succ]
      refine tk 1 (.slice ((some ⟨g, 0, none⟩)) T.size cap) hHeld (fun w hSw => ?_) ?_
      · (go_simp)
      try simp only [Act.put, List.setIfInBounds_toArray, List.set_cons_zero, List.set_cons_succ]
      refine tk 2 (.int .i64 ((T.size : Int))) hHeld (fun w hSw => ?_) ?_
      · (go_simp)
      try simp only [Act.put, List.setIfInBounds_toArray, List.set_cons_zero, List.set_cons_succ]
      refine tk 3 (.bool false) hHeld (fun w hSw => ?_) ?_
      · (go_simp; try omega)
      try simp only [Act.put, List.setIfInBounds_toArray, List.set_cons_zero, List.set_cons_succ]
      refine tk 4 (.bool false) hHeld (fun w hSw => ?_) ?_
      · (go_simp)
      try simp only [Act.put, List.setIfInBounds_toArray, List.set_cons_zero, List.set_cons_succ]
      refine tk 5 (.int .i64 ((k' : Int))) hHeld (fun w hSw => ?_) ?_
      · (go_simp)
      try simp only [Act.put, List.setIfInBounds_toArray, List.set_cons_zero, List.set_cons_succ]
      refine tk 6 (.int .i64 ((k : Int))) hHeld (fun w hSw => ?_) ?_
      · (go_simp)
      try simp only [Act.put, List.setIfInBounds_toArray, List.set_cons_zero, List.set_cons_succ]
      refine tk 7 (.bool true) hHeld (fun w hSw => ?_) ?_
      · (go_simp; try omega)
      try simp only [Act.put, List.setIfInBounds_toArray, List.set_cons_zero, List.set_cons_succ]
      refine tk 8 (.bool true) hHeld (fun w hSw => ?_) ?_
      · (go_simp)
      try simp only [Act.put, List.setIfInBounds_toArray, List.set_cons_zero, List.set_cons_succ]
      refine tk 9 (.bool true) hHeld (fun w hSw => ?_) ?_
      · (go_simp)
      try simp only [Act.put, List.setIfInBounds_toArray, List.set_cons_zero, List.set_cons_succ]
      refine sk 10 hHeld ?_
      try simp only [Act.put, List.setIfInBounds_toArray, List.set_cons_zero, List.set_cons_succ]
      refine sk 11 hHeld ?_
      try simp only [Act.put, List.setIfInBounds_toArray, List.set_cons_zero, List.set_cons_succ]
      refine sk 12 hHeld ?_
      try simp only [Act.put, List.setIfInBounds_toArray, List.set_cons_zero, List.set_cons_succ]
      refine sk 13 hHeld ?_
      try simp only [Act.put, List.setIfInBounds_toArray, List.set_cons_zero, List.set_cons_succ]
      refine sk 14 hHeld ?_
      try simp only [Act.put, List.setIfInBounds_toArray, List.set_cons_zero, List.set_cons_succ]
      refine sk 15 hHeld ?_
      try simp only [Act.put, List.setIfInBounds_toArray, List.set_cons_zero, List.set_cons_succ]
      refine sk 16 hHeld ?_
      try simp only [Act.put, List.setIfInBounds_toArray, List.set_cons_zero, List.set_cons_succ]
      refine tk 17 (.bool true) hHeld (fun w hSw => ?_) ?_
      · (go_simp)
      try simp only [Act.put, List.setIfInBounds_toArray, List.set_cons_zero, List.set_cons_succ]
      refine tk 18 (.bool true) hHeld (fun w hSw => ?_) ?_
      · (go_simp)
      try simp only [Act.put, List.setIfInBounds_toArray, List.set_cons_zero, List.set_cons_succ]
      refine sk 19 hHeld ?_
      try simp only [Act.put, List.setIfInBounds_toArray, List.set_cons_zero, List.set_cons_succ]
      refine sk 20 hHeld ?_
      try simp only [Act.put, List.setIfInBounds_toArray, List.set_cons_zero, List.set_cons_succ]
      refine tk 21 (.bool true) hHeld (fun w hSw => ?_) ?_
      · (go_simp)
      try simp only [Act.put, List.setIfInBounds_toArray, List.set_cons_zero, List.set_cons_succ]
      refine tk 22 (.bool true) hHeld (fun w hSw => ?_) ?_
      · (go_simp)
      try simp only [Act.put, List.setIfInBounds_toArray, List.set_cons_zero, List.set_cons_succ]
      refine sk 23 hHeld ?_
      try simp only [Act.put, List.setIfInBounds_toArray, List.set_cons_zero, List.set_cons_succ]
      refine sk 24 hHeld ?_
      try simp only [Act.put, List.setIfInBounds_toArray, List.set_cons_zero, List.set_cons_succ]
      refine sk 25 hHeld ?_
      try simp only [Act.put, List.setIfInBounds_toArray, List.set_cons_zero, List.set_cons_succ]
      refine tk 26 (.bool true) hHeld (fun w hSw => ?_) ?_
      · (go_simp)
      try simp only [Act.put, List.setIfInBounds_toArray, List.set_cons_zero, List.set_cons_succ]
      refine wpAnyH_done (by kernel_rfl) ?_ _
      refine OnlyN.normal ?_
      have HZ := Lib.hid hHeld.2.2.2.2.2.2.2.2.2.2.2.2.2.2
      clear hHeld
      obtain ⟨u, hu⟩ := HZ.out.base.br
      have hcr := hu.cell 0 rfl
      have hfr := hu.free 0
      clear hu
      gi_wp2
      exact ⟨((keeps_belowX (HBZ.out.trans ((Below.refl X2.heap.size X2).drew.mono HBZ.out.size))).trans (KeepsOthers.setCell _ _ _)).from _, HNPE.out⟩
  case done =>
    rintro D ys W hD hys ⟨hi1, hi3⟩ hK1
    have hi3' : Below u18.heap.size u18 W := by rw [← HNN.out]; exact hi3
    have hlen : ys.length = T.size := by rw [hys, idx_length, HEL.out]
    rw [hlen] at hi1
    have HZ := Lib.hid (show IsF3 w p (.slice a T.size cap) T N D W from ⟨HS.out.next hi3', hi1, hK1⟩)
    clear hi1 hlen hys hi3' hK1 hi3 hbk hbt hb3 hT3
    go_wp2_with fail
    refine wp_region_noPanic ?_
    refine wp_region_held_drew (S := (fun X => X.cell? ⟨w.heap.size, 0, none⟩ = some (.pointer p) ∧ X.cell? ⟨w.heap.size + 1, 0, none⟩ = some (.slice a T.size cap) ∧ X.cell? ⟨N, 0, none⟩ = some (.int .i64 ((T.size : Int))) ∧ IsF3 w p (.slice a T.size cap) T N D X)) (by kernel_rfl) ?_ (fun hHeld => ?_)
    · exact (let h := HZ.out.next (Below.refl _ _).drew; ⟨h.base.bt.cell 0 rfl, h.base.bl.cell 0 rfl, h.bn.cell, h⟩)
    clear HZ
    refine tk 0 (.int .i64 ((T.size : Int))) hHeld (fun w hSw => ?_) ?_
    · (go_simp)
    try simp only [Act.put, List.setIfInBounds_toArray, List.set_cons_zero, List.set_cons_succ]
    refine tk 1 (.slice a T.size cap) hHeld (fun w hSw => ?_) ?_
    · (go_simp)
    try simp only [Act.put, List.setIfInBounds_toArray, List.set_cons_zero, List.set_cons_succ]
    refine tk 2 (.int .i64 ((T.size : Int))) hHeld (fun w hSw => ?_) ?_
    · (go_simp)
    try simp only [Act.put, List.setIfInBounds_toArray, List.set_cons_zero, List.set_cons_succ]
    refine tk 3 (.bool true) hHeld (fun w hSw => ?_) ?_
    · (go_simp)
    try simp only [Act.put, List.setIfInBounds_toArray, List.set_cons_zero, List.set_cons_succ]
    refine tk 4 (.bool true) hHeld (fun w hSw => ?_) ?_
    · (go_simp)
    try simp only [Act.put, List.setIfInBounds_toArray, List.set_cons_zero, List.set_cons_succ]
    refine tk 5 (.agg #[.pointer p]) hHeld (fun w hSw => ?_) ?_
    · (go_simp)
    try simp only [Act.put, List.setIfInBounds_toArray, List.set_cons_zero, List.set_cons_succ]
    refine tk 7 (.slice a T.size cap) hHeld (fun w hSw => ?_) ?_
    · (go_simp)
    try simp only [Act.put, List.setIfInBounds_toArray, List.set_cons_zero, List.set_cons_succ]
    refine tk 8 (.int .i64 ((T.size : Int))) hHeld (fun w hSw => ?_) ?_
    · (go_simp)
    try simp only [Act.put, List.setIfInBounds_toArray, List.set_cons_zero, List.set_cons_succ]
    refine wpAnyH_ready (rs := [6]) (by kernel_rfl) (by simp) ?_
    refine cons1 rfl (fun KK hK => ?_) AllReadyH.nil
    go_simp
    refine (depth_any _ hHeld.2.2.2.base.tr).mono ?_
    rintro e' u1 ⟨rfl, hb⟩
    go_wp2_with fail
    refine hK.out _ _ ((let h := hHeld.2.2.2.next hb; ⟨h.base.bt.cell 0 rfl, h.base.bl.cell 0 rfl, h.bn.cell, h⟩)) (fun hHeld2 => ?_)
    clear hK KK hHeld hb
    have hHeld := hHeld2
    clear hHeld2
    try simp only [Act.put, List.setIfInBounds_toArray, List.set_cons_zero, List.set_cons_succ]
    refine wpAnyH_ready (rs := [9]) (by kernel_rfl) (by simp) ?_
    refine cons1 rfl (fun KK hK => ?_) AllReadyH.nil
    go_simp
    refine (refFlat_any T.depth T.size (flat_ok HA.out) (by have := T.depth_le; omega) (by omega) _).mono ?_
    rintro e' u2 ⟨rfl, hb⟩
    go_wp2_with fail
    refine hK.out _ _ ((let h := hHeld.2.2.2.next hb; ⟨h.base.bt.cell 0 rfl, h.base.bl.cell 0 rfl, h.bn.cell, h⟩)) (fun hHeld2 => ?_)
    clear hK KK hHeld hb
    have hHeld := hHeld2
    clear hHeld2
    try simp only [Act.put, List.setIfInBounds_toArray, List.set_cons_zero, List.set_cons_succ]
    obtain ⟨z, hz⟩ := hHeld.2.2.2.base.br
    have hcz := hz.cell 0 rfl
    have hfz := hz.free 0
    clear hz
    refine tk 10 (.bool true) hHeld (fun w hSw => ?_) ?_
    · (go_simp)
    try simp only [Act.put, List.setIfInBounds_toArray, List.set_cons_zero, List.set_cons_succ]
    refine wpAnyH_ready (rs := [11]) (by kernel_rfl) (by simp) ?_
    refine cons1 rfl (fun KK hK => ?_) AllReadyH.nil
    go_simp
    have HPZ := Lib.hid (hHeld.2.2.2.put hN true)
    go_wp2_with fail
    refine hK.out _ _ ((let h := HPZ.out.1; ⟨h.base.bt.cell 0 rfl, h.base.bl.cell 0 rfl, h.bn.cell, h⟩)) (fun hHeld2 => ?_)
    clear hK KK hHeld hcz hfz
    have hHeld := hHeld2
    clear hHeld2
    try simp only [Act.put, List.setIfInBounds_toArray, List.set_cons_zero, List.set_cons_succ]
    refine wpAnyH_done (by kernel_rfl) ?_ _
    refine NoPanic.normal ?_
    clear hHeld
    have hd1 := HPZ.out.1.dk
    have hres := (Blk.putO HPZ.out.2 (D := D) (by omega) (.deferred none)).cell 0 rfl
    have hbe := HPZ.out.1.base.bel.trans (belowK_b (w := w) (Nat.le_refl _) _ D _ (.deferred none) (by omega) hd1 rfl rfl)
    have HRES := Lib.hid (And.intro hres hbe)
    clear hres hbe
    go_wp2_with fail
    refine ⟨by simp, .inl ⟨_, _, rfl, run_takeDeferred hd1, ?_⟩⟩
    exact ⟨.bool true, by have := HRES.out.1; simp [results, Tryz.results25, go_sem, this], rfl, HRES.out.2⟩
end Go.Proofs.YtlnonnjpcajgjaaGreatDoor
