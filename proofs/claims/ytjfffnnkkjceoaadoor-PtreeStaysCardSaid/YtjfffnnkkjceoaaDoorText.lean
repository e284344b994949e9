/-
  The contract of a row's Text: the characters of those that are alive.
-/
import Derived.Test.YtjfffnnkkjceoaaDoorRune
import Derived.Test.YtjfffnnkkjceoaaDoorRow
import Derived.Test.YtjfffnnkkjceoaaDoorEach
namespace Go.Proofs.YtjfffnnkkjceoaaDoor
open Go Go.Proofs Go.RowKit Go.Shelf

attribute [local go_sem] Oper.semAt_some

/-- The bytes of one element's character, if it is alive; of a row. -/
def chL (x : El) : List UInt8 := if x.d = true then [] else Lib.encodeRune x.ch
def txtL (l : List El) : List UInt8 := l.flatMap chL
theorem chL_le (x : El) : (chL x).length ≤ 4 := by
  unfold chL; split
  · simp
  · have := Lib.runeCells_le x.ch; rw [Lib.runeCells_length] at this; omega
theorem txtL_le : ∀ l : List El, (txtL l).length ≤ 4 * l.length
  | [] => Nat.le_refl _
  | x :: l => by have := chL_le x; have := txtL_le l; simp only [txtL, List.flatMap_cons, List.length_append, List.length_cons] at *; omega
theorem txtL_snoc (l : List El) (x : El) : txtL (l ++ [x]) = txtL l ++ chL x := by simp [txtL]
theorem idx_map : ∀ (k : Nat) (l : List El), (idx k l).map (·.2) = l
  | _, [] => rfl
  | k, x :: l => by simp [idx, idx_map (k + 1) l]

/-- A block of cells stays as it is where blocks that are no cells change. -/
theorem Blk.grown {W W' : World} {row : Option Nat} {b : Nat} {vs : List Value} {t : TypeId} (h : Blk W b vs t) (hg : W.grownBy W' row) (hr : ∀ r, row = some r → ∃ o : Obj, W.heap[r]? = some o ∧ o.isCells = false) : Blk W' b vs t := by
  refine (hg.block b h.lt fun e => ?_).trans h
  obtain ⟨o, ho, hc⟩ := hr b e.symm
  unfold Blk at h
  rw [h] at ho; cases ho; cases hc
theorem builder_own (T e : TypeId) (B b : Nat) (p : Value) {β : Type} (f : β → List Value) : Own (fun s W => Lib.BuilderAtF T e B b p (f s) W) := by
  rintro s W W' row ⟨hB, v, hbk, hown, hne⟩ hg hr
  have hbne : some b ≠ row := fun e' => by
    obtain ⟨o, ho, hc⟩ := hr b e'.symm
    rw [hbk] at ho; cases ho; cases hc
  refine ⟨hB, v, (hg.block b (Array.getElem?_eq_some_iff.1 hbk).1 hbne).trans hbk, hown.kept hg ?_, hne⟩
  cases hv : v.ownBlock with
  | none => exact Or.inl rfl
  | some g =>
    refine Or.inr fun e' => ?_
    obtain ⟨o, ho, hc⟩ := hr g e'.symm
    obtain ⟨c, fz, hg'⟩ := Lib.ownsRowF_kind hown g hv
    rw [hg'] at ho; cases ho; cases hc
theorem keeps_of_others {e : TypeId} {b : Nat} {W W' : World} {vs : List Value} {t : TypeId} (h : Lib.OthersKept e (some b) W W') (hs : W.heap.size ≤ W'.heap.size) (hb : Blk W b vs t) : KeepsOthers W W' := by
  refine ⟨hs, fun k o hk ho => h k o hk (fun e' => ?_) (fun c fz e' => by subst e'; cases ho)⟩
  cases e'
  unfold Blk at hb
  rw [hb] at hk; cases hk; cases ho
theorem BuilderAtF.blk {T e : TypeId} {B b : Nat} {p : Value} {bs : List Value} {w : World} (h : Lib.BuilderAtF T e B b p bs w) : ∃ v, Blk w b [p, v] T := by
  obtain ⟨_, v, hbk, _⟩ := h
  exact ⟨v, hbk⟩
set_option maxHeartbeats 2000000 in
set_option maxRecDepth 100000 in
theorem text_any {p : Option Addr} {T : Tr} (w : World) (h : Is w p T) (hs : T.size ≤ 800) :
    Calls Tryd.prog 7 #[.agg #[.pointer p]] w fun e w' => e = .returned (.string ⟨(txtL T.els).toArray⟩) ∧ Below w.heap.size w w' := by
  have ha := T.alive_le
  have hbA : Below w.heap.size w ((w.alloc (.cells #[.pointer p] 26)).alloc (.cells #[.pointer none, .slice none 0 0] 51)) := ((Below.refl _ _).alloc (Nat.le_refl _) _).alloc (by simp) _
  have hBx := Lib.hid (And.intro ((Blk.start w [.pointer p] 26).alloc (.cells #[.pointer none, .slice none 0 0] 51)) (Blk.startAt (W := w.alloc (.cells #[.pointer p] 26)) (b := w.heap.size + 1) (vs := [.pointer none, .slice none 0 0]) (t := 51) (by simp)))
  have HA := Lib.hid (And.intro (h.next hbA) hbA)
  have hT0 := Lib.hid h
  clear hbA h
  refine (callsIn_wide (n := 5)).1 (callsIn_of_wp_marks Tryd.func7 rfl trivial (wpIn_wide.2 ?_) rfl)
  simp only [Tryd.ntmps7, List.size_toArray, List.length_cons, List.length_nil, Nat.reduceAdd, Nat.reduceSub, Array.replicate_succ, Array.replicate_zero, List.push_toArray, List.append_toArray, List.nil_append, List.cons_append]
  go_wp2_with (go_at_call 8; refine (aliveRow_any _ HA.out.1).mono ?_; rintro e w1 ⟨rfl, hb1⟩; refine Hid.out ?_)
  have HB := Lib.hid (And.intro (hBx.out.1.next hb1) (And.intro (hBx.out.2.next hb1) (And.intro (HA.out.1.next hb1) (HA.out.2.trans (hb1.mono HA.out.2.size)))))
  clear hBx HA hb1
  refine Lib.hid ?_
  go_wp2_with (go_at_call 17; refine (Tryd.Builder_Grow_fresh (w.heap.size + 1) (w.heap.size + 1) T.alive _ (Nat.le_refl _) HB.out.2.1 (Nat.le_of_lt HB.out.2.1.lt) (by omega)).mono ?_; rintro e w2 ⟨rfl, hG, hb2⟩; refine Hid.out ?_)
  have hc0 := (HB.out.1.below hb2 (by omega)).cell 0 rfl
  have HC := Lib.hid (And.intro (Lib.BuilderAtF.of hG) (HB.out.2.2.2.trans (hb2.mono (by omega))))
  have hsz2 : w.heap.size + 1 < w2.heap.size := (Lib.BuilderAtF.of hG).lt
  clear HB hG hb2
  refine Lib.hid ?_
  go_wp2_with (go_at_call 6; refine (all_any _ _).mono ?_; rintro e w3 ⟨rfl, rfl⟩)
  have hbt := (Blk.start w2 [.pointer p] 26).cell 0 rfl
  have HD := Lib.hid (And.intro (HC.out.1.alloc (.cells #[.pointer p] 26)) (HC.out.2.alloc (Nat.le_trans (Nat.le_succ _) (Nat.le_of_lt hsz2)) (.cells #[.pointer p] 26)))
  clear hc0 HC
  have hsz3 : w2.heap.size < (w2.alloc (.cells #[.pointer p] 26)).heap.size := by simp
  generalize w2.alloc (.cells #[.pointer p] 26) = W3 at *
  refine (wpIn_wide (n := 5)).1 ?_
  refine wpIn_rangeFunc_ownH rfl (by omega) (gf := 15) (lb := #[.pointer (some ⟨w2.heap.size, 0, none⟩)]) rfl trivial (enters_of Tryd.func15 (by kernel_rfl) rfl)
    (all_stops _ w2.heap.size w.heap.size p T W3 hsz3 (by omega) (by omega) hbt (hT0.out.below HD.out.2)) belowK_t (belowK_b (by omega)) (Below.refl _ _) (fun _ => rfl)
    (fun pre W => Lib.BuilderAtF 51 5 (w.heap.size + 1) (w.heap.size + 1) (.pointer (some ⟨w.heap.size + 1, 0, none⟩)) (Lib.byteCells (txtL (pre.map (·.2)))) W ∧ Below w.heap.size w W)
    (fun _ _ _ => False)
    (OwnFrom.and (Own.from (builder_own _ _ _ _ _ (fun pre : List (Nat × El) => Lib.byteCells (txtL (pre.map (·.2))))) _) (ownFrom_below (Nat.le_refl _) (by omega)))
    (fun _ _ _ _ _ hs _ _ => hs)
    ⟨HD.out.1, HD.out.2⟩
    (fun x a' W => ∃ Bx, Blk W Bx (elL x.2) 30 ∧ a' = { tmps := #[.agg #[.pointer p], .pointer (some ⟨w.heap.size, 0, none⟩), .string ⟨#[]⟩, .pointer (some ⟨w.heap.size + 1, 0, none⟩), undef, .pointer (some ⟨Bx, 0, none⟩), .agg #[.pointer p], .int .i64 (T.alive : Int), .tuple #[], .agg #[.pointer p], .func (.func 15) #[] #[.pointer (some ⟨w2.heap.size, 0, none⟩)], .int .i64 (x.1 : Int), .agg #[.int .i64 x.2.c, .int .i64 x.2.s, .int .i32 x.2.ch, .bool x.2.d], undef, undef, undef, undef, undef, undef, undef], defers := [] })
    (fun x a' _ W W' row hs hg hr => by obtain ⟨Bx, hb, he⟩ := hs; exact ⟨Bx, hb.grown hg (fun r e => (hr r e).2), he⟩)
    ?assign ?body ?done ?stop
  case assign =>
    rintro l pre x W K ⟨hi1, hi2⟩ hK
    gi_wp2
    exact hK _ _ ((KeepsOthers.alloc _ _).from _) ((Below.refl _ W).alloc hi2.size _) ⟨hi1.alloc _, hi2.alloc hi2.size _⟩ ⟨W.heap.size, Blk.start _ _ _, rfl⟩
  case body =>
    rintro l pre x a' W hl - ⟨hi1, hi2⟩ ⟨Bx, hb, rfl⟩ hlt
    obtain ⟨k, x⟩ := x
    obtain ⟨c, s, ch, d, lo, hi⟩ := x
    have e2 := hb.cell 2 rfl
    have e3 := hb.cell 3 rfl
    have hlen : (Lib.byteCells (txtL (pre.map (·.2)))).length ≤ 4000 := by
      have := txtL_le (pre.map (·.2))
      rw [Lib.byteCells_length]; simp only [List.length_map] at this; omega
    cases d
    · dsimp only at *
      gi_wp2_with (refine ⟨trivial, ?_⟩; gi_at_call 18; refine (CallsIn.inRound l (callsIn_wide.2 (writeRune_any (w.heap.size + 1) (w.heap.size + 1) _ ch lo hi W hi1 (by omega) (Nat.le_of_lt hi1.lt)))).mono ?_; rintro e W1 ⟨rfl, h1, hb1, hk1⟩)
      obtain ⟨v, hv⟩ := BuilderAtF.blk hi1
      refine ⟨(keeps_of_others hk1 hb1.size hv).from _, hb1.mono (by omega), ?_, hi2.trans (hb1.mono (by omega))⟩
      rw [List.map_append, List.map_cons, List.map_nil, txtL_snoc, Lib.byteCells_append]
      simpa [chL, Lib.byteCells_encodeRune] using h1
    · dsimp only at *
      gi_wp2
      refine ⟨KeepsFrom.refl _ _, Below.refl _ _, ?_, hi2⟩
      rw [List.map_append, List.map_cons, List.map_nil, txtL_snoc]
      simpa [chL] using hi1
  case stop =>
    rintro D c pre W _ _ h _
    exact h.elim
  case done =>
    rintro D ys W hD rfl ⟨hi1, hi2⟩ hK
    rw [idx_map] at hi1
    go_wp2_with (go_at_call 19; refine (Tryd.Builder_String_any_k (w.heap.size + 1) (w.heap.size + 1) (txtL T.els) _ (Or.inr hi1) (Nat.le_of_lt hi1.lt)).mono ?_; rintro e W5 ⟨rfl, -, hb5, hk5⟩)
    have hK5 := hk5 D _ hK (fun e => by cases e; omega) (fun c fz e => by cases e)
    refine ⟨by simp, .inl ⟨_, _, rfl, run_takeDeferred hK5, ?_⟩⟩
    exact ⟨_, results_tmp rfl _ _ _, rfl, (hi2.trans (hb5.mono (by omega))).trans (belowK_b (w := w) (Nat.le_refl _) W5 D _ _ (by omega) hK5 rfl rfl)⟩
end Go.Proofs.YtjfffnnkkjceoaaDoor
