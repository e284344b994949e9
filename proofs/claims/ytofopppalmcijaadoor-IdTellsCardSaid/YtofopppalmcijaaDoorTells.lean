/-
  The walk of the law IdTells: whatever the two ids and the ids of the slice are, it returns true, and nothing that existed has changed.
-/
import Derived.Test.YtofopppalmcijaaDoorLeast
import Derived.Deep.DeepCutAuto
namespace Go.Proofs.YtofopppalmcijaaDoor
open Go Go.Proofs Go.RowKit

set_option maxHeartbeats 400000 in
theorem of_exact (c s : Int) (w : World) :
    Calls Tryd.prog 6 #[.agg #[.int .i64 c, .int .i64 s]] w
      fun e w' => e = .returned (.agg #[.int .i64 c, .int .i64 s]) ∧ w' = (w.alloc (.cells #[.int .i64 c, .int .i64 s] 23)).alloc (.cells #[.int .i64 c, .int .i64 s] 26) := by
  go_enter Tryd.func6, Tryd.ntmps6
  go_wp2
  exact bodyPost_ret (v := .agg #[.int .i64 c, .int .i64 s]) (by simp [results, Tryd.results6, go_sem]) rfl ⟨rfl, rfl⟩

set_option maxHeartbeats 800000 in
theorem tells_long (c s d t : Int) (a : Option Addr) (n cap : Nat) (w : World) (hn : 50 < n) (ht : Tab w) :
    Calls Tryd.prog 3 #[.agg #[.int .i64 c, .int .i64 s], .agg #[.int .i64 d, .int .i64 t], .slice a n cap] w
      fun e w' => e = .returned (.bool true) ∧ Below w.heap.size w w' := by
  have HT := Lib.hid ((ht.alloc (.cells #[.int .i64 c, .int .i64 s] 23)).alloc (.cells #[.int .i64 d, .int .i64 t] 23))
  clear ht
  go_enter Tryd.func3, Tryd.ntmps3
  go_wp2_with (go_at_call 5; refine (awake_any _ HT.out).mono ?_; rintro e w1 ⟨rfl, hb1⟩)
  go_ret
  exact ⟨rfl, (((Below.refl _ _).alloc (Nat.le_refl _) _).alloc (by simp) _).trans (hb1.mono (by simp; omega))⟩

/-- What the walk knows of the world behind the copies m and n: the four ids in their blocks. -/
def Four (w W : World) (c s d t : Int) (bm bn : Nat) : Prop :=
  Two W w.heap.size 23 c s ∧ Two W (w.heap.size + 1) 23 d t ∧ Two W bm 26 c s ∧ Two W bn 26 d t ∧ Below w.heap.size w W ∧ Tab W ∧ w.heap.size + 2 ≤ bm ∧ w.heap.size + 2 ≤ bn

theorem four_mk {w W W' : World} {c s d t : Int} {bm bn : Nat} (ha : Two W w.heap.size 23 c s) (hb : Two W (w.heap.size + 1) 23 d t) (hsz : W.heap.size = w.heap.size + 2) (hbel : Below w.heap.size w W) (ht : Tab W)
    (h : Below W.heap.size W W') (hm : Two W' bm 26 c s) (hn : Two W' bn 26 d t) (h1 : W.heap.size ≤ bm) (h2 : W.heap.size ≤ bn) : Four w W' c s d t bm bn :=
  ⟨ha.next h, hb.next h, hm, hn, hbel.trans (h.mono (by omega)), ht.next h, by omega, by omega⟩
/-- What holds at the head of each round: the four, and the least so far in block bq. -/
structure Five (w W : World) (c s d t : Int) (bm bn bq : Nat) (m : Int × Int) : Prop where
  four : Four w W c s d t bm bn
  q : Two W bq 23 m.1 m.2
  lm : bm < bq
  ln : bn < bq
  gl : 0 < w.heap.size
theorem Five.bel {w W : World} {c s d t : Int} {bm bn bq : Nat} {m : Int × Int} (h : Five w W c s d t bm bn bq m) : Below w.heap.size w W := h.four.2.2.2.2.1
theorem Five.tab {w W : World} {c s d t : Int} {bm bn bq : Nat} {m : Int × Int} (h : Five w W c s d t bm bn bq m) : Tab W := h.four.2.2.2.2.2.1
theorem Four.next {w W W' : World} {c s d t : Int} {bm bn : Nat} (h : Four w W c s d t bm bn) (hb : Below W.heap.size W W') : Four w W' c s d t bm bn :=
  ⟨h.1.next hb, h.2.1.next hb, h.2.2.1.next hb, h.2.2.2.1.next hb, h.2.2.2.2.1.trans (hb.mono h.2.2.2.2.1.size), h.2.2.2.2.2.1.next hb, h.2.2.2.2.2.2⟩
theorem Five.next {w W W' : World} {c s d t : Int} {bm bn bq : Nat} {m : Int × Int} (h : Five w W c s d t bm bn bq m) (hb : Below W.heap.size W W') : Five w W' c s d t bm bn bq m :=
  ⟨h.four.next hb, h.q.next hb, h.lm, h.ln, h.gl⟩
theorem Five.alloc {w W : World} {c s d t : Int} {bm bn bq : Nat} {m : Int × Int} (h : Five w W c s d t bm bn bq m) (o : Obj) : Five w (W.alloc o) c s d t bm bn bq m := h.next ((Below.refl _ _).alloc (Nat.le_refl _) _)
theorem Four.five {w W : World} {c s d t : Int} {bm bn : Nat} (h : Four w W c s d t bm bn) (hg : 0 < w.heap.size) : Five w (W.alloc (.cells #[.int .i64 0, .int .i64 0] 23)) c s d t bm bn W.heap.size (0, 0) :=
  ⟨h.next ((Below.refl _ _).alloc (Nat.le_refl _) _), Two.start _ _ _ _, h.2.2.1.lt, h.2.2.2.1.lt, hg⟩
theorem Five.store {w W : World} {c s d t : Int} {bm bn bq : Nat} {m : Int × Int} (h : Five w W c s d t bm bn bq m) (x : Int × Int) :
    Five w ((W.setCell ⟨bq, 0, none⟩ (.int .i64 x.1)).setCell ⟨bq, 1, none⟩ (.int .i64 x.2)) c s d t bm bn bq x := by
  have h1 := h.lm
  have h2 := h.ln
  have h3 : w.heap.size + 2 ≤ bm := h.four.2.2.2.2.2.2.1
  have hb : Below bq W ((W.setCell ⟨bq, 0, none⟩ (.int .i64 x.1)).setCell ⟨bq, 1, none⟩ (.int .i64 x.2)) := ((Below.refl bq W).setCell (p := ⟨bq, 0, none⟩) (Nat.le_refl _) _).setCell (p := ⟨bq, 1, none⟩) (Nat.le_refl _) _
  have ht := h.tab
  have hg := h.gl
  exact ⟨⟨h.four.1.below hb (by omega), h.four.2.1.below hb (by omega), h.four.2.2.1.below hb (by omega), h.four.2.2.2.1.below hb (by omega), h.bel.trans (hb.mono (by omega)), var?_below hb gTab (by omega) ht, h.four.2.2.2.2.2.2⟩, h.q.store _ _, h1, h2, hg⟩
theorem leastOf_take (l : List (Int × Int)) (k : Nat) (h : k < l.length) :
    leastOf (l.take (k + 1)) = if k = 0 then l[k] else if lessB l[k].1 l[k].2 (leastOf (l.take k)).1 (leastOf (l.take k)).2 then l[k] else leastOf (l.take k) := by
  cases l with
  | nil => simp at h
  | cons x l =>
    cases k with
    | zero => simp [leastOf, leastFrom]
    | succ k =>
      have hk : k < l.length := by simpa using h
      simp only [List.take_succ_cons, List.getElem_cons_succ, leastOf, if_neg (Nat.succ_ne_zero k)]
      rw [List.take_succ_eq_append_getElem hk, leastFrom_snoc]
      rfl
theorem Five.drewN {w W : World} {c s d t : Int} {bm bn bq : Nat} {m : Int × Int} (h : Five w W c s d t bm bn bq m) (n : Nat) : Five w (W.drewN n) c s d t bm bn bq m := h.next (below_drewN (Below.refl _ _) n)
/-- Two boxes in their blocks p and q, in worlds behind W0. -/
def SR (W0 : World) (p q : Nat) (W : World) : Prop := p < W.heap.size ∧ q < W.heap.size ∧ Below W0.heap.size W0 W
def SS (W0 : World) (p q : Nat) (x m : Int × Int) (W : World) : Prop :=
  W.cell? ⟨p, 0, none⟩ = some (.int .i64 x.1) ∧ W.cell? ⟨p, 1, none⟩ = some (.int .i64 x.2) ∧ W.cell? ⟨q, 0, none⟩ = some (.int .i64 m.1) ∧ W.cell? ⟨q, 1, none⟩ = some (.int .i64 m.2) ∧ SR W0 p q W
theorem ss_start {W0 : World} {p q : Nat} {x m : Int × Int} {t : TypeId} (hp : Two W0 p t x.1 x.2) (hq : Two W0 q t m.1 m.2) : SS W0 p q x m W0.drew :=
  ⟨hp.drew.c0, hp.drew.c1, hq.drew.c0, hq.drew.c1, hp.lt, hq.lt, (Below.refl _ _).drew⟩
theorem ss_keep {W0 : World} {p q : Nat} {x m : Int × Int} {W W' : World} (hb : Below W.heap.size W W') (h : SS W0 p q x m W) : SS W0 p q x m W' := by
  obtain ⟨h0, h1, h2, h3, h4, h5, h6⟩ := h
  exact ⟨by rw [hb.cell (p := ⟨p, 0, none⟩) h4]; exact h0, by rw [hb.cell (p := ⟨p, 1, none⟩) h4]; exact h1, by rw [hb.cell (p := ⟨q, 0, none⟩) h5]; exact h2, by rw [hb.cell (p := ⟨q, 1, none⟩) h5]; exact h3,
    Nat.lt_of_lt_of_le h4 hb.size, Nat.lt_of_lt_of_le h5 hb.size, h6.trans (hb.mono h6.size)⟩
/-- The five boxes in their blocks, cell by cell. -/
def S10 (w : World) (c s d t : Int) (bm bn bq : Nat) (m : Int × Int) (W : World) : Prop :=
  W.cell? ⟨w.heap.size, 0, none⟩ = some (.int .i64 c) ∧ W.cell? ⟨w.heap.size, 1, none⟩ = some (.int .i64 s) ∧ W.cell? ⟨w.heap.size + 1, 0, none⟩ = some (.int .i64 d) ∧ W.cell? ⟨w.heap.size + 1, 1, none⟩ = some (.int .i64 t) ∧ W.cell? ⟨bm, 0, none⟩ = some (.int .i64 c) ∧ W.cell? ⟨bm, 1, none⟩ = some (.int .i64 s) ∧ W.cell? ⟨bn, 0, none⟩ = some (.int .i64 d) ∧ W.cell? ⟨bn, 1, none⟩ = some (.int .i64 t) ∧ W.cell? ⟨bq, 0, none⟩ = some (.int .i64 m.1) ∧ W.cell? ⟨bq, 1, none⟩ = some (.int .i64 m.2) ∧ Five w W c s d t bm bn bq m
theorem s10_of {w W : World} {c s d t : Int} {bm bn bq : Nat} {m : Int × Int} (h : Five w W c s d t bm bn bq m) : S10 w c s d t bm bn bq m W :=
  ⟨h.four.1.c0, h.four.1.c1, h.four.2.1.c0, h.four.2.1.c1, h.four.2.2.1.c0, h.four.2.2.1.c1, h.four.2.2.2.1.c0, h.four.2.2.2.1.c1, h.q.c0, h.q.c1, h⟩
theorem S10.five {w W : World} {c s d t : Int} {bm bn bq : Nat} {m : Int × Int} (h : S10 w c s d t bm bn bq m W) : Five w W c s d t bm bn bq m := h.2.2.2.2.2.2.2.2.2.2
theorem s10_keep {w W W' : World} {c s d t : Int} {bm bn bq : Nat} {m : Int × Int} (hb : Below W.heap.size W W') (h : S10 w c s d t bm bn bq m W) : S10 w c s d t bm bn bq m W' := s10_of (h.five.next hb)
theorem s10_drew {w W : World} {c s d t : Int} {bm bn bq : Nat} {m : Int × Int} (h : S10 w c s d t bm bn bq m W) : S10 w c s d t bm bn bq m W.drew := s10_keep (Below.refl _ _).drew h
theorem s10_tab {w W : World} {c s d t : Int} {bm bn bq : Nat} {m : Int × Int} (h : S10 w c s d t bm bn bq m W) : Tab W := h.five.tab
theorem s10_bel {w W : World} {c s d t : Int} {bm bn bq : Nat} {m : Int × Int} (h : S10 w c s d t bm bn bq m W) : Below w.heap.size w W := h.five.bel
theorem isIds_next {w W : World} {v : Value} {l : List (Int × Int)} (h : IsIds w v l) (hb : Below w.heap.size w W) : IsIds W v l := by
  obtain ⟨a, cap, hv, h1, h2, h3⟩ := h
  refine ⟨a, cap, hv, h1, h2, fun hn => ?_⟩
  obtain ⟨b, off, ha, hL⟩ := h3 hn
  refine ⟨b, off, ha, fun i hi => ?_⟩
  obtain ⟨q0, q1⟩ := hL i hi
  have hbl : b < w.heap.size := World.block_lt_of_cell? _ _ q0
  exact ⟨by rw [hb.cell (p := ⟨b, _, none⟩) hbl]; exact q0, by rw [hb.cell (p := ⟨b, _, none⟩) hbl]; exact q1⟩
/-- What Check answers. -/
def chk (c s : Int) : Int := if mayB c s then 0 else 2
/-- An id's text. -/
def txt (c s : Int) : ByteArray := if noneB c s then ⟨#[45]⟩ else if mayB c s then txtB c s else ⟨#[63]⟩
theorem check_any (c s : Int) (w : World) :
    Calls Tryd.prog 8 #[.agg #[.int .i64 c, .int .i64 s]] w
      fun e w' => e = .returned (.int .i64 (chk c s)) ∧ Below w.heap.size w w' := by
  unfold chk
  rcases h : mayB c s with _ | _
  · exact check_no c s w h
  · exact check_yes c s w h
theorem may_none {c s : Int} (h : mayB c s = true) : noneB c s = false := by
  unfold mayB at h; unfold noneB; simp at h ⊢; omega
theorem none_eq {c s : Int} (h : noneB c s = true) : c = 0 ∧ s = 0 := by
  unfold noneB at h; simpa using h
theorem string_any (c s : Int) (w : World) (ht : Tab w) :
    Calls Tryd.prog 12 #[.agg #[.int .i64 c, .int .i64 s]] w
      fun e w' => e = .returned (.string (txt c s)) ∧ Below w.heap.size w w' := by
  unfold txt
  rcases h0 : noneB c s with _ | _
  · rcases h : mayB c s with _ | _
    · exact string_wrong c s w h0 h
    · exact string_yes c s w h ht
  · obtain ⟨rfl, rfl⟩ := none_eq h0
    exact string_none w
theorem text_any (c s : Int) (w : World) (ht : Tab w) :
    Calls Tryd.prog 13 #[.agg #[.int .i64 c, .int .i64 s]] w
      fun e w' => e = .returned (.string (txt c s)) ∧ Below w.heap.size w w' := by
  unfold txt
  rcases h0 : noneB c s with _ | _
  · rcases h : mayB c s with _ | _
    · exact text_wrong c s w h0 h
    · exact text_yes c s w h ht
  · obtain ⟨rfl, rfl⟩ := none_eq h0
    exact text_none w
theorem id_cases (c s : Int) : (mayB c s = true ∧ chk c s = 0 ∧ noneB c s = false ∧ (c == 0) = false ∧ ¬ c = 0) ∨ (mayB c s = false ∧ chk c s = 2 ∧ noneB c s = true ∧ c = 0 ∧ s = 0) ∨ (mayB c s = false ∧ chk c s = 2 ∧ noneB c s = false ∧ (c == 0) = false ∧ ¬ c = 0) ∨ (mayB c s = false ∧ chk c s = 2 ∧ noneB c s = false ∧ c = 0 ∧ (s == 0) = false ∧ ¬ s = 0) := by
  rcases h : mayB c s with _ | _
  · by_cases hc : c = 0
    · by_cases hs : s = 0
      · exact .inr (.inl ⟨rfl, by simp [chk, h], by simp [noneB, hc, hs], hc, hs⟩)
      · exact .inr (.inr (.inr ⟨rfl, by simp [chk, h], by simp [noneB, hs], hc, by simpa using hs, hs⟩))
    · exact .inr (.inr (.inl ⟨rfl, by simp [chk, h], by simp [noneB, hc], by simpa using hc, hc⟩))
  · have hc : ¬ c = 0 := by unfold mayB at h; simp at h; omega
    exact .inl ⟨rfl, by simp [chk, h], may_none h, by simpa using hc, hc⟩
/-- 'wpAnyH_take' and 'AllReadyH.cons', the operation read off the list. -/
theorem take1 {P : Program} {md : Region.Mode} {ops : Array Oper} {Q : Exit → Act → World → Prop} {S : World → Prop} {i : Nat} {oi : Oper} {v : Value} {fuel : Nat} {listed : Array Bool} {a : Act} {w : World} (hi : ops.toList[i]? = some oi)
    (hs : Region.noSelect ops = true) (hf : Region.free md ops listed i = true) (hr : (Region.ready md ops listed).contains i = true)
    (hQ : ∀ c a w, Q (.panic c) (a.put oi.dst v) w → Q (.panic c) a w) (hy : YieldsIf P ops S oi v a) (hS : S w)
    (h : wpAnyH P md ops Q S fuel (listed.setIfInBounds i true) (a.put oi.dst v) w) : wpAnyH P md ops Q S (fuel + 1) listed a w :=
  wpAnyH_take (by simpa using hi) hs hf hr hQ hy hS h
theorem cons1 {P : Program} {md : Region.Mode} {ops : Array Oper} {Q : Exit → Act → World → Prop} {S : World → Prop} {fuel : Nat} {listed : Array Bool} {a : Act} {w : World} {i : Nat} {o : Oper} {rs : List Nat} (ho : ops.toList[i]? = some o)
    (h : ∀ K' : Act → World → Prop, Shut (∀ a w, S w → (S w → wpAnyH P md ops Q S fuel (listed.setIfInBounds i true) a w) → K' a w) → if Region.wanted o (yielded ops a.tmps) = true then Oper.wp P o a w K' Q else K' (a.put o.dst undef) w)
    (hs : AllReadyH P md ops Q S fuel listed a w rs) : AllReadyH P md ops Q S fuel listed a w (i :: rs) :=
  AllReadyH.cons (by simpa using ho) h hs
/-- The two boxes in their blocks. -/
def S4 (w : World) (c s d t : Int) (W : World) : Prop :=
  W.cell? ⟨w.heap.size, 0, none⟩ = some (.int .i64 c) ∧ W.cell? ⟨w.heap.size, 1, none⟩ = some (.int .i64 s) ∧ W.cell? ⟨w.heap.size + 1, 0, none⟩ = some (.int .i64 d) ∧ W.cell? ⟨w.heap.size + 1, 1, none⟩ = some (.int .i64 t) ∧ w.heap.size + 2 ≤ W.heap.size
theorem s4_below {w : World} {c s d t : Int} {W W' : World} (h : S4 w c s d t W) (hb : Below W.heap.size W W') : S4 w c s d t W' := by
  obtain ⟨h0, h1, h2, h3, h4⟩ := h
  exact ⟨by rw [hb.cell (p := ⟨_, 0, none⟩) (by show w.heap.size < _; omega)]; exact h0, by rw [hb.cell (p := ⟨_, 1, none⟩) (by show w.heap.size < _; omega)]; exact h1,
    by rw [hb.cell (p := ⟨_, 0, none⟩) (by show w.heap.size + 1 < _; omega)]; exact h2, by rw [hb.cell (p := ⟨_, 1, none⟩) (by show w.heap.size + 1 < _; omega)]; exact h3, Nat.le_trans h4 hb.size⟩
theorem s4_alloc {w : World} {c s d t : Int} {W : World} {o : Obj} (h : S4 w c s d t W) : S4 w c s d t (W.alloc o) := s4_below h ((Below.refl _ _).alloc (Nat.le_refl _) _)
theorem s4_drew {w : World} {c s d t : Int} {W : World} (h : S4 w c s d t W) : S4 w c s d t W.drew := s4_below h (Below.refl _ _).drew

set_option maxRecDepth 100000 in
set_option maxHeartbeats 40000000 in
theorem tells_short (c s d t : Int) (v : Value) (l : List (Int × Int)) (w : World) (hl : l.length ≤ 50) (hv : IsIds w v l) (ht : Tab w) :
    Calls Tryd.prog 3 #[.agg #[.int .i64 c, .int .i64 s], .agg #[.int .i64 d, .int .i64 t], v] w
      fun e w' => e = .returned (.bool true) ∧ Below w.heap.size w w' := by
  obtain ⟨a, cap, rfl, h1, h2, h3⟩ := hv
  have HT := Lib.hid ((ht.alloc (.cells #[.int .i64 c, .int .i64 s] 23)).alloc (.cells #[.int .i64 d, .int .i64 t] 23))
  have H3 := Lib.hid h3
  have hgl := ht.lt
  clear h3 ht
  go_enter Tryd.func3, Tryd.ntmps3
  go_upto_region 3 with fail
  go_cut [7, 8] (fun p q wx => ∃ bm bn, p = .pointer (some ⟨bm, 0, none⟩) ∧ q = .pointer (some ⟨bn, 0, none⟩) ∧ Four w wx c s d t bm bn)
  case first =>
    generalize hW : (w.alloc (.cells #[.int .i64 c, .int .i64 s] 23)).alloc (.cells #[.int .i64 d, .int .i64 t] 23) = W at *
    have ha : Two W w.heap.size 23 c s := by rw [← hW]; exact (Two.start _ _ _ _).alloc _
    have hb : Two W (w.heap.size + 1) 23 d t := by rw [← hW]; exact Two.startAt (by simp)
    have hsz : W.heap.size = w.heap.size + 2 := by rw [← hW]; simp
    have hbel : Below w.heap.size w W := by rw [← hW]; exact ((Below.refl _ _).alloc (Nat.le_refl _) _).alloc (by simp) _
    clear hW
    have hs : S4 w c s d t W := ⟨ha.c0, ha.c1, hb.c0, hb.c1, by omega⟩
    have HA := Lib.hid (⟨ha, hb, hsz, hbel, HT.out⟩ : _ ∧ _ ∧ _ ∧ _ ∧ _)
    clear ha hb hsz hbel HT
    go_region_held3 (fun w' => w'.cell? ⟨w.heap.size, 0, none⟩ = some (.int .i64 c) ∧ w'.cell? ⟨w.heap.size, 1, none⟩ = some (.int .i64 s) ∧ w'.cell? ⟨w.heap.size + 1, 0, none⟩ = some (.int .i64 d) ∧ w'.cell? ⟨w.heap.size + 1, 1, none⟩ = some (.int .i64 t) ∧ w.heap.size + 2 ≤ w'.heap.size) ((repeat (first | exact hs | apply s4_drew | apply s4_alloc)))
      (first
        | (go_at_call 6; refine (of_exact _ _ _).mono ?_; rintro e w' ⟨rfl, rfl⟩))
    all_goals
      go_wp2_with fail
      go_meet
      refine ⟨_, _, rfl, rfl, four_mk HA.out.1 HA.out.2.1 HA.out.2.2.1 HA.out.2.2.2.1 HA.out.2.2.2.2 ?_ ?_ ?_ ?_ ?_⟩
      · (repeat (first | exact Below.refl _ _ | apply Below.drew | apply Below.alloc)) <;> (simp <;> omega)
      · (repeat (first | apply Two.drew | (apply Two.startAt; simp; done) | apply Two.alloc))
      · (repeat (first | apply Two.drew | (apply Two.startAt; simp; done) | apply Two.alloc))
      · omega
      · omega
  case rest =>
    obtain ⟨bm, bn, rfl, rfl, hF⟩ := hcut
    have HF := Lib.hid hF
    clear hF HT
    go_wp2_with fail
    go_loopg [23] l.length (fun g i wr => ∃ k : Nat, k ≤ l.length ∧ g = l.length - k ∧ i = .int .i64 k ∧ Five w wr c s d t bm bn wc.heap.size (leastOf (l.take k)))
    case atStart => exact ⟨0, Nat.zero_le _, rfl, rfl, HF.out.five hgl⟩
    case round =>
      obtain ⟨k, hk, rfl, rfl, hR⟩ := hrel
      clear HF
      by_cases hlt : k < l.length
      · obtain ⟨b, off, rfl, hL⟩ := H3.out (by rintro rfl; simp at hlt)
        have hcl := hL k hlt
        have hbl : b < w.heap.size := World.block_lt_of_cell? _ _ hcl.1
        have hy0 : wr.cell? ⟨b, off + k * 2, none⟩ = some (.int .i64 l[k].1) := by rw [hR.bel.cell (p := ⟨b, _, none⟩) hbl]; exact hcl.1
        have hy1 : wr.cell? ⟨b, off + k * 2 + 1, none⟩ = some (.int .i64 l[k].2) := by rw [hR.bel.cell (p := ⟨b, _, none⟩) hbl]; exact hcl.2
        have hsn := Lib.hid (leastOf_take l k hlt)
        clear hcl hL H3
        generalize l[k] = y at *
        have HR := Lib.hid hR
        have hq0 : ∀ o, (wr.alloc o).cell? ⟨wc.heap.size, 0, none⟩ = some (.int .i64 (leastOf (l.take k)).1) := fun o => (hR.q.alloc o).c0
        have hq1 : ∀ o, (wr.alloc o).cell? ⟨wc.heap.size, 1, none⟩ = some (.int .i64 (leastOf (l.take k)).2) := fun o => (hR.q.alloc o).c1
        clear hR
        by_cases hk0 : k = 0
        · subst hk0
          have hf0 : ∀ o, (wr.alloc o).frozen? ⟨wc.heap.size, 0, none⟩ = false := fun o => (HR.out.q.alloc o).f0
          have hf1 : ∀ o, (wr.alloc o).frozen? ⟨wc.heap.size, 1, none⟩ = false := fun o => (HR.out.q.alloc o).f1
          simp only [Nat.zero_mul, Nat.add_zero] at hy0 hy1
          go_wp2_with fail
          go_quiet (fail)
          go_wp2_with fail
          go_roundg (l.length - 1)
          case measure => omega
          case rel =>
            refine ⟨1, by omega, rfl, rfl, ?_⟩
            have e : leastOf (l.take 1) = y := hsn.out.trans (if_pos trivial)
            rw [e]
            first | exact ((HR.out.store y).alloc _).drewN _ | exact ((HR.out.alloc _).store y).drewN _
        · have hkb : ((k : Int) == 0) = false := by simp; omega
          rw [if_neg hk0] at hsn
          generalize hm : leastOf (l.take k) = m at *
          have HM := Lib.hid hm
          clear hm
          go_wp2_with fail
          have hs0 : SS (wr.alloc (.cells #[.int .i64 y.1, .int .i64 y.2] 23)) wr.heap.size wc.heap.size y m (wr.alloc (.cells #[.int .i64 y.1, .int .i64 y.2] 23)).drew :=
            ss_start (Two.start _ _ _ _) (HR.out.q.alloc _)
          rcases hless : lessB y.1 y.2 m.1 m.2 with _ | _
          all_goals
            go_region_held3 (fun w' => w'.cell? ⟨wr.heap.size, 0, none⟩ = some (.int .i64 y.1) ∧ w'.cell? ⟨wr.heap.size, 1, none⟩ = some (.int .i64 y.2) ∧ w'.cell? ⟨wc.heap.size, 0, none⟩ = some (.int .i64 m.1) ∧ w'.cell? ⟨wc.heap.size, 1, none⟩ = some (.int .i64 m.2) ∧ SR (wr.alloc (.cells #[.int .i64 y.1, .int .i64 y.2] 23)) wr.heap.size wc.heap.size w')
              (first | exact hs0 | (apply ss_keep (x := y) (m := m); assumption; assumption))
              (first
                | (go_at_call 6; refine (of_any _ _ _).mono ?_; rintro e w' ⟨rfl, hb⟩)
                | (go_at_call 7; refine (refLess_any _ _ _ _ _).mono ?_; rintro e w' ⟨rfl, hb⟩))
          · rename_i hh
            have hfin := Lib.hid ((HR.out.alloc _).next hh.2.2.2.2.2.2)
            clear hh hs0 HR hq0 hq1 hy0 hy1
            go_wp2_with fail
            go_roundg (l.length - (k + 1))
            case measure => omega
            case rel =>
              refine ⟨k + 1, by omega, rfl, by go_num, ?_⟩
              have e : leastOf (l.take (k + 1)) = m := by rw [hsn.out, if_neg (by simp [hless])]
              rw [e]
              exact hfin.out
          · rename_i hh
            have hfi := (HR.out.alloc _).next hh.2.2.2.2.2.2
            have hfin := Lib.hid hfi
            have q0 := hfi.q.c0
            have q1 := hfi.q.c1
            have q2 := hfi.q.f0
            have q3 := hfi.q.f1
            have q4 := hh.1
            have q5 := hh.2.1
            clear hh hs0 HR hq0 hq1 hy0 hy1 hfi
            go_wp2_with fail
            go_roundg (l.length - (k + 1))
            case measure => omega
            case rel =>
              refine ⟨k + 1, by omega, rfl, by go_num, ?_⟩
              have e : leastOf (l.take (k + 1)) = y := by rw [hsn.out, if_pos hless]
              rw [e]
              exact hfin.out.store y
      · have hkl : k = l.length := by omega
        have e : l.take k = l := by rw [hkl]; exact List.take_length
        rw [e] at hR
        have HR := Lib.hid hR
        clear hR e hkl
        go_wp2_with fail
        have hs0 := s10_drew (s10_of HR.out)
        have hV : IsIds w (.slice a l.length cap) l := ⟨a, cap, rfl, h1, h2, H3.out⟩
        have HV := Lib.hid hV
        clear HR hV H3
        have hcases : (mayB c s = true ∧ chk c s = 0 ∧ noneB c s = false ∧ (c == 0) = false ∧ ¬ c = 0) ∨ (mayB c s = false ∧ chk c s = 2 ∧ noneB c s = true ∧ c = 0 ∧ s = 0) ∨ (mayB c s = false ∧ chk c s = 2 ∧ noneB c s = false ∧ (c == 0) = false ∧ ¬ c = 0) ∨ (mayB c s = false ∧ chk c s = 2 ∧ noneB c s = false ∧ c = 0 ∧ (s == 0) = false ∧ ¬ s = 0) := id_cases c s
        rcases hcases with ⟨e1, e2, e3, e4, e5⟩ | ⟨e1, e2, e3, rfl, rfl⟩ | ⟨e1, e2, e3, e4, e5⟩ | ⟨e1, e2, e3, rfl, e4, e5⟩
        · refine wp_region_noPanic ?_
          refine wp_region_held_drew (S := (fun w' => w'.cell? ⟨w.heap.size, 0, none⟩ = some (.int .i64 c) ∧ w'.cell? ⟨w.heap.size, 1, none⟩ = some (.int .i64 s) ∧ w'.cell? ⟨w.heap.size + 1, 0, none⟩ = some (.int .i64 d) ∧ w'.cell? ⟨w.heap.size + 1, 1, none⟩ = some (.int .i64 t) ∧ w'.cell? ⟨bm, 0, none⟩ = some (.int .i64 c) ∧ w'.cell? ⟨bm, 1, none⟩ = some (.int .i64 s) ∧ w'.cell? ⟨bn, 0, none⟩ = some (.int .i64 d) ∧ w'.cell? ⟨bn, 1, none⟩ = some (.int .i64 t) ∧ w'.cell? ⟨wc.heap.size, 0, none⟩ = some (.int .i64 (leastOf l).1) ∧ w'.cell? ⟨wc.heap.size, 1, none⟩ = some (.int .i64 (leastOf l).2) ∧ Five w w' c s d t bm bn wc.heap.size (leastOf l))) (by kernel_rfl) ?_ (fun hHeld => ?_)
          · exact hs0
          clear hs0
          refine wpAnyH_ready (rs := [0]) (by kernel_rfl) (by simp) ?_
          refine cons1 rfl (fun K hK => ?_) AllReadyH.nil
          go_simp
          refine (awake_any _ ?_).mono ?_
          · (apply s10_tab (w := w) (c := c) (s := s) (d := d) (t := t) (bm := bm) (bn := bn) (bq := wc.heap.size) (m := leastOf l); exact hHeld)
          rintro e w100 ⟨rfl, hb⟩
          go_wp2_with fail
          refine hK.out _ _ (s10_keep hb hHeld) (fun hHeld2 => ?_)
          clear hK K hHeld hb
          have hHeld := hHeld2
          clear hHeld2
          try simp only [Act.put, List.setIfInBounds_toArray, List.set_cons_zero, List.set_cons_succ]
          refine take1 (i := 1) (v := .bool true) rfl (by kernel_rfl) (by kernel_rfl) (by kernel_rfl) (fun _ _ _ h => h) (Or.inl ⟨by rfl, fun w hSw => ?_⟩) hHeld ?_
          · (go_simp)
          try simp only [Act.put, List.setIfInBounds_toArray, List.set_cons_zero, List.set_cons_succ]
          refine take1 (i := 2) (v := .agg #[.int .i64 c, .int .i64 s]) rfl (by kernel_rfl) (by kernel_rfl) (by kernel_rfl) (fun _ _ _ h => h) (Or.inl ⟨by rfl, fun w hSw => ?_⟩) hHeld ?_
          · (go_simp)
          try simp only [Act.put, List.setIfInBounds_toArray, List.set_cons_zero, List.set_cons_succ]
          refine take1 (i := 5) (v := .agg #[.int .i64 c, .int .i64 s]) rfl (by kernel_rfl) (by kernel_rfl) (by kernel_rfl) (fun _ _ _ h => h) (Or.inl ⟨by rfl, fun w hSw => ?_⟩) hHeld ?_
          · (go_simp)
          try simp only [Act.put, List.setIfInBounds_toArray, List.set_cons_zero, List.set_cons_succ]
          refine wpAnyH_ready (rs := [3]) (by kernel_rfl) (by simp) ?_
          refine cons1 rfl (fun K hK => ?_) AllReadyH.nil
          go_simp
          refine (check_any _ _ _).mono ?_
          rintro e w103 ⟨rfl, hb⟩
          go_wp2_with fail
          refine hK.out _ _ (s10_keep hb hHeld) (fun hHeld2 => ?_)
          clear hK K hHeld hb
          have hHeld := hHeld2
          clear hHeld2
          try simp only [Act.put, List.setIfInBounds_toArray, List.set_cons_zero, List.set_cons_succ]
          refine take1 (i := 4) (v := .bool true) rfl (by kernel_rfl) (by kernel_rfl) (by kernel_rfl) (fun _ _ _ h => h) (Or.inl ⟨by rfl, fun w hSw => ?_⟩) hHeld ?_
          · (go_simp)
          try simp only [Act.put, List.setIfInBounds_toArray, List.set_cons_zero, List.set_cons_succ]
          refine wpAnyH_ready (rs := [6]) (by kernel_rfl) (by simp) ?_
          refine cons1 rfl (fun K hK => ?_) AllReadyH.nil
          go_simp
          refine (may_any _ _ _).mono ?_
          rintro e w106 ⟨rfl, hb⟩
          go_wp2_with fail
          refine hK.out _ _ (s10_keep hb hHeld) (fun hHeld2 => ?_)
          clear hK K hHeld hb
          have hHeld := hHeld2
          clear hHeld2
          try simp only [Act.put, List.setIfInBounds_toArray, List.set_cons_zero, List.set_cons_succ]
          refine take1 (i := 7) (v := .bool true) rfl (by kernel_rfl) (by kernel_rfl) (by kernel_rfl) (fun _ _ _ h => h) (Or.inl ⟨by rfl, fun w hSw => ?_⟩) hHeld ?_
          · (go_simp)
          try simp only [Act.put, List.setIfInBounds_toArray, List.set_cons_zero, List.set_cons_succ]
          refine take1 (i := 8) (v := .bool true) rfl (by kernel_rfl) (by kernel_rfl) (by kernel_rfl) (fun _ _ _ h => h) (Or.inl ⟨by rfl, fun w hSw => ?_⟩) hHeld ?_
          · (go_simp)
          try simp only [Act.put, List.setIfInBounds_toArray, List.set_cons_zero, List.set_cons_succ]
          refine take1 (i := 9) (v := .bool true) rfl (by kernel_rfl) (by kernel_rfl) (by kernel_rfl) (fun _ _ _ h => h) (Or.inl ⟨by rfl, fun w hSw => ?_⟩) hHeld ?_
          · (go_simp)
          try simp only [Act.put, List.setIfInBounds_toArray, List.set_cons_zero, List.set_cons_succ]
          refine take1 (i := 10) (v := .agg #[.int .i64 c, .int .i64 s]) rfl (by kernel_rfl) (by kernel_rfl) (by kernel_rfl) (fun _ _ _ h => h) (Or.inl ⟨by rfl, fun w hSw => ?_⟩) hHeld ?_
          · (go_simp)
          try simp only [Act.put, List.setIfInBounds_toArray, List.set_cons_zero, List.set_cons_succ]
          refine wpAnyH_ready (rs := [11]) (by kernel_rfl) (by simp) ?_
          refine cons1 rfl (fun K hK => ?_) AllReadyH.nil
          go_simp
          refine (check_any _ _ _).mono ?_
          rintro e w111 ⟨rfl, hb⟩
          go_wp2_with fail
          refine hK.out _ _ (s10_keep hb hHeld) (fun hHeld2 => ?_)
          clear hK K hHeld hb
          have hHeld := hHeld2
          clear hHeld2
          try simp only [Act.put, List.setIfInBounds_toArray, List.set_cons_zero, List.set_cons_succ]
          refine take1 (i := 12) (v := .bool true) rfl (by kernel_rfl) (by kernel_rfl) (by kernel_rfl) (fun _ _ _ h => h) (Or.inl ⟨by rfl, fun w hSw => ?_⟩) hHeld ?_
          · (go_simp)
          try simp only [Act.put, List.setIfInBounds_toArray, List.set_cons_zero, List.set_cons_succ]
          refine take1 (i := 13) (v := .bool true) rfl (by kernel_rfl) (by kernel_rfl) (by kernel_rfl) (fun _ _ _ h => h) (Or.inl ⟨by rfl, fun w hSw => ?_⟩) hHeld ?_
          · (go_simp)
          try simp only [Act.put, List.setIfInBounds_toArray, List.set_cons_zero, List.set_cons_succ]
          refine take1 (i := 14) (v := undef) rfl (by kernel_rfl) (by kernel_rfl) (by kernel_rfl) (fun _ _ _ h => h) (Or.inr ⟨by rfl, rfl⟩) hHeld ?_
          try simp only [Act.put, List.setIfInBounds_toArray, List.set_cons_zero, List.set_cons_succ]
          refine take1 (i := 15) (v := undef) rfl (by kernel_rfl) (by kernel_rfl) (by kernel_rfl) (fun _ _ _ h => h) (Or.inr ⟨by rfl, rfl⟩) hHeld ?_
          try simp only [Act.put, List.setIfInBounds_toArray, List.set_cons_zero, List.set_cons_succ]
          refine take1 (i := 16) (v := undef) rfl (by kernel_rfl) (by kernel_rfl) (by kernel_rfl) (fun _ _ _ h => h) (Or.inr ⟨by rfl, rfl⟩) hHeld ?_
          try simp only [Act.put, List.setIfInBounds_toArray, List.set_cons_zero, List.set_cons_succ]
          refine take1 (i := 17) (v := .bool true) rfl (by kernel_rfl) (by kernel_rfl) (by kernel_rfl) (fun _ _ _ h => h) (Or.inl ⟨by rfl, fun w hSw => ?_⟩) hHeld ?_
          · (go_simp)
          try simp only [Act.put, List.setIfInBounds_toArray, List.set_cons_zero, List.set_cons_succ]
          refine take1 (i := 18) (v := .bool true) rfl (by kernel_rfl) (by kernel_rfl) (by kernel_rfl) (fun _ _ _ h => h) (Or.inl ⟨by rfl, fun w hSw => ?_⟩) hHeld ?_
          · (go_simp)
          try simp only [Act.put, List.setIfInBounds_toArray, List.set_cons_zero, List.set_cons_succ]
          refine take1 (i := 19) (v := .bool true) rfl (by kernel_rfl) (by kernel_rfl) (by kernel_rfl) (fun _ _ _ h => h) (Or.inl ⟨by rfl, fun w hSw => ?_⟩) hHeld ?_
          · (go_simp)
          try simp only [Act.put, List.setIfInBounds_toArray, List.set_cons_zero, List.set_cons_succ]
          refine take1 (i := 20) (v := .agg #[.int .i64 c, .int .i64 s]) rfl (by kernel_rfl) (by kernel_rfl) (by kernel_rfl) (fun _ _ _ h => h) (Or.inl ⟨by rfl, fun w hSw => ?_⟩) hHeld ?_
          · (go_simp)
          try simp only [Act.put, List.setIfInBounds_toArray, List.set_cons_zero, List.set_cons_succ]
          refine take1 (i := 21) (v := .agg #[.int .i64 d, .int .i64 t]) rfl (by kernel_rfl) (by kernel_rfl) (by kernel_rfl) (fun _ _ _ h => h) (Or.inl ⟨by rfl, fun w hSw => ?_⟩) hHeld ?_
          · (go_simp)
          try simp only [Act.put, List.setIfInBounds_toArray, List.set_cons_zero, List.set_cons_succ]
          refine take1 (i := 23) (v := .agg #[.int .i64 c, .int .i64 s]) rfl (by kernel_rfl) (by kernel_rfl) (by kernel_rfl) (fun _ _ _ h => h) (Or.inl ⟨by rfl, fun w hSw => ?_⟩) hHeld ?_
          · (go_simp)
          try simp only [Act.put, List.setIfInBounds_toArray, List.set_cons_zero, List.set_cons_succ]
          refine take1 (i := 24) (v := .agg #[.int .i64 d, .int .i64 t]) rfl (by kernel_rfl) (by kernel_rfl) (by kernel_rfl) (fun _ _ _ h => h) (Or.inl ⟨by rfl, fun w hSw => ?_⟩) hHeld ?_
          · (go_simp)
          try simp only [Act.put, List.setIfInBounds_toArray, List.set_cons_zero, List.set_cons_succ]
          refine wpAnyH_ready (rs := [22]) (by kernel_rfl) (by simp) ?_
          refine cons1 rfl (fun K hK => ?_) AllReadyH.nil
          go_simp
          refine (less_any _ _ _ _ _).mono ?_
          rintro e w122 ⟨rfl, hb⟩
          go_wp2_with fail
          refine hK.out _ _ (s10_keep hb hHeld) (fun hHeld2 => ?_)
          clear hK K hHeld hb
          have hHeld := hHeld2
          clear hHeld2
          try simp only [Act.put, List.setIfInBounds_toArray, List.set_cons_zero, List.set_cons_succ]
          refine wpAnyH_ready (rs := [25]) (by kernel_rfl) (by simp) ?_
          refine cons1 rfl (fun K hK => ?_) AllReadyH.nil
          go_simp
          refine (refLess_any _ _ _ _ _).mono ?_
          rintro e w125 ⟨rfl, hb⟩
          go_wp2_with fail
          refine hK.out _ _ (s10_keep hb hHeld) (fun hHeld2 => ?_)
          clear hK K hHeld hb
          have hHeld := hHeld2
          clear hHeld2
          try simp only [Act.put, List.setIfInBounds_toArray, List.set_cons_zero, List.set_cons_succ]
          refine take1 (i := 26) (v := .bool true) rfl (by kernel_rfl) (by kernel_rfl) (by kernel_rfl) (fun _ _ _ h => h) (Or.inl ⟨by rfl, fun w hSw => ?_⟩) hHeld ?_
          · (go_simp)
          try simp only [Act.put, List.setIfInBounds_toArray, List.set_cons_zero, List.set_cons_succ]
          refine take1 (i := 27) (v := .bool true) rfl (by kernel_rfl) (by kernel_rfl) (by kernel_rfl) (fun _ _ _ h => h) (Or.inl ⟨by rfl, fun w hSw => ?_⟩) hHeld ?_
          · (go_simp)
          try simp only [Act.put, List.setIfInBounds_toArray, List.set_cons_zero, List.set_cons_succ]
          refine take1 (i := 28) (v := .bool true) rfl (by kernel_rfl) (by kernel_rfl) (by kernel_rfl) (fun _ _ _ h => h) (Or.inl ⟨by rfl, fun w hSw => ?_⟩) hHeld ?_
          · (go_simp)
          try simp only [Act.put, List.setIfInBounds_toArray, List.set_cons_zero, List.set_cons_succ]
          refine take1 (i := 29) (v := .agg #[.int .i64 c, .int .i64 s]) rfl (by kernel_rfl) (by kernel_rfl) (by kernel_rfl) (fun _ _ _ h => h) (Or.inl ⟨by rfl, fun w hSw => ?_⟩) hHeld ?_
          · (go_simp)
          try simp only [Act.put, List.setIfInBounds_toArray, List.set_cons_zero, List.set_cons_succ]
          refine take1 (i := 31) (v := .agg #[.int .i64 c, .int .i64 s]) rfl (by kernel_rfl) (by kernel_rfl) (by kernel_rfl) (fun _ _ _ h => h) (Or.inl ⟨by rfl, fun w hSw => ?_⟩) hHeld ?_
          · (go_simp)
          try simp only [Act.put, List.setIfInBounds_toArray, List.set_cons_zero, List.set_cons_succ]
          refine take1 (i := 32) (v := .agg #[.int .i64 0, .int .i64 0]) rfl (by kernel_rfl) (by kernel_rfl) (by kernel_rfl) (fun _ _ _ h => h) (Or.inl ⟨by rfl, fun w hSw => ?_⟩) hHeld ?_
          · (go_simp)
          try simp only [Act.put, List.setIfInBounds_toArray, List.set_cons_zero, List.set_cons_succ]
          refine take1 (i := 33) (v := .bool false) rfl (by kernel_rfl) (by kernel_rfl) (by kernel_rfl) (fun _ _ _ h => h) (Or.inl ⟨by rfl, fun w hSw => ?_⟩) hHeld ?_
          · (go_simp)
          try simp only [Act.put, List.setIfInBounds_toArray, List.set_cons_zero, List.set_cons_succ]
          refine wpAnyH_ready (rs := [30]) (by kernel_rfl) (by simp) ?_
          refine cons1 rfl (fun K hK => ?_) AllReadyH.nil
          go_simp
          refine (none_any _ _ _).mono ?_
          rintro e w130 ⟨rfl, hb⟩
          go_wp2_with fail
          refine hK.out _ _ (s10_keep hb hHeld) (fun hHeld2 => ?_)
          clear hK K hHeld hb
          have hHeld := hHeld2
          clear hHeld2
          try simp only [Act.put, List.setIfInBounds_toArray, List.set_cons_zero, List.set_cons_succ]
          refine take1 (i := 34) (v := .bool true) rfl (by kernel_rfl) (by kernel_rfl) (by kernel_rfl) (fun _ _ _ h => h) (Or.inl ⟨by rfl, fun w hSw => ?_⟩) hHeld ?_
          · (go_simp)
          try simp only [Act.put, List.setIfInBounds_toArray, List.set_cons_zero, List.set_cons_succ]
          refine take1 (i := 35) (v := .bool true) rfl (by kernel_rfl) (by kernel_rfl) (by kernel_rfl) (fun _ _ _ h => h) (Or.inl ⟨by rfl, fun w hSw => ?_⟩) hHeld ?_
          · (go_simp)
          try simp only [Act.put, List.setIfInBounds_toArray, List.set_cons_zero, List.set_cons_succ]
          refine take1 (i := 36) (v := .bool true) rfl (by kernel_rfl) (by kernel_rfl) (by kernel_rfl) (fun _ _ _ h => h) (Or.inl ⟨by rfl, fun w hSw => ?_⟩) hHeld ?_
          · (go_simp)
          try simp only [Act.put, List.setIfInBounds_toArray, List.set_cons_zero, List.set_cons_succ]
          refine take1 (i := 37) (v := .agg #[.int .i64 c, .int .i64 s]) rfl (by kernel_rfl) (by kernel_rfl) (by kernel_rfl) (fun _ _ _ h => h) (Or.inl ⟨by rfl, fun w hSw => ?_⟩) hHeld ?_
          · (go_simp)
          try simp only [Act.put, List.setIfInBounds_toArray, List.set_cons_zero, List.set_cons_succ]
          refine take1 (i := 39) (v := .agg #[.int .i64 c, .int .i64 s]) rfl (by kernel_rfl) (by kernel_rfl) (by kernel_rfl) (fun _ _ _ h => h) (Or.inl ⟨by rfl, fun w hSw => ?_⟩) hHeld ?_
          · (go_simp)
          try simp only [Act.put, List.setIfInBounds_toArray, List.set_cons_zero, List.set_cons_succ]
          refine wpAnyH_ready (rs := [38]) (by kernel_rfl) (by simp) ?_
          refine cons1 rfl (fun K hK => ?_) AllReadyH.nil
          go_simp
          refine (string_any _ _ _ ?_).mono ?_
          · (apply s10_tab (w := w) (c := c) (s := s) (d := d) (t := t) (bm := bm) (bn := bn) (bq := wc.heap.size) (m := leastOf l); exact hHeld)
          rintro e w138 ⟨rfl, hb⟩
          go_wp2_with fail
          refine hK.out _ _ (s10_keep hb hHeld) (fun hHeld2 => ?_)
          clear hK K hHeld hb
          have hHeld := hHeld2
          clear hHeld2
          try simp only [Act.put, List.setIfInBounds_toArray, List.set_cons_zero, List.set_cons_succ]
          refine wpAnyH_ready (rs := [40]) (by kernel_rfl) (by simp) ?_
          refine cons1 rfl (fun K hK => ?_) AllReadyH.nil
          go_simp
          refine (text_any _ _ _ ?_).mono ?_
          · (apply s10_tab (w := w) (c := c) (s := s) (d := d) (t := t) (bm := bm) (bn := bn) (bq := wc.heap.size) (m := leastOf l); exact hHeld)
          rintro e w140 ⟨rfl, hb⟩
          go_wp2_with fail
          refine hK.out _ _ (s10_keep hb hHeld) (fun hHeld2 => ?_)
          clear hK K hHeld hb
          have hHeld := hHeld2
          clear hHeld2
          try simp only [Act.put, List.setIfInBounds_toArray, List.set_cons_zero, List.set_cons_succ]
          refine take1 (i := 41) (v := .bool true) rfl (by kernel_rfl) (by kernel_rfl) (by kernel_rfl) (fun _ _ _ h => h) (Or.inl ⟨by rfl, fun w hSw => ?_⟩) hHeld ?_
          · (go_simp)
          try simp only [Act.put, List.setIfInBounds_toArray, List.set_cons_zero, List.set_cons_succ]
          refine take1 (i := 42) (v := .bool true) rfl (by kernel_rfl) (by kernel_rfl) (by kernel_rfl) (fun _ _ _ h => h) (Or.inl ⟨by rfl, fun w hSw => ?_⟩) hHeld ?_
          · (go_simp)
          try simp only [Act.put, List.setIfInBounds_toArray, List.set_cons_zero, List.set_cons_succ]
          refine take1 (i := 43) (v := .bool true) rfl (by kernel_rfl) (by kernel_rfl) (by kernel_rfl) (fun _ _ _ h => h) (Or.inl ⟨by rfl, fun w hSw => ?_⟩) hHeld ?_
          · (go_simp)
          try simp only [Act.put, List.setIfInBounds_toArray, List.set_cons_zero, List.set_cons_succ]
          refine take1 (i := 44) (v := .slice a l.length cap) rfl (by kernel_rfl) (by kernel_rfl) (by kernel_rfl) (fun _ _ _ h => h) (Or.inl ⟨by rfl, fun w hSw => ?_⟩) hHeld ?_
          · (go_simp)
          try simp only [Act.put, List.setIfInBounds_toArray, List.set_cons_zero, List.set_cons_succ]
          refine take1 (i := 46) (v := .agg #[.int .i64 (leastOf l).1, .int .i64 (leastOf l).2]) rfl (by kernel_rfl) (by kernel_rfl) (by kernel_rfl) (fun _ _ _ h => h) (Or.inl ⟨by rfl, fun w hSw => ?_⟩) hHeld ?_
          · (go_simp)
          try simp only [Act.put, List.setIfInBounds_toArray, List.set_cons_zero, List.set_cons_succ]
          refine wpAnyH_ready (rs := [45]) (by kernel_rfl) (by simp) ?_
          refine cons1 rfl (fun K hK => ?_) AllReadyH.nil
          go_simp
          refine (least_any _ l _ hl ?_).mono ?_
          · (apply isIds_next HV.out; apply s10_bel (c := c) (s := s) (d := d) (t := t) (bm := bm) (bn := bn) (bq := wc.heap.size) (m := leastOf l); exact hHeld)
          rintro e w145 ⟨rfl, hb⟩
          go_wp2_with fail
          refine hK.out _ _ (s10_keep hb hHeld) (fun hHeld2 => ?_)
          clear hK K hHeld hb
          have hHeld := hHeld2
          clear hHeld2
          try simp only [Act.put, List.setIfInBounds_toArray, List.set_cons_zero, List.set_cons_succ]
          refine take1 (i := 47) (v := .bool true) rfl (by kernel_rfl) (by kernel_rfl) (by kernel_rfl) (fun _ _ _ h => h) (Or.inl ⟨by rfl, fun w hSw => ?_⟩) hHeld ?_
          · (go_simp)
          try simp only [Act.put, List.setIfInBounds_toArray, List.set_cons_zero, List.set_cons_succ]
          refine take1 (i := 48) (v := .bool true) rfl (by kernel_rfl) (by kernel_rfl) (by kernel_rfl) (fun _ _ _ h => h) (Or.inl ⟨by rfl, fun w hSw => ?_⟩) hHeld ?_
          · (go_simp)
          try simp only [Act.put, List.setIfInBounds_toArray, List.set_cons_zero, List.set_cons_succ]
          refine take1 (i := 49) (v := .bool true) rfl (by kernel_rfl) (by kernel_rfl) (by kernel_rfl) (fun _ _ _ h => h) (Or.inl ⟨by rfl, fun w hSw => ?_⟩) hHeld ?_
          · (go_simp)
          try simp only [Act.put, List.setIfInBounds_toArray, List.set_cons_zero, List.set_cons_succ]
          refine wpAnyH_done (by kernel_rfl) ?_ _
          refine NoPanic.normal ?_
          go_wp2_with fail
          go_ret
          exact ⟨rfl, s10_bel (c := c) (s := s) (d := d) (t := t) (bm := bm) (bn := bn) (bq := wc.heap.size) (m := leastOf l) hHeld⟩
        · refine wp_region_noPanic ?_
          refine wp_region_held_drew (S := (fun w' => w'.cell? ⟨w.heap.size, 0, none⟩ = some (.int .i64 0) ∧ w'.cell? ⟨w.heap.size, 1, none⟩ = some (.int .i64 0) ∧ w'.cell? ⟨w.heap.size + 1, 0, none⟩ = some (.int .i64 d) ∧ w'.cell? ⟨w.heap.size + 1, 1, none⟩ = some (.int .i64 t) ∧ w'.cell? ⟨bm, 0, none⟩ = some (.int .i64 0) ∧ w'.cell? ⟨bm, 1, none⟩ = some (.int .i64 0) ∧ w'.cell? ⟨bn, 0, none⟩ = some (.int .i64 d) ∧ w'.cell? ⟨bn, 1, none⟩ = some (.int .i64 t) ∧ w'.cell? ⟨wc.heap.size, 0, none⟩ = some (.int .i64 (leastOf l).1) ∧ w'.cell? ⟨wc.heap.size, 1, none⟩ = some (.int .i64 (leastOf l).2) ∧ Five w w' 0 0 d t bm bn wc.heap.size (leastOf l))) (by kernel_rfl) ?_ (fun hHeld => ?_)
          · exact hs0
          clear hs0
          refine wpAnyH_ready (rs := [0]) (by kernel_rfl) (by simp) ?_
          refine cons1 rfl (fun K hK => ?_) AllReadyH.nil
          go_simp
          refine (awake_any _ ?_).mono ?_
          · (apply s10_tab (w := w) (c := 0) (s := 0) (d := d) (t := t) (bm := bm) (bn := bn) (bq := wc.heap.size) (m := leastOf l); exact hHeld)
          rintro e w100 ⟨rfl, hb⟩
          go_wp2_with fail
          refine hK.out _ _ (s10_keep hb hHeld) (fun hHeld2 => ?_)
          clear hK K hHeld hb
          have hHeld := hHeld2
          clear hHeld2
          try simp only [Act.put, List.setIfInBounds_toArray, List.set_cons_zero, List.set_cons_succ]
          refine take1 (i := 1) (v := .bool true) rfl (by kernel_rfl) (by kernel_rfl) (by kernel_rfl) (fun _ _ _ h => h) (Or.inl ⟨by rfl, fun w hSw => ?_⟩) hHeld ?_
          · (go_simp)
          try simp only [Act.put, List.setIfInBounds_toArray, List.set_cons_zero, List.set_cons_succ]
          refine take1 (i := 2) (v := .agg #[.int .i64 0, .int .i64 0]) rfl (by kernel_rfl) (by kernel_rfl) (by kernel_rfl) (fun _ _ _ h => h) (Or.inl ⟨by rfl, fun w hSw => ?_⟩) hHeld ?_
          · (go_simp)
          try simp only [Act.put, List.setIfInBounds_toArray, List.set_cons_zero, List.set_cons_succ]
          refine take1 (i := 5) (v := .agg #[.int .i64 0, .int .i64 0]) rfl (by kernel_rfl) (by kernel_rfl) (by kernel_rfl) (fun _ _ _ h => h) (Or.inl ⟨by rfl, fun w hSw => ?_⟩) hHeld ?_
          · (go_simp)
          try simp only [Act.put, List.setIfInBounds_toArray, List.set_cons_zero, List.set_cons_succ]
          refine wpAnyH_ready (rs := [3]) (by kernel_rfl) (by simp) ?_
          refine cons1 rfl (fun K hK => ?_) AllReadyH.nil
          go_simp
          refine (check_any _ _ _).mono ?_
          rintro e w103 ⟨rfl, hb⟩
          go_wp2_with fail
          refine hK.out _ _ (s10_keep hb hHeld) (fun hHeld2 => ?_)
          clear hK K hHeld hb
          have hHeld := hHeld2
          clear hHeld2
          try simp only [Act.put, List.setIfInBounds_toArray, List.set_cons_zero, List.set_cons_succ]
          refine take1 (i := 4) (v := .bool false) rfl (by kernel_rfl) (by kernel_rfl) (by kernel_rfl) (fun _ _ _ h => h) (Or.inl ⟨by rfl, fun w hSw => ?_⟩) hHeld ?_
          · (go_simp)
          try simp only [Act.put, List.setIfInBounds_toArray, List.set_cons_zero, List.set_cons_succ]
          refine wpAnyH_ready (rs := [6]) (by kernel_rfl) (by simp) ?_
          refine cons1 rfl (fun K hK => ?_) AllReadyH.nil
          go_simp
          refine (may_any _ _ _).mono ?_
          rintro e w106 ⟨rfl, hb⟩
          go_wp2_with fail
          refine hK.out _ _ (s10_keep hb hHeld) (fun hHeld2 => ?_)
          clear hK K hHeld hb
          have hHeld := hHeld2
          clear hHeld2
          try simp only [Act.put, List.setIfInBounds_toArray, List.set_cons_zero, List.set_cons_succ]
          refine take1 (i := 7) (v := .bool true) rfl (by kernel_rfl) (by kernel_rfl) (by kernel_rfl) (fun _ _ _ h => h) (Or.inl ⟨by rfl, fun w hSw => ?_⟩) hHeld ?_
          · (go_simp)
          try simp only [Act.put, List.setIfInBounds_toArray, List.set_cons_zero, List.set_cons_succ]
          refine take1 (i := 8) (v := .bool true) rfl (by kernel_rfl) (by kernel_rfl) (by kernel_rfl) (fun _ _ _ h => h) (Or.inl ⟨by rfl, fun w hSw => ?_⟩) hHeld ?_
          · (go_simp)
          try simp only [Act.put, List.setIfInBounds_toArray, List.set_cons_zero, List.set_cons_succ]
          refine take1 (i := 9) (v := .bool true) rfl (by kernel_rfl) (by kernel_rfl) (by kernel_rfl) (fun _ _ _ h => h) (Or.inl ⟨by rfl, fun w hSw => ?_⟩) hHeld ?_
          · (go_simp)
          try simp only [Act.put, List.setIfInBounds_toArray, List.set_cons_zero, List.set_cons_succ]
          refine take1 (i := 10) (v := .agg #[.int .i64 0, .int .i64 0]) rfl (by kernel_rfl) (by kernel_rfl) (by kernel_rfl) (fun _ _ _ h => h) (Or.inl ⟨by rfl, fun w hSw => ?_⟩) hHeld ?_
          · (go_simp)
          try simp only [Act.put, List.setIfInBounds_toArray, List.set_cons_zero, List.set_cons_succ]
          refine wpAnyH_ready (rs := [11]) (by kernel_rfl) (by simp) ?_
          refine cons1 rfl (fun K hK => ?_) AllReadyH.nil
          go_simp
          refine (check_any _ _ _).mono ?_
          rintro e w111 ⟨rfl, hb⟩
          go_wp2_with fail
          refine hK.out _ _ (s10_keep hb hHeld) (fun hHeld2 => ?_)
          clear hK K hHeld hb
          have hHeld := hHeld2
          clear hHeld2
          try simp only [Act.put, List.setIfInBounds_toArray, List.set_cons_zero, List.set_cons_succ]
          refine take1 (i := 12) (v := .bool false) rfl (by kernel_rfl) (by kernel_rfl) (by kernel_rfl) (fun _ _ _ h => h) (Or.inl ⟨by rfl, fun w hSw => ?_⟩) hHeld ?_
          · (go_simp)
          try simp only [Act.put, List.setIfInBounds_toArray, List.set_cons_zero, List.set_cons_succ]
          refine take1 (i := 13) (v := .bool false) rfl (by kernel_rfl) (by kernel_rfl) (by kernel_rfl) (fun _ _ _ h => h) (Or.inl ⟨by rfl, fun w hSw => ?_⟩) hHeld ?_
          · (go_simp)
          try simp only [Act.put, List.setIfInBounds_toArray, List.set_cons_zero, List.set_cons_succ]
          refine take1 (i := 14) (v := .agg #[.int .i64 0, .int .i64 0]) rfl (by kernel_rfl) (by kernel_rfl) (by kernel_rfl) (fun _ _ _ h => h) (Or.inl ⟨by rfl, fun w hSw => ?_⟩) hHeld ?_
          · (go_simp)
          try simp only [Act.put, List.setIfInBounds_toArray, List.set_cons_zero, List.set_cons_succ]
          refine wpAnyH_ready (rs := [15]) (by kernel_rfl) (by simp) ?_
          refine cons1 rfl (fun K hK => ?_) AllReadyH.nil
          go_simp
          refine (check_any _ _ _).mono ?_
          rintro e w115 ⟨rfl, hb⟩
          go_wp2_with fail
          refine hK.out _ _ (s10_keep hb hHeld) (fun hHeld2 => ?_)
          clear hK K hHeld hb
          have hHeld := hHeld2
          clear hHeld2
          try simp only [Act.put, List.setIfInBounds_toArray, List.set_cons_zero, List.set_cons_succ]
          refine take1 (i := 16) (v := .bool true) rfl (by kernel_rfl) (by kernel_rfl) (by kernel_rfl) (fun _ _ _ h => h) (Or.inl ⟨by rfl, fun w hSw => ?_⟩) hHeld ?_
          · (go_simp)
          try simp only [Act.put, List.setIfInBounds_toArray, List.set_cons_zero, List.set_cons_succ]
          refine take1 (i := 17) (v := .bool true) rfl (by kernel_rfl) (by kernel_rfl) (by kernel_rfl) (fun _ _ _ h => h) (Or.inl ⟨by rfl, fun w hSw => ?_⟩) hHeld ?_
          · (go_simp)
          try simp only [Act.put, List.setIfInBounds_toArray, List.set_cons_zero, List.set_cons_succ]
          refine take1 (i := 18) (v := .bool true) rfl (by kernel_rfl) (by kernel_rfl) (by kernel_rfl) (fun _ _ _ h => h) (Or.inl ⟨by rfl, fun w hSw => ?_⟩) hHeld ?_
          · (go_simp)
          try simp only [Act.put, List.setIfInBounds_toArray, List.set_cons_zero, List.set_cons_succ]
          refine take1 (i := 19) (v := .bool true) rfl (by kernel_rfl) (by kernel_rfl) (by kernel_rfl) (fun _ _ _ h => h) (Or.inl ⟨by rfl, fun w hSw => ?_⟩) hHeld ?_
          · (go_simp)
          try simp only [Act.put, List.setIfInBounds_toArray, List.set_cons_zero, List.set_cons_succ]
          refine take1 (i := 20) (v := .agg #[.int .i64 0, .int .i64 0]) rfl (by kernel_rfl) (by kernel_rfl) (by kernel_rfl) (fun _ _ _ h => h) (Or.inl ⟨by rfl, fun w hSw => ?_⟩) hHeld ?_
          · (go_simp)
          try simp only [Act.put, List.setIfInBounds_toArray, List.set_cons_zero, List.set_cons_succ]
          refine take1 (i := 21) (v := .agg #[.int .i64 d, .int .i64 t]) rfl (by kernel_rfl) (by kernel_rfl) (by kernel_rfl) (fun _ _ _ h => h) (Or.inl ⟨by rfl, fun w hSw => ?_⟩) hHeld ?_
          · (go_simp)
          try simp only [Act.put, List.setIfInBounds_toArray, List.set_cons_zero, List.set_cons_succ]
          refine take1 (i := 23) (v := .agg #[.int .i64 0, .int .i64 0]) rfl (by kernel_rfl) (by kernel_rfl) (by kernel_rfl) (fun _ _ _ h => h) (Or.inl ⟨by rfl, fun w hSw => ?_⟩) hHeld ?_
          · (go_simp)
          try simp only [Act.put, List.setIfInBounds_toArray, List.set_cons_zero, List.set_cons_succ]
          refine take1 (i := 24) (v := .agg #[.int .i64 d, .int .i64 t]) rfl (by kernel_rfl) (by kernel_rfl) (by kernel_rfl) (fun _ _ _ h => h) (Or.inl ⟨by rfl, fun w hSw => ?_⟩) hHeld ?_
          · (go_simp)
          try simp only [Act.put, List.setIfInBounds_toArray, List.set_cons_zero, List.set_cons_succ]
          refine wpAnyH_ready (rs := [22]) (by kernel_rfl) (by simp) ?_
          refine cons1 rfl (fun K hK => ?_) AllReadyH.nil
          go_simp
          refine (less_any _ _ _ _ _).mono ?_
          rintro e w122 ⟨rfl, hb⟩
          go_wp2_with fail
          refine hK.out _ _ (s10_keep hb hHeld) (fun hHeld2 => ?_)
          clear hK K hHeld hb
          have hHeld := hHeld2
          clear hHeld2
          try simp only [Act.put, List.setIfInBounds_toArray, List.set_cons_zero, List.set_cons_succ]
          refine wpAnyH_ready (rs := [25]) (by kernel_rfl) (by simp) ?_
          refine cons1 rfl (fun K hK => ?_) AllReadyH.nil
          go_simp
          refine (refLess_any _ _ _ _ _).mono ?_
          rintro e w125 ⟨rfl, hb⟩
          go_wp2_with fail
          refine hK.out _ _ (s10_keep hb hHeld) (fun hHeld2 => ?_)
          clear hK K hHeld hb
          have hHeld := hHeld2
          clear hHeld2
          try simp only [Act.put, List.setIfInBounds_toArray, List.set_cons_zero, List.set_cons_succ]
          refine take1 (i := 26) (v := .bool true) rfl (by kernel_rfl) (by kernel_rfl) (by kernel_rfl) (fun _ _ _ h => h) (Or.inl ⟨by rfl, fun w hSw => ?_⟩) hHeld ?_
          · (go_simp)
          try simp only [Act.put, List.setIfInBounds_toArray, List.set_cons_zero, List.set_cons_succ]
          refine take1 (i := 27) (v := .bool true) rfl (by kernel_rfl) (by kernel_rfl) (by kernel_rfl) (fun _ _ _ h => h) (Or.inl ⟨by rfl, fun w hSw => ?_⟩) hHeld ?_
          · (go_simp)
          try simp only [Act.put, List.setIfInBounds_toArray, List.set_cons_zero, List.set_cons_succ]
          refine take1 (i := 28) (v := .bool true) rfl (by kernel_rfl) (by kernel_rfl) (by kernel_rfl) (fun _ _ _ h => h) (Or.inl ⟨by rfl, fun w hSw => ?_⟩) hHeld ?_
          · (go_simp)
          try simp only [Act.put, List.setIfInBounds_toArray, List.set_cons_zero, List.set_cons_succ]
          refine take1 (i := 29) (v := .agg #[.int .i64 0, .int .i64 0]) rfl (by kernel_rfl) (by kernel_rfl) (by kernel_rfl) (fun _ _ _ h => h) (Or.inl ⟨by rfl, fun w hSw => ?_⟩) hHeld ?_
          · (go_simp)
          try simp only [Act.put, List.setIfInBounds_toArray, List.set_cons_zero, List.set_cons_succ]
          refine take1 (i := 31) (v := .agg #[.int .i64 0, .int .i64 0]) rfl (by kernel_rfl) (by kernel_rfl) (by kernel_rfl) (fun _ _ _ h => h) (Or.inl ⟨by rfl, fun w hSw => ?_⟩) hHeld ?_
          · (go_simp)
          try simp only [Act.put, List.setIfInBounds_toArray, List.set_cons_zero, List.set_cons_succ]
          refine take1 (i := 32) (v := .agg #[.int .i64 0, .int .i64 0]) rfl (by kernel_rfl) (by kernel_rfl) (by kernel_rfl) (fun _ _ _ h => h) (Or.inl ⟨by rfl, fun w hSw => ?_⟩) hHeld ?_
          · (go_simp)
          try simp only [Act.put, List.setIfInBounds_toArray, List.set_cons_zero, List.set_cons_succ]
          refine take1 (i := 33) (v := .bool true) rfl (by kernel_rfl) (by kernel_rfl) (by kernel_rfl) (fun _ _ _ h => h) (Or.inl ⟨by rfl, fun w hSw => ?_⟩) hHeld ?_
          · (go_simp)
          try simp only [Act.put, List.setIfInBounds_toArray, List.set_cons_zero, List.set_cons_succ]
          refine wpAnyH_ready (rs := [30]) (by kernel_rfl) (by simp) ?_
          refine cons1 rfl (fun K hK => ?_) AllReadyH.nil
          go_simp
          refine (none_any _ _ _).mono ?_
          rintro e w130 ⟨rfl, hb⟩
          go_wp2_with fail
          refine hK.out _ _ (s10_keep hb hHeld) (fun hHeld2 => ?_)
          clear hK K hHeld hb
          have hHeld := hHeld2
          clear hHeld2
          try simp only [Act.put, List.setIfInBounds_toArray, List.set_cons_zero, List.set_cons_succ]
          refine take1 (i := 34) (v := .bool true) rfl (by kernel_rfl) (by kernel_rfl) (by kernel_rfl) (fun _ _ _ h => h) (Or.inl ⟨by rfl, fun w hSw => ?_⟩) hHeld ?_
          · (go_simp)
          try simp only [Act.put, List.setIfInBounds_toArray, List.set_cons_zero, List.set_cons_succ]
          refine take1 (i := 35) (v := .bool true) rfl (by kernel_rfl) (by kernel_rfl) (by kernel_rfl) (fun _ _ _ h => h) (Or.inl ⟨by rfl, fun w hSw => ?_⟩) hHeld ?_
          · (go_simp)
          try simp only [Act.put, List.setIfInBounds_toArray, List.set_cons_zero, List.set_cons_succ]
          refine take1 (i := 36) (v := .bool true) rfl (by kernel_rfl) (by kernel_rfl) (by kernel_rfl) (fun _ _ _ h => h) (Or.inl ⟨by rfl, fun w hSw => ?_⟩) hHeld ?_
          · (go_simp)
          try simp only [Act.put, List.setIfInBounds_toArray, List.set_cons_zero, List.set_cons_succ]
          refine take1 (i := 37) (v := .agg #[.int .i64 0, .int .i64 0]) rfl (by kernel_rfl) (by kernel_rfl) (by kernel_rfl) (fun _ _ _ h => h) (Or.inl ⟨by rfl, fun w hSw => ?_⟩) hHeld ?_
          · (go_simp)
          try simp only [Act.put, List.setIfInBounds_toArray, List.set_cons_zero, List.set_cons_succ]
          refine take1 (i := 39) (v := .agg #[.int .i64 0, .int .i64 0]) rfl (by kernel_rfl) (by kernel_rfl) (by kernel_rfl) (fun _ _ _ h => h) (Or.inl ⟨by rfl, fun w hSw => ?_⟩) hHeld ?_
          · (go_simp)
          try simp only [Act.put, List.setIfInBounds_toArray, List.set_cons_zero, List.set_cons_succ]
          refine wpAnyH_ready (rs := [38]) (by kernel_rfl) (by simp) ?_
          refine cons1 rfl (fun K hK => ?_) AllReadyH.nil
          go_simp
          refine (string_any _ _ _ ?_).mono ?_
          · (apply s10_tab (w := w) (c := 0) (s := 0) (d := d) (t := t) (bm := bm) (bn := bn) (bq := wc.heap.size) (m := leastOf l); exact hHeld)
          rintro e w138 ⟨rfl, hb⟩
          go_wp2_with fail
          refine hK.out _ _ (s10_keep hb hHeld) (fun hHeld2 => ?_)
          clear hK K hHeld hb
          have hHeld := hHeld2
          clear hHeld2
          try simp only [Act.put, List.setIfInBounds_toArray, List.set_cons_zero, List.set_cons_succ]
          refine wpAnyH_ready (rs := [40]) (by kernel_rfl) (by simp) ?_
          refine cons1 rfl (fun K hK => ?_) AllReadyH.nil
          go_simp
          refine (text_any _ _ _ ?_).mono ?_
          · (apply s10_tab (w := w) (c := 0) (s := 0) (d := d) (t := t) (bm := bm) (bn := bn) (bq := wc.heap.size) (m := leastOf l); exact hHeld)
          rintro e w140 ⟨rfl, hb⟩
          go_wp2_with fail
          refine hK.out _ _ (s10_keep hb hHeld) (fun hHeld2 => ?_)
          clear hK K hHeld hb
          have hHeld := hHeld2
          clear hHeld2
          try simp only [Act.put, List.setIfInBounds_toArray, List.set_cons_zero, List.set_cons_succ]
          refine take1 (i := 41) (v := .bool true) rfl (by kernel_rfl) (by kernel_rfl) (by kernel_rfl) (fun _ _ _ h => h) (Or.inl ⟨by rfl, fun w hSw => ?_⟩) hHeld ?_
          · (go_simp)
          try simp only [Act.put, List.setIfInBounds_toArray, List.set_cons_zero, List.set_cons_succ]
          refine take1 (i := 42) (v := .bool true) rfl (by kernel_rfl) (by kernel_rfl) (by kernel_rfl) (fun _ _ _ h => h) (Or.inl ⟨by rfl, fun w hSw => ?_⟩) hHeld ?_
          · (go_simp)
          try simp only [Act.put, List.setIfInBounds_toArray, List.set_cons_zero, List.set_cons_succ]
          refine take1 (i := 43) (v := .bool true) rfl (by kernel_rfl) (by kernel_rfl) (by kernel_rfl) (fun _ _ _ h => h) (Or.inl ⟨by rfl, fun w hSw => ?_⟩) hHeld ?_
          · (go_simp)
          try simp only [Act.put, List.setIfInBounds_toArray, List.set_cons_zero, List.set_cons_succ]
          refine take1 (i := 44) (v := .slice a l.length cap) rfl (by kernel_rfl) (by kernel_rfl) (by kernel_rfl) (fun _ _ _ h => h) (Or.inl ⟨by rfl, fun w hSw => ?_⟩) hHeld ?_
          · (go_simp)
          try simp only [Act.put, List.setIfInBounds_toArray, List.set_cons_zero, List.set_cons_succ]
          refine take1 (i := 46) (v := .agg #[.int .i64 (leastOf l).1, .int .i64 (leastOf l).2]) rfl (by kernel_rfl) (by kernel_rfl) (by kernel_rfl) (fun _ _ _ h => h) (Or.inl ⟨by rfl, fun w hSw => ?_⟩) hHeld ?_
          · (go_simp)
          try simp only [Act.put, List.setIfInBounds_toArray, List.set_cons_zero, List.set_cons_succ]
          refine wpAnyH_ready (rs := [45]) (by kernel_rfl) (by simp) ?_
          refine cons1 rfl (fun K hK => ?_) AllReadyH.nil
          go_simp
          refine (least_any _ l _ hl ?_).mono ?_
          · (apply isIds_next HV.out; apply s10_bel (c := 0) (s := 0) (d := d) (t := t) (bm := bm) (bn := bn) (bq := wc.heap.size) (m := leastOf l); exact hHeld)
          rintro e w145 ⟨rfl, hb⟩
          go_wp2_with fail
          refine hK.out _ _ (s10_keep hb hHeld) (fun hHeld2 => ?_)
          clear hK K hHeld hb
          have hHeld := hHeld2
          clear hHeld2
          try simp only [Act.put, List.setIfInBounds_toArray, List.set_cons_zero, List.set_cons_succ]
          refine take1 (i := 47) (v := .bool true) rfl (by kernel_rfl) (by kernel_rfl) (by kernel_rfl) (fun _ _ _ h => h) (Or.inl ⟨by rfl, fun w hSw => ?_⟩) hHeld ?_
          · (go_simp)
          try simp only [Act.put, List.setIfInBounds_toArray, List.set_cons_zero, List.set_cons_succ]
          refine take1 (i := 48) (v := .bool true) rfl (by kernel_rfl) (by kernel_rfl) (by kernel_rfl) (fun _ _ _ h => h) (Or.inl ⟨by rfl, fun w hSw => ?_⟩) hHeld ?_
          · (go_simp)
          try simp only [Act.put, List.setIfInBounds_toArray, List.set_cons_zero, List.set_cons_succ]
          refine take1 (i := 49) (v := .bool true) rfl (by kernel_rfl) (by kernel_rfl) (by kernel_rfl) (fun _ _ _ h => h) (Or.inl ⟨by rfl, fun w hSw => ?_⟩) hHeld ?_
          · (go_simp)
          try simp only [Act.put, List.setIfInBounds_toArray, List.set_cons_zero, List.set_cons_succ]
          refine wpAnyH_done (by kernel_rfl) ?_ _
          refine NoPanic.normal ?_
          go_wp2_with fail
          go_ret
          exact ⟨rfl, s10_bel (c := 0) (s := 0) (d := d) (t := t) (bm := bm) (bn := bn) (bq := wc.heap.size) (m := leastOf l) hHeld⟩
        · refine wp_region_noPanic ?_
          refine wp_region_held_drew (S := (fun w' => w'.cell? ⟨w.heap.size, 0, none⟩ = some (.int .i64 c) ∧ w'.cell? ⟨w.heap.size, 1, none⟩ = some (.int .i64 s) ∧ w'.cell? ⟨w.heap.size + 1, 0, none⟩ = some (.int .i64 d) ∧ w'.cell? ⟨w.heap.size + 1, 1, none⟩ = some (.int .i64 t) ∧ w'.cell? ⟨bm, 0, none⟩ = some (.int .i64 c) ∧ w'.cell? ⟨bm, 1, none⟩ = some (.int .i64 s) ∧ w'.cell? ⟨bn, 0, none⟩ = some (.int .i64 d) ∧ w'.cell? ⟨bn, 1, none⟩ = some (.int .i64 t) ∧ w'.cell? ⟨wc.heap.size, 0, none⟩ = some (.int .i64 (leastOf l).1) ∧ w'.cell? ⟨wc.heap.size, 1, none⟩ = some (.int .i64 (leastOf l).2) ∧ Five w w' c s d t bm bn wc.heap.size (leastOf l))) (by kernel_rfl) ?_ (fun hHeld => ?_)
          · exact hs0
          clear hs0
          refine wpAnyH_ready (rs := [0]) (by kernel_rfl) (by simp) ?_
          refine cons1 rfl (fun K hK => ?_) AllReadyH.nil
          go_simp
          refine (awake_any _ ?_).mono ?_
          · (apply s10_tab (w := w) (c := c) (s := s) (d := d) (t := t) (bm := bm) (bn := bn) (bq := wc.heap.size) (m := leastOf l); exact hHeld)
          rintro e w100 ⟨rfl, hb⟩
          go_wp2_with fail
          refine hK.out _ _ (s10_keep hb hHeld) (fun hHeld2 => ?_)
          clear hK K hHeld hb
          have hHeld := hHeld2
          clear hHeld2
          try simp only [Act.put, List.setIfInBounds_toArray, List.set_cons_zero, List.set_cons_succ]
          refine take1 (i := 1) (v := .bool true) rfl (by kernel_rfl) (by kernel_rfl) (by kernel_rfl) (fun _ _ _ h => h) (Or.inl ⟨by rfl, fun w hSw => ?_⟩) hHeld ?_
          · (go_simp)
          try simp only [Act.put, List.setIfInBounds_toArray, List.set_cons_zero, List.set_cons_succ]
          refine take1 (i := 2) (v := .agg #[.int .i64 c, .int .i64 s]) rfl (by kernel_rfl) (by kernel_rfl) (by kernel_rfl) (fun _ _ _ h => h) (Or.inl ⟨by rfl, fun w hSw => ?_⟩) hHeld ?_
          · (go_simp)
          try simp only [Act.put, List.setIfInBounds_toArray, List.set_cons_zero, List.set_cons_succ]
          refine take1 (i := 5) (v := .agg #[.int .i64 c, .int .i64 s]) rfl (by kernel_rfl) (by kernel_rfl) (by kernel_rfl) (fun _ _ _ h => h) (Or.inl ⟨by rfl, fun w hSw => ?_⟩) hHeld ?_
          · (go_simp)
          try simp only [Act.put, List.setIfInBounds_toArray, List.set_cons_zero, List.set_cons_succ]
          refine wpAnyH_ready (rs := [3]) (by kernel_rfl) (by simp) ?_
          refine cons1 rfl (fun K hK => ?_) AllReadyH.nil
          go_simp
          refine (check_any _ _ _).mono ?_
          rintro e w103 ⟨rfl, hb⟩
          go_wp2_with fail
          refine hK.out _ _ (s10_keep hb hHeld) (fun hHeld2 => ?_)
          clear hK K hHeld hb
          have hHeld := hHeld2
          clear hHeld2
          try simp only [Act.put, List.setIfInBounds_toArray, List.set_cons_zero, List.set_cons_succ]
          refine take1 (i := 4) (v := .bool false) rfl (by kernel_rfl) (by kernel_rfl) (by kernel_rfl) (fun _ _ _ h => h) (Or.inl ⟨by rfl, fun w hSw => ?_⟩) hHeld ?_
          · (go_simp)
          try simp only [Act.put, List.setIfInBounds_toArray, List.set_cons_zero, List.set_cons_succ]
          refine wpAnyH_ready (rs := [6]) (by kernel_rfl) (by simp) ?_
          refine cons1 rfl (fun K hK => ?_) AllReadyH.nil
          go_simp
          refine (may_any _ _ _).mono ?_
          rintro e w106 ⟨rfl, hb⟩
          go_wp2_with fail
          refine hK.out _ _ (s10_keep hb hHeld) (fun hHeld2 => ?_)
          clear hK K hHeld hb
          have hHeld := hHeld2
          clear hHeld2
          try simp only [Act.put, List.setIfInBounds_toArray, List.set_cons_zero, List.set_cons_succ]
          refine take1 (i := 7) (v := .bool true) rfl (by kernel_rfl) (by kernel_rfl) (by kernel_rfl) (fun _ _ _ h => h) (Or.inl ⟨by rfl, fun w hSw => ?_⟩) hHeld ?_
          · (go_simp)
          try simp only [Act.put, List.setIfInBounds_toArray, List.set_cons_zero, List.set_cons_succ]
          refine take1 (i := 8) (v := .bool true) rfl (by kernel_rfl) (by kernel_rfl) (by kernel_rfl) (fun _ _ _ h => h) (Or.inl ⟨by rfl, fun w hSw => ?_⟩) hHeld ?_
          · (go_simp)
          try simp only [Act.put, List.setIfInBounds_toArray, List.set_cons_zero, List.set_cons_succ]
          refine take1 (i := 9) (v := .bool true) rfl (by kernel_rfl) (by kernel_rfl) (by kernel_rfl) (fun _ _ _ h => h) (Or.inl ⟨by rfl, fun w hSw => ?_⟩) hHeld ?_
          · (go_simp)
          try simp only [Act.put, List.setIfInBounds_toArray, List.set_cons_zero, List.set_cons_succ]
          refine take1 (i := 10) (v := .agg #[.int .i64 c, .int .i64 s]) rfl (by kernel_rfl) (by kernel_rfl) (by kernel_rfl) (fun _ _ _ h => h) (Or.inl ⟨by rfl, fun w hSw => ?_⟩) hHeld ?_
          · (go_simp)
          try simp only [Act.put, List.setIfInBounds_toArray, List.set_cons_zero, List.set_cons_succ]
          refine wpAnyH_ready (rs := [11]) (by kernel_rfl) (by simp) ?_
          refine cons1 rfl (fun K hK => ?_) AllReadyH.nil
          go_simp
          refine (check_any _ _ _).mono ?_
          rintro e w111 ⟨rfl, hb⟩
          go_wp2_with fail
          refine hK.out _ _ (s10_keep hb hHeld) (fun hHeld2 => ?_)
          clear hK K hHeld hb
          have hHeld := hHeld2
          clear hHeld2
          try simp only [Act.put, List.setIfInBounds_toArray, List.set_cons_zero, List.set_cons_succ]
          refine take1 (i := 12) (v := .bool false) rfl (by kernel_rfl) (by kernel_rfl) (by kernel_rfl) (fun _ _ _ h => h) (Or.inl ⟨by rfl, fun w hSw => ?_⟩) hHeld ?_
          · (go_simp)
          try simp only [Act.put, List.setIfInBounds_toArray, List.set_cons_zero, List.set_cons_succ]
          refine take1 (i := 13) (v := .bool false) rfl (by kernel_rfl) (by kernel_rfl) (by kernel_rfl) (fun _ _ _ h => h) (Or.inl ⟨by rfl, fun w hSw => ?_⟩) hHeld ?_
          · (go_simp)
          try simp only [Act.put, List.setIfInBounds_toArray, List.set_cons_zero, List.set_cons_succ]
          refine take1 (i := 14) (v := .agg #[.int .i64 c, .int .i64 s]) rfl (by kernel_rfl) (by kernel_rfl) (by kernel_rfl) (fun _ _ _ h => h) (Or.inl ⟨by rfl, fun w hSw => ?_⟩) hHeld ?_
          · (go_simp)
          try simp only [Act.put, List.setIfInBounds_toArray, List.set_cons_zero, List.set_cons_succ]
          refine wpAnyH_ready (rs := [15]) (by kernel_rfl) (by simp) ?_
          refine cons1 rfl (fun K hK => ?_) AllReadyH.nil
          go_simp
          refine (check_any _ _ _).mono ?_
          rintro e w115 ⟨rfl, hb⟩
          go_wp2_with fail
          refine hK.out _ _ (s10_keep hb hHeld) (fun hHeld2 => ?_)
          clear hK K hHeld hb
          have hHeld := hHeld2
          clear hHeld2
          try simp only [Act.put, List.setIfInBounds_toArray, List.set_cons_zero, List.set_cons_succ]
          refine take1 (i := 16) (v := .bool true) rfl (by kernel_rfl) (by kernel_rfl) (by kernel_rfl) (fun _ _ _ h => h) (Or.inl ⟨by rfl, fun w hSw => ?_⟩) hHeld ?_
          · (go_simp)
          try simp only [Act.put, List.setIfInBounds_toArray, List.set_cons_zero, List.set_cons_succ]
          refine take1 (i := 17) (v := .bool true) rfl (by kernel_rfl) (by kernel_rfl) (by kernel_rfl) (fun _ _ _ h => h) (Or.inl ⟨by rfl, fun w hSw => ?_⟩) hHeld ?_
          · (go_simp)
          try simp only [Act.put, List.setIfInBounds_toArray, List.set_cons_zero, List.set_cons_succ]
          refine take1 (i := 18) (v := .bool true) rfl (by kernel_rfl) (by kernel_rfl) (by kernel_rfl) (fun _ _ _ h => h) (Or.inl ⟨by rfl, fun w hSw => ?_⟩) hHeld ?_
          · (go_simp)
          try simp only [Act.put, List.setIfInBounds_toArray, List.set_cons_zero, List.set_cons_succ]
          refine take1 (i := 19) (v := .bool true) rfl (by kernel_rfl) (by kernel_rfl) (by kernel_rfl) (fun _ _ _ h => h) (Or.inl ⟨by rfl, fun w hSw => ?_⟩) hHeld ?_
          · (go_simp)
          try simp only [Act.put, List.setIfInBounds_toArray, List.set_cons_zero, List.set_cons_succ]
          refine take1 (i := 20) (v := .agg #[.int .i64 c, .int .i64 s]) rfl (by kernel_rfl) (by kernel_rfl) (by kernel_rfl) (fun _ _ _ h => h) (Or.inl ⟨by rfl, fun w hSw => ?_⟩) hHeld ?_
          · (go_simp)
          try simp only [Act.put, List.setIfInBounds_toArray, List.set_cons_zero, List.set_cons_succ]
          refine take1 (i := 21) (v := .agg #[.int .i64 d, .int .i64 t]) rfl (by kernel_rfl) (by kernel_rfl) (by kernel_rfl) (fun _ _ _ h => h) (Or.inl ⟨by rfl, fun w hSw => ?_⟩) hHeld ?_
          · (go_simp)
          try simp only [Act.put, List.setIfInBounds_toArray, List.set_cons_zero, List.set_cons_succ]
          refine take1 (i := 23) (v := .agg #[.int .i64 c, .int .i64 s]) rfl (by kernel_rfl) (by kernel_rfl) (by kernel_rfl) (fun _ _ _ h => h) (Or.inl ⟨by rfl, fun w hSw => ?_⟩) hHeld ?_
          · (go_simp)
          try simp only [Act.put, List.setIfInBounds_toArray, List.set_cons_zero, List.set_cons_succ]
          refine take1 (i := 24) (v := .agg #[.int .i64 d, .int .i64 t]) rfl (by kernel_rfl) (by kernel_rfl) (by kernel_rfl) (fun _ _ _ h => h) (Or.inl ⟨by rfl, fun w hSw => ?_⟩) hHeld ?_
          · (go_simp)
          try simp only [Act.put, List.setIfInBounds_toArray, List.set_cons_zero, List.set_cons_succ]
          refine wpAnyH_ready (rs := [22]) (by kernel_rfl) (by simp) ?_
          refine cons1 rfl (fun K hK => ?_) AllReadyH.nil
          go_simp
          refine (less_any _ _ _ _ _).mono ?_
          rintro e w122 ⟨rfl, hb⟩
          go_wp2_with fail
          refine hK.out _ _ (s10_keep hb hHeld) (fun hHeld2 => ?_)
          clear hK K hHeld hb
          have hHeld := hHeld2
          clear hHeld2
          try simp only [Act.put, List.setIfInBounds_toArray, List.set_cons_zero, List.set_cons_succ]
          refine wpAnyH_ready (rs := [25]) (by kernel_rfl) (by simp) ?_
          refine cons1 rfl (fun K hK => ?_) AllReadyH.nil
          go_simp
          refine (refLess_any _ _ _ _ _).mono ?_
          rintro e w125 ⟨rfl, hb⟩
          go_wp2_with fail
          refine hK.out _ _ (s10_keep hb hHeld) (fun hHeld2 => ?_)
          clear hK K hHeld hb
          have hHeld := hHeld2
          clear hHeld2
          try simp only [Act.put, List.setIfInBounds_toArray, List.set_cons_zero, List.set_cons_succ]
          refine take1 (i := 26) (v := .bool true) rfl (by kernel_rfl) (by kernel_rfl) (by kernel_rfl) (fun _ _ _ h => h) (Or.inl ⟨by rfl, fun w hSw => ?_⟩) hHeld ?_
          · (go_simp)
          try simp only [Act.put, List.setIfInBounds_toArray, List.set_cons_zero, List.set_cons_succ]
          refine take1 (i := 27) (v := .bool true) rfl (by kernel_rfl) (by kernel_rfl) (by kernel_rfl) (fun _ _ _ h => h) (Or.inl ⟨by rfl, fun w hSw => ?_⟩) hHeld ?_
          · (go_simp)
          try simp only [Act.put, List.setIfInBounds_toArray, List.set_cons_zero, List.set_cons_succ]
          refine take1 (i := 28) (v := .bool true) rfl (by kernel_rfl) (by kernel_rfl) (by kernel_rfl) (fun _ _ _ h => h) (Or.inl ⟨by rfl, fun w hSw => ?_⟩) hHeld ?_
          · (go_simp)
          try simp only [Act.put, List.setIfInBounds_toArray, List.set_cons_zero, List.set_cons_succ]
          refine take1 (i := 29) (v := .agg #[.int .i64 c, .int .i64 s]) rfl (by kernel_rfl) (by kernel_rfl) (by kernel_rfl) (fun _ _ _ h => h) (Or.inl ⟨by rfl, fun w hSw => ?_⟩) hHeld ?_
          · (go_simp)
          try simp only [Act.put, List.setIfInBounds_toArray, List.set_cons_zero, List.set_cons_succ]
          refine take1 (i := 31) (v := .agg #[.int .i64 c, .int .i64 s]) rfl (by kernel_rfl) (by kernel_rfl) (by kernel_rfl) (fun _ _ _ h => h) (Or.inl ⟨by rfl, fun w hSw => ?_⟩) hHeld ?_
          · (go_simp)
          try simp only [Act.put, List.setIfInBounds_toArray, List.set_cons_zero, List.set_cons_succ]
          refine take1 (i := 32) (v := .agg #[.int .i64 0, .int .i64 0]) rfl (by kernel_rfl) (by kernel_rfl) (by kernel_rfl) (fun _ _ _ h => h) (Or.inl ⟨by rfl, fun w hSw => ?_⟩) hHeld ?_
          · (go_simp)
          try simp only [Act.put, List.setIfInBounds_toArray, List.set_cons_zero, List.set_cons_succ]
          refine take1 (i := 33) (v := .bool false) rfl (by kernel_rfl) (by kernel_rfl) (by kernel_rfl) (fun _ _ _ h => h) (Or.inl ⟨by rfl, fun w hSw => ?_⟩) hHeld ?_
          · (go_simp)
          try simp only [Act.put, List.setIfInBounds_toArray, List.set_cons_zero, List.set_cons_succ]
          refine wpAnyH_ready (rs := [30]) (by kernel_rfl) (by simp) ?_
          refine cons1 rfl (fun K hK => ?_) AllReadyH.nil
          go_simp
          refine (none_any _ _ _).mono ?_
          rintro e w130 ⟨rfl, hb⟩
          go_wp2_with fail
          refine hK.out _ _ (s10_keep hb hHeld) (fun hHeld2 => ?_)
          clear hK K hHeld hb
          have hHeld := hHeld2
          clear hHeld2
          try simp only [Act.put, List.setIfInBounds_toArray, List.set_cons_zero, List.set_cons_succ]
          refine take1 (i := 34) (v := .bool true) rfl (by kernel_rfl) (by kernel_rfl) (by kernel_rfl) (fun _ _ _ h => h) (Or.inl ⟨by rfl, fun w hSw => ?_⟩) hHeld ?_
          · (go_simp)
          try simp only [Act.put, List.setIfInBounds_toArray, List.set_cons_zero, List.set_cons_succ]
          refine take1 (i := 35) (v := .bool true) rfl (by kernel_rfl) (by kernel_rfl) (by kernel_rfl) (fun _ _ _ h => h) (Or.inl ⟨by rfl, fun w hSw => ?_⟩) hHeld ?_
          · (go_simp)
          try simp only [Act.put, List.setIfInBounds_toArray, List.set_cons_zero, List.set_cons_succ]
          refine take1 (i := 36) (v := .bool true) rfl (by kernel_rfl) (by kernel_rfl) (by kernel_rfl) (fun _ _ _ h => h) (Or.inl ⟨by rfl, fun w hSw => ?_⟩) hHeld ?_
          · (go_simp)
          try simp only [Act.put, List.setIfInBounds_toArray, List.set_cons_zero, List.set_cons_succ]
          refine take1 (i := 37) (v := .agg #[.int .i64 c, .int .i64 s]) rfl (by kernel_rfl) (by kernel_rfl) (by kernel_rfl) (fun _ _ _ h => h) (Or.inl ⟨by rfl, fun w hSw => ?_⟩) hHeld ?_
          · (go_simp)
          try simp only [Act.put, List.setIfInBounds_toArray, List.set_cons_zero, List.set_cons_succ]
          refine take1 (i := 39) (v := .agg #[.int .i64 c, .int .i64 s]) rfl (by kernel_rfl) (by kernel_rfl) (by kernel_rfl) (fun _ _ _ h => h) (Or.inl ⟨by rfl, fun w hSw => ?_⟩) hHeld ?_
          · (go_simp)
          try simp only [Act.put, List.setIfInBounds_toArray, List.set_cons_zero, List.set_cons_succ]
          refine wpAnyH_ready (rs := [38]) (by kernel_rfl) (by simp) ?_
          refine cons1 rfl (fun K hK => ?_) AllReadyH.nil
          go_simp
          refine (string_any _ _ _ ?_).mono ?_
          · (apply s10_tab (w := w) (c := c) (s := s) (d := d) (t := t) (bm := bm) (bn := bn) (bq := wc.heap.size) (m := leastOf l); exact hHeld)
          rintro e w138 ⟨rfl, hb⟩
          go_wp2_with fail
          refine hK.out _ _ (s10_keep hb hHeld) (fun hHeld2 => ?_)
          clear hK K hHeld hb
          have hHeld := hHeld2
          clear hHeld2
          try simp only [Act.put, List.setIfInBounds_toArray, List.set_cons_zero, List.set_cons_succ]
          refine wpAnyH_ready (rs := [40]) (by kernel_rfl) (by simp) ?_
          refine cons1 rfl (fun K hK => ?_) AllReadyH.nil
          go_simp
          refine (text_any _ _ _ ?_).mono ?_
          · (apply s10_tab (w := w) (c := c) (s := s) (d := d) (t := t) (bm := bm) (bn := bn) (bq := wc.heap.size) (m := leastOf l); exact hHeld)
          rintro e w140 ⟨rfl, hb⟩
          go_wp2_with fail
          refine hK.out _ _ (s10_keep hb hHeld) (fun hHeld2 => ?_)
          clear hK K hHeld hb
          have hHeld := hHeld2
          clear hHeld2
          try simp only [Act.put, List.setIfInBounds_toArray, List.set_cons_zero, List.set_cons_succ]
          refine take1 (i := 41) (v := .bool true) rfl (by kernel_rfl) (by kernel_rfl) (by kernel_rfl) (fun _ _ _ h => h) (Or.inl ⟨by rfl, fun w hSw => ?_⟩) hHeld ?_
          · (go_simp)
          try simp only [Act.put, List.setIfInBounds_toArray, List.set_cons_zero, List.set_cons_succ]
          refine take1 (i := 42) (v := .bool true) rfl (by kernel_rfl) (by kernel_rfl) (by kernel_rfl) (fun _ _ _ h => h) (Or.inl ⟨by rfl, fun w hSw => ?_⟩) hHeld ?_
          · (go_simp)
          try simp only [Act.put, List.setIfInBounds_toArray, List.set_cons_zero, List.set_cons_succ]
          refine take1 (i := 43) (v := .bool true) rfl (by kernel_rfl) (by kernel_rfl) (by kernel_rfl) (fun _ _ _ h => h) (Or.inl ⟨by rfl, fun w hSw => ?_⟩) hHeld ?_
          · (go_simp)
          try simp only [Act.put, List.setIfInBounds_toArray, List.set_cons_zero, List.set_cons_succ]
          refine take1 (i := 44) (v := .slice a l.length cap) rfl (by kernel_rfl) (by kernel_rfl) (by kernel_rfl) (fun _ _ _ h => h) (Or.inl ⟨by rfl, fun w hSw => ?_⟩) hHeld ?_
          · (go_simp)
          try simp only [Act.put, List.setIfInBounds_toArray, List.set_cons_zero, List.set_cons_succ]
          refine take1 (i := 46) (v := .agg #[.int .i64 (leastOf l).1, .int .i64 (leastOf l).2]) rfl (by kernel_rfl) (by kernel_rfl) (by kernel_rfl) (fun _ _ _ h => h) (Or.inl ⟨by rfl, fun w hSw => ?_⟩) hHeld ?_
          · (go_simp)
          try simp only [Act.put, List.setIfInBounds_toArray, List.set_cons_zero, List.set_cons_succ]
          refine wpAnyH_ready (rs := [45]) (by kernel_rfl) (by simp) ?_
          refine cons1 rfl (fun K hK => ?_) AllReadyH.nil
          go_simp
          refine (least_any _ l _ hl ?_).mono ?_
          · (apply isIds_next HV.out; apply s10_bel (c := c) (s := s) (d := d) (t := t) (bm := bm) (bn := bn) (bq := wc.heap.size) (m := leastOf l); exact hHeld)
          rintro e w145 ⟨rfl, hb⟩
          go_wp2_with fail
          refine hK.out _ _ (s10_keep hb hHeld) (fun hHeld2 => ?_)
          clear hK K hHeld hb
          have hHeld := hHeld2
          clear hHeld2
          try simp only [Act.put, List.setIfInBounds_toArray, List.set_cons_zero, List.set_cons_succ]
          refine take1 (i := 47) (v := .bool true) rfl (by kernel_rfl) (by kernel_rfl) (by kernel_rfl) (fun _ _ _ h => h) (Or.inl ⟨by rfl, fun w hSw => ?_⟩) hHeld ?_
          · (go_simp)
          try simp only [Act.put, List.setIfInBounds_toArray, List.set_cons_zero, List.set_cons_succ]
          refine take1 (i := 48) (v := .bool true) rfl (by kernel_rfl) (by kernel_rfl) (by kernel_rfl) (fun _ _ _ h => h) (Or.inl ⟨by rfl, fun w hSw => ?_⟩) hHeld ?_
          · (go_simp)
          try simp only [Act.put, List.setIfInBounds_toArray, List.set_cons_zero, List.set_cons_succ]
          refine take1 (i := 49) (v := .bool true) rfl (by kernel_rfl) (by kernel_rfl) (by kernel_rfl) (fun _ _ _ h => h) (Or.inl ⟨by rfl, fun w hSw => ?_⟩) hHeld ?_
          · (go_simp)
          try simp only [Act.put, List.setIfInBounds_toArray, List.set_cons_zero, List.set_cons_succ]
          refine wpAnyH_done (by kernel_rfl) ?_ _
          refine NoPanic.normal ?_
          go_wp2_with fail
          go_ret
          exact ⟨rfl, s10_bel (c := c) (s := s) (d := d) (t := t) (bm := bm) (bn := bn) (bq := wc.heap.size) (m := leastOf l) hHeld⟩
        · refine wp_region_noPanic ?_
          refine wp_region_held_drew (S := (fun w' => w'.cell? ⟨w.heap.size, 0, none⟩ = some (.int .i64 0) ∧ w'.cell? ⟨w.heap.size, 1, none⟩ = some (.int .i64 s) ∧ w'.cell? ⟨w.heap.size + 1, 0, none⟩ = some (.int .i64 d) ∧ w'.cell? ⟨w.heap.size + 1, 1, none⟩ = some (.int .i64 t) ∧ w'.cell? ⟨bm, 0, none⟩ = some (.int .i64 0) ∧ w'.cell? ⟨bm, 1, none⟩ = some (.int .i64 s) ∧ w'.cell? ⟨bn, 0, none⟩ = some (.int .i64 d) ∧ w'.cell? ⟨bn, 1, none⟩ = some (.int .i64 t) ∧ w'.cell? ⟨wc.heap.size, 0, none⟩ = some (.int .i64 (leastOf l).1) ∧ w'.cell? ⟨wc.heap.size, 1, none⟩ = some (.int .i64 (leastOf l).2) ∧ Five w w' 0 s d t bm bn wc.heap.size (leastOf l))) (by kernel_rfl) ?_ (fun hHeld => ?_)
          · exact hs0
          clear hs0
          refine wpAnyH_ready (rs := [0]) (by kernel_rfl) (by simp) ?_
          refine cons1 rfl (fun K hK => ?_) AllReadyH.nil
          go_simp
          refine (awake_any _ ?_).mono ?_
          · (apply s10_tab (w := w) (c := 0) (s := s) (d := d) (t := t) (bm := bm) (bn := bn) (bq := wc.heap.size) (m := leastOf l); exact hHeld)
          rintro e w100 ⟨rfl, hb⟩
          go_wp2_with fail
          refine hK.out _ _ (s10_keep hb hHeld) (fun hHeld2 => ?_)
          clear hK K hHeld hb
          have hHeld := hHeld2
          clear hHeld2
          try simp only [Act.put, List.setIfInBounds_toArray, List.set_cons_zero, List.set_cons_succ]
          refine take1 (i := 1) (v := .bool true) rfl (by kernel_rfl) (by kernel_rfl) (by kernel_rfl) (fun _ _ _ h => h) (Or.inl ⟨by rfl, fun w hSw => ?_⟩) hHeld ?_
          · (go_simp)
          try simp only [Act.put, List.setIfInBounds_toArray, List.set_cons_zero, List.set_cons_succ]
          refine take1 (i := 2) (v := .agg #[.int .i64 0, .int .i64 s]) rfl (by kernel_rfl) (by kernel_rfl) (by kernel_rfl) (fun _ _ _ h => h) (Or.inl ⟨by rfl, fun w hSw => ?_⟩) hHeld ?_
          · (go_simp)
          try simp only [Act.put, List.setIfInBounds_toArray, List.set_cons_zero, List.set_cons_succ]
          refine take1 (i := 5) (v := .agg #[.int .i64 0, .int .i64 s]) rfl (by kernel_rfl) (by kernel_rfl) (by kernel_rfl) (fun _ _ _ h => h) (Or.inl ⟨by rfl, fun w hSw => ?_⟩) hHeld ?_
          · (go_simp)
          try simp only [Act.put, List.setIfInBounds_toArray, List.set_cons_zero, List.set_cons_succ]
          refine wpAnyH_ready (rs := [3]) (by kernel_rfl) (by simp) ?_
          refine cons1 rfl (fun K hK => ?_) AllReadyH.nil
          go_simp
          refine (check_any _ _ _).mono ?_
          rintro e w103 ⟨rfl, hb⟩
          go_wp2_with fail
          refine hK.out _ _ (s10_keep hb hHeld) (fun hHeld2 => ?_)
          clear hK K hHeld hb
          have hHeld := hHeld2
          clear hHeld2
          try simp only [Act.put, List.setIfInBounds_toArray, List.set_cons_zero, List.set_cons_succ]
          refine take1 (i := 4) (v := .bool false) rfl (by kernel_rfl) (by kernel_rfl) (by kernel_rfl) (fun _ _ _ h => h) (Or.inl ⟨by rfl, fun w hSw => ?_⟩) hHeld ?_
          · (go_simp)
          try simp only [Act.put, List.setIfInBounds_toArray, List.set_cons_zero, List.set_cons_succ]
          refine wpAnyH_ready (rs := [6]) (by kernel_rfl) (by simp) ?_
          refine cons1 rfl (fun K hK => ?_) AllReadyH.nil
          go_simp
          refine (may_any _ _ _).mono ?_
          rintro e w106 ⟨rfl, hb⟩
          go_wp2_with fail
          refine hK.out _ _ (s10_keep hb hHeld) (fun hHeld2 => ?_)
          clear hK K hHeld hb
          have hHeld := hHeld2
          clear hHeld2
          try simp only [Act.put, List.setIfInBounds_toArray, List.set_cons_zero, List.set_cons_succ]
          refine take1 (i := 7) (v := .bool true) rfl (by kernel_rfl) (by kernel_rfl) (by kernel_rfl) (fun _ _ _ h => h) (Or.inl ⟨by rfl, fun w hSw => ?_⟩) hHeld ?_
          · (go_simp)
          try simp only [Act.put, List.setIfInBounds_toArray, List.set_cons_zero, List.set_cons_succ]
          refine take1 (i := 8) (v := .bool true) rfl (by kernel_rfl) (by kernel_rfl) (by kernel_rfl) (fun _ _ _ h => h) (Or.inl ⟨by rfl, fun w hSw => ?_⟩) hHeld ?_
          · (go_simp)
          try simp only [Act.put, List.setIfInBounds_toArray, List.set_cons_zero, List.set_cons_succ]
          refine take1 (i := 9) (v := .bool true) rfl (by kernel_rfl) (by kernel_rfl) (by kernel_rfl) (fun _ _ _ h => h) (Or.inl ⟨by rfl, fun w hSw => ?_⟩) hHeld ?_
          · (go_simp)
          try simp only [Act.put, List.setIfInBounds_toArray, List.set_cons_zero, List.set_cons_succ]
          refine take1 (i := 10) (v := .agg #[.int .i64 0, .int .i64 s]) rfl (by kernel_rfl) (by kernel_rfl) (by kernel_rfl) (fun _ _ _ h => h) (Or.inl ⟨by rfl, fun w hSw => ?_⟩) hHeld ?_
          · (go_simp)
          try simp only [Act.put, List.setIfInBounds_toArray, List.set_cons_zero, List.set_cons_succ]
          refine wpAnyH_ready (rs := [11]) (by kernel_rfl) (by simp) ?_
          refine cons1 rfl (fun K hK => ?_) AllReadyH.nil
          go_simp
          refine (check_any _ _ _).mono ?_
          rintro e w111 ⟨rfl, hb⟩
          go_wp2_with fail
          refine hK.out _ _ (s10_keep hb hHeld) (fun hHeld2 => ?_)
          clear hK K hHeld hb
          have hHeld := hHeld2
          clear hHeld2
          try simp only [Act.put, List.setIfInBounds_toArray, List.set_cons_zero, List.set_cons_succ]
          refine take1 (i := 12) (v := .bool false) rfl (by kernel_rfl) (by kernel_rfl) (by kernel_rfl) (fun _ _ _ h => h) (Or.inl ⟨by rfl, fun w hSw => ?_⟩) hHeld ?_
          · (go_simp)
          try simp only [Act.put, List.setIfInBounds_toArray, List.set_cons_zero, List.set_cons_succ]
          refine take1 (i := 13) (v := .bool false) rfl (by kernel_rfl) (by kernel_rfl) (by kernel_rfl) (fun _ _ _ h => h) (Or.inl ⟨by rfl, fun w hSw => ?_⟩) hHeld ?_
          · (go_simp)
          try simp only [Act.put, List.setIfInBounds_toArray, List.set_cons_zero, List.set_cons_succ]
          refine take1 (i := 14) (v := .agg #[.int .i64 0, .int .i64 s]) rfl (by kernel_rfl) (by kernel_rfl) (by kernel_rfl) (fun _ _ _ h => h) (Or.inl ⟨by rfl, fun w hSw => ?_⟩) hHeld ?_
          · (go_simp)
          try simp only [Act.put, List.setIfInBounds_toArray, List.set_cons_zero, List.set_cons_succ]
          refine wpAnyH_ready (rs := [15]) (by kernel_rfl) (by simp) ?_
          refine cons1 rfl (fun K hK => ?_) AllReadyH.nil
          go_simp
          refine (check_any _ _ _).mono ?_
          rintro e w115 ⟨rfl, hb⟩
          go_wp2_with fail
          refine hK.out _ _ (s10_keep hb hHeld) (fun hHeld2 => ?_)
          clear hK K hHeld hb
          have hHeld := hHeld2
          clear hHeld2
          try simp only [Act.put, List.setIfInBounds_toArray, List.set_cons_zero, List.set_cons_succ]
          refine take1 (i := 16) (v := .bool true) rfl (by kernel_rfl) (by kernel_rfl) (by kernel_rfl) (fun _ _ _ h => h) (Or.inl ⟨by rfl, fun w hSw => ?_⟩) hHeld ?_
          · (go_simp)
          try simp only [Act.put, List.setIfInBounds_toArray, List.set_cons_zero, List.set_cons_succ]
          refine take1 (i := 17) (v := .bool true) rfl (by kernel_rfl) (by kernel_rfl) (by kernel_rfl) (fun _ _ _ h => h) (Or.inl ⟨by rfl, fun w hSw => ?_⟩) hHeld ?_
          · (go_simp)
          try simp only [Act.put, List.setIfInBounds_toArray, List.set_cons_zero, List.set_cons_succ]
          refine take1 (i := 18) (v := .bool true) rfl (by kernel_rfl) (by kernel_rfl) (by kernel_rfl) (fun _ _ _ h => h) (Or.inl ⟨by rfl, fun w hSw => ?_⟩) hHeld ?_
          · (go_simp)
          try simp only [Act.put, List.setIfInBounds_toArray, List.set_cons_zero, List.set_cons_succ]
          refine take1 (i := 19) (v := .bool true) rfl (by kernel_rfl) (by kernel_rfl) (by kernel_rfl) (fun _ _ _ h => h) (Or.inl ⟨by rfl, fun w hSw => ?_⟩) hHeld ?_
          · (go_simp)
          try simp only [Act.put, List.setIfInBounds_toArray, List.set_cons_zero, List.set_cons_succ]
          refine take1 (i := 20) (v := .agg #[.int .i64 0, .int .i64 s]) rfl (by kernel_rfl) (by kernel_rfl) (by kernel_rfl) (fun _ _ _ h => h) (Or.inl ⟨by rfl, fun w hSw => ?_⟩) hHeld ?_
          · (go_simp)
          try simp only [Act.put, List.setIfInBounds_toArray, List.set_cons_zero, List.set_cons_succ]
          refine take1 (i := 21) (v := .agg #[.int .i64 d, .int .i64 t]) rfl (by kernel_rfl) (by kernel_rfl) (by kernel_rfl) (fun _ _ _ h => h) (Or.inl ⟨by rfl, fun w hSw => ?_⟩) hHeld ?_
          · (go_simp)
          try simp only [Act.put, List.setIfInBounds_toArray, List.set_cons_zero, List.set_cons_succ]
          refine take1 (i := 23) (v := .agg #[.int .i64 0, .int .i64 s]) rfl (by kernel_rfl) (by kernel_rfl) (by kernel_rfl) (fun _ _ _ h => h) (Or.inl ⟨by rfl, fun w hSw => ?_⟩) hHeld ?_
          · (go_simp)
          try simp only [Act.put, List.setIfInBounds_toArray, List.set_cons_zero, List.set_cons_succ]
          refine take1 (i := 24) (v := .agg #[.int .i64 d, .int .i64 t]) rfl (by kernel_rfl) (by kernel_rfl) (by kernel_rfl) (fun _ _ _ h => h) (Or.inl ⟨by rfl, fun w hSw => ?_⟩) hHeld ?_
          · (go_simp)
          try simp only [Act.put, List.setIfInBounds_toArray, List.set_cons_zero, List.set_cons_succ]
          refine wpAnyH_ready (rs := [22]) (by kernel_rfl) (by simp) ?_
          refine cons1 rfl (fun K hK => ?_) AllReadyH.nil
          go_simp
          refine (less_any _ _ _ _ _).mono ?_
          rintro e w122 ⟨rfl, hb⟩
          go_wp2_with fail
          refine hK.out _ _ (s10_keep hb hHeld) (fun hHeld2 => ?_)
          clear hK K hHeld hb
          have hHeld := hHeld2
          clear hHeld2
          try simp only [Act.put, List.setIfInBounds_toArray, List.set_cons_zero, List.set_cons_succ]
          refine wpAnyH_ready (rs := [25]) (by kernel_rfl) (by simp) ?_
          refine cons1 rfl (fun K hK => ?_) AllReadyH.nil
          go_simp
          refine (refLess_any _ _ _ _ _).mono ?_
          rintro e w125 ⟨rfl, hb⟩
          go_wp2_with fail
          refine hK.out _ _ (s10_keep hb hHeld) (fun hHeld2 => ?_)
          clear hK K hHeld hb
          have hHeld := hHeld2
          clear hHeld2
          try simp only [Act.put, List.setIfInBounds_toArray, List.set_cons_zero, List.set_cons_succ]
          refine take1 (i := 26) (v := .bool true) rfl (by kernel_rfl) (by kernel_rfl) (by kernel_rfl) (fun _ _ _ h => h) (Or.inl ⟨by rfl, fun w hSw => ?_⟩) hHeld ?_
          · (go_simp)
          try simp only [Act.put, List.setIfInBounds_toArray, List.set_cons_zero, List.set_cons_succ]
          refine take1 (i := 27) (v := .bool true) rfl (by kernel_rfl) (by kernel_rfl) (by kernel_rfl) (fun _ _ _ h => h) (Or.inl ⟨by rfl, fun w hSw => ?_⟩) hHeld ?_
          · (go_simp)
          try simp only [Act.put, List.setIfInBounds_toArray, List.set_cons_zero, List.set_cons_succ]
          refine take1 (i := 28) (v := .bool true) rfl (by kernel_rfl) (by kernel_rfl) (by kernel_rfl) (fun _ _ _ h => h) (Or.inl ⟨by rfl, fun w hSw => ?_⟩) hHeld ?_
          · (go_simp)
          try simp only [Act.put, List.setIfInBounds_toArray, List.set_cons_zero, List.set_cons_succ]
          refine take1 (i := 29) (v := .agg #[.int .i64 0, .int .i64 s]) rfl (by kernel_rfl) (by kernel_rfl) (by kernel_rfl) (fun _ _ _ h => h) (Or.inl ⟨by rfl, fun w hSw => ?_⟩) hHeld ?_
          · (go_simp)
          try simp only [Act.put, List.setIfInBounds_toArray, List.set_cons_zero, List.set_cons_succ]
          refine take1 (i := 31) (v := .agg #[.int .i64 0, .int .i64 s]) rfl (by kernel_rfl) (by kernel_rfl) (by kernel_rfl) (fun _ _ _ h => h) (Or.inl ⟨by rfl, fun w hSw => ?_⟩) hHeld ?_
          · (go_simp)
          try simp only [Act.put, List.setIfInBounds_toArray, List.set_cons_zero, List.set_cons_succ]
          refine take1 (i := 32) (v := .agg #[.int .i64 0, .int .i64 0]) rfl (by kernel_rfl) (by kernel_rfl) (by kernel_rfl) (fun _ _ _ h => h) (Or.inl ⟨by rfl, fun w hSw => ?_⟩) hHeld ?_
          · (go_simp)
          try simp only [Act.put, List.setIfInBounds_toArray, List.set_cons_zero, List.set_cons_succ]
          refine take1 (i := 33) (v := .bool false) rfl (by kernel_rfl) (by kernel_rfl) (by kernel_rfl) (fun _ _ _ h => h) (Or.inl ⟨by rfl, fun w hSw => ?_⟩) hHeld ?_
          · (go_simp)
          try simp only [Act.put, List.setIfInBounds_toArray, List.set_cons_zero, List.set_cons_succ]
          refine wpAnyH_ready (rs := [30]) (by kernel_rfl) (by simp) ?_
          refine cons1 rfl (fun K hK => ?_) AllReadyH.nil
          go_simp
          refine (none_any _ _ _).mono ?_
          rintro e w130 ⟨rfl, hb⟩
          go_wp2_with fail
          refine hK.out _ _ (s10_keep hb hHeld) (fun hHeld2 => ?_)
          clear hK K hHeld hb
          have hHeld := hHeld2
          clear hHeld2
          try simp only [Act.put, List.setIfInBounds_toArray, List.set_cons_zero, List.set_cons_succ]
          refine take1 (i := 34) (v := .bool true) rfl (by kernel_rfl) (by kernel_rfl) (by kernel_rfl) (fun _ _ _ h => h) (Or.inl ⟨by rfl, fun w hSw => ?_⟩) hHeld ?_
          · (go_simp)
          try simp only [Act.put, List.setIfInBounds_toArray, List.set_cons_zero, List.set_cons_succ]
          refine take1 (i := 35) (v := .bool true) rfl (by kernel_rfl) (by kernel_rfl) (by kernel_rfl) (fun _ _ _ h => h) (Or.inl ⟨by rfl, fun w hSw => ?_⟩) hHeld ?_
          · (go_simp)
          try simp only [Act.put, List.setIfInBounds_toArray, List.set_cons_zero, List.set_cons_succ]
          refine take1 (i := 36) (v := .bool true) rfl (by kernel_rfl) (by kernel_rfl) (by kernel_rfl) (fun _ _ _ h => h) (Or.inl ⟨by rfl, fun w hSw => ?_⟩) hHeld ?_
          · (go_simp)
          try simp only [Act.put, List.setIfInBounds_toArray, List.set_cons_zero, List.set_cons_succ]
          refine take1 (i := 37) (v := .agg #[.int .i64 0, .int .i64 s]) rfl (by kernel_rfl) (by kernel_rfl) (by kernel_rfl) (fun _ _ _ h => h) (Or.inl ⟨by rfl, fun w hSw => ?_⟩) hHeld ?_
          · (go_simp)
          try simp only [Act.put, List.setIfInBounds_toArray, List.set_cons_zero, List.set_cons_succ]
          refine take1 (i := 39) (v := .agg #[.int .i64 0, .int .i64 s]) rfl (by kernel_rfl) (by kernel_rfl) (by kernel_rfl) (fun _ _ _ h => h) (Or.inl ⟨by rfl, fun w hSw => ?_⟩) hHeld ?_
          · (go_simp)
          try simp only [Act.put, List.setIfInBounds_toArray, List.set_cons_zero, List.set_cons_succ]
          refine wpAnyH_ready (rs := [38]) (by kernel_rfl) (by simp) ?_
          refine cons1 rfl (fun K hK => ?_) AllReadyH.nil
          go_simp
          refine (string_any _ _ _ ?_).mono ?_
          · (apply s10_tab (w := w) (c := 0) (s := s) (d := d) (t := t) (bm := bm) (bn := bn) (bq := wc.heap.size) (m := leastOf l); exact hHeld)
          rintro e w138 ⟨rfl, hb⟩
          go_wp2_with fail
          refine hK.out _ _ (s10_keep hb hHeld) (fun hHeld2 => ?_)
          clear hK K hHeld hb
          have hHeld := hHeld2
          clear hHeld2
          try simp only [Act.put, List.setIfInBounds_toArray, List.set_cons_zero, List.set_cons_succ]
          refine wpAnyH_ready (rs := [40]) (by kernel_rfl) (by simp) ?_
          refine cons1 rfl (fun K hK => ?_) AllReadyH.nil
          go_simp
          refine (text_any _ _ _ ?_).mono ?_
          · (apply s10_tab (w := w) (c := 0) (s := s) (d := d) (t := t) (bm := bm) (bn := bn) (bq := wc.heap.size) (m := leastOf l); exact hHeld)
          rintro e w140 ⟨rfl, hb⟩
          go_wp2_with fail
          refine hK.out _ _ (s10_keep hb hHeld) (fun hHeld2 => ?_)
          clear hK K hHeld hb
          have hHeld := hHeld2
          clear hHeld2
          try simp only [Act.put, List.setIfInBounds_toArray, List.set_cons_zero, List.set_cons_succ]
          refine take1 (i := 41) (v := .bool true) rfl (by kernel_rfl) (by kernel_rfl) (by kernel_rfl) (fun _ _ _ h => h) (Or.inl ⟨by rfl, fun w hSw => ?_⟩) hHeld ?_
          · (go_simp)
          try simp only [Act.put, List.setIfInBounds_toArray, List.set_cons_zero, List.set_cons_succ]
          refine take1 (i := 42) (v := .bool true) rfl (by kernel_rfl) (by kernel_rfl) (by kernel_rfl) (fun _ _ _ h => h) (Or.inl ⟨by rfl, fun w hSw => ?_⟩) hHeld ?_
          · (go_simp)
          try simp only [Act.put, List.setIfInBounds_toArray, List.set_cons_zero, List.set_cons_succ]
          refine take1 (i := 43) (v := .bool true) rfl (by kernel_rfl) (by kernel_rfl) (by kernel_rfl) (fun _ _ _ h => h) (Or.inl ⟨by rfl, fun w hSw => ?_⟩) hHeld ?_
          · (go_simp)
          try simp only [Act.put, List.setIfInBounds_toArray, List.set_cons_zero, List.set_cons_succ]
          refine take1 (i := 44) (v := .slice a l.length cap) rfl (by kernel_rfl) (by kernel_rfl) (by kernel_rfl) (fun _ _ _ h => h) (Or.inl ⟨by rfl, fun w hSw => ?_⟩) hHeld ?_
          · (go_simp)
          try simp only [Act.put, List.setIfInBounds_toArray, List.set_cons_zero, List.set_cons_succ]
          refine take1 (i := 46) (v := .agg #[.int .i64 (leastOf l).1, .int .i64 (leastOf l).2]) rfl (by kernel_rfl) (by kernel_rfl) (by kernel_rfl) (fun _ _ _ h => h) (Or.inl ⟨by rfl, fun w hSw => ?_⟩) hHeld ?_
          · (go_simp)
          try simp only [Act.put, List.setIfInBounds_toArray, List.set_cons_zero, List.set_cons_succ]
          refine wpAnyH_ready (rs := [45]) (by kernel_rfl) (by simp) ?_
          refine cons1 rfl (fun K hK => ?_) AllReadyH.nil
          go_simp
          refine (least_any _ l _ hl ?_).mono ?_
          · (apply isIds_next HV.out; apply s10_bel (c := 0) (s := s) (d := d) (t := t) (bm := bm) (bn := bn) (bq := wc.heap.size) (m := leastOf l); exact hHeld)
          rintro e w145 ⟨rfl, hb⟩
          go_wp2_with fail
          refine hK.out _ _ (s10_keep hb hHeld) (fun hHeld2 => ?_)
          clear hK K hHeld hb
          have hHeld := hHeld2
          clear hHeld2
          try simp only [Act.put, List.setIfInBounds_toArray, List.set_cons_zero, List.set_cons_succ]
          refine take1 (i := 47) (v := .bool true) rfl (by kernel_rfl) (by kernel_rfl) (by kernel_rfl) (fun _ _ _ h => h) (Or.inl ⟨by rfl, fun w hSw => ?_⟩) hHeld ?_
          · (go_simp)
          try simp only [Act.put, List.setIfInBounds_toArray, List.set_cons_zero, List.set_cons_succ]
          refine take1 (i := 48) (v := .bool true) rfl (by kernel_rfl) (by kernel_rfl) (by kernel_rfl) (fun _ _ _ h => h) (Or.inl ⟨by rfl, fun w hSw => ?_⟩) hHeld ?_
          · (go_simp)
          try simp only [Act.put, List.setIfInBounds_toArray, List.set_cons_zero, List.set_cons_succ]
          refine take1 (i := 49) (v := .bool true) rfl (by kernel_rfl) (by kernel_rfl) (by kernel_rfl) (fun _ _ _ h => h) (Or.inl ⟨by rfl, fun w hSw => ?_⟩) hHeld ?_
          · (go_simp)
          try simp only [Act.put, List.setIfInBounds_toArray, List.set_cons_zero, List.set_cons_succ]
          refine wpAnyH_done (by kernel_rfl) ?_ _
          refine NoPanic.normal ?_
          go_wp2_with fail
          go_ret
          exact ⟨rfl, s10_bel (c := 0) (s := s) (d := d) (t := t) (bm := bm) (bn := bn) (bq := wc.heap.size) (m := leastOf l) hHeld⟩
end Go.Proofs.YtofopppalmcijaaDoor
