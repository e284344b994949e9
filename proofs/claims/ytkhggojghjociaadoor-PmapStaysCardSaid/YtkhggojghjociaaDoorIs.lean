/-
  The contract of the law's Is: a map with the document's entries is the document's, in all that it tells.
-/
import Derived.Test.YtkhggojghjociaaDoorAwakeD
import Derived.Test.YtkhggojghjociaaDoorRefPut
namespace Go.Proofs.YtkhggojghjociaaDoor
open Go Go.Proofs Go.RowKit Go.Shelf

attribute [local go_sem] Oper.semAt_some

/-- All places are ids' that may be. -/
def Good (T : Pt) : Prop := ∀ x ∈ els T, mayB (nmC x.1) (nmS x.1) = true
theorem insL_mem {at_ : Nat} {e : En} : ∀ {l : List (Nat × En)} {x : Nat × En}, x ∈ insL at_ e l → x = (at_, e) ∨ x ∈ l
  | [], x, h => .inl (List.mem_singleton.1 h)
  | y :: l, x, h => by
    simp only [insL] at h
    split at h
    · rcases List.mem_cons.1 h with rfl | h
      · exact .inr (by simp)
      · rcases insL_mem h with h | h
        · exact .inl h
        · exact .inr (List.mem_cons_of_mem _ h)
    · split at h
      · rcases List.mem_cons.1 h with rfl | h
        · exact .inl rfl
        · exact .inr (List.mem_cons_of_mem _ h)
      · rcases List.mem_cons.1 h with rfl | h
        · exact .inl rfl
        · exact .inr h
theorem good_nil : Good .nil := fun x hx => by cases hx
theorem good_putM {T : Pt} (c s : Int) (e : En) (h : Good T) : Good (putM T c s e) := by
  unfold putM
  split
  · rename_i hm
    intro x hx
    rw [els_insL T e (place_lt hm)] at hx
    rcases insL_mem hx with rfl | hx
    · rw [(place_nm hm).1, (place_nm hm).2]; exact hm
    · exact h x hx
  · exact h
theorem place_of_nm (x : Nat) : placeI (nmC x) (nmS x) = x := by unfold placeI nmC nmS; omega
theorem getM_of {T : Pt} (hg : Good T) {x : Nat × En} (hx : x ∈ els T) : getM T (nmC x.1) (nmS x.1) = some x.2 := by
  unfold getM
  rw [if_pos (hg x hx), place_of_nm, getT_getL T (els_lt hx), getL_mem (els_rising T) hx]
/-- The document's list of a map. -/
def reT (T : Pt) : List Re := (els T).map toRe
theorem reT_len (T : Pt) : (reT T).length = (els T).length := by simp [reT]
theorem Re.same {x y : Re} (h1 : x.c = y.c) (h2 : x.s = y.s) (h3 : x.e.ac = y.e.ac) (h4 : x.e.an = y.e.an) (h5 : x.e.ch = y.e.ch) (h6 : x.e.d = y.e.d) : x = y := by
  obtain ⟨c, s, ⟨p, q, r, t⟩⟩ := x
  obtain ⟨c', s', ⟨p', q', r', t'⟩⟩ := y
  cases h1; cases h2; cases h3; cases h4; cases h5; cases h6; rfl
theorem toRe_inj {x y : Nat × En} (h : toRe x = toRe y) : x = y := by
  have h1 : nmC x.1 = nmC y.1 := congrArg Re.c h
  have h2 : nmS x.1 = nmS y.1 := congrArg Re.s h
  have h3 : x.2 = y.2 := congrArg Re.e h
  exact Prod.ext (nm_inj h1 h2) h3
/-- The boxes of Is ahead of its range. -/
structure IsB (w : World) (p : Option Addr) (n : Int) (v : Value) (T : Pt) (W : World) : Prop where
  bel : Below w.heap.size w W
  bm : Blk W w.heap.size [.pointer p, .int .i64 n] 28
  bl : Blk W (w.heap.size + 1) [v] 29
  br : ∃ u, Blk W (w.heap.size + 1 + 1) [u] 4
  tr : IsM W p T
  ls : IsR W v (reT T)
theorem IsB.next {w : World} {p : Option Addr} {n : Int} {v : Value} {T : Pt} {W W' : World} (h : IsB w p n v T W) (hb : Below W.heap.size W W') : IsB w p n v T W' :=
  ⟨h.bel.trans (hb.mono h.bel.size), h.bm.next hb, h.bl.next hb, let ⟨u, hu⟩ := h.br; ⟨u, hu.next hb⟩, h.tr.next hb, h.ls.next hb⟩
theorem IsB.start {w : World} {p : Option Addr} {n : Int} {v : Value} {T : Pt} (h1 : IsM w p T) (h2 : IsR w v (reT T)) : IsB w p n v T (((w.alloc (.cells #[.pointer p, .int .i64 n] 28)).alloc (.cells #[v] 29)).alloc (.cells #[.bool false] 4)) := by
  have hb : Below w.heap.size w (((w.alloc (.cells #[.pointer p, .int .i64 n] 28)).alloc (.cells #[v] 29)).alloc (.cells #[.bool false] 4)) := (((Below.refl _ _).alloc (Nat.le_refl _) _).alloc (by simp) _).alloc (by simp; omega) _
  exact ⟨hb, ((Blk.start w _ _).alloc _).alloc _, (Blk.startAt (by simp)).alloc _, ⟨_, Blk.startAt (by simp)⟩, h1.next hb, h2.next hb⟩

theorem toRe_same {v : Nat × En} {y : Re} (h1 : nmC v.1 = y.c) (h2 : nmS v.1 = y.s) (h3 : v.2.ac = y.e.ac) (h4 : v.2.an = y.e.an) (h5 : v.2.ch = y.e.ch) (h6 : v.2.d = y.e.d) : toRe v = y := Re.same h1 h2 h3 h4 h5 h6
theorem Blk.ne {W : World} {b c : Nat} {vs us : List Value} {t u : TypeId} (h : Blk W b vs t) (k : Blk W c us u) (hne : t ≠ u) : b ≠ c := by
  rintro rfl
  unfold Blk at h k
  rw [h] at k
  cases k
  exact hne rfl
theorem IsR.set {W : World} {b : Nat} {vs : List Value} {t : TypeId} (hB : Blk W b vs t) (ht : t ≠ 40) (i : Nat) (u : Value) {v : Value} {L : List Re} (h : IsR W v L) : IsR (W.setCell ⟨b, i, none⟩ u) v L := by
  rcases h with h | ⟨g, cap, cur, rfl, hg, h⟩
  · exact .inl h
  · refine .inr ⟨g, cap, cur, rfl, ?_, h⟩
    rw [Below.heap_setCell _ _ _ _ (by
      rintro rfl
      unfold Blk at hB
      rw [hB] at hg
      cases hg
      exact ht rfl)]
    exact hg
theorem get_here {p : Option Addr} {T : Pt} (n : Int) (w : World) (hT : IsM w p T) (hg : Good T) {x : Nat × En} (hx : x ∈ els T) :
    Calls Tryd.prog 10 #[.agg #[.pointer p, .int .i64 n], .agg #[.int .i64 (nmC x.1), .int .i64 (nmS x.1)]] w
      fun e w' => e = .returned (.tuple #[.agg #[.int .i64 x.2.ac, .int .i64 x.2.an, .int .i32 x.2.ch, .bool x.2.d], .bool true]) ∧ Below w.heap.size w w' := by
  have := get_any n (nmC x.1) (nmS x.1) w hT
  rw [getM_of hg hx] at this
  exact this
theorem Blk.putObj {W : World} {b D : Nat} {vs : List Value} {t : TypeId} (h : Blk W b vs t) (hne : b ≠ D) (o : Obj) : Blk (W.putObj D o) b vs t := (World.putObj_heap_other hne).trans h
/-- The cells of the document's entry at a place of a slice. -/
def YC (X : World) (g k : Nat) (y : Re) : Prop :=
  X.cell? ⟨g, k * 6, none⟩ = some (.int .i64 y.c) ∧ X.cell? ⟨g, k * 6 + 1, none⟩ = some (.int .i64 y.s) ∧ X.cell? ⟨g, k * 6 + 2, none⟩ = some (.int .i64 y.e.ac) ∧ X.cell? ⟨g, k * 6 + 3, none⟩ = some (.int .i64 y.e.an) ∧ X.cell? ⟨g, k * 6 + 4, none⟩ = some (.int .i32 y.e.ch) ∧ X.cell? ⟨g, k * 6 + 5, none⟩ = some (.bool y.e.d)
theorem yc_of {X : World} {g n cap : Nat} {L : List Re} (h : IsR X (.slice (some ⟨g, 0, none⟩) n cap) L) {k : Nat} (hk : k < L.length) : YC X g k L[k] := by
  obtain ⟨g', e, -, hj⟩ := h.cell k hk
  cases e
  exact ⟨hj 0 (by omega), hj 1 (by omega), hj 2 (by omega), hj 3 (by omega), hj 4 (by omega), hj 5 (by omega)⟩
/-- A round of Is. -/
structure RdS (w : World) (p : Option Addr) (n : Int) (v : Value) (T : Pt) (k : Nat) (Bi Be Bx : Nat) (x : Nat × En) (X : World) : Prop where
  base : IsB w p n v T X
  bn : Go.Boxed X (w.heap.size + 1 + 1 + 1) 3 (.int .i64 (k : Int))
  bi : Blk X Bi [.int .i64 (nmC x.1), .int .i64 (nmS x.1)] 24
  be : Blk X Be (enL x.2) 31
  bx : Blk X Bx (enL x.2) 31
theorem RdS.next {w : World} {p : Option Addr} {n : Int} {v : Value} {T : Pt} {k : Nat} {Bi Be Bx : Nat} {x : Nat × En} {X X' : World} (h : RdS w p n v T k Bi Be Bx x X) (hb : Below X.heap.size X X') : RdS w p n v T k Bi Be Bx x X' :=
  ⟨h.base.next hb, Boxed.nextB h.bn hb, h.bi.next hb, h.be.next hb, h.bx.next hb⟩
def SRd (w : World) (p : Option Addr) (n : Int) (v : Value) (T : Pt) (k : Nat) (Bi Be Bx g : Nat) (x : Nat × En) (y : Re) (X : World) : Prop :=
  X.cell? ⟨w.heap.size + 1 + 1 + 1, 0, none⟩ = some (.int .i64 (k : Int)) ∧ X.cell? ⟨w.heap.size + 1, 0, none⟩ = some v ∧
  X.cell? ⟨Bi, 0, none⟩ = some (.int .i64 (nmC x.1)) ∧ X.cell? ⟨Bi, 1, none⟩ = some (.int .i64 (nmS x.1)) ∧
  X.cell? ⟨Be, 0, none⟩ = some (.int .i64 x.2.ac) ∧ X.cell? ⟨Be, 1, none⟩ = some (.int .i64 x.2.an) ∧ X.cell? ⟨Be, 2, none⟩ = some (.int .i32 x.2.ch) ∧ X.cell? ⟨Be, 3, none⟩ = some (.bool x.2.d) ∧
  X.cell? ⟨Bx, 0, none⟩ = some (.int .i64 x.2.ac) ∧ X.cell? ⟨Bx, 1, none⟩ = some (.int .i64 x.2.an) ∧ X.cell? ⟨Bx, 2, none⟩ = some (.int .i32 x.2.ch) ∧ X.cell? ⟨Bx, 3, none⟩ = some (.bool x.2.d) ∧
  X.cell? ⟨g, k * 6, none⟩ = some (.int .i64 y.c) ∧ X.cell? ⟨g, k * 6 + 1, none⟩ = some (.int .i64 y.s) ∧ X.cell? ⟨g, k * 6 + 2, none⟩ = some (.int .i64 y.e.ac) ∧ X.cell? ⟨g, k * 6 + 3, none⟩ = some (.int .i64 y.e.an) ∧ X.cell? ⟨g, k * 6 + 4, none⟩ = some (.int .i32 y.e.ch) ∧ X.cell? ⟨g, k * 6 + 5, none⟩ = some (.bool y.e.d) ∧
  RdS w p n v T k Bi Be Bx x X
theorem RdS.s {w : World} {p : Option Addr} {n : Int} {v : Value} {T : Pt} {k : Nat} {Bi Be Bx g : Nat} {x : Nat × En} {y : Re} {X : World} (h : RdS w p n v T k Bi Be Bx x X) (c : YC X g k y) : SRd w p n v T k Bi Be Bx g x y X :=
  ⟨h.bn.cell, h.base.bl.cell 0 rfl, h.bi.cell 0 rfl, h.bi.cell 1 rfl, h.be.cell 0 rfl, h.be.cell 1 rfl, h.be.cell 2 rfl, h.be.cell 3 rfl, h.bx.cell 0 rfl, h.bx.cell 1 rfl, h.bx.cell 2 rfl, h.bx.cell 3 rfl, c.1, c.2.1, c.2.2.1, c.2.2.2.1, c.2.2.2.2.1, c.2.2.2.2.2, h⟩
theorem SRd.rd {w : World} {p : Option Addr} {n : Int} {v : Value} {T : Pt} {k : Nat} {Bi Be Bx g : Nat} {x : Nat × En} {y : Re} {X : World} (h : SRd w p n v T k Bi Be Bx g x y X) : RdS w p n v T k Bi Be Bx x X := h.2.2.2.2.2.2.2.2.2.2.2.2.2.2.2.2.2.2
/-- What stands behind the range of Is. -/
structure IsF (w : World) (p : Option Addr) (n : Int) (v : Value) (T : Pt) (D Bz : Nat) (X : World) : Prop where
  base : IsB w p n v T X
  bn : Go.Boxed X (w.heap.size + 1 + 1 + 1) 3 (.int .i64 n)
  bz : Blk X Bz [.int .i64 (lastC T), .int .i64 (lastS T)] 24
  dk : X.heap[D]? = some (.deferred (some []))
theorem IsF.next {w : World} {p : Option Addr} {n : Int} {v : Value} {T : Pt} {D Bz : Nat} {X X' : World} (h : IsF w p n v T D Bz X) (hb : Below X.heap.size X X') : IsF w p n v T D Bz X' :=
  ⟨h.base.next hb, Boxed.nextB h.bn hb, h.bz.next hb, (hb.block D (Array.getElem?_eq_some_iff.1 h.dk).1).trans h.dk⟩
theorem IsF.s {w : World} {p : Option Addr} {n : Int} {v : Value} {T : Pt} {D Bz : Nat} {X : World} (h : IsF w p n v T D Bz X) :
    X.cell? ⟨w.heap.size + 1 + 1 + 1, 0, none⟩ = some (.int .i64 n) ∧ X.cell? ⟨w.heap.size + 1, 0, none⟩ = some v ∧ X.cell? ⟨w.heap.size, 0, none⟩ = some (.pointer p) ∧ X.cell? ⟨w.heap.size, 1, none⟩ = some (.int .i64 n) ∧ X.cell? ⟨Bz, 0, none⟩ = some (.int .i64 (lastC T)) ∧ X.cell? ⟨Bz, 1, none⟩ = some (.int .i64 (lastS T)) ∧ IsF w p n v T D Bz X :=
  ⟨h.bn.cell, h.base.bl.cell 0 rfl, h.base.bm.cell 0 rfl, h.base.bm.cell 1 rfl, h.bz.cell 0 rfl, h.bz.cell 1 rfl, h⟩

theorem IsF.put {w : World} {p : Option Addr} {n : Int} {v : Value} {T : Pt} {D Bz : Nat} {X : World} (h : IsF w p n v T D Bz X) (z : Bool) :
    IsF w p n v T D Bz (X.setCell ⟨w.heap.size + 1 + 1, 0, none⟩ (.bool z)) ∧ Blk (X.setCell ⟨w.heap.size + 1 + 1, 0, none⟩ (.bool z)) (w.heap.size + 1 + 1) [.bool z] 4 := by
  obtain ⟨u, hu⟩ := h.base.br
  have n0 : w.heap.size ≠ w.heap.size + 1 + 1 := by omega
  have n1 : w.heap.size + 1 ≠ w.heap.size + 1 + 1 := by omega
  have hD : D ≠ w.heap.size + 1 + 1 := by rintro rfl; have := h.dk; unfold Blk at hu; rw [hu] at this; cases this
  refine ⟨⟨⟨h.base.bel.setCell (p := ⟨w.heap.size + 1 + 1, 0, none⟩) (by show w.heap.size ≤ w.heap.size + 1 + 1; omega) _, h.base.bm.other _ n0 _, h.base.bl.other _ n1 _, ⟨_, hu.set 0 _⟩, ?_, h.base.ls.set hu (by decide) 0 _⟩, h.bn.other (by omega) _, h.bz.other _ (h.bz.ne hu (by decide)) _, (Below.heap_setCell _ _ _ _ hD).trans h.dk⟩, hu.set 0 _⟩
  have := IsP.set hu (by decide) 0 (.bool z) h.base.tr
  unfold IsM
  simpa using this

set_option maxHeartbeats 6400000 in
set_option maxRecDepth 100000 in
theorem is_any {p : Option Addr} {T : Pt} (v0 : Value) (w : World) (hT : IsM w p T) (hf : Full 10 T) (hg : Good T) (hL : IsR w v0 (reT T)) (hn : (els T).length ≤ 1000) :
    Calls Tryd.prog 13 #[.agg #[.pointer p, .int .i64 (cnt T)], v0] w fun e w' => e = .returned (.bool true) ∧ Below w.heap.size w w' := by
  obtain ⟨a, cap, rfl, hc1, hc2⟩ := hL.form
  rw [reT_len] at hc1 hL ⊢
  have H0 := Lib.hid (IsB.start (n := cnt T) hT hL)
  have hcn : cnt T = ((els T).length : Int) := rfl
  rw [hcn] at H0 ⊢
  clear hT hL hcn
  have HF := Lib.hid hf
  have HG := Lib.hid hg
  clear hf hg
  refine (callsIn_wide (n := 5)).1 (callsIn_of_wp_marks Tryd.func13 rfl trivial (wpIn_wide.2 ?_) rfl)
  simp only [Tryd.ntmps13, List.size_toArray, List.length_cons, List.length_nil, Nat.reduceAdd, Nat.reduceSub, Array.replicate_succ, Array.replicate_zero, List.push_toArray, List.append_toArray, List.nil_append, List.cons_append]
  have ef := eqlF
  go_wp2_with (go_at_call 14; refine (all_any _ _ _).mono ?_; rintro e w' ⟨rfl, rfl⟩)
  have hsz : (((w.alloc (.cells #[.pointer p, .int .i64 ((els T).length : Int)] 28)).alloc (.cells #[.slice a (els T).length cap] 29)).alloc (.cells #[.bool false] 4)).heap.size = w.heap.size + 1 + 1 + 1 := by simp
  clear ef
  generalize ((w.alloc (.cells #[.pointer p, .int .i64 ((els T).length : Int)] 28)).alloc (.cells #[.slice a (els T).length cap] 29)).alloc (.cells #[.bool false] 4) = W1 at *
  have hbk : Go.Boxed (((W1.alloc (.cells #[.int .i64 0] 3)).alloc (.cells #[.pointer p, .int .i64 ((els T).length : Int)] 28)).alloc (.cells #[.pointer p, .int .i64 ((els T).length : Int)] 28)) (w.heap.size + 1 + 1 + 1) 3 (.int .i64 0) := by rw [← hsz]; exact ((Go.Boxed.new W1 _ _).alloc _).alloc _
  have hbt := (Blk.startAt (W := (W1.alloc (.cells #[.int .i64 0] 3)).alloc (.cells #[.pointer p, .int .i64 ((els T).length : Int)] 28)) (b := w.heap.size + 1 + 1 + 1 + 1 + 1) (vs := [.pointer p, .int .i64 ((els T).length : Int)]) (t := 28) (by simp [hsz])).cell 0 rfl
  have hb3 : Below (w.heap.size + 1 + 1 + 1) W1 (((W1.alloc (.cells #[.int .i64 0] 3)).alloc (.cells #[.pointer p, .int .i64 ((els T).length : Int)] 28)).alloc (.cells #[.pointer p, .int .i64 ((els T).length : Int)] 28)) := by rw [← hsz]; exact (((Below.refl _ _).alloc (Nat.le_refl _) _).alloc (by simp) _).alloc (by simp; omega) _
  have hz3 : w.heap.size + 1 + 1 + 1 + 1 + 1 < (((W1.alloc (.cells #[.int .i64 0] 3)).alloc (.cells #[.pointer p, .int .i64 ((els T).length : Int)] 28)).alloc (.cells #[.pointer p, .int .i64 ((els T).length : Int)] 28)).heap.size := by simp [hsz]
  generalize ((W1.alloc (.cells #[.int .i64 0] 3)).alloc (.cells #[.pointer p, .int .i64 ((els T).length : Int)] 28)).alloc (.cells #[.pointer p, .int .i64 ((els T).length : Int)] 28) = W3 at *
  have hT3 : IsP (w.heap.size + 1 + 1 + 1) W3 p T := by have := H0.out.tr; unfold IsM at this; rw [hsz] at this; exact this.below hb3
  have hmx : Tryd.prog.follows .mixedOrders = true := by kernel_rfl
  refine (wpIn_wide (n := 5)).1 ?_
  refine wpIn_rangeFunc_ownH rfl (by omega) (gf := 25) (lb := #[.pointer (some ⟨w.heap.size + 1 + 1 + 1 + 1 + 1, 0, none⟩)]) rfl trivial (enters_of Tryd.func25 (by kernel_rfl) rfl)
    (all_stops _ (w.heap.size + 1 + 1 + 1 + 1 + 1) (w.heap.size + 1 + 1 + 1) p T W3 hz3 (by omega) hbt hT3) belowK_t (belowK_b (by omega)) (Below.refl _ _) (fun _ => rfl)
    (fun pre W => Go.Boxed W (w.heap.size + 1 + 1 + 1) 3 (.int .i64 (pre.length : Int)) ∧ Below (w.heap.size + 1 + 1 + 1) W1 W)
    (fun _ xs _ => ¬ raw xs <+: els T)
    (OwnFrom.and (Own.from (boxed_own (w.heap.size + 1 + 1 + 1) 3 (fun pre : List (ElT T) => .int .i64 (pre.length : Int))) _) (ownFrom_below (by omega) (by omega)))
    (fun _ _ _ _ _ hs _ _ => hs)
    ⟨hbk, hb3⟩
    (fun x a' W => ∃ Bi Be, Blk W Bi [.int .i64 (nmC x.1.1), .int .i64 (nmS x.1.1)] 24 ∧ Blk W Be (enL x.1.2) 31 ∧ a' = { tmps := #[Value.agg #[Value.pointer p, Value.int IntKind.i64 ((els T).length : Int)], Value.slice a (els T).length cap, Value.pointer (some ⟨w.heap.size, 0, none⟩), Value.pointer (some ⟨w.heap.size + 1, 0, none⟩), Value.pointer (some ⟨w.heap.size + 1 + 1, 0, none⟩), Value.pointer (some ⟨w.heap.size + 1 + 1 + 1, 0, none⟩), .pointer (some ⟨Bi, 0, none⟩), .pointer (some ⟨Be, 0, none⟩), undef, undef, undef, Value.agg #[Value.pointer p, Value.int IntKind.i64 ((els T).length : Int)], Value.func (Fn.func 25) #[] #[Value.pointer (some ⟨w.heap.size + 1 + 1 + 1 + 1, 0, none⟩)], Value.bool false, Value.agg #[Value.pointer p, Value.int IntKind.i64 ((els T).length : Int)], Value.func (Fn.func 25) #[] #[Value.pointer (some ⟨w.heap.size + 1 + 1 + 1 + 1 + 1, 0, none⟩)], .agg #[.int .i64 (nmC x.1.1), .int .i64 (nmS x.1.1)], .agg #[.int .i64 x.1.2.ac, .int .i64 x.1.2.an, .int .i32 x.1.2.ch, .bool x.1.2.d], undef, undef, undef, undef, undef, undef, undef, undef, undef, undef, undef, undef, undef, undef, undef, undef, undef, undef, undef, undef, undef, undef, undef, undef, undef, undef, undef, undef, undef, undef, undef, undef, undef, undef, undef, undef, undef, undef, undef, undef, undef, undef, undef, undef, undef, undef, undef, undef, undef, undef, undef, undef, undef, undef, undef, undef, undef, undef], defers := [] })
    (fun x a' _ W W' row hs hg hr => by obtain ⟨Bi, Be, hb, hb', he⟩ := hs; exact ⟨Bi, Be, hb.grown hg (fun r e => (hr r e).2), hb'.grown hg (fun r e => (hr r e).2), he⟩)
    ?assign ?body ?done ?stop
  case assign =>
    rintro l' pre x W K ⟨hi1, hi3⟩ hK
    gi_wp2
    refine hK _ _ (((KeepsOthers.alloc _ _).trans (KeepsOthers.alloc _ _)).from _) (((Below.refl _ W).alloc (by have := hi1.lt; omega) _).alloc (by have := hi1.lt; simp; omega) _) ⟨(hi1.alloc _).alloc _, (hi3.alloc (by have := hi1.lt; omega) _).alloc (by have := hi1.lt; simp; omega) _⟩ ⟨W.heap.size, W.heap.size + 1, (Blk.start _ _ _).alloc _, Blk.startAt (by simp), rfl⟩
  case stop =>
    rintro D c pre W _ hp h _
    exact absurd hp h
  case body =>
    rintro l' pre ⟨v, hv⟩ a' W hl' - ⟨hi1, hi3⟩ ⟨Bi, Be, hbi, hbe, rfl⟩ hlt'
    have hbi : Blk W Bi [.int .i64 (nmC v.1), .int .i64 (nmS v.1)] 24 := hbi
    have hbe : Blk W Be (enL v.2) 31 := hbe
    have hsn : (((pre ++ [(⟨v, hv⟩ : ElT T)]).length : Nat) : Int) = (pre.length : Int) + 1 := by simp
    have hrw : raw (pre ++ [(⟨v, hv⟩ : ElT T)]) = raw pre ++ [v] := by simp [raw]
    have hrl : (raw pre).length = pre.length := by simp
    have hnb := hi1.lt
    have hi3' : Below W1.heap.size W1 W := by rw [hsz]; exact hi3
    have hB := H0.out.next hi3'
    have m0 := hB.bm.cell 0 rfl
    have m1 := hB.bm.cell 1 rfl
    have i0 := hbi.cell 0 rfl
    have i1 := hbi.cell 1 rfl
    have hkL : pre.length < (reT T).length := by rw [reT_len]; exact hlt'
    obtain ⟨g, rfl, -, -⟩ := hB.ls.cell pre.length hkL
    have HC := Lib.hid (fun (X : World) (h : IsR X (.slice (some ⟨g, 0, none⟩) (els T).length cap) (reT T)) => yc_of h hkL)
    have HNP := Lib.hid (fun (hne : (reT T)[pre.length] ≠ toRe v) => show ¬ raw (pre ++ [(⟨v, hv⟩ : ElT T)]) <+: els T from fun h => hne (by
      rw [hrw] at h
      obtain ⟨t, ht⟩ := h
      have h1 : (raw pre ++ [v] ++ t)[pre.length]? = some v := by rw [List.getElem?_append_left (by simp), List.getElem?_append_right (by simp)]; simp
      rw [ht, List.getElem?_eq_getElem hlt'] at h1
      have h2 := Option.some.inj h1
      simp [reT, h2]))
    clear hrw hrl
    generalize hk9 : pre.length = k at *
    generalize (reT T)[k] = y at *
    have hkN : (k : Int) < ((els T).length : Int) := by omega
    have HBW := Lib.hid (And.intro hB (And.intro hi1 (And.intro hbi hbe)))
    have HGE := Lib.hid (fun (n : Nat) X (h : IsM X p T) => CallsIn.inRound (n := n) l' (callsIn_wide.2 (get_here ((els T).length : Int) X h HG.out hv)))
    have hdep : ∀ k : Nat, ((Fence.wide.inRound l').depth.isSome = true → 1 ≤ k) := fun k h => by cases h
    clear hi1 hB hbi hbe hlt'
    gi_wp2_with ((try refine ⟨hdep _, ?_⟩); (try refine ⟨trivial, ?_⟩); gi_at_call 10; refine (HGE.out _ _ HBW.out.1.tr).mono ?_; rintro e X1 ⟨rfl, hb⟩)
    have hBZ : Below W.heap.size W (X1.alloc (.cells #[.int .i64 v.2.ac, .int .i64 v.2.an, .int .i32 v.2.ch, .bool v.2.d] 31)) := hb.alloc hb.size _
    have HBZ := Lib.hid hBZ
    have HR := Lib.hid (show RdS w p ((els T).length : Int) (.slice (some ⟨g, 0, none⟩) (els T).length cap) T k Bi Be X1.heap.size v (X1.alloc (.cells #[.int .i64 v.2.ac, .int .i64 v.2.an, .int .i32 v.2.ch, .bool v.2.d] 31)) from
      ⟨HBW.out.1.next hBZ, Boxed.nextB HBW.out.2.1 hBZ, HBW.out.2.2.1.next hBZ, HBW.out.2.2.2.next hBZ, Blk.start _ _ _⟩)
    clear hb hBZ HBW m0 m1 i0 i1 HGE
    generalize (X1.alloc (.cells #[.int .i64 v.2.ac, .int .i64 v.2.an, .int .i32 v.2.ch, .bool v.2.d] 31)) = X2 at *
    generalize X1.heap.size = Bx at *
    by_cases hE : y = toRe v
    · subst hE
      refine region_round (S := (fun X => X.cell? ⟨w.heap.size + 1 + 1 + 1, 0, none⟩ = some (.int .i64 (k : Int)) ∧ X.cell? ⟨w.heap.size + 1, 0, none⟩ = some (.slice (some ⟨g, 0, none⟩) (els T).length cap) ∧ X.cell? ⟨Bi, 0, none⟩ = some (.int .i64 (nmC v.1)) ∧ X.cell? ⟨Bi, 1, none⟩ = some (.int .i64 (nmS v.1)) ∧ X.cell? ⟨Be, 0, none⟩ = some (.int .i64 v.2.ac) ∧ X.cell? ⟨Be, 1, none⟩ = some (.int .i64 v.2.an) ∧ X.cell? ⟨Be, 2, none⟩ = some (.int .i32 v.2.ch) ∧ X.cell? ⟨Be, 3, none⟩ = some (.bool v.2.d) ∧ X.cell? ⟨Bx, 0, none⟩ = some (.int .i64 v.2.ac) ∧ X.cell? ⟨Bx, 1, none⟩ = some (.int .i64 v.2.an) ∧ X.cell? ⟨Bx, 2, none⟩ = some (.int .i32 v.2.ch) ∧ X.cell? ⟨Bx, 3, none⟩ = some (.bool v.2.d) ∧ X.cell? ⟨g, k * 6, none⟩ = some (.int .i64 (nmC v.1)) ∧ X.cell? ⟨g, k * 6 + 1, none⟩ = some (.int .i64 (nmS v.1)) ∧ X.cell? ⟨g, k * 6 + 2, none⟩ = some (.int .i64 (v.2.ac)) ∧ X.cell? ⟨g, k * 6 + 3, none⟩ = some (.int .i64 (v.2.an)) ∧ X.cell? ⟨g, k * 6 + 4, none⟩ = some (.int .i32 v.2.ch) ∧ X.cell? ⟨g, k * 6 + 5, none⟩ = some (.bool v.2.d) ∧ RdS w p ((els T).length : Int) (.slice (some ⟨g, 0, none⟩) (els T).length cap) T k Bi Be Bx v X)) hmx (by kernel_rfl) (((HR.out.next (Below.refl _ _).drew).s (HC.out _ (HR.out.next (Below.refl _ _).drew).base.ls))) (fun hHeld => ?_)
      refine take1 (i := 0) (v := .int .i64 (k : Int)) rfl (by kernel_rfl) (by kernel_rfl) (by kernel_rfl) (fun _ _ _ h => h) (Or.inl ⟨by rfl, fun w hSw => ?_⟩) hHeld ?_
      · (go_simp)
      try simp only [Act.put, List.setIfInBounds_toArray, List.set_cons_zero, List.set_cons_succ]
      refine take1 (i := 1) (v := .slice (some ⟨g, 0, none⟩) (els T).length cap) rfl (by kernel_rfl) (by kernel_rfl) (by kernel_rfl) (fun _ _ _ h => h) (Or.inl ⟨by rfl, fun w hSw => ?_⟩) hHeld ?_
      · (go_simp)
      try simp only [Act.put, List.setIfInBounds_toArray, List.set_cons_zero, List.set_cons_succ]
      refine take1 (i := 2) (v := .int .i64 ((els T).length : Int)) rfl (by kernel_rfl) (by kernel_rfl) (by kernel_rfl) (fun _ _ _ h => h) (Or.inl ⟨by rfl, fun w hSw => ?_⟩) hHeld ?_
      · (go_simp)
      try simp only [Act.put, List.setIfInBounds_toArray, List.set_cons_zero, List.set_cons_succ]
      refine take1 (i := 3) (v := .bool false) rfl (by kernel_rfl) (by kernel_rfl) (by kernel_rfl) (fun _ _ _ h => h) (Or.inl ⟨by rfl, fun w hSw => ?_⟩) hHeld ?_
      · (go_simp; omega)
      try simp only [Act.put, List.setIfInBounds_toArray, List.set_cons_zero, List.set_cons_succ]
      refine take1 (i := 4) (v := .bool false) rfl (by kernel_rfl) (by kernel_rfl) (by kernel_rfl) (fun _ _ _ h => h) (Or.inl ⟨by rfl, fun w hSw => ?_⟩) hHeld ?_
      · (go_simp)
      try simp only [Act.put, List.setIfInBounds_toArray, List.set_cons_zero, List.set_cons_succ]
      refine take1 (i := 5) (v := .agg #[.int .i64 (nmC v.1), .int .i64 (nmS v.1)]) rfl (by kernel_rfl) (by kernel_rfl) (by kernel_rfl) (fun _ _ _ h => h) (Or.inl ⟨by rfl, fun w hSw => ?_⟩) hHeld ?_
      · (go_simp)
      try simp only [Act.put, List.setIfInBounds_toArray, List.set_cons_zero, List.set_cons_succ]
      refine take1 (i := 6) (v := .agg #[.int .i64 v.2.ac, .int .i64 v.2.an, .int .i32 v.2.ch, .bool v.2.d]) rfl (by kernel_rfl) (by kernel_rfl) (by kernel_rfl) (fun _ _ _ h => h) (Or.inl ⟨by rfl, fun w hSw => ?_⟩) hHeld ?_
      · (go_simp)
      try simp only [Act.put, List.setIfInBounds_toArray, List.set_cons_zero, List.set_cons_succ]
      refine take1 (i := 8) (v := .slice (some ⟨g, 0, none⟩) (els T).length cap) rfl (by kernel_rfl) (by kernel_rfl) (by kernel_rfl) (fun _ _ _ h => h) (Or.inl ⟨by rfl, fun w hSw => ?_⟩) hHeld ?_
      · (go_simp)
      try simp only [Act.put, List.setIfInBounds_toArray, List.set_cons_zero, List.set_cons_succ]
      refine take1 (i := 9) (v := .int .i64 (k : Int)) rfl (by kernel_rfl) (by kernel_rfl) (by kernel_rfl) (fun _ _ _ h => h) (Or.inl ⟨by rfl, fun w hSw => ?_⟩) hHeld ?_
      · (go_simp)
      try simp only [Act.put, List.setIfInBounds_toArray, List.set_cons_zero, List.set_cons_succ]
      refine take1 (i := 10) (v := .pointer (some ⟨g, k * 6, none⟩)) rfl (by kernel_rfl) (by kernel_rfl) (by kernel_rfl) (fun _ _ _ h => h) (Or.inl ⟨by rfl, fun w hSw => ?_⟩) hHeld ?_
      · (go_simp)
      try simp only [Act.put, List.setIfInBounds_toArray, List.set_cons_zero, List.set_cons_succ]
      refine take1 (i := 11) (v := .agg #[.int .i64 (nmC v.1), .int .i64 (nmS v.1), .int .i64 (v.2.ac), .int .i64 (v.2.an), .int .i32 v.2.ch, .bool v.2.d]) rfl (by kernel_rfl) (by kernel_rfl) (by kernel_rfl) (fun _ _ _ h => h) (Or.inl ⟨by rfl, fun w hSw => ?_⟩) hHeld ?_
      · (go_simp)
      try simp only [Act.put, List.setIfInBounds_toArray, List.set_cons_zero, List.set_cons_succ]
      refine wpAnyH_ready (rs := [7]) (by kernel_rfl) (by simp) ?_
      refine cons1 rfl (fun K hK => ?_) AllReadyH.nil
      go_simp
      refine (of4_any _ _ v.2 _).mono ?_
      unfold reV
      rintro e' u1 ⟨rfl, hb⟩
      go_wp2_with fail
      refine hK.out _ _ ((let h := hHeld.2.2.2.2.2.2.2.2.2.2.2.2.2.2.2.2.2.2.next hb; h.s (HC.out _ h.base.ls))) (fun hHeld2 => ?_)
      clear hK K hHeld 
      have hHeld := hHeld2
      clear hHeld2
      try simp only [Act.put, List.setIfInBounds_toArray, List.set_cons_zero, List.set_cons_succ]
      have HBB := Lib.hid (show Below X2.heap.size X2 u1 from (Below.refl X2.heap.size X2).drew.trans hb)
      clear hb
      refine take1 (i := 12) (v := .bool false) rfl (by kernel_rfl) (by kernel_rfl) (by kernel_rfl) (fun _ _ _ h => h) (Or.inl ⟨by rfl, fun w hSw => ?_⟩) hHeld ?_
      · (go_simp)
      try simp only [Act.put, List.setIfInBounds_toArray, List.set_cons_zero, List.set_cons_succ]
      refine take1 (i := 13) (v := .bool false) rfl (by kernel_rfl) (by kernel_rfl) (by kernel_rfl) (fun _ _ _ h => h) (Or.inl ⟨by rfl, fun w hSw => ?_⟩) hHeld ?_
      · (go_simp)
      try simp only [Act.put, List.setIfInBounds_toArray, List.set_cons_zero, List.set_cons_succ]
      refine take1 (i := 14) (v := .bool false) rfl (by kernel_rfl) (by kernel_rfl) (by kernel_rfl) (fun _ _ _ h => h) (Or.inl ⟨by rfl, fun w hSw => ?_⟩) hHeld ?_
      · (go_simp)
      try simp only [Act.put, List.setIfInBounds_toArray, List.set_cons_zero, List.set_cons_succ]
      refine take1 (i := 15) (v := .bool true) rfl (by kernel_rfl) (by kernel_rfl) (by kernel_rfl) (fun _ _ _ h => h) (Or.inl ⟨by rfl, fun w hSw => ?_⟩) hHeld ?_
      · (go_simp)
      try simp only [Act.put, List.setIfInBounds_toArray, List.set_cons_zero, List.set_cons_succ]
      refine take1 (i := 16) (v := .bool false) rfl (by kernel_rfl) (by kernel_rfl) (by kernel_rfl) (fun _ _ _ h => h) (Or.inl ⟨by rfl, fun w hSw => ?_⟩) hHeld ?_
      · (go_simp)
      try simp only [Act.put, List.setIfInBounds_toArray, List.set_cons_zero, List.set_cons_succ]
      refine take1 (i := 17) (v := .bool false) rfl (by kernel_rfl) (by kernel_rfl) (by kernel_rfl) (fun _ _ _ h => h) (Or.inl ⟨by rfl, fun w hSw => ?_⟩) hHeld ?_
      · (go_simp)
      try simp only [Act.put, List.setIfInBounds_toArray, List.set_cons_zero, List.set_cons_succ]
      refine take1 (i := 18) (v := .bool false) rfl (by kernel_rfl) (by kernel_rfl) (by kernel_rfl) (fun _ _ _ h => h) (Or.inl ⟨by rfl, fun w hSw => ?_⟩) hHeld ?_
      · (go_simp)
      try simp only [Act.put, List.setIfInBounds_toArray, List.set_cons_zero, List.set_cons_succ]
      refine take1 (i := 19) (v := .agg #[.int .i64 v.2.ac, .int .i64 v.2.an, .int .i32 v.2.ch, .bool v.2.d]) rfl (by kernel_rfl) (by kernel_rfl) (by kernel_rfl) (fun _ _ _ h => h) (Or.inl ⟨by rfl, fun w hSw => ?_⟩) hHeld ?_
      · (go_simp)
      try simp only [Act.put, List.setIfInBounds_toArray, List.set_cons_zero, List.set_cons_succ]
      refine take1 (i := 20) (v := .agg #[.int .i64 v.2.ac, .int .i64 v.2.an, .int .i32 v.2.ch, .bool v.2.d]) rfl (by kernel_rfl) (by kernel_rfl) (by kernel_rfl) (fun _ _ _ h => h) (Or.inl ⟨by rfl, fun w hSw => ?_⟩) hHeld ?_
      · (go_simp)
      try simp only [Act.put, List.setIfInBounds_toArray, List.set_cons_zero, List.set_cons_succ]
      refine take1 (i := 21) (v := .bool false) rfl (by kernel_rfl) (by kernel_rfl) (by kernel_rfl) (fun _ _ _ h => h) (Or.inl ⟨by rfl, fun w hSw => ?_⟩) hHeld ?_
      · (go_simp)
      try simp only [Act.put, List.setIfInBounds_toArray, List.set_cons_zero, List.set_cons_succ]
      refine take1 (i := 22) (v := .bool false) rfl (by kernel_rfl) (by kernel_rfl) (by kernel_rfl) (fun _ _ _ h => h) (Or.inl ⟨by rfl, fun w hSw => ?_⟩) hHeld ?_
      · (go_simp)
      try simp only [Act.put, List.setIfInBounds_toArray, List.set_cons_zero, List.set_cons_succ]
      refine wpAnyH_done (by kernel_rfl) ?_ _
      refine OnlyN.normal ?_
      have HZ := Lib.hid hHeld.2.2.2.2.2.2.2.2.2.2.2.2.2.2.2.2.2.2
      clear hHeld
      have hcn := HZ.out.bn.cell
      have hfn := HZ.out.bn.frozen
      have s1 : IntKind.i64.wrap ((k : Int) + 1) = (k : Int) + 1 := IntWalk.i64_in _ (by omega)
      gi_wp2
      have hbz := HZ.out.bn.set (.int .i64 ((k : Int) + 1))
      have hle : w.heap.size + 1 + 1 + 1 ≤ W.heap.size := Nat.le_of_lt hnb
      exact ⟨((keeps_of_below (HBZ.out.trans (HBB.out.mono (by have := HBZ.out.size; exact this)))).trans (KeepsOthers.setCell _ _ _)).from _, ((HBZ.out.mono hle).trans (HBB.out.mono (Nat.le_trans hle HBZ.out.size))).setCell (p := ⟨w.heap.size + 1 + 1 + 1, 0, none⟩) (Nat.le_refl _) _, by rw [hsn]; exact hbz, (hi3.trans ((HBZ.out.mono hle).trans (HBB.out.mono (Nat.le_trans hle HBZ.out.size)))).setCell (p := ⟨w.heap.size + 1 + 1 + 1, 0, none⟩) (Nat.le_refl _) _⟩
    · have HNE := Lib.hid (show ¬ toRe v = y from fun h => hE h.symm)
      have HNPE := Lib.hid (HNP.out hE)
      refine region_round (S := (fun X => X.cell? ⟨w.heap.size + 1 + 1 + 1, 0, none⟩ = some (.int .i64 (k : Int)) ∧ X.cell? ⟨w.heap.size + 1, 0, none⟩ = some (.slice (some ⟨g, 0, none⟩) (els T).length cap) ∧ X.cell? ⟨Bi, 0, none⟩ = some (.int .i64 (nmC v.1)) ∧ X.cell? ⟨Bi, 1, none⟩ = some (.int .i64 (nmS v.1)) ∧ X.cell? ⟨Be, 0, none⟩ = some (.int .i64 v.2.ac) ∧ X.cell? ⟨Be, 1, none⟩ = some (.int .i64 v.2.an) ∧ X.cell? ⟨Be, 2, none⟩ = some (.int .i32 v.2.ch) ∧ X.cell? ⟨Be, 3, none⟩ = some (.bool v.2.d) ∧ X.cell? ⟨Bx, 0, none⟩ = some (.int .i64 v.2.ac) ∧ X.cell? ⟨Bx, 1, none⟩ = some (.int .i64 v.2.an) ∧ X.cell? ⟨Bx, 2, none⟩ = some (.int .i32 v.2.ch) ∧ X.cell? ⟨Bx, 3, none⟩ = some (.bool v.2.d) ∧ X.cell? ⟨g, k * 6, none⟩ = some (.int .i64 y.c) ∧ X.cell? ⟨g, k * 6 + 1, none⟩ = some (.int .i64 y.s) ∧ X.cell? ⟨g, k * 6 + 2, none⟩ = some (.int .i64 y.e.ac) ∧ X.cell? ⟨g, k * 6 + 3, none⟩ = some (.int .i64 y.e.an) ∧ X.cell? ⟨g, k * 6 + 4, none⟩ = some (.int .i32 y.e.ch) ∧ X.cell? ⟨g, k * 6 + 5, none⟩ = some (.bool y.e.d) ∧ RdS w p ((els T).length : Int) (.slice (some ⟨g, 0, none⟩) (els T).length cap) T k Bi Be Bx v X)) hmx (by kernel_rfl) (((HR.out.next (Below.refl _ _).drew).s (HC.out _ (HR.out.next (Below.refl _ _).drew).base.ls))) (fun hHeld => ?_)
      refine take1 (i := 0) (v := .int .i64 (k : Int)) rfl (by kernel_rfl) (by kernel_rfl) (by kernel_rfl) (fun _ _ _ h => h) (Or.inl ⟨by rfl, fun w hSw => ?_⟩) hHeld ?_
      · (go_simp)
      try simp only [Act.put, List.setIfInBounds_toArray, List.set_cons_zero, List.set_cons_succ]
      refine take1 (i := 1) (v := .slice (some ⟨g, 0, none⟩) (els T).length cap) rfl (by kernel_rfl) (by kernel_rfl) (by kernel_rfl) (fun _ _ _ h => h) (Or.inl ⟨by rfl, fun w hSw => ?_⟩) hHeld ?_
      · (go_simp)
      try simp only [Act.put, List.setIfInBounds_toArray, List.set_cons_zero, List.set_cons_succ]
      refine take1 (i := 2) (v := .int .i64 ((els T).length : Int)) rfl (by kernel_rfl) (by kernel_rfl) (by kernel_rfl) (fun _ _ _ h => h) (Or.inl ⟨by rfl, fun w hSw => ?_⟩) hHeld ?_
      · (go_simp)
      try simp only [Act.put, List.setIfInBounds_toArray, List.set_cons_zero, List.set_cons_succ]
      refine take1 (i := 3) (v := .bool false) rfl (by kernel_rfl) (by kernel_rfl) (by kernel_rfl) (fun _ _ _ h => h) (Or.inl ⟨by rfl, fun w hSw => ?_⟩) hHeld ?_
      · (go_simp; omega)
      try simp only [Act.put, List.setIfInBounds_toArray, List.set_cons_zero, List.set_cons_succ]
      refine take1 (i := 4) (v := .bool false) rfl (by kernel_rfl) (by kernel_rfl) (by kernel_rfl) (fun _ _ _ h => h) (Or.inl ⟨by rfl, fun w hSw => ?_⟩) hHeld ?_
      · (go_simp)
      try simp only [Act.put, List.setIfInBounds_toArray, List.set_cons_zero, List.set_cons_succ]
      refine take1 (i := 5) (v := .agg #[.int .i64 (nmC v.1), .int .i64 (nmS v.1)]) rfl (by kernel_rfl) (by kernel_rfl) (by kernel_rfl) (fun _ _ _ h => h) (Or.inl ⟨by rfl, fun w hSw => ?_⟩) hHeld ?_
      · (go_simp)
      try simp only [Act.put, List.setIfInBounds_toArray, List.set_cons_zero, List.set_cons_succ]
      refine take1 (i := 6) (v := .agg #[.int .i64 v.2.ac, .int .i64 v.2.an, .int .i32 v.2.ch, .bool v.2.d]) rfl (by kernel_rfl) (by kernel_rfl) (by kernel_rfl) (fun _ _ _ h => h) (Or.inl ⟨by rfl, fun w hSw => ?_⟩) hHeld ?_
      · (go_simp)
      try simp only [Act.put, List.setIfInBounds_toArray, List.set_cons_zero, List.set_cons_succ]
      refine take1 (i := 8) (v := .slice (some ⟨g, 0, none⟩) (els T).length cap) rfl (by kernel_rfl) (by kernel_rfl) (by kernel_rfl) (fun _ _ _ h => h) (Or.inl ⟨by rfl, fun w hSw => ?_⟩) hHeld ?_
      · (go_simp)
      try simp only [Act.put, List.setIfInBounds_toArray, List.set_cons_zero, List.set_cons_succ]
      refine take1 (i := 9) (v := .int .i64 (k : Int)) rfl (by kernel_rfl) (by kernel_rfl) (by kernel_rfl) (fun _ _ _ h => h) (Or.inl ⟨by rfl, fun w hSw => ?_⟩) hHeld ?_
      · (go_simp)
      try simp only [Act.put, List.setIfInBounds_toArray, List.set_cons_zero, List.set_cons_succ]
      refine take1 (i := 10) (v := .pointer (some ⟨g, k * 6, none⟩)) rfl (by kernel_rfl) (by kernel_rfl) (by kernel_rfl) (fun _ _ _ h => h) (Or.inl ⟨by rfl, fun w hSw => ?_⟩) hHeld ?_
      · (go_simp)
      try simp only [Act.put, List.setIfInBounds_toArray, List.set_cons_zero, List.set_cons_succ]
      refine take1 (i := 11) (v := .agg #[.int .i64 y.c, .int .i64 y.s, .int .i64 y.e.ac, .int .i64 y.e.an, .int .i32 y.e.ch, .bool y.e.d]) rfl (by kernel_rfl) (by kernel_rfl) (by kernel_rfl) (fun _ _ _ h => h) (Or.inl ⟨by rfl, fun w hSw => ?_⟩) hHeld ?_
      · (go_simp)
      try simp only [Act.put, List.setIfInBounds_toArray, List.set_cons_zero, List.set_cons_succ]
      refine wpAnyH_ready (rs := [7]) (by kernel_rfl) (by simp) ?_
      refine cons1 rfl (fun K hK => ?_) AllReadyH.nil
      go_simp
      refine (of4_any _ _ v.2 _).mono ?_
      unfold reV
      rintro e' u1 ⟨rfl, hb⟩
      go_wp2_with fail
      refine hK.out _ _ ((let h := hHeld.2.2.2.2.2.2.2.2.2.2.2.2.2.2.2.2.2.2.next hb; h.s (HC.out _ h.base.ls))) (fun hHeld2 => ?_)
      clear hK K hHeld 
      have hHeld := hHeld2
      clear hHeld2
      try simp only [Act.put, List.setIfInBounds_toArray, List.set_cons_zero, List.set_cons_succ]
      have HBB := Lib.hid (show Below X2.heap.size X2 u1 from (Below.refl X2.heap.size X2).drew.trans hb)
      clear hb
      refine take1 (i := 12) (v := .bool true) rfl (by kernel_rfl) (by kernel_rfl) (by kernel_rfl) (fun _ _ _ h => h) (Or.inl ⟨by rfl, fun w hSw => ?_⟩) hHeld ?_
      · (go_simp; intro h1 h2 h3 h4 h5 h6; exact HNE.out (toRe_same h1 h2 h3 h4 h5 h6))
      try simp only [Act.put, List.setIfInBounds_toArray, List.set_cons_zero, List.set_cons_succ]
      refine take1 (i := 13) (v := .bool true) rfl (by kernel_rfl) (by kernel_rfl) (by kernel_rfl) (fun _ _ _ h => h) (Or.inl ⟨by rfl, fun w hSw => ?_⟩) hHeld ?_
      · (go_simp)
      try simp only [Act.put, List.setIfInBounds_toArray, List.set_cons_zero, List.set_cons_succ]
      refine take1 (i := 14) (v := .bool true) rfl (by kernel_rfl) (by kernel_rfl) (by kernel_rfl) (fun _ _ _ h => h) (Or.inl ⟨by rfl, fun w hSw => ?_⟩) hHeld ?_
      · (go_simp)
      try simp only [Act.put, List.setIfInBounds_toArray, List.set_cons_zero, List.set_cons_succ]
      refine take1 (i := 15) (v := undef) rfl (by kernel_rfl) (by kernel_rfl) (by kernel_rfl) (fun _ _ _ h => h) (Or.inr ⟨by rfl, rfl⟩) hHeld ?_
      try simp only [Act.put, List.setIfInBounds_toArray, List.set_cons_zero, List.set_cons_succ]
      refine take1 (i := 16) (v := undef) rfl (by kernel_rfl) (by kernel_rfl) (by kernel_rfl) (fun _ _ _ h => h) (Or.inr ⟨by rfl, rfl⟩) hHeld ?_
      try simp only [Act.put, List.setIfInBounds_toArray, List.set_cons_zero, List.set_cons_succ]
      refine take1 (i := 17) (v := .bool true) rfl (by kernel_rfl) (by kernel_rfl) (by kernel_rfl) (fun _ _ _ h => h) (Or.inl ⟨by rfl, fun w hSw => ?_⟩) hHeld ?_
      · (go_simp)
      try simp only [Act.put, List.setIfInBounds_toArray, List.set_cons_zero, List.set_cons_succ]
      refine take1 (i := 18) (v := .bool true) rfl (by kernel_rfl) (by kernel_rfl) (by kernel_rfl) (fun _ _ _ h => h) (Or.inl ⟨by rfl, fun w hSw => ?_⟩) hHeld ?_
      · (go_simp)
      try simp only [Act.put, List.setIfInBounds_toArray, List.set_cons_zero, List.set_cons_succ]
      refine take1 (i := 19) (v := undef) rfl (by kernel_rfl) (by kernel_rfl) (by kernel_rfl) (fun _ _ _ h => h) (Or.inr ⟨by rfl, rfl⟩) hHeld ?_
      try simp only [Act.put, List.setIfInBounds_toArray, List.set_cons_zero, List.set_cons_succ]
      refine take1 (i := 20) (v := undef) rfl (by kernel_rfl) (by kernel_rfl) (by kernel_rfl) (fun _ _ _ h => h) (Or.inr ⟨by rfl, rfl⟩) hHeld ?_
      try simp only [Act.put, List.setIfInBounds_toArray, List.set_cons_zero, List.set_cons_succ]
      refine take1 (i := 21) (v := undef) rfl (by kernel_rfl) (by kernel_rfl) (by kernel_rfl) (fun _ _ _ h => h) (Or.inr ⟨by rfl, rfl⟩) hHeld ?_
      try simp only [Act.put, List.setIfInBounds_toArray, List.set_cons_zero, List.set_cons_succ]
      refine take1 (i := 22) (v := .bool true) rfl (by kernel_rfl) (by kernel_rfl) (by kernel_rfl) (fun _ _ _ h => h) (Or.inl ⟨by rfl, fun w hSw => ?_⟩) hHeld ?_
      · (go_simp)
      try simp only [Act.put, List.setIfInBounds_toArray, List.set_cons_zero, List.set_cons_succ]
      refine wpAnyH_done (by kernel_rfl) ?_ _
      refine OnlyN.normal ?_
      have HZ := Lib.hid hHeld.2.2.2.2.2.2.2.2.2.2.2.2.2.2.2.2.2.2
      clear hHeld
      obtain ⟨u, hu⟩ := HZ.out.base.br
      have hcr := hu.cell 0 rfl
      have hfr := hu.free 0
      clear hu
      gi_wp2
      exact ⟨((keeps_of_below (HBZ.out.trans (HBB.out.mono (by have := HBZ.out.size; exact this)))).trans (KeepsOthers.setCell _ _ _)).from _, HNPE.out⟩
  case done =>
    rintro D ys W hD hys ⟨hi1, hi3⟩ hK1
    have hz4 : w.heap.size + 1 + 1 + 1 + 1 + 1 < W3.heap.size := hz3
    have hi3' : Below W1.heap.size W1 W := by rw [hsz]; exact hi3
    have hB := H0.out.next hi3'
    have hlen : ys.length = (els T).length := by rw [← hys]; simp
    rw [hlen] at hi1
    have HB := Lib.hid (And.intro hB (And.intro hi1 hK1))
    have hl1 := fun o => (hB.bl.alloc o).cell 0 rfl
    have HLS := Lib.hid hB.ls
    clear hi1 hB hlen hys hi3' hK1 hi3 hbk hbt hb3 hz3 hT3
    generalize hN : (els T).length = N at *
    rcases last_els HF.out with ⟨h0, hc, hs⟩ | ⟨l, x, hl, hc, hs⟩
    · rw [h0] at hN
      obtain rfl : N = 0 := hN.symm
      have HCS := Lib.hid (And.intro hc hs)
      clear hc hs h0
      go_wp2_with fail
      obtain ⟨Bz, hBz⟩ : ∃ Bz, Bz = W.heap.size := ⟨_, rfl⟩
      have hba : Below W.heap.size W (W.alloc (.cells #[.int .i64 0, .int .i64 0] 24)) := (Below.refl _ _).alloc (Nat.le_refl _) _
      have HZ := Lib.hid (show IsF w p ((0 : Nat) : Int) (.slice a 0 cap) T D Bz (W.alloc (.cells #[.int .i64 0, .int .i64 0] 24)) from
        ⟨HB.out.1.next hba, Boxed.nextB HB.out.2.1 hba, by rw [HCS.out.1, HCS.out.2, hBz]; exact Blk.start _ _ _, (hba.block D (Array.getElem?_eq_some_iff.1 HB.out.2.2).1).trans HB.out.2.2⟩)
      rw [← hBz]
      clear HB hba hl1 hBz
      generalize (W.alloc (.cells #[.int .i64 0, .int .i64 0] 24)) = W9 at *
      refine wp_region_noPanic ?_
      refine wp_region_held_drew (S := (fun X => X.cell? ⟨w.heap.size + 1 + 1 + 1, 0, none⟩ = some (.int .i64 ((0 : Nat) : Int)) ∧ X.cell? ⟨w.heap.size + 1, 0, none⟩ = some (.slice a 0 cap) ∧ X.cell? ⟨w.heap.size, 0, none⟩ = some (.pointer p) ∧ X.cell? ⟨w.heap.size, 1, none⟩ = some (.int .i64 ((0 : Nat) : Int)) ∧ X.cell? ⟨Bz, 0, none⟩ = some (.int .i64 (lastC T)) ∧ X.cell? ⟨Bz, 1, none⟩ = some (.int .i64 (lastS T)) ∧ IsF w p ((0 : Nat) : Int) (.slice a 0 cap) T D Bz X)) (by kernel_rfl) ?_ (fun hHeld => ?_)
      · exact (HZ.out.next (Below.refl _ _).drew).s
      clear HZ
      refine take1 (i := 0) (v := .int .i64 ((0 : Nat) : Int)) rfl (by kernel_rfl) (by kernel_rfl) (by kernel_rfl) (fun _ _ _ h => h) (Or.inl ⟨by rfl, fun w hSw => ?_⟩) hHeld ?_
      · (go_simp)
      try simp only [Act.put, List.setIfInBounds_toArray, List.set_cons_zero, List.set_cons_succ]
      refine take1 (i := 1) (v := .slice a 0 cap) rfl (by kernel_rfl) (by kernel_rfl) (by kernel_rfl) (fun _ _ _ h => h) (Or.inl ⟨by rfl, fun w hSw => ?_⟩) hHeld ?_
      · (go_simp)
      try simp only [Act.put, List.setIfInBounds_toArray, List.set_cons_zero, List.set_cons_succ]
      refine take1 (i := 2) (v := .int .i64 ((0 : Nat) : Int)) rfl (by kernel_rfl) (by kernel_rfl) (by kernel_rfl) (fun _ _ _ h => h) (Or.inl ⟨by rfl, fun w hSw => ?_⟩) hHeld ?_
      · (go_simp)
      try simp only [Act.put, List.setIfInBounds_toArray, List.set_cons_zero, List.set_cons_succ]
      refine take1 (i := 3) (v := .bool true) rfl (by kernel_rfl) (by kernel_rfl) (by kernel_rfl) (fun _ _ _ h => h) (Or.inl ⟨by rfl, fun w hSw => ?_⟩) hHeld ?_
      · (go_simp)
      try simp only [Act.put, List.setIfInBounds_toArray, List.set_cons_zero, List.set_cons_succ]
      refine take1 (i := 4) (v := .bool true) rfl (by kernel_rfl) (by kernel_rfl) (by kernel_rfl) (fun _ _ _ h => h) (Or.inl ⟨by rfl, fun w hSw => ?_⟩) hHeld ?_
      · (go_simp)
      try simp only [Act.put, List.setIfInBounds_toArray, List.set_cons_zero, List.set_cons_succ]
      refine take1 (i := 5) (v := .agg #[.pointer p, .int .i64 ((0 : Nat) : Int)]) rfl (by kernel_rfl) (by kernel_rfl) (by kernel_rfl) (fun _ _ _ h => h) (Or.inl ⟨by rfl, fun w hSw => ?_⟩) hHeld ?_
      · (go_simp)
      try simp only [Act.put, List.setIfInBounds_toArray, List.set_cons_zero, List.set_cons_succ]
      refine take1 (i := 7) (v := .int .i64 ((0 : Nat) : Int)) rfl (by kernel_rfl) (by kernel_rfl) (by kernel_rfl) (fun _ _ _ h => h) (Or.inl ⟨by rfl, fun w hSw => ?_⟩) hHeld ?_
      · (go_simp)
      try simp only [Act.put, List.setIfInBounds_toArray, List.set_cons_zero, List.set_cons_succ]
      refine wpAnyH_ready (rs := [6]) (by kernel_rfl) (by simp) ?_
      refine cons1 rfl (fun K hK => ?_) AllReadyH.nil
      go_simp
      refine (len_any _ _ _).mono ?_
      rintro e' u1 ⟨rfl, hb⟩
      go_wp2_with fail
      refine hK.out _ _ ((hHeld.2.2.2.2.2.2.next hb).s) (fun hHeld2 => ?_)
      clear hK K hHeld hb
      have hHeld := hHeld2
      clear hHeld2
      try simp only [Act.put, List.setIfInBounds_toArray, List.set_cons_zero, List.set_cons_succ]
      refine take1 (i := 8) (v := .bool true) rfl (by kernel_rfl) (by kernel_rfl) (by kernel_rfl) (fun _ _ _ h => h) (Or.inl ⟨by rfl, fun w hSw => ?_⟩) hHeld ?_
      · (go_simp)
      try simp only [Act.put, List.setIfInBounds_toArray, List.set_cons_zero, List.set_cons_succ]
      refine take1 (i := 9) (v := .bool true) rfl (by kernel_rfl) (by kernel_rfl) (by kernel_rfl) (fun _ _ _ h => h) (Or.inl ⟨by rfl, fun w hSw => ?_⟩) hHeld ?_
      · (go_simp)
      try simp only [Act.put, List.setIfInBounds_toArray, List.set_cons_zero, List.set_cons_succ]
      refine take1 (i := 10) (v := .bool true) rfl (by kernel_rfl) (by kernel_rfl) (by kernel_rfl) (fun _ _ _ h => h) (Or.inl ⟨by rfl, fun w hSw => ?_⟩) hHeld ?_
      · (go_simp)
      try simp only [Act.put, List.setIfInBounds_toArray, List.set_cons_zero, List.set_cons_succ]
      refine take1 (i := 11) (v := .agg #[.pointer p, .int .i64 ((0 : Nat) : Int)]) rfl (by kernel_rfl) (by kernel_rfl) (by kernel_rfl) (fun _ _ _ h => h) (Or.inl ⟨by rfl, fun w hSw => ?_⟩) hHeld ?_
      · (go_simp)
      try simp only [Act.put, List.setIfInBounds_toArray, List.set_cons_zero, List.set_cons_succ]
      refine take1 (i := 13) (v := .agg #[.int .i64 (lastC T), .int .i64 (lastS T)]) rfl (by kernel_rfl) (by kernel_rfl) (by kernel_rfl) (fun _ _ _ h => h) (Or.inl ⟨by rfl, fun w hSw => ?_⟩) hHeld ?_
      · (go_simp)
      try simp only [Act.put, List.setIfInBounds_toArray, List.set_cons_zero, List.set_cons_succ]
      refine wpAnyH_ready (rs := [12]) (by kernel_rfl) (by simp) ?_
      refine cons1 rfl (fun K hK => ?_) AllReadyH.nil
      go_simp
      refine (Last_any _ _ hHeld.2.2.2.2.2.2.base.tr HF.out).mono ?_
      rintro e' u2 ⟨rfl, hb⟩
      go_wp2_with fail
      refine hK.out _ _ ((hHeld.2.2.2.2.2.2.next hb).s) (fun hHeld2 => ?_)
      clear hK K hHeld hb
      have hHeld := hHeld2
      clear hHeld2
      try simp only [Act.put, List.setIfInBounds_toArray, List.set_cons_zero, List.set_cons_succ]
      obtain ⟨z, hz⟩ := hHeld.2.2.2.2.2.2.base.br
      have hcz := hz.cell 0 rfl
      have hfz := hz.free 0
      clear hz
      refine take1 (i := 14) (v := .bool true) rfl (by kernel_rfl) (by kernel_rfl) (by kernel_rfl) (fun _ _ _ h => h) (Or.inl ⟨by rfl, fun w hSw => ?_⟩) hHeld ?_
      · (go_simp)
      try simp only [Act.put, List.setIfInBounds_toArray, List.set_cons_zero, List.set_cons_succ]
      refine take1 (i := 15) (v := .bool true) rfl (by kernel_rfl) (by kernel_rfl) (by kernel_rfl) (fun _ _ _ h => h) (Or.inl ⟨by rfl, fun w hSw => ?_⟩) hHeld ?_
      · (go_simp)
      try simp only [Act.put, List.setIfInBounds_toArray, List.set_cons_zero, List.set_cons_succ]
      refine wpAnyH_ready (rs := [16]) (by kernel_rfl) (by simp) ?_
      refine cons1 rfl (fun K hK => ?_) AllReadyH.nil
      go_simp
      have HPZ := Lib.hid (hHeld.2.2.2.2.2.2.put true)
      go_wp2_with fail
      refine hK.out _ _ ((HPZ.out.1).s) (fun hHeld2 => ?_)
      clear hK K hHeld hcz hfz
      have hHeld := hHeld2
      clear hHeld2
      try simp only [Act.put, List.setIfInBounds_toArray, List.set_cons_zero, List.set_cons_succ]
      refine wpAnyH_done (by kernel_rfl) ?_ _
      refine NoPanic.normal ?_
      clear hHeld
      have hd1 := HPZ.out.1.dk
      have hres := (HPZ.out.2.putObj (D := D) (by have := hD; have := hz4; omega) (.deferred none)).cell 0 rfl
      have hbe := HPZ.out.1.base.bel.trans (belowK_b (w := w) (Nat.le_refl _) _ D _ (.deferred none) (by have := hD; have := hz4; omega) hd1 rfl rfl)
      have HRES := Lib.hid (And.intro hres hbe)
      clear hres hbe
      go_wp2_with fail
      refine ⟨by simp, .inl ⟨_, _, rfl, run_takeDeferred hd1, ?_⟩⟩
      exact ⟨.bool true, by have := HRES.out.1; simp [results, Tryd.results13, go_sem, this], rfl, HRES.out.2⟩
    · have hM : N = l.length + 1 := by rw [← hN, hl]; simp
      have hLx : ∃ g, a = some ⟨g, 0, none⟩ ∧ g < W.heap.size ∧ YC W g l.length (toRe x) := by
        have hk : l.length < (reT T).length := by rw [reT_len, hl]; simp
        obtain ⟨g, e, hgl, -⟩ := HLS.out.cell l.length hk
        subst e
        have := yc_of HLS.out hk
        have hx : (reT T)[l.length] = toRe x := by simp [reT, hl]
        rw [hx] at this
        exact ⟨g, rfl, hgl, this⟩
      obtain ⟨g, rfl, hgl, hY⟩ := hLx
      generalize l.length = M at *
      subst hM
      have y0 := fun o => ((Below.refl W.heap.size W).alloc (Nat.le_refl _) o).cell (p := ⟨g, M * 6, none⟩) hgl |>.trans hY.1
      have y1 := fun o => ((Below.refl W.heap.size W).alloc (Nat.le_refl _) o).cell (p := ⟨g, M * 6 + 1, none⟩) hgl |>.trans hY.2.1
      have HCS := Lib.hid (And.intro hc hs)
      have s1 : IntKind.i64.wrap (((M + 1 : Nat) : Int) - 1) = (M : Int) := by rw [IntWalk.i64_in _ (by omega)]; omega
      have HGL := Lib.hid hgl
      clear hc hs hl hY hgl
      go_wp2_with fail
      clear y0 y1 s1
      obtain ⟨Bz, hBz⟩ : ∃ Bz, Bz = W.heap.size := ⟨_, rfl⟩
      have hba : Below W.heap.size W (W.alloc (.cells #[.int .i64 (toRe x).c, .int .i64 (toRe x).s] 24)) := (Below.refl _ _).alloc (Nat.le_refl _) _
      have HZ := Lib.hid (show IsF w p ((M + 1 : Nat) : Int) (.slice (some ⟨g, 0, none⟩) (M + 1) cap) T D Bz (W.alloc (.cells #[.int .i64 (toRe x).c, .int .i64 (toRe x).s] 24)) from
        ⟨HB.out.1.next hba, Boxed.nextB HB.out.2.1 hba, by rw [HCS.out.1, HCS.out.2, hBz]; exact Blk.start _ _ _, (hba.block D (Array.getElem?_eq_some_iff.1 HB.out.2.2).1).trans HB.out.2.2⟩)
      rw [← hBz]
      clear HB hba hl1 hBz HLS
      generalize (W.alloc (.cells #[.int .i64 (toRe x).c, .int .i64 (toRe x).s] 24)) = W9 at *
      generalize hN9 : M + 1 = N at *
      refine wp_region_noPanic ?_
      refine wp_region_held_drew (S := (fun X => X.cell? ⟨w.heap.size + 1 + 1 + 1, 0, none⟩ = some (.int .i64 (N : Int)) ∧ X.cell? ⟨w.heap.size + 1, 0, none⟩ = some (.slice (some ⟨g, 0, none⟩) N cap) ∧ X.cell? ⟨w.heap.size, 0, none⟩ = some (.pointer p) ∧ X.cell? ⟨w.heap.size, 1, none⟩ = some (.int .i64 (N : Int)) ∧ X.cell? ⟨Bz, 0, none⟩ = some (.int .i64 (lastC T)) ∧ X.cell? ⟨Bz, 1, none⟩ = some (.int .i64 (lastS T)) ∧ IsF w p (N : Int) (.slice (some ⟨g, 0, none⟩) N cap) T D Bz X)) (by kernel_rfl) ?_ (fun hHeld => ?_)
      · exact (HZ.out.next (Below.refl _ _).drew).s
      clear HZ
      refine take1 (i := 0) (v := .int .i64 (N : Int)) rfl (by kernel_rfl) (by kernel_rfl) (by kernel_rfl) (fun _ _ _ h => h) (Or.inl ⟨by rfl, fun w hSw => ?_⟩) hHeld ?_
      · (go_simp)
      try simp only [Act.put, List.setIfInBounds_toArray, List.set_cons_zero, List.set_cons_succ]
      refine take1 (i := 1) (v := .slice (some ⟨g, 0, none⟩) N cap) rfl (by kernel_rfl) (by kernel_rfl) (by kernel_rfl) (fun _ _ _ h => h) (Or.inl ⟨by rfl, fun w hSw => ?_⟩) hHeld ?_
      · (go_simp)
      try simp only [Act.put, List.setIfInBounds_toArray, List.set_cons_zero, List.set_cons_succ]
      refine take1 (i := 2) (v := .int .i64 (N : Int)) rfl (by kernel_rfl) (by kernel_rfl) (by kernel_rfl) (fun _ _ _ h => h) (Or.inl ⟨by rfl, fun w hSw => ?_⟩) hHeld ?_
      · (go_simp)
      try simp only [Act.put, List.setIfInBounds_toArray, List.set_cons_zero, List.set_cons_succ]
      refine take1 (i := 3) (v := .bool true) rfl (by kernel_rfl) (by kernel_rfl) (by kernel_rfl) (fun _ _ _ h => h) (Or.inl ⟨by rfl, fun w hSw => ?_⟩) hHeld ?_
      · (go_simp)
      try simp only [Act.put, List.setIfInBounds_toArray, List.set_cons_zero, List.set_cons_succ]
      refine take1 (i := 4) (v := .bool true) rfl (by kernel_rfl) (by kernel_rfl) (by kernel_rfl) (fun _ _ _ h => h) (Or.inl ⟨by rfl, fun w hSw => ?_⟩) hHeld ?_
      · (go_simp)
      try simp only [Act.put, List.setIfInBounds_toArray, List.set_cons_zero, List.set_cons_succ]
      refine take1 (i := 5) (v := .agg #[.pointer p, .int .i64 (N : Int)]) rfl (by kernel_rfl) (by kernel_rfl) (by kernel_rfl) (fun _ _ _ h => h) (Or.inl ⟨by rfl, fun w hSw => ?_⟩) hHeld ?_
      · (go_simp)
      try simp only [Act.put, List.setIfInBounds_toArray, List.set_cons_zero, List.set_cons_succ]
      refine take1 (i := 7) (v := .int .i64 (N : Int)) rfl (by kernel_rfl) (by kernel_rfl) (by kernel_rfl) (fun _ _ _ h => h) (Or.inl ⟨by rfl, fun w hSw => ?_⟩) hHeld ?_
      · (go_simp)
      try simp only [Act.put, List.setIfInBounds_toArray, List.set_cons_zero, List.set_cons_succ]
      refine wpAnyH_ready (rs := [6]) (by kernel_rfl) (by simp) ?_
      refine cons1 rfl (fun K hK => ?_) AllReadyH.nil
      go_simp
      refine (len_any _ _ _).mono ?_
      rintro e' u1 ⟨rfl, hb⟩
      go_wp2_with fail
      refine hK.out _ _ ((hHeld.2.2.2.2.2.2.next hb).s) (fun hHeld2 => ?_)
      clear hK K hHeld hb
      have hHeld := hHeld2
      clear hHeld2
      try simp only [Act.put, List.setIfInBounds_toArray, List.set_cons_zero, List.set_cons_succ]
      refine take1 (i := 8) (v := .bool true) rfl (by kernel_rfl) (by kernel_rfl) (by kernel_rfl) (fun _ _ _ h => h) (Or.inl ⟨by rfl, fun w hSw => ?_⟩) hHeld ?_
      · (go_simp)
      try simp only [Act.put, List.setIfInBounds_toArray, List.set_cons_zero, List.set_cons_succ]
      refine take1 (i := 9) (v := .bool true) rfl (by kernel_rfl) (by kernel_rfl) (by kernel_rfl) (fun _ _ _ h => h) (Or.inl ⟨by rfl, fun w hSw => ?_⟩) hHeld ?_
      · (go_simp)
      try simp only [Act.put, List.setIfInBounds_toArray, List.set_cons_zero, List.set_cons_succ]
      refine take1 (i := 10) (v := .bool true) rfl (by kernel_rfl) (by kernel_rfl) (by kernel_rfl) (fun _ _ _ h => h) (Or.inl ⟨by rfl, fun w hSw => ?_⟩) hHeld ?_
      · (go_simp)
      try simp only [Act.put, List.setIfInBounds_toArray, List.set_cons_zero, List.set_cons_succ]
      refine take1 (i := 11) (v := .agg #[.pointer p, .int .i64 (N : Int)]) rfl (by kernel_rfl) (by kernel_rfl) (by kernel_rfl) (fun _ _ _ h => h) (Or.inl ⟨by rfl, fun w hSw => ?_⟩) hHeld ?_
      · (go_simp)
      try simp only [Act.put, List.setIfInBounds_toArray, List.set_cons_zero, List.set_cons_succ]
      refine take1 (i := 13) (v := .agg #[.int .i64 (lastC T), .int .i64 (lastS T)]) rfl (by kernel_rfl) (by kernel_rfl) (by kernel_rfl) (fun _ _ _ h => h) (Or.inl ⟨by rfl, fun w hSw => ?_⟩) hHeld ?_
      · (go_simp)
      try simp only [Act.put, List.setIfInBounds_toArray, List.set_cons_zero, List.set_cons_succ]
      refine wpAnyH_ready (rs := [12]) (by kernel_rfl) (by simp) ?_
      refine cons1 rfl (fun K hK => ?_) AllReadyH.nil
      go_simp
      refine (Last_any _ _ hHeld.2.2.2.2.2.2.base.tr HF.out).mono ?_
      rintro e' u2 ⟨rfl, hb⟩
      go_wp2_with fail
      refine hK.out _ _ ((hHeld.2.2.2.2.2.2.next hb).s) (fun hHeld2 => ?_)
      clear hK K hHeld hb
      have hHeld := hHeld2
      clear hHeld2
      try simp only [Act.put, List.setIfInBounds_toArray, List.set_cons_zero, List.set_cons_succ]
      obtain ⟨z, hz⟩ := hHeld.2.2.2.2.2.2.base.br
      have hcz := hz.cell 0 rfl
      have hfz := hz.free 0
      clear hz
      refine take1 (i := 14) (v := .bool true) rfl (by kernel_rfl) (by kernel_rfl) (by kernel_rfl) (fun _ _ _ h => h) (Or.inl ⟨by rfl, fun w hSw => ?_⟩) hHeld ?_
      · (go_simp)
      try simp only [Act.put, List.setIfInBounds_toArray, List.set_cons_zero, List.set_cons_succ]
      refine take1 (i := 15) (v := .bool true) rfl (by kernel_rfl) (by kernel_rfl) (by kernel_rfl) (fun _ _ _ h => h) (Or.inl ⟨by rfl, fun w hSw => ?_⟩) hHeld ?_
      · (go_simp)
      try simp only [Act.put, List.setIfInBounds_toArray, List.set_cons_zero, List.set_cons_succ]
      refine wpAnyH_ready (rs := [16]) (by kernel_rfl) (by simp) ?_
      refine cons1 rfl (fun K hK => ?_) AllReadyH.nil
      go_simp
      have HPZ := Lib.hid (hHeld.2.2.2.2.2.2.put true)
      go_wp2_with fail
      refine hK.out _ _ ((HPZ.out.1).s) (fun hHeld2 => ?_)
      clear hK K hHeld hcz hfz
      have hHeld := hHeld2
      clear hHeld2
      try simp only [Act.put, List.setIfInBounds_toArray, List.set_cons_zero, List.set_cons_succ]
      refine wpAnyH_done (by kernel_rfl) ?_ _
      refine NoPanic.normal ?_
      clear hHeld
      have hd1 := HPZ.out.1.dk
      have hres := (HPZ.out.2.putObj (D := D) (by have := hD; have := hz4; omega) (.deferred none)).cell 0 rfl
      have hbe := HPZ.out.1.base.bel.trans (belowK_b (w := w) (Nat.le_refl _) _ D _ (.deferred none) (by have := hD; have := hz4; omega) hd1 rfl rfl)
      have HRES := Lib.hid (And.intro hres hbe)
      clear hres hbe
      go_wp2_with fail
      refine ⟨by simp, .inl ⟨_, _, rfl, run_takeDeferred hd1, ?_⟩⟩
      exact ⟨.bool true, by have := HRES.out.1; simp [results, Tryd.results13, go_sem, this], rfl, HRES.out.2⟩
end Go.Proofs.YtkhggojghjociaaDoor
