/-
  The walk of PmapStays: it returns true, and nothing that existed has changed.
-/
import Derived.Test.YtkhggojghjociaaDoorPlays
import Derived.Maps.AppendAt
import Derived.Deep.DeepCutAuto
namespace Go.Proofs.YtkhggojghjociaaDoor
open Go Go.Proofs Go.RowKit Go.Shelf

attribute [local go_sem] Oper.semAt_some

/-- The boxes of the law behind the first loop: the number to stop at, the answer, the map. -/
structure SA (w : World) (st : Int) (p : Option Addr) (T : Pt) (W : World) : Prop where
  bel : Below w.heap.size w W
  bs : Blk W w.heap.size [.int .u8 st] 5
  br : Blk W (w.heap.size + 1) [.bool false] 4
  bt : Blk W (w.heap.size + 1 + 1) [.pointer p, .int .i64 (cnt T)] 28
  tr : IsM W p T
theorem SA.next {w : World} {st : Int} {p : Option Addr} {T : Pt} {W W' : World} (h : SA w st p T W) (hb : Below W.heap.size W W') : SA w st p T W' :=
  ⟨h.bel.trans (hb.mono h.bel.size), h.bs.next hb, h.br.next hb, h.bt.next hb, h.tr.next hb⟩
theorem SA.put {w : World} {st : Int} {p q : Option Addr} {T T' : Pt} {W : World} (h : SA w st p T W) (h' : IsM W q T') : SA w st q T' ((W.setCell ⟨w.heap.size + 1 + 1, 0, none⟩ (.pointer q)).setCell ⟨w.heap.size + 1 + 1, 1, none⟩ (.int .i64 (cnt T'))) := by
  have n0 : w.heap.size ≠ w.heap.size + 1 + 1 := by omega
  have n1 : w.heap.size + 1 ≠ w.heap.size + 1 + 1 := by omega
  have h1 := h.bt.set 0 (.pointer q)
  refine ⟨(h.bel.setCell (p := ⟨w.heap.size + 1 + 1, 0, none⟩) (by show w.heap.size ≤ w.heap.size + 1 + 1; omega) _).setCell (p := ⟨w.heap.size + 1 + 1, 1, none⟩) (by show w.heap.size ≤ w.heap.size + 1 + 1; omega) _, (h.bs.other _ n0 _).other _ n0 _, (h.br.other _ n1 _).other _ n1 _, h1.set 1 _, ?_⟩
  have := IsP.set h1 (by decide) 1 (.int .i64 (cnt T')) (IsP.set h.bt (by decide) 0 (.pointer q) h')
  unfold IsM
  simpa using this
theorem SA.start (w : World) (st : Int) : SA w st none .nil (((w.alloc (.cells #[.int .u8 st] 5)).alloc (.cells #[.bool false] 4)).alloc (.cells #[.pointer none, .int .i64 0] 28)) :=
  ⟨(((Below.refl _ _).alloc (Nat.le_refl _) _).alloc (by simp) _).alloc (by simp; omega) _, ((Blk.start w _ _).alloc _).alloc _, (Blk.startAt (by simp)).alloc _, Blk.startAt (by simp), rfl⟩
/-- The cells of an entry with its id. -/
def kL (x : Nat × En) : List Value := [.int .i64 (nmC x.1), .int .i64 (nmS x.1), .int .i64 x.2.ac, .int .i64 x.2.an, .int .i32 x.2.ch, .bool x.2.d]
def keptC (pre : List (Nat × En)) : List Value := pre.flatMap kL
theorem keptC_snoc (pre : List (Nat × En)) (x : Nat × En) : keptC (pre ++ [x]) = keptC pre ++ kL x := by simp [keptC]
def zAct : Value := .agg #[.int .i64 0, .int .i64 0, .int .i64 0, .int .i64 0, .int .i32 0, .bool false]
theorem infoAct : (Tryd.prog.info? 33).map (fun i => (i.zero, i.size, i.bytes)) = some (some zAct, 6, 40) := by kernel_rfl
theorem cell_act_new (w : World) (x : Nat × En) (t : TypeId) : ∀ j u, (kL x)[j]? = some u → (w.alloc (.cells ⟨kL x⟩ t)).cell? ((⟨w.heap.size, 0, none⟩ : Addr).add j) = some u := by
  intro j u hj
  have := (Blk.start w (kL x) t).cell j hj
  rw [show (⟨w.heap.size, 0, none⟩ : Addr).add j = ⟨w.heap.size, j, none⟩ by unfold Addr.add; split <;> simp_all]
  exact this
theorem act_one (x : Nat × En) : ∀ u ∈ kL x, u.oneCell' = true := by
  intro u hu
  simp only [kL, List.mem_cons, List.not_mem_nil, or_false] at hu
  rcases hu with rfl | rfl | rfl | rfl | rfl | rfl <;> rfl
/-- v is a slice of the entries l with their ids. -/
def Kept (W : World) (v : Value) (l : List (Nat × En)) : Prop :=
  (v = .slice none 0 0 ∧ l = []) ∨ ∃ g cap cur, v = .slice (some ⟨g, 0, none⟩) l.length cap ∧ W.heap[g]? = some (.cells cur 33 (0, 0)) ∧ l.length ≤ cap ∧ cap ≤ maxLen ∧ cur.toList.take (l.length * 6) = l.flatMap kL
theorem Kept.of {W : World} {b : Nat} {v : Value} {l : List (Nat × En)} (h : W.ownsRow b 33 6 v l.length (keptC l)) : Kept W v l := by
  rcases h.2 with ⟨rfl, h0⟩ | ⟨g, cap, cur, rfl, _, hg, h1, h2, _, h3⟩
  · exact Or.inl ⟨rfl, List.eq_nil_of_length_eq_zero h0⟩
  · exact Or.inr ⟨g, cap, cur, rfl, hg, h1, h2, h3⟩
theorem Kept.next {W W' : World} {v : Value} {l : List (Nat × En)} (h : Kept W v l) (hb : Below W.heap.size W W') : Kept W' v l := by
  rcases h with h | ⟨g, cap, cur, rfl, hg, h⟩
  · exact Or.inl h
  · exact Or.inr ⟨g, cap, cur, rfl, by rw [hb.block g (Array.getElem?_eq_some_iff.1 hg).1]; exact hg, h⟩
theorem Kept.form {W : World} {v : Value} {l : List (Nat × En)} (h : Kept W v l) : ∃ a cap, v = .slice a l.length cap ∧ l.length ≤ cap ∧ cap ≤ 9223372036854775807 := by
  rcases h with ⟨rfl, rfl⟩ | ⟨g, cap, cur, rfl, _, h1, h2, _⟩
  · exact ⟨none, 0, rfl, Nat.le_refl _, by omega⟩
  · exact ⟨_, cap, rfl, h1, by unfold maxLen at h2; omega⟩
theorem kept_flat : ∀ (l : List (Nat × En)) (i j : Nat) (hi : i < l.length), j < 6 → (l.flatMap kL)[i * 6 + j]? = (kL l[i])[j]?
  | [], i, _, hi, _ => absurd hi (by simp)
  | x :: l, 0, j, _, hj => by
    simp only [List.flatMap_cons, Nat.zero_mul, Nat.zero_add, List.getElem_cons_zero]
    rw [List.getElem?_append_left (by simpa [kL] using hj)]
  | x :: l, i + 1, j, hi, hj => by
    have ih := kept_flat l i j (by simpa using hi) hj
    simp only [List.flatMap_cons, List.getElem_cons_succ]
    rw [List.getElem?_append_right (by simp [kL]; omega), ← ih]
    congr 1
    simp [kL]
    omega
theorem Kept.cell {W : World} {a : Option Addr} {n cap : Nat} {l : List (Nat × En)} (h : Kept W (.slice a n cap) l) (i : Nat) (hi : i < l.length) : ∃ g, a = some ⟨g, 0, none⟩ ∧ g < W.heap.size ∧ ∀ j, j < 6 → W.cell? ⟨g, i * 6 + j, none⟩ = (kL l[i])[j]? := by
  rcases h with ⟨_, rfl⟩ | ⟨g, cap', cur, hv, hg, h1, h2, h3⟩
  · cases hi
  · simp only [Value.slice.injEq] at hv
    obtain ⟨rfl, rfl, rfl⟩ := hv
    refine ⟨g, rfl, (Array.getElem?_eq_some_iff.1 hg).1, fun j hj => ?_⟩
    rw [← kept_flat l i j hi hj, ← h3, List.getElem?_take_of_lt (by omega)]
    simp [World.cell?, hg]
/-- What stands behind the first range: the map, what was kept of it, and the mark of that range. -/
structure SB (w : World) (st : Int) (p : Option Addr) (T : Pt) (K D1 : Nat) (ka : Option Addr) (kc : Nat) (W : World) : Prop where
  sa : SA w st p T W
  bk : Blk W K [.slice ka (els T).length kc] 22
  kept : Kept W (.slice ka (els T).length kc) (els T)
  dk : W.heap[D1]? = some (.deferred (some []))
theorem SB.next {w : World} {st : Int} {p : Option Addr} {T : Pt} {K D1 : Nat} {ka : Option Addr} {kc : Nat} {W W' : World} (h : SB w st p T K D1 ka kc W) (hb : Below W.heap.size W W') : SB w st p T K D1 ka kc W' :=
  ⟨h.sa.next hb, h.bk.next hb, h.kept.next hb, by rw [hb.block D1 (Array.getElem?_eq_some_iff.1 h.dk).1]; exact h.dk⟩
/-- Where the second loop stands: what stood, and the map that is made. -/
structure HU5 (w : World) (st : Int) (p : Option Addr) (T : Pt) (K D1 : Nat) (ka : Option Addr) (kc : Nat) (V : World) (q : Option Addr) (T' : Pt) (W : World) : Prop where
  base : SB w st p T K D1 ka kc V
  bel : Below V.heap.size V W
  bu : Blk W V.heap.size [.pointer q, .int .i64 (cnt T')] 28
  tr : IsM W q T'
theorem HU5.next {w : World} {st : Int} {p : Option Addr} {T : Pt} {K D1 : Nat} {ka : Option Addr} {kc : Nat} {V : World} {q : Option Addr} {T' : Pt} {W W' : World} (h : HU5 w st p T K D1 ka kc V q T' W) (hb : Below W.heap.size W W') : HU5 w st p T K D1 ka kc V q T' W' :=
  ⟨h.base, h.bel.trans (hb.mono h.bel.size), h.bu.next hb, h.tr.next hb⟩
theorem HU5.put {w : World} {st : Int} {p : Option Addr} {T : Pt} {K D1 : Nat} {ka : Option Addr} {kc : Nat} {V : World} {q q2 : Option Addr} {T' T2 : Pt} {W : World} (h : HU5 w st p T K D1 ka kc V q T' W) (h' : IsM W q2 T2) :
    HU5 w st p T K D1 ka kc V q2 T2 ((W.setCell ⟨V.heap.size, 0, none⟩ (.pointer q2)).setCell ⟨V.heap.size, 1, none⟩ (.int .i64 (cnt T2))) := by
  have h1 := h.bu.set 0 (.pointer q2)
  refine ⟨h.base, (h.bel.setCell (p := ⟨V.heap.size, 0, none⟩) (Nat.le_refl _) _).setCell (p := ⟨V.heap.size, 1, none⟩) (Nat.le_refl _) _, h1.set 1 _, ?_⟩
  have := IsP.set h1 (by decide) 1 (.int .i64 (cnt T2)) (IsP.set h.bu (by decide) 0 (.pointer q2) h')
  unfold IsM
  simpa using this
theorem snoc_len {α : Type} (pre : List α) (x : α) : (((pre ++ [x]).length : Nat) : Int) = (pre.length : Int) + 1 := by simp
theorem len_le_putM (T : Pt) (c s : Int) (e : En) : (els T).length ≤ (els (putM T c s e)).length := by
  unfold putM
  split
  · rename_i h
    rw [els_insL T e (place_lt h), insL_length (els_rising T)]
    omega
  · exact Nat.le_refl _

theorem ris_inj {l : List (Nat × En)} (h : Ris l) {x y : Nat × En} (hx : x ∈ l) (hy : y ∈ l) (he : x.1 = y.1) : x = y := by
  have h1 := getL_mem h hx
  rw [he, getL_mem h hy] at h1
  exact Prod.ext he (Option.some.inj h1).symm
/-- The cells of an entry that was kept. -/
def KC (X : World) (g k : Nat) (y : Nat × En) : Prop :=
  X.cell? ⟨g, k * 6, none⟩ = some (.int .i64 (nmC y.1)) ∧ X.cell? ⟨g, k * 6 + 1, none⟩ = some (.int .i64 (nmS y.1)) ∧ X.cell? ⟨g, k * 6 + 2, none⟩ = some (.int .i64 y.2.ac) ∧ X.cell? ⟨g, k * 6 + 3, none⟩ = some (.int .i64 y.2.an) ∧ X.cell? ⟨g, k * 6 + 4, none⟩ = some (.int .i32 y.2.ch) ∧ X.cell? ⟨g, k * 6 + 5, none⟩ = some (.bool y.2.d)
theorem kc_of {X : World} {g n cap : Nat} {l : List (Nat × En)} (h : Kept X (.slice (some ⟨g, 0, none⟩) n cap) l) {k : Nat} (hk : k < l.length) : KC X g k l[k] := by
  obtain ⟨g', e, -, hj⟩ := h.cell k hk
  cases e
  exact ⟨hj 0 (by omega), hj 1 (by omega), hj 2 (by omega), hj 3 (by omega), hj 4 (by omega), hj 5 (by omega)⟩
/-- A round of the second range. -/
structure RB (w : World) (st : Int) (p : Option Addr) (T : Pt) (K D1 g kc M k Bi Be : Nat) (v : Nat × En) (X : World) : Prop where
  sb : SB w st p T K D1 (some ⟨g, 0, none⟩) kc X
  bm : Blk X M [.int .i64 (k : Int)] 3
  bi : Blk X Bi [.int .i64 (nmC v.1), .int .i64 (nmS v.1)] 24
  be : Blk X Be (enL v.2) 31
theorem RB.next {w : World} {st : Int} {p : Option Addr} {T : Pt} {K D1 g kc M k Bi Be : Nat} {v : Nat × En} {X X' : World} (h : RB w st p T K D1 g kc M k Bi Be v X) (hb : Below X.heap.size X X') : RB w st p T K D1 g kc M k Bi Be v X' :=
  ⟨h.sb.next hb, h.bm.next hb, h.bi.next hb, h.be.next hb⟩
/-- What stands at the law's last line. -/
structure SF (w : World) (st : Int) (p : Option Addr) (T : Pt) (K M U D1 D2 : Nat) (n : Int) (ka : Option Addr) (kc : Nat) (q' : Option Addr) (T' : Pt) (W : World) : Prop where
  bel : Below w.heap.size w W
  bs : Blk W w.heap.size [.int .u8 st] 5
  bt : Blk W (w.heap.size + 1 + 1) [.pointer p, .int .i64 (cnt T)] 28
  bk : Blk W K [.slice ka (els T).length kc] 22
  bm : Blk W M [.int .i64 n] 3
  bu : Blk W U [.pointer q', .int .i64 (cnt T')] 28
  d1 : W.heap[D1]? = some (.deferred (some []))
  d2 : W.heap[D2]? = some (.deferred (some []))
  rb : ∃ v, Blk W (w.heap.size + 1) [v] 4
theorem SF.next {w : World} {st : Int} {p : Option Addr} {T : Pt} {K M U D1 D2 : Nat} {n : Int} {ka : Option Addr} {kc : Nat} {q' : Option Addr} {T' : Pt} {W W' : World} (h : SF w st p T K M U D1 D2 n ka kc q' T' W) (hb : Below W.heap.size W W') : SF w st p T K M U D1 D2 n ka kc q' T' W' :=
  ⟨h.bel.trans (hb.mono h.bel.size), h.bs.next hb, h.bt.next hb, h.bk.next hb, h.bm.next hb, h.bu.next hb, by rw [hb.block D1 (Array.getElem?_eq_some_iff.1 h.d1).1]; exact h.d1, by rw [hb.block D2 (Array.getElem?_eq_some_iff.1 h.d2).1]; exact h.d2, let ⟨v, hv⟩ := h.rb; ⟨v, hv.next hb⟩⟩
theorem SF.put {w : World} {st : Int} {p : Option Addr} {T : Pt} {K M U D1 D2 : Nat} {n : Int} {ka : Option Addr} {kc : Nat} {q' : Option Addr} {T' : Pt} {W : World} (h : SF w st p T K M U D1 D2 n ka kc q' T' W) (u : Value) : SF w st p T K M U D1 D2 n ka kc q' T' (W.setCell ⟨w.heap.size + 1, 0, none⟩ u) := by
  obtain ⟨v, hv⟩ := h.rb
  have hD1 : D1 ≠ w.heap.size + 1 := by rintro rfl; have := h.d1; unfold Blk at hv; rw [hv] at this; cases this
  have hD2 : D2 ≠ w.heap.size + 1 := by rintro rfl; have := h.d2; unfold Blk at hv; rw [hv] at this; cases this
  exact ⟨h.bel.setCell (p := ⟨w.heap.size + 1, 0, none⟩) (Nat.le_succ _) _, h.bs.other _ (by show w.heap.size ≠ w.heap.size + 1; omega) _, h.bt.other _ (h.bt.ne hv (by decide)) _, h.bk.other _ (h.bk.ne hv (by decide)) _, h.bm.other _ (h.bm.ne hv (by decide)) _, h.bu.other _ (h.bu.ne hv (by decide)) _, (Below.heap_setCell _ _ _ _ hD1).trans h.d1, (Below.heap_setCell _ _ _ _ hD2).trans h.d2, ⟨_, hv.set 0 _⟩⟩
theorem SF.s {w : World} {st : Int} {p : Option Addr} {T : Pt} {K M U D1 D2 : Nat} {n : Int} {ka : Option Addr} {kc : Nat} {q' : Option Addr} {T' : Pt} {X : World} (h : SF w st p T K M U D1 D2 n ka kc q' T' X) :
    X.cell? ⟨w.heap.size + 1 + 1, 0, none⟩ = some (.pointer p) ∧ X.cell? ⟨w.heap.size + 1 + 1, 1, none⟩ = some (.int .i64 (cnt T)) ∧ X.cell? ⟨K, 0, none⟩ = some (.slice ka (els T).length kc) ∧ X.cell? ⟨M, 0, none⟩ = some (.int .i64 n) ∧ X.cell? ⟨w.heap.size, 0, none⟩ = some (.int .u8 st) ∧ X.cell? ⟨U, 0, none⟩ = some (.pointer q') ∧ X.cell? ⟨U, 1, none⟩ = some (.int .i64 (cnt T')) ∧ SF w st p T K M U D1 D2 n ka kc q' T' X :=
  ⟨h.bt.cell 0 rfl, h.bt.cell 1 rfl, h.bk.cell 0 rfl, h.bm.cell 0 rfl, h.bs.cell 0 rfl, h.bu.cell 0 rfl, h.bu.cell 1 rfl, h⟩
theorem SF.of {w : World} {st : Int} {p : Option Addr} {T : Pt} {K M U D1 D2 : Nat} {n : Int} {ka : Option Addr} {kc : Nat} {q' : Option Addr} {T' : Pt} {W : World} (h : SB w st p T K D1 ka kc W) (hu : Blk W U [.pointer q', .int .i64 (cnt T')] 28) (hm : Blk W M [.int .i64 n] 3) (h2 : W.heap[D2]? = some (.deferred (some []))) : SF w st p T K M U D1 D2 n ka kc q' T' W :=
  ⟨h.sa.bel, h.sa.bs, h.sa.bt, h.bk, hm, hu, h.dk, h2, ⟨_, h.sa.br⟩⟩

set_option maxHeartbeats 6400000 in
set_option maxRecDepth 100000 in
theorem pst_main (a a2 : Option Addr) (cap cap2 : Nat) (l m : List Ac) (st : Int) (w : World) (hst0 : 0 ≤ st) (hst1 : st ≤ 255) (hl60 : l.length ≤ 60) (hm60 : m.length ≤ 60) (hcap : l.length ≤ cap) (hcap2 : m.length ≤ cap2) (hmax : cap ≤ 9223372036854775807) (hmax2 : cap2 ≤ 9223372036854775807)
    (hL : l ≠ [] → ∃ b off, a = some ⟨b, off, none⟩ ∧ b < w.heap.size ∧ LiesA w b off l) (hM : m ≠ [] → ∃ b off, a2 = some ⟨b, off, none⟩ ∧ b < w.heap.size ∧ LiesA w b off m) (ht : Tab w) :
    Calls Tryd.prog 4 #[.slice a l.length cap, .slice a2 m.length cap2, .int .u8 st] w fun e w' => e = .returned (.bool true) ∧ Below w.heap.size w w' := by
  have HTab := Lib.hid ht
  have HL := Lib.hid hL
  have HM := Lib.hid hM
  clear ht hL hM
  refine (callsIn_wide (n := 5)).1 (callsIn_of_wp_marks Tryd.func4 rfl trivial (wpIn_wide.2 ?_) rfl)
  simp only [Tryd.ntmps4, List.size_toArray, List.length_cons, List.length_nil, Nat.reduceAdd, Nat.reduceSub, Array.replicate_succ, Array.replicate_zero, List.push_toArray, List.append_toArray, List.nil_append, List.cons_append]
  go_wp2_with fail
  go_loopg [30] l.length (fun g ti wr => ∃ k : Nat, k ≤ l.length ∧ g = l.length - k ∧ ti = .int .i64 (k : Int) ∧ ∃ p T, (els T).length ≤ k ∧ SA w st p T wr)
  case atStart => exact ⟨0, Nat.zero_le _, rfl, rfl, none, .nil, Nat.le_refl _, SA.start w st⟩
  case round =>
    obtain ⟨k, hk, rfl, rfl, p, T, hTk, hS⟩ := hrel
    by_cases hlt : k < l.length
    · obtain ⟨b, off, rfl, hbw, hLies⟩ := HL.out (fun e => by rw [e] at hlt; cases hlt)
      obtain ⟨l0, l1, l2, l3, l4, l5⟩ := hLies k hlt
      have hbs : b < wr.heap.size := Nat.lt_of_lt_of_le hbw hS.bel.size
      have k0 := (hS.bel.cell (p := ⟨b, off + k * 6, none⟩) hbw).trans l0
      have k1 := (hS.bel.cell (p := ⟨b, off + k * 6 + 1, none⟩) hbw).trans l1
      have k2 := (hS.bel.cell (p := ⟨b, off + k * 6 + 2, none⟩) hbw).trans l2
      have k3 := (hS.bel.cell (p := ⟨b, off + k * 6 + 3, none⟩) hbw).trans l3
      have k4 := (hS.bel.cell (p := ⟨b, off + k * 6 + 4, none⟩) hbw).trans l4
      have k5 := (hS.bel.cell (p := ⟨b, off + k * 6 + 5, none⟩) hbw).trans l5
      clear l0 l1 l2 l3 l4 l5 hLies
      generalize l[k] = x at *
      have hbA := (Below.refl wr.heap.size wr).alloc (Nat.le_refl _) (.cells #[.int .i64 x.c, .int .i64 x.s, .int .i64 x.e.ac, .int .i64 x.e.an, .int .i32 x.e.ch, .bool x.e.d] 33)
      have HS := Lib.hid (hS.next hbA)
      have ht0 := HS.out.bt.cell 0 rfl
      have ht1 := HS.out.bt.cell 1 rfl
      clear hS hbA
      go_wp2_with (go_at_call 6; refine (Put_any x.c x.s x.e _ HS.out.tr (by omega)).mono ?_; rintro e W1 ⟨q, rfl, hq, hb1⟩; refine Hid.out ?_)
      have HS1 := Lib.hid (HS.out.next hb1)
      have HQ := Lib.hid hq
      clear HS hb1 hq ht0 ht1
      have r0 := HS1.out.bt.cell 0 rfl
      have r1 := HS1.out.bt.cell 1 rfl
      have f0 := HS1.out.bt.free 0
      have f1 := HS1.out.bt.free 1
      have hlp := len_putM T x.c x.s x.e
      refine Lib.hid ?_
      go_wp2_with fail
      go_roundg (l.length - (k + 1))
      case measure => omega
      case rel => exact ⟨k + 1, by omega, rfl, by go_num, q, putM T x.c x.s x.e, by omega, HS1.out.put HQ.out⟩
    · have hT60 : (els T).length ≤ 60 := by omega
      have HS := Lib.hid hS
      clear hS hTk HL
      obtain ⟨W1, rfl⟩ : ∃ W1 : World, W1 = wr := ⟨_, rfl⟩
      have ef := eqlF
      have a0 := fun o => (HS.out.bt.alloc o).cell 0 rfl
      have a1 := fun o => (HS.out.bt.alloc o).cell 1 rfl
      have b0 := fun o o' => ((HS.out.bt.alloc o).alloc o').cell 0 rfl
      have b1 := fun o o' => ((HS.out.bt.alloc o).alloc o').cell 1 rfl
      go_wp2_with (go_at_call 14; refine (all_any _ _ _).mono ?_; rintro e w' ⟨rfl, rfl⟩)
      clear a0 a1 b0 b1 ef
      have hts : w.heap.size + 1 + 1 < W1.heap.size := HS.out.bt.lt
      have hbt := (Blk.startAt (W := (W1.alloc (.cells #[.slice none 0 0] 22)).alloc (.cells #[.pointer p, .int .i64 (cnt T)] 28)) (b := W1.heap.size + 1 + 1) (vs := [.pointer p, .int .i64 (cnt T)]) (t := 28) (by simp)).cell 0 rfl
      have hbk : Go.Boxed (((W1.alloc (.cells #[.slice none 0 0] 22)).alloc (.cells #[.pointer p, .int .i64 (cnt T)] 28)).alloc (.cells #[.pointer p, .int .i64 (cnt T)] 28)) W1.heap.size 22 (.slice none 0 0) := ((Go.Boxed.new W1 _ _).alloc _).alloc _
      have hb3 : Below W1.heap.size W1 (((W1.alloc (.cells #[.slice none 0 0] 22)).alloc (.cells #[.pointer p, .int .i64 (cnt T)] 28)).alloc (.cells #[.pointer p, .int .i64 (cnt T)] 28)) := (((Below.refl _ _).alloc (Nat.le_refl _) _).alloc (by simp) _).alloc (by simp; omega) _
      have hz3 : W1.heap.size + 1 + 1 < (((W1.alloc (.cells #[.slice none 0 0] 22)).alloc (.cells #[.pointer p, .int .i64 (cnt T)] 28)).alloc (.cells #[.pointer p, .int .i64 (cnt T)] 28)).heap.size := by simp
      generalize ((W1.alloc (.cells #[.slice none 0 0] 22)).alloc (.cells #[.pointer p, .int .i64 (cnt T)] 28)).alloc (.cells #[.pointer p, .int .i64 (cnt T)] 28) = W3 at *
      refine (wpIn_wide (n := 5)).1 ?_
      refine wpIn_rangeFunc_ownH rfl (by omega) (gf := 25) (lb := #[.pointer (some ⟨W1.heap.size + 1 + 1, 0, none⟩)]) rfl trivial (enters_of Tryd.func25 (by kernel_rfl) rfl)
        (all_stops _ (W1.heap.size + 1 + 1) W1.heap.size p T W3 hz3 (by omega) hbt (HS.out.tr.below hb3)) belowK_t (belowK_b (by omega)) (Below.refl _ _) (fun _ => rfl)
        (fun pre W => (∃ v, Go.Boxed W W1.heap.size 22 v ∧ W.ownsRow W1.heap.size 33 6 v pre.length (keptC (raw pre)) ∧ True) ∧ Below W1.heap.size W1 W)
        (fun _ _ _ => False)
        (OwnFrom.and (Own.from (holdsRow_own W1.heap.size W1.heap.size 22 33 6 (fun pre : List (ElT T) => pre.length) (fun pre => keptC (raw pre)) (fun _ _ => True)) _) (ownFrom_below (Nat.le_refl _) (by omega)))
        (fun _ _ _ _ _ hs _ _ => hs)
        ⟨⟨_, hbk, World.ownsRow_nil _ _ _ _, trivial⟩, hb3⟩
        (fun x a' W => ∃ Bi Be, Blk W Bi [.int .i64 (nmC x.1.1), .int .i64 (nmS x.1.1)] 24 ∧ Blk W Be (enL x.1.2) 31 ∧ a' = { tmps := #[Value.slice a l.length cap, Value.slice a2 m.length cap2, Value.int IntKind.u8 st, undef, undef, Value.pointer (some ⟨w.heap.size, 0, none⟩), Value.pointer (some ⟨w.heap.size + 1, 0, none⟩), Value.pointer (some ⟨w.heap.size + 1 + 1, 0, none⟩), undef, u9, Value.pointer (some ⟨W1.heap.size, 0, none⟩), .pointer (some ⟨Bi, 0, none⟩), .pointer (some ⟨Be, 0, none⟩), undef, undef, undef, undef, undef, undef, Value.slice a l.length cap, Value.int IntKind.i64 (l.length : Int), Value.bool (decide ((60 : Int) < (l.length : Int))), Value.bool (decide ((60 : Int) < (l.length : Int))), Value.slice a2 m.length cap2, Value.int IntKind.i64 (m.length : Int), Value.bool (decide ((60 : Int) < (m.length : Int))), Value.bool (decide ((60 : Int) < (l.length : Int)) || decide ((60 : Int) < (m.length : Int))), undef, Value.slice a l.length cap, Value.int IntKind.i64 (l.length : Int), Value.int IntKind.i64 (k : Int), Value.bool false, u32, u33, u34, u35, u36, u37, u38, u39, u40, u41, u42, u43, Value.agg #[Value.pointer p, Value.int IntKind.i64 (cnt T)], Value.func (Fn.func 25) #[] #[Value.pointer (some ⟨W1.heap.size + 1, 0, none⟩)], Value.bool false, Value.agg #[Value.pointer p, Value.int IntKind.i64 (cnt T)], Value.func (Fn.func 25) #[] #[Value.pointer (some ⟨W1.heap.size + 1 + 1, 0, none⟩)], .agg #[.int .i64 (nmC x.1.1), .int .i64 (nmS x.1.1)], .agg #[.int .i64 x.1.2.ac, .int .i64 x.1.2.an, .int .i32 x.1.2.ch, .bool x.1.2.d], undef, undef, undef, undef, undef, undef, undef, undef, undef, undef, undef, undef, undef, undef, undef, undef, undef, undef, undef, undef, undef, undef, undef, undef, undef, undef, undef, undef, undef, undef, undef, undef, undef, undef, undef, undef, undef, undef, undef, undef, undef, undef, undef, undef, undef, undef, undef, undef, undef, undef, undef, undef, undef, undef, undef, undef, undef, undef, undef, undef, undef, undef, undef, undef, undef, undef, undef, undef, undef, undef, undef, undef, undef, undef, undef, undef, undef, undef, undef, undef, undef, undef, undef, undef, undef, undef, undef, undef, undef, undef, undef, undef, undef, undef, undef], defers := [] })
        (fun x a' _ W W' row hs hg hr => by obtain ⟨Bi, Be, hb, hb', he⟩ := hs; exact ⟨Bi, Be, hb.grown hg (fun r e => (hr r e).2), hb'.grown hg (fun r e => (hr r e).2), he⟩)
        ?assign ?body ?done ?stop
      case assign =>
        rintro l' pre x W K ⟨⟨v, hi1, hi2, -⟩, hi3⟩ hK
        gi_wp2
        exact hK _ _ (((KeepsOthers.alloc _ _).trans (KeepsOthers.alloc _ _)).from _) (((Below.refl _ W).alloc hi3.size _).alloc (by have := hi3.size; simp; omega) _) ⟨⟨v, (hi1.alloc _).alloc _, (hi2.alloc _).alloc _, trivial⟩, (hi3.alloc hi3.size _).alloc (by have := hi3.size; simp; omega) _⟩ ⟨W.heap.size, W.heap.size + 1, (Blk.start _ _ _).alloc _, Blk.startAt (by simp), rfl⟩
      case stop =>
        rintro D c pre W _ _ h _
        exact h.elim
      case body =>
        rintro l' pre x a' W hl' - ⟨⟨v, hi1, hi2, -⟩, hi3⟩ ⟨Bi, Be, hbi, hbe, rfl⟩ hlt'
        obtain ⟨i0, hi, hz0, hz1, hz2⟩ := info_parts infoAct
        have e0 := hbi.cell 0 rfl
        have e1 := hbi.cell 1 rfl
        have e2 := hbe.cell 0 rfl
        have e3 := hbe.cell 1 rfl
        have e4 := hbe.cell 2 rfl
        have e5 := hbe.cell 3 rfl
        have hv := hi1.cell
        gi_wp2_with (gi_at_builtin; refine wpListIn_append_own _ rfl _ _ 22 rfl W1.heap.size 33 i0 zAct 6 40 Tryd.underlying22 hi hz0 hz1 hz2 rfl (by decide) _ _ _ rfl (hi2.alloc _) ⟨W.heap.size, 0, none⟩ 1 1 (kL x.1) rfl rfl (cell_act_new _ _ _) (act_one x.1) (by unfold maxLen; omega) (by omega) (by have := hi3.size; simp; omega) ?_; intro v' w1 hown' hgrow _; obtain ⟨g', cap', rfl⟩ := ownsRow_succ hown'; obtain ⟨hv1, hv2, hr2, hk2, hb2⟩ := hi1.appended (by decide) hi2 hi3.size (Nat.le_refl _) hown' hgrow; have hc1 := hv1.cell; have hf1 := hv1.frozen)
        refine ⟨hk2.from _, hb2, ⟨_, hv2, ?_, trivial⟩, hi3.trans hb2⟩
        rw [show raw (pre ++ [x]) = raw pre ++ [x.1] by simp [raw], keptC_snoc, List.length_append]
        exact hr2
      case done =>
        rintro D1 ys W hD1 hys ⟨⟨v, hi1, hi2, -⟩, hi3⟩ hK1
        have hylen : ys.length = (els T).length := by rw [← hys]; simp
        rw [hys, hylen] at hi2
        obtain ⟨ka, kc, rfl, hkc1, hkc2⟩ := (Kept.of hi2).form
        have hB : SB w st p T W1.heap.size D1 ka kc W := ⟨HS.out.next hi3, hi1, Kept.of hi2, hK1⟩
        have HDs := Lib.hid (show W1.heap.size < D1 by omega)
        clear HS hi1 hi2 hi3 hK1 hD1 hbt hbk hb3 hz3 hys hylen
        have HB := Lib.hid hB
        clear hB
        have ht0 := HB.out.sa.bt.cell 0 rfl
        have ht1 := HB.out.sa.bt.cell 1 rfl
        obtain ⟨V2, rfl⟩ : ∃ V2 : World, V2 = W := ⟨_, rfl⟩
        go_wp2_with fail
        clear ht0 ht1
        have HU := Lib.hid (show HU5 w st p T W1.heap.size D1 ka kc V2 p T (V2.alloc (.cells #[.pointer p, .int .i64 (cnt T)] 28)) from ⟨HB.out, (Below.refl _ _).alloc (Nat.le_refl _) _, Blk.start _ _ _, HB.out.sa.tr.next ((Below.refl _ _).alloc (Nat.le_refl _) _)⟩)
        clear HB
        go_loopg [60] m.length (fun g ti wr => ∃ kk : Nat, kk ≤ m.length ∧ g = m.length - kk ∧ ti = .int .i64 (kk : Int) ∧ ∃ q' T', (els T').length ≤ 60 + kk ∧ (els T).length ≤ (els T').length ∧ HU5 w st p T W1.heap.size D1 ka kc V2 q' T' wr)
        case atStart => exact ⟨0, Nat.zero_le _, rfl, rfl, p, T, hT60, Nat.le_refl _, HU.out⟩
        case round =>
          obtain ⟨kk, hkk, rfl, rfl, q', T', hTk, hTT, hS⟩ := hrel
          clear HU
          by_cases hlt2 : kk < m.length
          · obtain ⟨b, off, rfl, hbw, hLies⟩ := HM.out (fun e => by rw [e] at hlt2; cases hlt2)
            obtain ⟨l0, l1, l2, l3, l4, l5⟩ := hLies kk hlt2
            have hbel : Below w.heap.size w wr := hS.base.sa.bel.trans (hS.bel.mono hS.base.sa.bel.size)
            have hbs : b < wr.heap.size := Nat.lt_of_lt_of_le hbw hbel.size
            have k0 := (hbel.cell (p := ⟨b, off + kk * 6, none⟩) hbw).trans l0
            have k1 := (hbel.cell (p := ⟨b, off + kk * 6 + 1, none⟩) hbw).trans l1
            have k2 := (hbel.cell (p := ⟨b, off + kk * 6 + 2, none⟩) hbw).trans l2
            have k3 := (hbel.cell (p := ⟨b, off + kk * 6 + 3, none⟩) hbw).trans l3
            have k4 := (hbel.cell (p := ⟨b, off + kk * 6 + 4, none⟩) hbw).trans l4
            have k5 := (hbel.cell (p := ⟨b, off + kk * 6 + 5, none⟩) hbw).trans l5
            clear l0 l1 l2 l3 l4 l5 hLies
            generalize m[kk] = x at *
            have hbA := (Below.refl wr.heap.size wr).alloc (Nat.le_refl _) (.cells #[.int .i64 x.c, .int .i64 x.s, .int .i64 x.e.ac, .int .i64 x.e.an, .int .i32 x.e.ch, .bool x.e.d] 33)
            have HS := Lib.hid (hS.next hbA)
            have ht0 := HS.out.bu.cell 0 rfl
            have ht1 := HS.out.bu.cell 1 rfl
            clear hS hbA hbel
            go_wp2_with (go_at_call 6; refine (Put_any x.c x.s x.e _ HS.out.tr (by omega)).mono ?_; rintro e' Y1 ⟨q2, rfl, hq, hb1⟩; refine Hid.out ?_)
            have HS1 := Lib.hid (HS.out.next hb1)
            have HQ := Lib.hid hq
            clear HS hb1 hq ht0 ht1
            have r0 := HS1.out.bu.cell 0 rfl
            have r1 := HS1.out.bu.cell 1 rfl
            have f0 := HS1.out.bu.free 0
            have f1 := HS1.out.bu.free 1
            have hlp := len_putM T' x.c x.s x.e
            have hlq := len_le_putM T' x.c x.s x.e
            refine Lib.hid ?_
            go_wp2_with fail
            go_roundg (m.length - (kk + 1))
            case measure => omega
            case rel => exact ⟨kk + 1, by omega, rfl, by go_num, q2, putM T' x.c x.s x.e, by omega, by omega, HS1.out.put HQ.out⟩
          · clear HM
            obtain ⟨W6, rfl⟩ : ∃ W6 : World, W6 = wr := ⟨_, rfl⟩
            have HB := Lib.hid (hS.base.next hS.bel)
            have HU := Lib.hid (And.intro hS.bu (And.intro hTT (show V2.heap.size < W6.heap.size from hS.bu.lt)))
            have hVK := Lib.hid (show W1.heap.size < V2.heap.size from hS.base.bk.lt)
            clear hS hTk hTT
            have a0 := fun o => (HB.out.sa.bt.alloc o).cell 0 rfl
            have a1 := fun o => (HB.out.sa.bt.alloc o).cell 1 rfl
            have hts6 : w.heap.size + 1 + 1 < W6.heap.size := HB.out.sa.bt.lt
            go_wp2_with (go_at_call 14; refine (all_any _ _ _).mono ?_; rintro e w' ⟨rfl, rfl⟩)
            clear a0 a1
            have hbt6 := (Blk.startAt (W := W6.alloc (.cells #[.int .i64 0] 3)) (b := W6.heap.size + 1) (vs := [.pointer p, .int .i64 (cnt T)]) (t := 28) (by simp)).cell 0 rfl
            have hbm6 : Blk ((W6.alloc (.cells #[.int .i64 0] 3)).alloc (.cells #[.pointer p, .int .i64 (cnt T)] 28)) W6.heap.size [.int .i64 ((([] : List (ElT T)).length : Nat) : Int)] 3 := (Blk.start W6 [.int .i64 0] 3).alloc _
            have hb8 : Below W6.heap.size W6 ((W6.alloc (.cells #[.int .i64 0] 3)).alloc (.cells #[.pointer p, .int .i64 (cnt T)] 28)) := ((Below.refl _ _).alloc (Nat.le_refl _) _).alloc (by simp) _
            have hz8 : W6.heap.size + 1 < ((W6.alloc (.cells #[.int .i64 0] 3)).alloc (.cells #[.pointer p, .int .i64 (cnt T)] 28)).heap.size := by simp
            generalize (W6.alloc (.cells #[.int .i64 0] 3)).alloc (.cells #[.pointer p, .int .i64 (cnt T)] 28) = W8 at *
            have hmx : Tryd.prog.follows .mixedOrders = true := by kernel_rfl
            refine (wpIn_wide (n := 5)).1 ?_
            refine wpIn_rangeFunc_ownH rfl (by omega) (gf := 25) (lb := #[.pointer (some ⟨W6.heap.size + 1, 0, none⟩)]) rfl trivial (enters_of Tryd.func25 (by kernel_rfl) rfl)
              (all_stops _ (W6.heap.size + 1) W6.heap.size p T W8 hz8 (by omega) hbt6 (HB.out.sa.tr.below hb8)) belowK_t (belowK_b (by omega)) (Below.refl _ _) (fun _ => rfl)
              (fun pre W => (Blk W W6.heap.size [.int .i64 ((pre.length : Nat) : Int)] 3 ∧ (pre.length : Int) ≤ st) ∧ Below W6.heap.size W6 W)
              (fun c pre W => (c = .ret ∧ ¬ raw pre <+: els T) ∨ (c = .exit 6 ∧ (Blk W W6.heap.size [.int .i64 ((pre.length : Nat) : Int)] 3 ∧ (pre.length : Int) = st + 1) ∧ Below W6.heap.size W6 W))
              (fun s A B row hs hg hr => ⟨⟨hs.1.1.grown hg (fun r e => (hr r e).2), hs.1.2⟩, ownFrom_below (β := List (ElT T)) (Nat.le_refl _) (by omega) s A B row hs.2 hg hr⟩)
              (fun c s A B row hs hg hr => hs.imp id (fun h => ⟨h.1, ⟨h.2.1.1.grown hg (fun r e => (hr r e).2), h.2.1.2⟩, ownFrom_below (β := List (ElT T)) (Nat.le_refl _) (by omega) s A B row h.2.2 hg hr⟩))
              ⟨⟨hbm6, hst0⟩, hb8⟩
              (fun x a' W => ∃ Bi Be, Blk W Bi [.int .i64 (nmC x.1.1), .int .i64 (nmS x.1.1)] 24 ∧ Blk W Be (enL x.1.2) 31 ∧ a' = { tmps := #[Value.slice a l.length cap, Value.slice a2 m.length cap2, Value.int IntKind.u8 st, undef, undef, Value.pointer (some ⟨w.heap.size, 0, none⟩), Value.pointer (some ⟨w.heap.size + 1, 0, none⟩), Value.pointer (some ⟨w.heap.size + 1 + 1, 0, none⟩), undef, u9, Value.pointer (some ⟨W1.heap.size, 0, none⟩), undef, undef, Value.pointer (some ⟨V2.heap.size, 0, none⟩), undef, u15, Value.pointer (some ⟨W6.heap.size, 0, none⟩), .pointer (some ⟨Bi, 0, none⟩), .pointer (some ⟨Be, 0, none⟩), Value.slice a l.length cap, Value.int IntKind.i64 (l.length : Int), Value.bool (decide ((60 : Int) < (l.length : Int))), Value.bool (decide ((60 : Int) < (l.length : Int))), Value.slice a2 m.length cap2, Value.int IntKind.i64 (m.length : Int), Value.bool (decide ((60 : Int) < (m.length : Int))), Value.bool (decide ((60 : Int) < (l.length : Int)) || decide ((60 : Int) < (m.length : Int))), undef, Value.slice a l.length cap, Value.int IntKind.i64 (l.length : Int), Value.int IntKind.i64 (k : Int), Value.bool false, u32, u33, u34, u35, u36, u37, u38, u39, u40, u41, u42, u43, Value.agg #[Value.pointer p, Value.int IntKind.i64 (cnt T)], Value.func (Fn.func 25) #[] #[Value.pointer (some ⟨W1.heap.size + 1, 0, none⟩)], Value.bool false, Value.agg #[Value.pointer p, Value.int IntKind.i64 (cnt T)], Value.func (Fn.func 25) #[] #[Value.pointer (some ⟨W1.heap.size + 1 + 1, 0, none⟩)], undef, undef, undef, undef, undef, undef, undef, undef, Value.agg #[Value.pointer p, Value.int IntKind.i64 (cnt T)], Value.slice a2 m.length cap2, Value.int IntKind.i64 (m.length : Int), Value.int IntKind.i64 (kk : Int), Value.bool false, u62, u63, u64, u65, u66, u67, u68, u69, u70, u71, u72, u73, Value.agg #[Value.pointer p, Value.int IntKind.i64 (cnt T)], Value.func (Fn.func 25) #[] #[Value.pointer (some ⟨W6.heap.size + 1, 0, none⟩)], .agg #[.int .i64 (nmC x.1.1), .int .i64 (nmS x.1.1)], .agg #[.int .i64 x.1.2.ac, .int .i64 x.1.2.an, .int .i32 x.1.2.ch, .bool x.1.2.d], undef, undef, undef, undef, undef, undef, undef, undef, undef, undef, undef, undef, undef, undef, undef, undef, undef, undef, undef, undef, undef, undef, undef, undef, undef, undef, undef, undef, undef, undef, undef, undef, undef, undef, undef, undef, undef, undef, undef, undef, undef, undef, undef, undef, undef, undef, undef, undef, undef, undef, undef, undef, undef, undef, undef, undef, undef, undef, undef, undef, undef, undef, undef, undef, undef, undef, undef, undef], defers := [] })
              (fun x a' _ W W' row hs hg hr => by obtain ⟨Bi, Be, hb, hb', he⟩ := hs; exact ⟨Bi, Be, hb.grown hg (fun r e => (hr r e).2), hb'.grown hg (fun r e => (hr r e).2), he⟩)
              ?assign2 ?body2 ?done2 ?stop2
            case assign2 =>
              rintro l' pre x W K ⟨⟨hi1, hi2⟩, hi3⟩ hK
              gi_wp2
              exact hK _ _ (((KeepsOthers.alloc _ _).trans (KeepsOthers.alloc _ _)).from _) (((Below.refl _ W).alloc hi3.size _).alloc (by have := hi3.size; simp; omega) _) ⟨⟨(hi1.alloc _).alloc _, hi2⟩, (hi3.alloc hi3.size _).alloc (by have := hi3.size; simp; omega) _⟩ ⟨W.heap.size, W.heap.size + 1, (Blk.start _ _ _).alloc _, Blk.startAt (by simp), rfl⟩
            case stop2 =>
              rintro D2 c pre W hD2 hpre (⟨rfl, hno⟩ | ⟨rfl, ⟨hm1, hm2⟩, hb9⟩) hK2
              · exact absurd hpre hno
              · refine wpIn_wide.2 ?_
                have hle : pre.length ≤ (els T).length := by have := hpre.length_le; simpa using this
                rw [hm2] at hm1
                have hn2 : st + 1 ≤ ((els T).length : Int) := by omega
                clear hm2 hpre hle
                have HF0 := Lib.hid (SF.of (D2 := D2) (HB.out.next hb9) (HU.out.1.next hb9) hm1 hK2)
                have s0 : IntKind.i64.wrap st = st := IntWalk.i64_in _ (by omega)
                have s1 : IntKind.i64.wrap (st + 1) = st + 1 := IntWalk.i64_in _ (by omega)
                have hcn : cnt T = ((els T).length : Int) := rfl
                have hcn2 : cnt T' = ((els T').length : Int) := rfl
                have hTT := HU.out.2.1
                have hVK9 := hVK.out
                have hV69 := HU.out.2.2
                have hdd := Lib.hid (show D1 < D2 by have := (Array.getElem?_eq_some_iff.1 HB.out.dk).1; omega)
                clear hm1 hb9 hK2 hbt6 hbm6 hb8 hz8 HB HU
                go_wp2_with fail
                refine wp_region_noPanic ?_
                refine wp_region_held_drew (S := (fun X => X.cell? ⟨w.heap.size + 1 + 1, 0, none⟩ = some (.pointer p) ∧ X.cell? ⟨w.heap.size + 1 + 1, 1, none⟩ = some (.int .i64 (cnt T)) ∧ X.cell? ⟨W1.heap.size, 0, none⟩ = some (.slice ka (els T).length kc) ∧ X.cell? ⟨W6.heap.size, 0, none⟩ = some (.int .i64 (st + 1)) ∧ X.cell? ⟨w.heap.size, 0, none⟩ = some (.int .u8 st) ∧ X.cell? ⟨V2.heap.size, 0, none⟩ = some (.pointer q') ∧ X.cell? ⟨V2.heap.size, 1, none⟩ = some (.int .i64 (cnt T')) ∧ SF w st p T W1.heap.size W6.heap.size V2.heap.size D1 D2 (st + 1) ka kc q' T' X)) (by kernel_rfl) ?_ (fun hHeld => ?_)
                · exact (HF0.out.next (Below.refl _ _).drew).s
                clear HF0
                refine wpAnyH_ready (rs := [0]) (by kernel_rfl) (by simp) ?_
                refine cons1 rfl (fun K hK => ?_) AllReadyH.nil
                go_simp
                refine (awakeD_any _ (HTab.out.next hHeld.2.2.2.2.2.2.2.bel)).mono ?_
                rintro e X1 ⟨rfl, hb⟩
                go_wp2_with fail
                refine hK.out _ _ ((hHeld.2.2.2.2.2.2.2.next hb).s) (fun hHeld2 => ?_)
                clear hK K hHeld hb
                have hHeld := hHeld2
                clear hHeld2
                try simp only [Act.put, List.setIfInBounds_toArray, List.set_cons_zero, List.set_cons_succ]
                refine take1 (i := 1) (v := .bool true) rfl (by kernel_rfl) (by kernel_rfl) (by kernel_rfl) (fun _ _ _ h => h) (Or.inl ⟨by rfl, fun w hSw => ?_⟩) hHeld ?_
                · (go_simp)
                try simp only [Act.put, List.setIfInBounds_toArray, List.set_cons_zero, List.set_cons_succ]
                refine take1 (i := 2) (v := .agg #[.pointer p, .int .i64 (cnt T)]) rfl (by kernel_rfl) (by kernel_rfl) (by kernel_rfl) (fun _ _ _ h => h) (Or.inl ⟨by rfl, fun w hSw => ?_⟩) hHeld ?_
                · (go_simp)
                try simp only [Act.put, List.setIfInBounds_toArray, List.set_cons_zero, List.set_cons_succ]
                refine take1 (i := 4) (v := .slice ka (els T).length kc) rfl (by kernel_rfl) (by kernel_rfl) (by kernel_rfl) (fun _ _ _ h => h) (Or.inl ⟨by rfl, fun w hSw => ?_⟩) hHeld ?_
                · (go_simp)
                try simp only [Act.put, List.setIfInBounds_toArray, List.set_cons_zero, List.set_cons_succ]
                refine take1 (i := 5) (v := .int .i64 ((els T).length : Int)) rfl (by kernel_rfl) (by kernel_rfl) (by kernel_rfl) (fun _ _ _ h => h) (Or.inl ⟨by rfl, fun w hSw => ?_⟩) hHeld ?_
                · (go_simp)
                try simp only [Act.put, List.setIfInBounds_toArray, List.set_cons_zero, List.set_cons_succ]
                refine wpAnyH_ready (rs := [3]) (by kernel_rfl) (by simp) ?_
                refine cons1 rfl (fun K hK => ?_) AllReadyH.nil
                go_simp
                refine (len_any _ _ _).mono ?_
                rintro e X2 ⟨rfl, hb⟩
                go_wp2_with fail
                refine hK.out _ _ ((hHeld.2.2.2.2.2.2.2.next hb).s) (fun hHeld2 => ?_)
                clear hK K hHeld hb
                have hHeld := hHeld2
                clear hHeld2
                try simp only [Act.put, List.setIfInBounds_toArray, List.set_cons_zero, List.set_cons_succ]
                refine take1 (i := 6) (v := .bool true) rfl (by kernel_rfl) (by kernel_rfl) (by kernel_rfl) (fun _ _ _ h => h) (Or.inl ⟨by rfl, fun w hSw => ?_⟩) hHeld ?_
                · (go_simp)
                try simp only [Act.put, List.setIfInBounds_toArray, List.set_cons_zero, List.set_cons_succ]
                refine take1 (i := 7) (v := .bool true) rfl (by kernel_rfl) (by kernel_rfl) (by kernel_rfl) (fun _ _ _ h => h) (Or.inl ⟨by rfl, fun w hSw => ?_⟩) hHeld ?_
                · (go_simp)
                try simp only [Act.put, List.setIfInBounds_toArray, List.set_cons_zero, List.set_cons_succ]
                refine take1 (i := 8) (v := .bool true) rfl (by kernel_rfl) (by kernel_rfl) (by kernel_rfl) (fun _ _ _ h => h) (Or.inl ⟨by rfl, fun w hSw => ?_⟩) hHeld ?_
                · (go_simp)
                try simp only [Act.put, List.setIfInBounds_toArray, List.set_cons_zero, List.set_cons_succ]
                refine take1 (i := 9) (v := .agg #[.pointer q', .int .i64 (cnt T')]) rfl (by kernel_rfl) (by kernel_rfl) (by kernel_rfl) (fun _ _ _ h => h) (Or.inl ⟨by rfl, fun w hSw => ?_⟩) hHeld ?_
                · (go_simp)
                try simp only [Act.put, List.setIfInBounds_toArray, List.set_cons_zero, List.set_cons_succ]
                refine take1 (i := 11) (v := .agg #[.pointer p, .int .i64 (cnt T)]) rfl (by kernel_rfl) (by kernel_rfl) (by kernel_rfl) (fun _ _ _ h => h) (Or.inl ⟨by rfl, fun w hSw => ?_⟩) hHeld ?_
                · (go_simp)
                try simp only [Act.put, List.setIfInBounds_toArray, List.set_cons_zero, List.set_cons_succ]
                refine wpAnyH_ready (rs := [10]) (by kernel_rfl) (by simp) ?_
                refine cons1 rfl (fun K hK => ?_) AllReadyH.nil
                go_simp
                refine (len_any _ _ _).mono ?_
                rintro e X3 ⟨rfl, hb⟩
                go_wp2_with fail
                refine hK.out _ _ ((hHeld.2.2.2.2.2.2.2.next hb).s) (fun hHeld2 => ?_)
                clear hK K hHeld hb
                have hHeld := hHeld2
                clear hHeld2
                try simp only [Act.put, List.setIfInBounds_toArray, List.set_cons_zero, List.set_cons_succ]
                refine wpAnyH_ready (rs := [12]) (by kernel_rfl) (by simp) ?_
                refine cons1 rfl (fun K hK => ?_) AllReadyH.nil
                go_simp
                refine (len_any _ _ _).mono ?_
                rintro e X4 ⟨rfl, hb⟩
                go_wp2_with fail
                refine hK.out _ _ ((hHeld.2.2.2.2.2.2.2.next hb).s) (fun hHeld2 => ?_)
                clear hK K hHeld hb
                have hHeld := hHeld2
                clear hHeld2
                try simp only [Act.put, List.setIfInBounds_toArray, List.set_cons_zero, List.set_cons_succ]
                obtain ⟨v0, hv0⟩ := hHeld.2.2.2.2.2.2.2.rb
                have HR := Lib.hid (hv0.set 0 (.bool true))
                have hcz := hv0.cell 0 rfl
                have hfz := hv0.free 0
                clear hv0
                refine take1 (i := 13) (v := .bool true) rfl (by kernel_rfl) (by kernel_rfl) (by kernel_rfl) (fun _ _ _ h => h) (Or.inl ⟨by rfl, fun w hSw => ?_⟩) hHeld ?_
                · (go_simp <;> omega)
                try simp only [Act.put, List.setIfInBounds_toArray, List.set_cons_zero, List.set_cons_succ]
                refine take1 (i := 14) (v := .bool true) rfl (by kernel_rfl) (by kernel_rfl) (by kernel_rfl) (fun _ _ _ h => h) (Or.inl ⟨by rfl, fun w hSw => ?_⟩) hHeld ?_
                · (go_simp)
                try simp only [Act.put, List.setIfInBounds_toArray, List.set_cons_zero, List.set_cons_succ]
                refine take1 (i := 15) (v := .bool true) rfl (by kernel_rfl) (by kernel_rfl) (by kernel_rfl) (fun _ _ _ h => h) (Or.inl ⟨by rfl, fun w hSw => ?_⟩) hHeld ?_
                · (go_simp)
                try simp only [Act.put, List.setIfInBounds_toArray, List.set_cons_zero, List.set_cons_succ]
                refine take1 (i := 16) (v := .int .i64 (st + 1)) rfl (by kernel_rfl) (by kernel_rfl) (by kernel_rfl) (fun _ _ _ h => h) (Or.inl ⟨by rfl, fun w hSw => ?_⟩) hHeld ?_
                · (go_simp)
                try simp only [Act.put, List.setIfInBounds_toArray, List.set_cons_zero, List.set_cons_succ]
                refine take1 (i := 17) (v := .slice ka (els T).length kc) rfl (by kernel_rfl) (by kernel_rfl) (by kernel_rfl) (fun _ _ _ h => h) (Or.inl ⟨by rfl, fun w hSw => ?_⟩) hHeld ?_
                · (go_simp)
                try simp only [Act.put, List.setIfInBounds_toArray, List.set_cons_zero, List.set_cons_succ]
                refine take1 (i := 18) (v := .int .i64 ((els T).length : Int)) rfl (by kernel_rfl) (by kernel_rfl) (by kernel_rfl) (fun _ _ _ h => h) (Or.inl ⟨by rfl, fun w hSw => ?_⟩) hHeld ?_
                · (go_simp)
                try simp only [Act.put, List.setIfInBounds_toArray, List.set_cons_zero, List.set_cons_succ]
                refine take1 (i := 19) (v := .int .u8 st) rfl (by kernel_rfl) (by kernel_rfl) (by kernel_rfl) (fun _ _ _ h => h) (Or.inl ⟨by rfl, fun w hSw => ?_⟩) hHeld ?_
                · (go_simp)
                try simp only [Act.put, List.setIfInBounds_toArray, List.set_cons_zero, List.set_cons_succ]
                refine take1 (i := 20) (v := .int .i64 st) rfl (by kernel_rfl) (by kernel_rfl) (by kernel_rfl) (fun _ _ _ h => h) (Or.inl ⟨by rfl, fun w hSw => ?_⟩) hHeld ?_
                · (go_simp)
                try simp only [Act.put, List.setIfInBounds_toArray, List.set_cons_zero, List.set_cons_succ]
                refine take1 (i := 21) (v := .int .i64 (st + 1)) rfl (by kernel_rfl) (by kernel_rfl) (by kernel_rfl) (fun _ _ _ h => h) (Or.inl ⟨by rfl, fun w hSw => ?_⟩) hHeld ?_
                · (go_simp)
                try simp only [Act.put, List.setIfInBounds_toArray, List.set_cons_zero, List.set_cons_succ]
                refine take1 (i := 22) (v := .int .i64 (st + 1)) rfl (by kernel_rfl) (by kernel_rfl) (by kernel_rfl) (fun _ _ _ h => h) (Or.inl ⟨by rfl, fun w hSw => ?_⟩) hHeld ?_
                · (go_simp <;> omega)
                try simp only [Act.put, List.setIfInBounds_toArray, List.set_cons_zero, List.set_cons_succ]
                refine take1 (i := 23) (v := .bool true) rfl (by kernel_rfl) (by kernel_rfl) (by kernel_rfl) (fun _ _ _ h => h) (Or.inl ⟨by rfl, fun w hSw => ?_⟩) hHeld ?_
                · (go_simp)
                try simp only [Act.put, List.setIfInBounds_toArray, List.set_cons_zero, List.set_cons_succ]
                refine take1 (i := 24) (v := .bool true) rfl (by kernel_rfl) (by kernel_rfl) (by kernel_rfl) (fun _ _ _ h => h) (Or.inl ⟨by rfl, fun w hSw => ?_⟩) hHeld ?_
                · (go_simp)
                try simp only [Act.put, List.setIfInBounds_toArray, List.set_cons_zero, List.set_cons_succ]
                refine wpAnyH_ready (rs := [25]) (by kernel_rfl) (by simp) ?_
                refine cons1 rfl (fun K hK => ?_) AllReadyH.nil
                go_simp
                go_wp2_with fail
                refine hK.out _ _ ((hHeld.2.2.2.2.2.2.2.put _).s) (fun hHeld2 => ?_)
                clear hK K hHeld hcz hfz
                have hHeld := hHeld2
                clear hHeld2
                try simp only [Act.put, List.setIfInBounds_toArray, List.set_cons_zero, List.set_cons_succ]
                refine wpAnyH_done (by kernel_rfl) ?_ _
                refine NoPanic.normal ?_
                have HF := Lib.hid hHeld.2.2.2.2.2.2.2
                clear hHeld
                have hd1 : ((X4.setCell ⟨w.heap.size + 1, 0, none⟩ (.bool true)).putObj D2 (.deferred none)).heap[D1]? = some (.deferred (some [])) := (World.putObj_heap_other (by have := hdd.out; omega)).trans HF.out.d1
                have hD1 := HDs.out
                have hD2 := hdd.out
                have hres := ((HR.out.putObj (D := D2) (by omega) (.deferred none)).putObj (D := D1) (by omega) (.deferred none)).cell 0 rfl
                have hbe : Below w.heap.size w (((X4.setCell ⟨w.heap.size + 1, 0, none⟩ (.bool true)).putObj D2 (.deferred none)).putObj D1 (.deferred none)) := (HF.out.bel.trans (belowK_b (w := w) (Nat.le_refl _) _ D2 _ _ (by omega) HF.out.d2 rfl rfl)).trans (belowK_b (w := w) (Nat.le_refl _) _ D1 _ _ (by omega) hd1 rfl rfl)
                have hd2 := HF.out.d2
                have HRES := Lib.hid (And.intro hres hbe)
                clear hres hbe
                go_wp2_with fail
                refine ⟨by simp, .inl ⟨_, _, rfl, run_takeDeferred hd2, ?_⟩⟩
                refine ⟨by simp, .inl ⟨_, _, rfl, run_takeDeferred hd1, ?_⟩⟩
                exact ⟨.bool true, by have := HRES.out.1; simp [results, Tryd.results4, go_sem, this], rfl, HRES.out.2⟩
            case body2 =>
              rintro l' pre ⟨v, hv⟩ a' W hl' - ⟨⟨hi1, hi2⟩, hi3⟩ ⟨Bi, Be, hbi, hbe, rfl⟩ hlt'
              have hbi : Blk W Bi [.int .i64 (nmC v.1), .int .i64 (nmS v.1)] 24 := hbi
              have hbe : Blk W Be (enL v.2) 31 := hbe
              have hSW := HB.out.next hi3
              have hne : w.heap.size ≠ W6.heap.size := by omega
              have hsn : (((pre ++ [(⟨v, hv⟩ : ElT T)]).length : Nat) : Int) = (pre.length : Int) + 1 := by simp
              obtain ⟨g, rfl, -, -⟩ := hSW.kept.cell pre.length hlt'
              have HRB := Lib.hid (show RB w st p T W1.heap.size D1 g kc W6.heap.size pre.length Bi Be v W from ⟨hSW, hi1, hbi, hbe⟩)
              have hKC := fun (X : World) (h : Kept X (.slice (some ⟨g, 0, none⟩) (els T).length kc) (els T)) => kc_of h hlt'
              have hnp : raw (pre ++ [(⟨v, hv⟩ : ElT T)]) <+: els T → (els T)[pre.length] = v := fun h => by
                rw [show raw (pre ++ [(⟨v, hv⟩ : ElT T)]) = raw pre ++ [v] by simp [raw]] at h
                obtain ⟨t, ht⟩ := h
                have h1 : (raw pre ++ [v] ++ t)[pre.length]? = some v := by rw [List.getElem?_append_left (by simp), List.getElem?_append_right (by simp)]; simp
                rw [ht, List.getElem?_eq_getElem hlt'] at h1
                exact Option.some.inj h1
              have hym : (els T)[pre.length] ∈ els T := List.getElem_mem _
              have hpz : ∀ j : Nat, j + 1 = pre.length → ∃ z : Nat × En, z.1 < ((els T)[pre.length]).1 ∧ ∀ X : World, Kept X (.slice (some ⟨g, 0, none⟩) (els T).length kc) (els T) → KC X g j z := fun j hj => by
                have hj2 : j < (els T).length := by clear hsn; omega
                exact ⟨(els T)[j], List.pairwise_iff_getElem.1 (els_rising T) j pre.length hj2 hlt' (by clear hsn; omega), fun X h => kc_of h hj2⟩
              clear hSW hi1 hbi hbe
              generalize hk9 : pre.length = k at *
              generalize hy9 : (els T)[k] = y at *
              by_cases hE : y = v
              · subst hE
                have HKC := Lib.hid hKC
                by_cases hk0 : k = 0
                · have hkz : (k : Int) ≤ 0 := by omega
                  clear hk0 hpz hnp hym hKC
                  gi_wp2
                  refine region_round (S := (fun X => X.cell? ⟨W6.heap.size, 0, none⟩ = some (.int .i64 (k : Int)) ∧ X.cell? ⟨W1.heap.size, 0, none⟩ = some (.slice (some ⟨g, 0, none⟩) (els T).length kc) ∧ X.cell? ⟨Bi, 0, none⟩ = some (.int .i64 (nmC y.1)) ∧ X.cell? ⟨Bi, 1, none⟩ = some (.int .i64 (nmS y.1)) ∧ X.cell? ⟨Be, 0, none⟩ = some (.int .i64 y.2.ac) ∧ X.cell? ⟨Be, 1, none⟩ = some (.int .i64 y.2.an) ∧ X.cell? ⟨Be, 2, none⟩ = some (.int .i32 y.2.ch) ∧ X.cell? ⟨Be, 3, none⟩ = some (.bool y.2.d) ∧ X.cell? ⟨g, k * 6, none⟩ = some (.int .i64 (nmC y.1)) ∧ X.cell? ⟨g, k * 6 + 1, none⟩ = some (.int .i64 (nmS y.1)) ∧ X.cell? ⟨g, k * 6 + 2, none⟩ = some (.int .i64 y.2.ac) ∧ X.cell? ⟨g, k * 6 + 3, none⟩ = some (.int .i64 y.2.an) ∧ X.cell? ⟨g, k * 6 + 4, none⟩ = some (.int .i32 y.2.ch) ∧ X.cell? ⟨g, k * 6 + 5, none⟩ = some (.bool y.2.d) ∧ RB w st p T W1.heap.size D1 g kc W6.heap.size k Bi Be y X)) hmx (by kernel_rfl) ((let h := HRB.out.next (Below.refl _ _).drew; let c := HKC.out _ h.sb.kept; ⟨h.bm.cell 0 rfl, h.sb.bk.cell 0 rfl, h.bi.cell 0 rfl, h.bi.cell 1 rfl, h.be.cell 0 rfl, h.be.cell 1 rfl, h.be.cell 2 rfl, h.be.cell 3 rfl, c.1, c.2.1, c.2.2.1, c.2.2.2.1, c.2.2.2.2.1, c.2.2.2.2.2, h⟩)) (fun hHeld => ?_)
                  refine take1 (i := 0) (v := .int .i64 (k : Int)) rfl (by kernel_rfl) (by kernel_rfl) (by kernel_rfl) (fun _ _ _ h => h) (Or.inl ⟨by rfl, fun w hSw => ?_⟩) hHeld ?_
                  · (go_simp)
                  try simp only [Act.put, List.setIfInBounds_toArray, List.set_cons_zero, List.set_cons_succ]
                  refine take1 (i := 1) (v := .slice (some ⟨g, 0, none⟩) (els T).length kc) rfl (by kernel_rfl) (by kernel_rfl) (by kernel_rfl) (fun _ _ _ h => h) (Or.inl ⟨by rfl, fun w hSw => ?_⟩) hHeld ?_
                  · (go_simp)
                  try simp only [Act.put, List.setIfInBounds_toArray, List.set_cons_zero, List.set_cons_succ]
                  refine take1 (i := 2) (v := .int .i64 ((els T).length : Int)) rfl (by kernel_rfl) (by kernel_rfl) (by kernel_rfl) (fun _ _ _ h => h) (Or.inl ⟨by rfl, fun w hSw => ?_⟩) hHeld ?_
                  · (go_simp)
                  try simp only [Act.put, List.setIfInBounds_toArray, List.set_cons_zero, List.set_cons_succ]
                  refine take1 (i := 3) (v := .bool false) rfl (by kernel_rfl) (by kernel_rfl) (by kernel_rfl) (fun _ _ _ h => h) (Or.inl ⟨by rfl, fun w hSw => ?_⟩) hHeld ?_
                  · (go_simp <;> omega)
                  try simp only [Act.put, List.setIfInBounds_toArray, List.set_cons_zero, List.set_cons_succ]
                  refine take1 (i := 4) (v := .bool false) rfl (by kernel_rfl) (by kernel_rfl) (by kernel_rfl) (fun _ _ _ h => h) (Or.inl ⟨by rfl, fun w hSw => ?_⟩) hHeld ?_
                  · (go_simp)
                  try simp only [Act.put, List.setIfInBounds_toArray, List.set_cons_zero, List.set_cons_succ]
                  refine take1 (i := 5) (v := .slice (some ⟨g, 0, none⟩) (els T).length kc) rfl (by kernel_rfl) (by kernel_rfl) (by kernel_rfl) (fun _ _ _ h => h) (Or.inl ⟨by rfl, fun w hSw => ?_⟩) hHeld ?_
                  · (go_simp)
                  try simp only [Act.put, List.setIfInBounds_toArray, List.set_cons_zero, List.set_cons_succ]
                  refine take1 (i := 6) (v := .int .i64 (k : Int)) rfl (by kernel_rfl) (by kernel_rfl) (by kernel_rfl) (fun _ _ _ h => h) (Or.inl ⟨by rfl, fun w hSw => ?_⟩) hHeld ?_
                  · (go_simp)
                  try simp only [Act.put, List.setIfInBounds_toArray, List.set_cons_zero, List.set_cons_succ]
                  refine take1 (i := 7) (v := .pointer (some ⟨g, k * 6, none⟩)) rfl (by kernel_rfl) (by kernel_rfl) (by kernel_rfl) (fun _ _ _ h => h) (Or.inl ⟨by rfl, fun w hSw => ?_⟩) hHeld ?_
                  · (go_simp <;> omega)
                  try simp only [Act.put, List.setIfInBounds_toArray, List.set_cons_zero, List.set_cons_succ]
                  refine take1 (i := 8) (v := .pointer (some ⟨g, k * 6, none⟩)) rfl (by kernel_rfl) (by kernel_rfl) (by kernel_rfl) (fun _ _ _ h => h) (Or.inl ⟨by rfl, fun w hSw => ?_⟩) hHeld ?_
                  · (go_simp)
                  try simp only [Act.put, List.setIfInBounds_toArray, List.set_cons_zero, List.set_cons_succ]
                  refine take1 (i := 9) (v := .agg #[.int .i64 (nmC y.1), .int .i64 (nmS y.1)]) rfl (by kernel_rfl) (by kernel_rfl) (by kernel_rfl) (fun _ _ _ h => h) (Or.inl ⟨by rfl, fun w hSw => ?_⟩) hHeld ?_
                  · (go_simp)
                  try simp only [Act.put, List.setIfInBounds_toArray, List.set_cons_zero, List.set_cons_succ]
                  refine take1 (i := 10) (v := .agg #[.int .i64 (nmC y.1), .int .i64 (nmS y.1)]) rfl (by kernel_rfl) (by kernel_rfl) (by kernel_rfl) (fun _ _ _ h => h) (Or.inl ⟨by rfl, fun w hSw => ?_⟩) hHeld ?_
                  · (go_simp)
                  try simp only [Act.put, List.setIfInBounds_toArray, List.set_cons_zero, List.set_cons_succ]
                  refine take1 (i := 11) (v := .bool false) rfl (by kernel_rfl) (by kernel_rfl) (by kernel_rfl) (fun _ _ _ h => h) (Or.inl ⟨by rfl, fun w hSw => ?_⟩) hHeld ?_
                  · (go_simp)
                  try simp only [Act.put, List.setIfInBounds_toArray, List.set_cons_zero, List.set_cons_succ]
                  refine take1 (i := 12) (v := .bool false) rfl (by kernel_rfl) (by kernel_rfl) (by kernel_rfl) (fun _ _ _ h => h) (Or.inl ⟨by rfl, fun w hSw => ?_⟩) hHeld ?_
                  · (go_simp)
                  try simp only [Act.put, List.setIfInBounds_toArray, List.set_cons_zero, List.set_cons_succ]
                  refine take1 (i := 13) (v := .bool false) rfl (by kernel_rfl) (by kernel_rfl) (by kernel_rfl) (fun _ _ _ h => h) (Or.inl ⟨by rfl, fun w hSw => ?_⟩) hHeld ?_
                  · (go_simp)
                  try simp only [Act.put, List.setIfInBounds_toArray, List.set_cons_zero, List.set_cons_succ]
                  refine take1 (i := 14) (v := .slice (some ⟨g, 0, none⟩) (els T).length kc) rfl (by kernel_rfl) (by kernel_rfl) (by kernel_rfl) (fun _ _ _ h => h) (Or.inl ⟨by rfl, fun w hSw => ?_⟩) hHeld ?_
                  · (go_simp)
                  try simp only [Act.put, List.setIfInBounds_toArray, List.set_cons_zero, List.set_cons_succ]
                  refine take1 (i := 15) (v := .int .i64 (k : Int)) rfl (by kernel_rfl) (by kernel_rfl) (by kernel_rfl) (fun _ _ _ h => h) (Or.inl ⟨by rfl, fun w hSw => ?_⟩) hHeld ?_
                  · (go_simp)
                  try simp only [Act.put, List.setIfInBounds_toArray, List.set_cons_zero, List.set_cons_succ]
                  refine take1 (i := 16) (v := .pointer (some ⟨g, k * 6, none⟩)) rfl (by kernel_rfl) (by kernel_rfl) (by kernel_rfl) (fun _ _ _ h => h) (Or.inl ⟨by rfl, fun w hSw => ?_⟩) hHeld ?_
                  · (go_simp <;> omega)
                  try simp only [Act.put, List.setIfInBounds_toArray, List.set_cons_zero, List.set_cons_succ]
                  refine take1 (i := 17) (v := .pointer (some ⟨g, k * 6 + 2, none⟩)) rfl (by kernel_rfl) (by kernel_rfl) (by kernel_rfl) (fun _ _ _ h => h) (Or.inl ⟨by rfl, fun w hSw => ?_⟩) hHeld ?_
                  · (go_simp)
                  try simp only [Act.put, List.setIfInBounds_toArray, List.set_cons_zero, List.set_cons_succ]
                  refine take1 (i := 18) (v := .agg #[.int .i64 y.2.ac, .int .i64 y.2.an, .int .i32 y.2.ch, .bool y.2.d]) rfl (by kernel_rfl) (by kernel_rfl) (by kernel_rfl) (fun _ _ _ h => h) (Or.inl ⟨by rfl, fun w hSw => ?_⟩) hHeld ?_
                  · (go_simp)
                  try simp only [Act.put, List.setIfInBounds_toArray, List.set_cons_zero, List.set_cons_succ]
                  refine take1 (i := 19) (v := .agg #[.int .i64 y.2.ac, .int .i64 y.2.an, .int .i32 y.2.ch, .bool y.2.d]) rfl (by kernel_rfl) (by kernel_rfl) (by kernel_rfl) (fun _ _ _ h => h) (Or.inl ⟨by rfl, fun w hSw => ?_⟩) hHeld ?_
                  · (go_simp)
                  try simp only [Act.put, List.setIfInBounds_toArray, List.set_cons_zero, List.set_cons_succ]
                  refine take1 (i := 20) (v := .bool false) rfl (by kernel_rfl) (by kernel_rfl) (by kernel_rfl) (fun _ _ _ h => h) (Or.inl ⟨by rfl, fun w hSw => ?_⟩) hHeld ?_
                  · (go_simp)
                  try simp only [Act.put, List.setIfInBounds_toArray, List.set_cons_zero, List.set_cons_succ]
                  refine take1 (i := 21) (v := .bool false) rfl (by kernel_rfl) (by kernel_rfl) (by kernel_rfl) (fun _ _ _ h => h) (Or.inl ⟨by rfl, fun w hSw => ?_⟩) hHeld ?_
                  · (go_simp)
                  try simp only [Act.put, List.setIfInBounds_toArray, List.set_cons_zero, List.set_cons_succ]
                  refine take1 (i := 22) (v := .bool false) rfl (by kernel_rfl) (by kernel_rfl) (by kernel_rfl) (fun _ _ _ h => h) (Or.inl ⟨by rfl, fun w hSw => ?_⟩) hHeld ?_
                  · (go_simp)
                  try simp only [Act.put, List.setIfInBounds_toArray, List.set_cons_zero, List.set_cons_succ]
                  refine take1 (i := 23) (v := .int .i64 (k : Int)) rfl (by kernel_rfl) (by kernel_rfl) (by kernel_rfl) (fun _ _ _ h => h) (Or.inl ⟨by rfl, fun w hSw => ?_⟩) hHeld ?_
                  · (go_simp)
                  try simp only [Act.put, List.setIfInBounds_toArray, List.set_cons_zero, List.set_cons_succ]
                  refine take1 (i := 24) (v := .bool false) rfl (by kernel_rfl) (by kernel_rfl) (by kernel_rfl) (fun _ _ _ h => h) (Or.inl ⟨by rfl, fun w hSw => ?_⟩) hHeld ?_
                  · (go_simp <;> omega)
                  try simp only [Act.put, List.setIfInBounds_toArray, List.set_cons_zero, List.set_cons_succ]
                  refine take1 (i := 25) (v := .bool false) rfl (by kernel_rfl) (by kernel_rfl) (by kernel_rfl) (fun _ _ _ h => h) (Or.inl ⟨by rfl, fun w hSw => ?_⟩) hHeld ?_
                  · (go_simp)
                  try simp only [Act.put, List.setIfInBounds_toArray, List.set_cons_zero, List.set_cons_succ]
                  refine take1 (i := 26) (v := undef) rfl (by kernel_rfl) (by kernel_rfl) (by kernel_rfl) (fun _ _ _ h => h) (Or.inr ⟨by rfl, rfl⟩) hHeld ?_
                  try simp only [Act.put, List.setIfInBounds_toArray, List.set_cons_zero, List.set_cons_succ]
                  refine take1 (i := 27) (v := undef) rfl (by kernel_rfl) (by kernel_rfl) (by kernel_rfl) (fun _ _ _ h => h) (Or.inr ⟨by rfl, rfl⟩) hHeld ?_
                  try simp only [Act.put, List.setIfInBounds_toArray, List.set_cons_zero, List.set_cons_succ]
                  refine take1 (i := 28) (v := undef) rfl (by kernel_rfl) (by kernel_rfl) (by kernel_rfl) (fun _ _ _ h => h) (Or.inr ⟨by rfl, rfl⟩) hHeld ?_
                  try simp only [Act.put, List.setIfInBounds_toArray, List.set_cons_zero, List.set_cons_succ]
                  refine take1 (i := 29) (v := undef) rfl (by kernel_rfl) (by kernel_rfl) (by kernel_rfl) (fun _ _ _ h => h) (Or.inr ⟨by rfl, rfl⟩) hHeld ?_
                  try simp only [Act.put, List.setIfInBounds_toArray, List.set_cons_zero, List.set_cons_succ]
                  refine take1 (i := 30) (v := undef) rfl (by kernel_rfl) (by kernel_rfl) (by kernel_rfl) (fun _ _ _ h => h) (Or.inr ⟨by rfl, rfl⟩) hHeld ?_
                  try simp only [Act.put, List.setIfInBounds_toArray, List.set_cons_zero, List.set_cons_succ]
                  refine take1 (i := 31) (v := undef) rfl (by kernel_rfl) (by kernel_rfl) (by kernel_rfl) (fun _ _ _ h => h) (Or.inr ⟨by rfl, rfl⟩) hHeld ?_
                  try simp only [Act.put, List.setIfInBounds_toArray, List.set_cons_zero, List.set_cons_succ]
                  refine take1 (i := 32) (v := undef) rfl (by kernel_rfl) (by kernel_rfl) (by kernel_rfl) (fun _ _ _ h => h) (Or.inr ⟨by rfl, rfl⟩) hHeld ?_
                  try simp only [Act.put, List.setIfInBounds_toArray, List.set_cons_zero, List.set_cons_succ]
                  refine take1 (i := 33) (v := undef) rfl (by kernel_rfl) (by kernel_rfl) (by kernel_rfl) (fun _ _ _ h => h) (Or.inr ⟨by rfl, rfl⟩) hHeld ?_
                  try simp only [Act.put, List.setIfInBounds_toArray, List.set_cons_zero, List.set_cons_succ]
                  refine take1 (i := 34) (v := undef) rfl (by kernel_rfl) (by kernel_rfl) (by kernel_rfl) (fun _ _ _ h => h) (Or.inr ⟨by rfl, rfl⟩) hHeld ?_
                  try simp only [Act.put, List.setIfInBounds_toArray, List.set_cons_zero, List.set_cons_succ]
                  refine take1 (i := 35) (v := .bool false) rfl (by kernel_rfl) (by kernel_rfl) (by kernel_rfl) (fun _ _ _ h => h) (Or.inl ⟨by rfl, fun w hSw => ?_⟩) hHeld ?_
                  · (go_simp)
                  try simp only [Act.put, List.setIfInBounds_toArray, List.set_cons_zero, List.set_cons_succ]
                  refine take1 (i := 36) (v := .bool false) rfl (by kernel_rfl) (by kernel_rfl) (by kernel_rfl) (fun _ _ _ h => h) (Or.inl ⟨by rfl, fun w hSw => ?_⟩) hHeld ?_
                  · (go_simp)
                  try simp only [Act.put, List.setIfInBounds_toArray, List.set_cons_zero, List.set_cons_succ]
                  refine wpAnyH_done (by kernel_rfl) ?_ _
                  refine OnlyN.normal ?_
                  have HZ := Lib.hid hHeld.2.2.2.2.2.2.2.2.2.2.2.2.2.2
                  clear hHeld
                  have HBX := Lib.hid (show Below W.heap.size W W.drew from (Below.refl W.heap.size W).drew)
                  generalize W.drew = X9 at *
                  have hm0 := HZ.out.bm.cell 0 rfl
                  have hmf := HZ.out.bm.free 0
                  have hs' := fun u => (HZ.out.sb.sa.bs.other ⟨W6.heap.size, 0, none⟩ hne u).cell 0 rfl
                  by_cases hgt : st < (k : Int) + 1
                  · gi_wp2
                    refine ⟨((keeps_of_below HBX.out).trans (KeepsOthers.setCell _ _ _)).from _, Or.inr ⟨rfl, ⟨?_, by rw [hsn]; omega⟩, (hi3.trans (HBX.out.mono hi3.size)).setCell (p := ⟨W6.heap.size, 0, none⟩) (Nat.le_refl _) _⟩⟩
                    rw [hsn]
                    exact HZ.out.bm.set 0 _
                  · gi_wp2
                    refine ⟨((keeps_of_below HBX.out).trans (KeepsOthers.setCell _ _ _)).from _, (HBX.out.mono hi3.size).setCell (p := ⟨W6.heap.size, 0, none⟩) (Nat.le_refl _) _, ⟨?_, by rw [hsn]; omega⟩, (hi3.trans (HBX.out.mono hi3.size)).setCell (p := ⟨W6.heap.size, 0, none⟩) (Nat.le_refl _) _⟩
                    rw [hsn]
                    exact HZ.out.bm.set 0 _
                · obtain ⟨j, hj⟩ : ∃ j, j + 1 = k := ⟨k - 1, by omega⟩
                  obtain ⟨z, hz, hkdj⟩ := hpz j hj
                  have hjN : j < (els T).length := by omega
                  have s1 : IntKind.i64.wrap ((k : Int) - 1) = (j : Int) := by rw [IntWalk.i64_in _ (by omega)]; omega
                  have hkp : (0 : Int) < (k : Int) := by omega
                  clear hk0 hpz hnp hym hKC hj
                  have HKD := Lib.hid hkdj
                  have hless : lessB (nmC z.1) (nmS z.1) (nmC y.1) (nmS y.1) = true := by rw [nm_less]; exact decide_eq_true hz
                  have HLE := Lib.hid hless
                  clear hkdj hz
                  gi_wp2
                  refine region_round (S := (fun X => X.cell? ⟨W6.heap.size, 0, none⟩ = some (.int .i64 (k : Int)) ∧ X.cell? ⟨W1.heap.size, 0, none⟩ = some (.slice (some ⟨g, 0, none⟩) (els T).length kc) ∧ X.cell? ⟨Bi, 0, none⟩ = some (.int .i64 (nmC y.1)) ∧ X.cell? ⟨Bi, 1, none⟩ = some (.int .i64 (nmS y.1)) ∧ X.cell? ⟨Be, 0, none⟩ = some (.int .i64 y.2.ac) ∧ X.cell? ⟨Be, 1, none⟩ = some (.int .i64 y.2.an) ∧ X.cell? ⟨Be, 2, none⟩ = some (.int .i32 y.2.ch) ∧ X.cell? ⟨Be, 3, none⟩ = some (.bool y.2.d) ∧ X.cell? ⟨g, k * 6, none⟩ = some (.int .i64 (nmC y.1)) ∧ X.cell? ⟨g, k * 6 + 1, none⟩ = some (.int .i64 (nmS y.1)) ∧ X.cell? ⟨g, k * 6 + 2, none⟩ = some (.int .i64 y.2.ac) ∧ X.cell? ⟨g, k * 6 + 3, none⟩ = some (.int .i64 y.2.an) ∧ X.cell? ⟨g, k * 6 + 4, none⟩ = some (.int .i32 y.2.ch) ∧ X.cell? ⟨g, k * 6 + 5, none⟩ = some (.bool y.2.d) ∧ X.cell? ⟨g, j * 6, none⟩ = some (.int .i64 (nmC z.1)) ∧ X.cell? ⟨g, j * 6 + 1, none⟩ = some (.int .i64 (nmS z.1)) ∧ RB w st p T W1.heap.size D1 g kc W6.heap.size k Bi Be y X)) hmx (by kernel_rfl) ((let h := HRB.out.next (Below.refl _ _).drew; let c := HKC.out _ h.sb.kept; let d := HKD.out _ h.sb.kept; ⟨h.bm.cell 0 rfl, h.sb.bk.cell 0 rfl, h.bi.cell 0 rfl, h.bi.cell 1 rfl, h.be.cell 0 rfl, h.be.cell 1 rfl, h.be.cell 2 rfl, h.be.cell 3 rfl, c.1, c.2.1, c.2.2.1, c.2.2.2.1, c.2.2.2.2.1, c.2.2.2.2.2, d.1, d.2.1, h⟩)) (fun hHeld => ?_)
                  refine take1 (i := 0) (v := .int .i64 (k : Int)) rfl (by kernel_rfl) (by kernel_rfl) (by kernel_rfl) (fun _ _ _ h => h) (Or.inl ⟨by rfl, fun w hSw => ?_⟩) hHeld ?_
                  · (go_simp)
                  try simp only [Act.put, List.setIfInBounds_toArray, List.set_cons_zero, List.set_cons_succ]
                  refine take1 (i := 1) (v := .slice (some ⟨g, 0, none⟩) (els T).length kc) rfl (by kernel_rfl) (by kernel_rfl) (by kernel_rfl) (fun _ _ _ h => h) (Or.inl ⟨by rfl, fun w hSw => ?_⟩) hHeld ?_
                  · (go_simp)
                  try simp only [Act.put, List.setIfInBounds_toArray, List.set_cons_zero, List.set_cons_succ]
                  refine take1 (i := 2) (v := .int .i64 ((els T).length : Int)) rfl (by kernel_rfl) (by kernel_rfl) (by kernel_rfl) (fun _ _ _ h => h) (Or.inl ⟨by rfl, fun w hSw => ?_⟩) hHeld ?_
                  · (go_simp)
                  try simp only [Act.put, List.setIfInBounds_toArray, List.set_cons_zero, List.set_cons_succ]
                  refine take1 (i := 3) (v := .bool false) rfl (by kernel_rfl) (by kernel_rfl) (by kernel_rfl) (fun _ _ _ h => h) (Or.inl ⟨by rfl, fun w hSw => ?_⟩) hHeld ?_
                  · (go_simp <;> omega)
                  try simp only [Act.put, List.setIfInBounds_toArray, List.set_cons_zero, List.set_cons_succ]
                  refine take1 (i := 4) (v := .bool false) rfl (by kernel_rfl) (by kernel_rfl) (by kernel_rfl) (fun _ _ _ h => h) (Or.inl ⟨by rfl, fun w hSw => ?_⟩) hHeld ?_
                  · (go_simp)
                  try simp only [Act.put, List.setIfInBounds_toArray, List.set_cons_zero, List.set_cons_succ]
                  refine take1 (i := 5) (v := .slice (some ⟨g, 0, none⟩) (els T).length kc) rfl (by kernel_rfl) (by kernel_rfl) (by kernel_rfl) (fun _ _ _ h => h) (Or.inl ⟨by rfl, fun w hSw => ?_⟩) hHeld ?_
                  · (go_simp)
                  try simp only [Act.put, List.setIfInBounds_toArray, List.set_cons_zero, List.set_cons_succ]
                  refine take1 (i := 6) (v := .int .i64 (k : Int)) rfl (by kernel_rfl) (by kernel_rfl) (by kernel_rfl) (fun _ _ _ h => h) (Or.inl ⟨by rfl, fun w hSw => ?_⟩) hHeld ?_
                  · (go_simp)
                  try simp only [Act.put, List.setIfInBounds_toArray, List.set_cons_zero, List.set_cons_succ]
                  refine take1 (i := 7) (v := .pointer (some ⟨g, k * 6, none⟩)) rfl (by kernel_rfl) (by kernel_rfl) (by kernel_rfl) (fun _ _ _ h => h) (Or.inl ⟨by rfl, fun w hSw => ?_⟩) hHeld ?_
                  · (go_simp <;> omega)
                  try simp only [Act.put, List.setIfInBounds_toArray, List.set_cons_zero, List.set_cons_succ]
                  refine take1 (i := 8) (v := .pointer (some ⟨g, k * 6, none⟩)) rfl (by kernel_rfl) (by kernel_rfl) (by kernel_rfl) (fun _ _ _ h => h) (Or.inl ⟨by rfl, fun w hSw => ?_⟩) hHeld ?_
                  · (go_simp)
                  try simp only [Act.put, List.setIfInBounds_toArray, List.set_cons_zero, List.set_cons_succ]
                  refine take1 (i := 9) (v := .agg #[.int .i64 (nmC y.1), .int .i64 (nmS y.1)]) rfl (by kernel_rfl) (by kernel_rfl) (by kernel_rfl) (fun _ _ _ h => h) (Or.inl ⟨by rfl, fun w hSw => ?_⟩) hHeld ?_
                  · (go_simp)
                  try simp only [Act.put, List.setIfInBounds_toArray, List.set_cons_zero, List.set_cons_succ]
                  refine take1 (i := 10) (v := .agg #[.int .i64 (nmC y.1), .int .i64 (nmS y.1)]) rfl (by kernel_rfl) (by kernel_rfl) (by kernel_rfl) (fun _ _ _ h => h) (Or.inl ⟨by rfl, fun w hSw => ?_⟩) hHeld ?_
                  · (go_simp)
                  try simp only [Act.put, List.setIfInBounds_toArray, List.set_cons_zero, List.set_cons_succ]
                  refine take1 (i := 11) (v := .bool false) rfl (by kernel_rfl) (by kernel_rfl) (by kernel_rfl) (fun _ _ _ h => h) (Or.inl ⟨by rfl, fun w hSw => ?_⟩) hHeld ?_
                  · (go_simp)
                  try simp only [Act.put, List.setIfInBounds_toArray, List.set_cons_zero, List.set_cons_succ]
                  refine take1 (i := 12) (v := .bool false) rfl (by kernel_rfl) (by kernel_rfl) (by kernel_rfl) (fun _ _ _ h => h) (Or.inl ⟨by rfl, fun w hSw => ?_⟩) hHeld ?_
                  · (go_simp)
                  try simp only [Act.put, List.setIfInBounds_toArray, List.set_cons_zero, List.set_cons_succ]
                  refine take1 (i := 13) (v := .bool false) rfl (by kernel_rfl) (by kernel_rfl) (by kernel_rfl) (fun _ _ _ h => h) (Or.inl ⟨by rfl, fun w hSw => ?_⟩) hHeld ?_
                  · (go_simp)
                  try simp only [Act.put, List.setIfInBounds_toArray, List.set_cons_zero, List.set_cons_succ]
                  refine take1 (i := 14) (v := .slice (some ⟨g, 0, none⟩) (els T).length kc) rfl (by kernel_rfl) (by kernel_rfl) (by kernel_rfl) (fun _ _ _ h => h) (Or.inl ⟨by rfl, fun w hSw => ?_⟩) hHeld ?_
                  · (go_simp)
                  try simp only [Act.put, List.setIfInBounds_toArray, List.set_cons_zero, List.set_cons_succ]
                  refine take1 (i := 15) (v := .int .i64 (k : Int)) rfl (by kernel_rfl) (by kernel_rfl) (by kernel_rfl) (fun _ _ _ h => h) (Or.inl ⟨by rfl, fun w hSw => ?_⟩) hHeld ?_
                  · (go_simp)
                  try simp only [Act.put, List.setIfInBounds_toArray, List.set_cons_zero, List.set_cons_succ]
                  refine take1 (i := 16) (v := .pointer (some ⟨g, k * 6, none⟩)) rfl (by kernel_rfl) (by kernel_rfl) (by kernel_rfl) (fun _ _ _ h => h) (Or.inl ⟨by rfl, fun w hSw => ?_⟩) hHeld ?_
                  · (go_simp <;> omega)
                  try simp only [Act.put, List.setIfInBounds_toArray, List.set_cons_zero, List.set_cons_succ]
                  refine take1 (i := 17) (v := .pointer (some ⟨g, k * 6 + 2, none⟩)) rfl (by kernel_rfl) (by kernel_rfl) (by kernel_rfl) (fun _ _ _ h => h) (Or.inl ⟨by rfl, fun w hSw => ?_⟩) hHeld ?_
                  · (go_simp)
                  try simp only [Act.put, List.setIfInBounds_toArray, List.set_cons_zero, List.set_cons_succ]
                  refine take1 (i := 18) (v := .agg #[.int .i64 y.2.ac, .int .i64 y.2.an, .int .i32 y.2.ch, .bool y.2.d]) rfl (by kernel_rfl) (by kernel_rfl) (by kernel_rfl) (fun _ _ _ h => h) (Or.inl ⟨by rfl, fun w hSw => ?_⟩) hHeld ?_
                  · (go_simp)
                  try simp only [Act.put, List.setIfInBounds_toArray, List.set_cons_zero, List.set_cons_succ]
                  refine take1 (i := 19) (v := .agg #[.int .i64 y.2.ac, .int .i64 y.2.an, .int .i32 y.2.ch, .bool y.2.d]) rfl (by kernel_rfl) (by kernel_rfl) (by kernel_rfl) (fun _ _ _ h => h) (Or.inl ⟨by rfl, fun w hSw => ?_⟩) hHeld ?_
                  · (go_simp)
                  try simp only [Act.put, List.setIfInBounds_toArray, List.set_cons_zero, List.set_cons_succ]
                  refine take1 (i := 20) (v := .bool false) rfl (by kernel_rfl) (by kernel_rfl) (by kernel_rfl) (fun _ _ _ h => h) (Or.inl ⟨by rfl, fun w hSw => ?_⟩) hHeld ?_
                  · (go_simp)
                  try simp only [Act.put, List.setIfInBounds_toArray, List.set_cons_zero, List.set_cons_succ]
                  refine take1 (i := 21) (v := .bool false) rfl (by kernel_rfl) (by kernel_rfl) (by kernel_rfl) (fun _ _ _ h => h) (Or.inl ⟨by rfl, fun w hSw => ?_⟩) hHeld ?_
                  · (go_simp)
                  try simp only [Act.put, List.setIfInBounds_toArray, List.set_cons_zero, List.set_cons_succ]
                  refine take1 (i := 22) (v := .bool false) rfl (by kernel_rfl) (by kernel_rfl) (by kernel_rfl) (fun _ _ _ h => h) (Or.inl ⟨by rfl, fun w hSw => ?_⟩) hHeld ?_
                  · (go_simp)
                  try simp only [Act.put, List.setIfInBounds_toArray, List.set_cons_zero, List.set_cons_succ]
                  refine take1 (i := 23) (v := .int .i64 (k : Int)) rfl (by kernel_rfl) (by kernel_rfl) (by kernel_rfl) (fun _ _ _ h => h) (Or.inl ⟨by rfl, fun w hSw => ?_⟩) hHeld ?_
                  · (go_simp)
                  try simp only [Act.put, List.setIfInBounds_toArray, List.set_cons_zero, List.set_cons_succ]
                  refine take1 (i := 24) (v := .bool true) rfl (by kernel_rfl) (by kernel_rfl) (by kernel_rfl) (fun _ _ _ h => h) (Or.inl ⟨by rfl, fun w hSw => ?_⟩) hHeld ?_
                  · (go_simp <;> omega)
                  try simp only [Act.put, List.setIfInBounds_toArray, List.set_cons_zero, List.set_cons_succ]
                  refine take1 (i := 25) (v := .bool true) rfl (by kernel_rfl) (by kernel_rfl) (by kernel_rfl) (fun _ _ _ h => h) (Or.inl ⟨by rfl, fun w hSw => ?_⟩) hHeld ?_
                  · (go_simp)
                  try simp only [Act.put, List.setIfInBounds_toArray, List.set_cons_zero, List.set_cons_succ]
                  refine take1 (i := 26) (v := .slice (some ⟨g, 0, none⟩) (els T).length kc) rfl (by kernel_rfl) (by kernel_rfl) (by kernel_rfl) (fun _ _ _ h => h) (Or.inl ⟨by rfl, fun w hSw => ?_⟩) hHeld ?_
                  · (go_simp)
                  try simp only [Act.put, List.setIfInBounds_toArray, List.set_cons_zero, List.set_cons_succ]
                  refine take1 (i := 27) (v := .int .i64 (k : Int)) rfl (by kernel_rfl) (by kernel_rfl) (by kernel_rfl) (fun _ _ _ h => h) (Or.inl ⟨by rfl, fun w hSw => ?_⟩) hHeld ?_
                  · (go_simp)
                  try simp only [Act.put, List.setIfInBounds_toArray, List.set_cons_zero, List.set_cons_succ]
                  refine take1 (i := 28) (v := .int .i64 (j : Int)) rfl (by kernel_rfl) (by kernel_rfl) (by kernel_rfl) (fun _ _ _ h => h) (Or.inl ⟨by rfl, fun w hSw => ?_⟩) hHeld ?_
                  · (go_simp)
                  try simp only [Act.put, List.setIfInBounds_toArray, List.set_cons_zero, List.set_cons_succ]
                  refine take1 (i := 29) (v := .pointer (some ⟨g, j * 6, none⟩)) rfl (by kernel_rfl) (by kernel_rfl) (by kernel_rfl) (fun _ _ _ h => h) (Or.inl ⟨by rfl, fun w hSw => ?_⟩) hHeld ?_
                  · (go_simp <;> omega)
                  try simp only [Act.put, List.setIfInBounds_toArray, List.set_cons_zero, List.set_cons_succ]
                  refine take1 (i := 30) (v := .pointer (some ⟨g, j * 6, none⟩)) rfl (by kernel_rfl) (by kernel_rfl) (by kernel_rfl) (fun _ _ _ h => h) (Or.inl ⟨by rfl, fun w hSw => ?_⟩) hHeld ?_
                  · (go_simp)
                  try simp only [Act.put, List.setIfInBounds_toArray, List.set_cons_zero, List.set_cons_succ]
                  refine take1 (i := 31) (v := .agg #[.int .i64 (nmC z.1), .int .i64 (nmS z.1)]) rfl (by kernel_rfl) (by kernel_rfl) (by kernel_rfl) (fun _ _ _ h => h) (Or.inl ⟨by rfl, fun w hSw => ?_⟩) hHeld ?_
                  · (go_simp)
                  try simp only [Act.put, List.setIfInBounds_toArray, List.set_cons_zero, List.set_cons_succ]
                  refine take1 (i := 32) (v := .agg #[.int .i64 (nmC y.1), .int .i64 (nmS y.1)]) rfl (by kernel_rfl) (by kernel_rfl) (by kernel_rfl) (fun _ _ _ h => h) (Or.inl ⟨by rfl, fun w hSw => ?_⟩) hHeld ?_
                  · (go_simp)
                  try simp only [Act.put, List.setIfInBounds_toArray, List.set_cons_zero, List.set_cons_succ]
                  refine wpAnyH_ready (rs := [33]) (by kernel_rfl) (by simp) ?_
                  refine cons1 rfl (fun K hK => ?_) AllReadyH.nil
                  go_simp
                  refine (less_any _ _ _ _ _).mono ?_
                  rintro e' u1 ⟨rfl, hb⟩
                  rw [hless]
                  go_wp2_with fail
                  refine hK.out _ _ ((let h := hHeld.2.2.2.2.2.2.2.2.2.2.2.2.2.2.2.2.next hb; let c := HKC.out _ h.sb.kept; let d := HKD.out _ h.sb.kept; ⟨h.bm.cell 0 rfl, h.sb.bk.cell 0 rfl, h.bi.cell 0 rfl, h.bi.cell 1 rfl, h.be.cell 0 rfl, h.be.cell 1 rfl, h.be.cell 2 rfl, h.be.cell 3 rfl, c.1, c.2.1, c.2.2.1, c.2.2.2.1, c.2.2.2.2.1, c.2.2.2.2.2, d.1, d.2.1, h⟩)) (fun hHeld2 => ?_)
                  clear hK K hHeld 
                  have hHeld := hHeld2
                  clear hHeld2
                  try simp only [Act.put, List.setIfInBounds_toArray, List.set_cons_zero, List.set_cons_succ]
                  have HBX := Lib.hid (show Below W.heap.size W u1 from (Below.refl W.heap.size W).drew.trans hb)
                  clear hb
                  refine take1 (i := 34) (v := .bool false) rfl (by kernel_rfl) (by kernel_rfl) (by kernel_rfl) (fun _ _ _ h => h) (Or.inl ⟨by rfl, fun w hSw => ?_⟩) hHeld ?_
                  · (go_simp)
                  try simp only [Act.put, List.setIfInBounds_toArray, List.set_cons_zero, List.set_cons_succ]
                  refine take1 (i := 35) (v := .bool false) rfl (by kernel_rfl) (by kernel_rfl) (by kernel_rfl) (fun _ _ _ h => h) (Or.inl ⟨by rfl, fun w hSw => ?_⟩) hHeld ?_
                  · (go_simp)
                  try simp only [Act.put, List.setIfInBounds_toArray, List.set_cons_zero, List.set_cons_succ]
                  refine take1 (i := 36) (v := .bool false) rfl (by kernel_rfl) (by kernel_rfl) (by kernel_rfl) (fun _ _ _ h => h) (Or.inl ⟨by rfl, fun w hSw => ?_⟩) hHeld ?_
                  · (go_simp)
                  try simp only [Act.put, List.setIfInBounds_toArray, List.set_cons_zero, List.set_cons_succ]
                  refine wpAnyH_done (by kernel_rfl) ?_ _
                  refine OnlyN.normal ?_
                  have HZ := Lib.hid hHeld.2.2.2.2.2.2.2.2.2.2.2.2.2.2.2.2
                  clear hHeld
                  have hm0 := HZ.out.bm.cell 0 rfl
                  have hmf := HZ.out.bm.free 0
                  have hs' := fun u => (HZ.out.sb.sa.bs.other ⟨W6.heap.size, 0, none⟩ hne u).cell 0 rfl
                  by_cases hgt : st < (k : Int) + 1
                  · gi_wp2
                    refine ⟨((keeps_of_below HBX.out).trans (KeepsOthers.setCell _ _ _)).from _, Or.inr ⟨rfl, ⟨?_, by rw [hsn]; omega⟩, (hi3.trans (HBX.out.mono hi3.size)).setCell (p := ⟨W6.heap.size, 0, none⟩) (Nat.le_refl _) _⟩⟩
                    rw [hsn]
                    exact HZ.out.bm.set 0 _
                  · gi_wp2
                    refine ⟨((keeps_of_below HBX.out).trans (KeepsOthers.setCell _ _ _)).from _, (HBX.out.mono hi3.size).setCell (p := ⟨W6.heap.size, 0, none⟩) (Nat.le_refl _) _, ⟨?_, by rw [hsn]; omega⟩, (hi3.trans (HBX.out.mono hi3.size)).setCell (p := ⟨W6.heap.size, 0, none⟩) (Nat.le_refl _) _⟩
                    rw [hsn]
                    exact HZ.out.bm.set 0 _
              · have HNE := Lib.hid (show ¬ y.1 = v.1 from fun h => hE (ris_inj (els_rising T) hym hv h))
                have HNP := Lib.hid (fun h => hE (hnp h))
                have HKC := Lib.hid hKC
                clear hKC hnp hym hpz hE hy9
                gi_wp2
                refine region_round (S := (fun X => X.cell? ⟨W6.heap.size, 0, none⟩ = some (.int .i64 (k : Int)) ∧ X.cell? ⟨W1.heap.size, 0, none⟩ = some (.slice (some ⟨g, 0, none⟩) (els T).length kc) ∧ X.cell? ⟨Bi, 0, none⟩ = some (.int .i64 (nmC v.1)) ∧ X.cell? ⟨Bi, 1, none⟩ = some (.int .i64 (nmS v.1)) ∧ X.cell? ⟨Be, 0, none⟩ = some (.int .i64 v.2.ac) ∧ X.cell? ⟨Be, 1, none⟩ = some (.int .i64 v.2.an) ∧ X.cell? ⟨Be, 2, none⟩ = some (.int .i32 v.2.ch) ∧ X.cell? ⟨Be, 3, none⟩ = some (.bool v.2.d) ∧ X.cell? ⟨g, k * 6, none⟩ = some (.int .i64 (nmC y.1)) ∧ X.cell? ⟨g, k * 6 + 1, none⟩ = some (.int .i64 (nmS y.1)) ∧ X.cell? ⟨g, k * 6 + 2, none⟩ = some (.int .i64 y.2.ac) ∧ X.cell? ⟨g, k * 6 + 3, none⟩ = some (.int .i64 y.2.an) ∧ X.cell? ⟨g, k * 6 + 4, none⟩ = some (.int .i32 y.2.ch) ∧ X.cell? ⟨g, k * 6 + 5, none⟩ = some (.bool y.2.d) ∧ RB w st p T W1.heap.size D1 g kc W6.heap.size k Bi Be v X)) hmx (by kernel_rfl) ((let h := HRB.out.next (Below.refl _ _).drew; let c := HKC.out _ h.sb.kept; ⟨h.bm.cell 0 rfl, h.sb.bk.cell 0 rfl, h.bi.cell 0 rfl, h.bi.cell 1 rfl, h.be.cell 0 rfl, h.be.cell 1 rfl, h.be.cell 2 rfl, h.be.cell 3 rfl, c.1, c.2.1, c.2.2.1, c.2.2.2.1, c.2.2.2.2.1, c.2.2.2.2.2, h⟩)) (fun hHeld => ?_)
                refine take1 (i := 0) (v := .int .i64 (k : Int)) rfl (by kernel_rfl) (by kernel_rfl) (by kernel_rfl) (fun _ _ _ h => h) (Or.inl ⟨by rfl, fun w hSw => ?_⟩) hHeld ?_
                · (go_simp)
                try simp only [Act.put, List.setIfInBounds_toArray, List.set_cons_zero, List.set_cons_succ]
                refine take1 (i := 1) (v := .slice (some ⟨g, 0, none⟩) (els T).length kc) rfl (by kernel_rfl) (by kernel_rfl) (by kernel_rfl) (fun _ _ _ h => h) (Or.inl ⟨by rfl, fun w hSw => ?_⟩) hHeld ?_
                · (go_simp)
                try simp only [Act.put, List.setIfInBounds_toArray, List.set_cons_zero, List.set_cons_succ]
                refine take1 (i := 2) (v := .int .i64 ((els T).length : Int)) rfl (by kernel_rfl) (by kernel_rfl) (by kernel_rfl) (fun _ _ _ h => h) (Or.inl ⟨by rfl, fun w hSw => ?_⟩) hHeld ?_
                · (go_simp)
                try simp only [Act.put, List.setIfInBounds_toArray, List.set_cons_zero, List.set_cons_succ]
                refine take1 (i := 3) (v := .bool false) rfl (by kernel_rfl) (by kernel_rfl) (by kernel_rfl) (fun _ _ _ h => h) (Or.inl ⟨by rfl, fun w hSw => ?_⟩) hHeld ?_
                · (go_simp <;> omega)
                try simp only [Act.put, List.setIfInBounds_toArray, List.set_cons_zero, List.set_cons_succ]
                refine take1 (i := 4) (v := .bool false) rfl (by kernel_rfl) (by kernel_rfl) (by kernel_rfl) (fun _ _ _ h => h) (Or.inl ⟨by rfl, fun w hSw => ?_⟩) hHeld ?_
                · (go_simp)
                try simp only [Act.put, List.setIfInBounds_toArray, List.set_cons_zero, List.set_cons_succ]
                refine take1 (i := 5) (v := .slice (some ⟨g, 0, none⟩) (els T).length kc) rfl (by kernel_rfl) (by kernel_rfl) (by kernel_rfl) (fun _ _ _ h => h) (Or.inl ⟨by rfl, fun w hSw => ?_⟩) hHeld ?_
                · (go_simp)
                try simp only [Act.put, List.setIfInBounds_toArray, List.set_cons_zero, List.set_cons_succ]
                refine take1 (i := 6) (v := .int .i64 (k : Int)) rfl (by kernel_rfl) (by kernel_rfl) (by kernel_rfl) (fun _ _ _ h => h) (Or.inl ⟨by rfl, fun w hSw => ?_⟩) hHeld ?_
                · (go_simp)
                try simp only [Act.put, List.setIfInBounds_toArray, List.set_cons_zero, List.set_cons_succ]
                refine take1 (i := 7) (v := .pointer (some ⟨g, k * 6, none⟩)) rfl (by kernel_rfl) (by kernel_rfl) (by kernel_rfl) (fun _ _ _ h => h) (Or.inl ⟨by rfl, fun w hSw => ?_⟩) hHeld ?_
                · (go_simp <;> omega)
                try simp only [Act.put, List.setIfInBounds_toArray, List.set_cons_zero, List.set_cons_succ]
                refine take1 (i := 8) (v := .pointer (some ⟨g, k * 6, none⟩)) rfl (by kernel_rfl) (by kernel_rfl) (by kernel_rfl) (fun _ _ _ h => h) (Or.inl ⟨by rfl, fun w hSw => ?_⟩) hHeld ?_
                · (go_simp)
                try simp only [Act.put, List.setIfInBounds_toArray, List.set_cons_zero, List.set_cons_succ]
                refine take1 (i := 9) (v := .agg #[.int .i64 (nmC y.1), .int .i64 (nmS y.1)]) rfl (by kernel_rfl) (by kernel_rfl) (by kernel_rfl) (fun _ _ _ h => h) (Or.inl ⟨by rfl, fun w hSw => ?_⟩) hHeld ?_
                · (go_simp)
                try simp only [Act.put, List.setIfInBounds_toArray, List.set_cons_zero, List.set_cons_succ]
                refine take1 (i := 10) (v := .agg #[.int .i64 (nmC v.1), .int .i64 (nmS v.1)]) rfl (by kernel_rfl) (by kernel_rfl) (by kernel_rfl) (fun _ _ _ h => h) (Or.inl ⟨by rfl, fun w hSw => ?_⟩) hHeld ?_
                · (go_simp)
                try simp only [Act.put, List.setIfInBounds_toArray, List.set_cons_zero, List.set_cons_succ]
                refine take1 (i := 11) (v := .bool true) rfl (by kernel_rfl) (by kernel_rfl) (by kernel_rfl) (fun _ _ _ h => h) (Or.inl ⟨by rfl, fun w hSw => ?_⟩) hHeld ?_
                · (go_simp; intro h1 h2; exact HNE.out (nm_inj h1 h2))
                try simp only [Act.put, List.setIfInBounds_toArray, List.set_cons_zero, List.set_cons_succ]
                refine take1 (i := 12) (v := .bool true) rfl (by kernel_rfl) (by kernel_rfl) (by kernel_rfl) (fun _ _ _ h => h) (Or.inl ⟨by rfl, fun w hSw => ?_⟩) hHeld ?_
                · (go_simp)
                try simp only [Act.put, List.setIfInBounds_toArray, List.set_cons_zero, List.set_cons_succ]
                refine take1 (i := 13) (v := .bool true) rfl (by kernel_rfl) (by kernel_rfl) (by kernel_rfl) (fun _ _ _ h => h) (Or.inl ⟨by rfl, fun w hSw => ?_⟩) hHeld ?_
                · (go_simp)
                try simp only [Act.put, List.setIfInBounds_toArray, List.set_cons_zero, List.set_cons_succ]
                refine take1 (i := 14) (v := undef) rfl (by kernel_rfl) (by kernel_rfl) (by kernel_rfl) (fun _ _ _ h => h) (Or.inr ⟨by rfl, rfl⟩) hHeld ?_
                try simp only [Act.put, List.setIfInBounds_toArray, List.set_cons_zero, List.set_cons_succ]
                refine take1 (i := 15) (v := undef) rfl (by kernel_rfl) (by kernel_rfl) (by kernel_rfl) (fun _ _ _ h => h) (Or.inr ⟨by rfl, rfl⟩) hHeld ?_
                try simp only [Act.put, List.setIfInBounds_toArray, List.set_cons_zero, List.set_cons_succ]
                refine take1 (i := 16) (v := undef) rfl (by kernel_rfl) (by kernel_rfl) (by kernel_rfl) (fun _ _ _ h => h) (Or.inr ⟨by rfl, rfl⟩) hHeld ?_
                try simp only [Act.put, List.setIfInBounds_toArray, List.set_cons_zero, List.set_cons_succ]
                refine take1 (i := 17) (v := undef) rfl (by kernel_rfl) (by kernel_rfl) (by kernel_rfl) (fun _ _ _ h => h) (Or.inr ⟨by rfl, rfl⟩) hHeld ?_
                try simp only [Act.put, List.setIfInBounds_toArray, List.set_cons_zero, List.set_cons_succ]
                refine take1 (i := 18) (v := undef) rfl (by kernel_rfl) (by kernel_rfl) (by kernel_rfl) (fun _ _ _ h => h) (Or.inr ⟨by rfl, rfl⟩) hHeld ?_
                try simp only [Act.put, List.setIfInBounds_toArray, List.set_cons_zero, List.set_cons_succ]
                refine take1 (i := 19) (v := undef) rfl (by kernel_rfl) (by kernel_rfl) (by kernel_rfl) (fun _ _ _ h => h) (Or.inr ⟨by rfl, rfl⟩) hHeld ?_
                try simp only [Act.put, List.setIfInBounds_toArray, List.set_cons_zero, List.set_cons_succ]
                refine take1 (i := 20) (v := undef) rfl (by kernel_rfl) (by kernel_rfl) (by kernel_rfl) (fun _ _ _ h => h) (Or.inr ⟨by rfl, rfl⟩) hHeld ?_
                try simp only [Act.put, List.setIfInBounds_toArray, List.set_cons_zero, List.set_cons_succ]
                refine take1 (i := 21) (v := .bool true) rfl (by kernel_rfl) (by kernel_rfl) (by kernel_rfl) (fun _ _ _ h => h) (Or.inl ⟨by rfl, fun w hSw => ?_⟩) hHeld ?_
                · (go_simp)
                try simp only [Act.put, List.setIfInBounds_toArray, List.set_cons_zero, List.set_cons_succ]
                refine take1 (i := 22) (v := .bool true) rfl (by kernel_rfl) (by kernel_rfl) (by kernel_rfl) (fun _ _ _ h => h) (Or.inl ⟨by rfl, fun w hSw => ?_⟩) hHeld ?_
                · (go_simp)
                try simp only [Act.put, List.setIfInBounds_toArray, List.set_cons_zero, List.set_cons_succ]
                refine take1 (i := 23) (v := undef) rfl (by kernel_rfl) (by kernel_rfl) (by kernel_rfl) (fun _ _ _ h => h) (Or.inr ⟨by rfl, rfl⟩) hHeld ?_
                try simp only [Act.put, List.setIfInBounds_toArray, List.set_cons_zero, List.set_cons_succ]
                refine take1 (i := 24) (v := undef) rfl (by kernel_rfl) (by kernel_rfl) (by kernel_rfl) (fun _ _ _ h => h) (Or.inr ⟨by rfl, rfl⟩) hHeld ?_
                try simp only [Act.put, List.setIfInBounds_toArray, List.set_cons_zero, List.set_cons_succ]
                refine take1 (i := 25) (v := undef) rfl (by kernel_rfl) (by kernel_rfl) (by kernel_rfl) (fun _ _ _ h => h) (Or.inr ⟨by rfl, rfl⟩) hHeld ?_
                try simp only [Act.put, List.setIfInBounds_toArray, List.set_cons_zero, List.set_cons_succ]
                refine take1 (i := 26) (v := undef) rfl (by kernel_rfl) (by kernel_rfl) (by kernel_rfl) (fun _ _ _ h => h) (Or.inr ⟨by rfl, rfl⟩) hHeld ?_
                try simp only [Act.put, List.setIfInBounds_toArray, List.set_cons_zero, List.set_cons_succ]
                refine take1 (i := 27) (v := undef) rfl (by kernel_rfl) (by kernel_rfl) (by kernel_rfl) (fun _ _ _ h => h) (Or.inr ⟨by rfl, rfl⟩) hHeld ?_
                try simp only [Act.put, List.setIfInBounds_toArray, List.set_cons_zero, List.set_cons_succ]
                refine take1 (i := 28) (v := undef) rfl (by kernel_rfl) (by kernel_rfl) (by kernel_rfl) (fun _ _ _ h => h) (Or.inr ⟨by rfl, rfl⟩) hHeld ?_
                try simp only [Act.put, List.setIfInBounds_toArray, List.set_cons_zero, List.set_cons_succ]
                refine take1 (i := 29) (v := undef) rfl (by kernel_rfl) (by kernel_rfl) (by kernel_rfl) (fun _ _ _ h => h) (Or.inr ⟨by rfl, rfl⟩) hHeld ?_
                try simp only [Act.put, List.setIfInBounds_toArray, List.set_cons_zero, List.set_cons_succ]
                refine take1 (i := 30) (v := undef) rfl (by kernel_rfl) (by kernel_rfl) (by kernel_rfl) (fun _ _ _ h => h) (Or.inr ⟨by rfl, rfl⟩) hHeld ?_
                try simp only [Act.put, List.setIfInBounds_toArray, List.set_cons_zero, List.set_cons_succ]
                refine take1 (i := 31) (v := undef) rfl (by kernel_rfl) (by kernel_rfl) (by kernel_rfl) (fun _ _ _ h => h) (Or.inr ⟨by rfl, rfl⟩) hHeld ?_
                try simp only [Act.put, List.setIfInBounds_toArray, List.set_cons_zero, List.set_cons_succ]
                refine take1 (i := 32) (v := undef) rfl (by kernel_rfl) (by kernel_rfl) (by kernel_rfl) (fun _ _ _ h => h) (Or.inr ⟨by rfl, rfl⟩) hHeld ?_
                try simp only [Act.put, List.setIfInBounds_toArray, List.set_cons_zero, List.set_cons_succ]
                refine take1 (i := 33) (v := undef) rfl (by kernel_rfl) (by kernel_rfl) (by kernel_rfl) (fun _ _ _ h => h) (Or.inr ⟨by rfl, rfl⟩) hHeld ?_
                try simp only [Act.put, List.setIfInBounds_toArray, List.set_cons_zero, List.set_cons_succ]
                refine take1 (i := 34) (v := undef) rfl (by kernel_rfl) (by kernel_rfl) (by kernel_rfl) (fun _ _ _ h => h) (Or.inr ⟨by rfl, rfl⟩) hHeld ?_
                try simp only [Act.put, List.setIfInBounds_toArray, List.set_cons_zero, List.set_cons_succ]
                refine take1 (i := 35) (v := undef) rfl (by kernel_rfl) (by kernel_rfl) (by kernel_rfl) (fun _ _ _ h => h) (Or.inr ⟨by rfl, rfl⟩) hHeld ?_
                try simp only [Act.put, List.setIfInBounds_toArray, List.set_cons_zero, List.set_cons_succ]
                refine take1 (i := 36) (v := .bool true) rfl (by kernel_rfl) (by kernel_rfl) (by kernel_rfl) (fun _ _ _ h => h) (Or.inl ⟨by rfl, fun w hSw => ?_⟩) hHeld ?_
                · (go_simp)
                try simp only [Act.put, List.setIfInBounds_toArray, List.set_cons_zero, List.set_cons_succ]
                refine wpAnyH_done (by kernel_rfl) ?_ _
                refine OnlyN.normal ?_
                have HZ := Lib.hid hHeld.2.2.2.2.2.2.2.2.2.2.2.2.2.2
                clear hHeld
                have HBX := Lib.hid (show Below W.heap.size W W.drew from (Below.refl W.heap.size W).drew)
                generalize W.drew = X9 at *
                have hr0 := HZ.out.sb.sa.br.cell 0 rfl
                have hrf := HZ.out.sb.sa.br.free 0
                gi_wp2
                exact ⟨((keeps_of_below HBX.out).trans (KeepsOthers.setCell _ _ _)).from _, Or.inl ⟨rfl, HNP.out⟩⟩
            case done2 =>
              rintro D2 ys W hD2 hys ⟨⟨hm1, hm2⟩, hb9⟩ hK2
              have hylen : ys.length = (els T).length := by rw [← hys]; simp
              rw [hylen] at hm1 hm2
              have hn2 : ((els T).length : Int) ≤ st := hm2
              clear hm2 hys hylen
              have HF0 := Lib.hid (SF.of (D2 := D2) (HB.out.next hb9) (HU.out.1.next hb9) hm1 hK2)
              have s0 : IntKind.i64.wrap st = st := IntWalk.i64_in _ (by omega)
              have s1 : IntKind.i64.wrap (st + 1) = st + 1 := IntWalk.i64_in _ (by omega)
              have hcn : cnt T = ((els T).length : Int) := rfl
              have hcn2 : cnt T' = ((els T').length : Int) := rfl
              have hTT := HU.out.2.1
              have hVK9 := hVK.out
              have hV69 := HU.out.2.2
              have hdd := Lib.hid (show D1 < D2 by have := (Array.getElem?_eq_some_iff.1 HB.out.dk).1; omega)
              clear hm1 hb9 hK2 hbt6 hbm6 hb8 hz8 HB HU
              go_wp2_with fail
              refine wp_region_noPanic ?_
              refine wp_region_held_drew (S := (fun X => X.cell? ⟨w.heap.size + 1 + 1, 0, none⟩ = some (.pointer p) ∧ X.cell? ⟨w.heap.size + 1 + 1, 1, none⟩ = some (.int .i64 (cnt T)) ∧ X.cell? ⟨W1.heap.size, 0, none⟩ = some (.slice ka (els T).length kc) ∧ X.cell? ⟨W6.heap.size, 0, none⟩ = some (.int .i64 (((els T).length : Int))) ∧ X.cell? ⟨w.heap.size, 0, none⟩ = some (.int .u8 st) ∧ X.cell? ⟨V2.heap.size, 0, none⟩ = some (.pointer q') ∧ X.cell? ⟨V2.heap.size, 1, none⟩ = some (.int .i64 (cnt T')) ∧ SF w st p T W1.heap.size W6.heap.size V2.heap.size D1 D2 (((els T).length : Int)) ka kc q' T' X)) (by kernel_rfl) ?_ (fun hHeld => ?_)
              · exact (HF0.out.next (Below.refl _ _).drew).s
              clear HF0
              refine wpAnyH_ready (rs := [0]) (by kernel_rfl) (by simp) ?_
              refine cons1 rfl (fun K hK => ?_) AllReadyH.nil
              go_simp
              refine (awakeD_any _ (HTab.out.next hHeld.2.2.2.2.2.2.2.bel)).mono ?_
              rintro e X1 ⟨rfl, hb⟩
              go_wp2_with fail
              refine hK.out _ _ ((hHeld.2.2.2.2.2.2.2.next hb).s) (fun hHeld2 => ?_)
              clear hK K hHeld hb
              have hHeld := hHeld2
              clear hHeld2
              try simp only [Act.put, List.setIfInBounds_toArray, List.set_cons_zero, List.set_cons_succ]
              refine take1 (i := 1) (v := .bool true) rfl (by kernel_rfl) (by kernel_rfl) (by kernel_rfl) (fun _ _ _ h => h) (Or.inl ⟨by rfl, fun w hSw => ?_⟩) hHeld ?_
              · (go_simp)
              try simp only [Act.put, List.setIfInBounds_toArray, List.set_cons_zero, List.set_cons_succ]
              refine take1 (i := 2) (v := .agg #[.pointer p, .int .i64 (cnt T)]) rfl (by kernel_rfl) (by kernel_rfl) (by kernel_rfl) (fun _ _ _ h => h) (Or.inl ⟨by rfl, fun w hSw => ?_⟩) hHeld ?_
              · (go_simp)
              try simp only [Act.put, List.setIfInBounds_toArray, List.set_cons_zero, List.set_cons_succ]
              refine take1 (i := 4) (v := .slice ka (els T).length kc) rfl (by kernel_rfl) (by kernel_rfl) (by kernel_rfl) (fun _ _ _ h => h) (Or.inl ⟨by rfl, fun w hSw => ?_⟩) hHeld ?_
              · (go_simp)
              try simp only [Act.put, List.setIfInBounds_toArray, List.set_cons_zero, List.set_cons_succ]
              refine take1 (i := 5) (v := .int .i64 ((els T).length : Int)) rfl (by kernel_rfl) (by kernel_rfl) (by kernel_rfl) (fun _ _ _ h => h) (Or.inl ⟨by rfl, fun w hSw => ?_⟩) hHeld ?_
              · (go_simp)
              try simp only [Act.put, List.setIfInBounds_toArray, List.set_cons_zero, List.set_cons_succ]
              refine wpAnyH_ready (rs := [3]) (by kernel_rfl) (by simp) ?_
              refine cons1 rfl (fun K hK => ?_) AllReadyH.nil
              go_simp
              refine (len_any _ _ _).mono ?_
              rintro e X2 ⟨rfl, hb⟩
              go_wp2_with fail
              refine hK.out _ _ ((hHeld.2.2.2.2.2.2.2.next hb).s) (fun hHeld2 => ?_)
              clear hK K hHeld hb
              have hHeld := hHeld2
              clear hHeld2
              try simp only [Act.put, List.setIfInBounds_toArray, List.set_cons_zero, List.set_cons_succ]
              refine take1 (i := 6) (v := .bool true) rfl (by kernel_rfl) (by kernel_rfl) (by kernel_rfl) (fun _ _ _ h => h) (Or.inl ⟨by rfl, fun w hSw => ?_⟩) hHeld ?_
              · (go_simp)
              try simp only [Act.put, List.setIfInBounds_toArray, List.set_cons_zero, List.set_cons_succ]
              refine take1 (i := 7) (v := .bool true) rfl (by kernel_rfl) (by kernel_rfl) (by kernel_rfl) (fun _ _ _ h => h) (Or.inl ⟨by rfl, fun w hSw => ?_⟩) hHeld ?_
              · (go_simp)
              try simp only [Act.put, List.setIfInBounds_toArray, List.set_cons_zero, List.set_cons_succ]
              refine take1 (i := 8) (v := .bool true) rfl (by kernel_rfl) (by kernel_rfl) (by kernel_rfl) (fun _ _ _ h => h) (Or.inl ⟨by rfl, fun w hSw => ?_⟩) hHeld ?_
              · (go_simp)
              try simp only [Act.put, List.setIfInBounds_toArray, List.set_cons_zero, List.set_cons_succ]
              refine take1 (i := 9) (v := .agg #[.pointer q', .int .i64 (cnt T')]) rfl (by kernel_rfl) (by kernel_rfl) (by kernel_rfl) (fun _ _ _ h => h) (Or.inl ⟨by rfl, fun w hSw => ?_⟩) hHeld ?_
              · (go_simp)
              try simp only [Act.put, List.setIfInBounds_toArray, List.set_cons_zero, List.set_cons_succ]
              refine take1 (i := 11) (v := .agg #[.pointer p, .int .i64 (cnt T)]) rfl (by kernel_rfl) (by kernel_rfl) (by kernel_rfl) (fun _ _ _ h => h) (Or.inl ⟨by rfl, fun w hSw => ?_⟩) hHeld ?_
              · (go_simp)
              try simp only [Act.put, List.setIfInBounds_toArray, List.set_cons_zero, List.set_cons_succ]
              refine wpAnyH_ready (rs := [10]) (by kernel_rfl) (by simp) ?_
              refine cons1 rfl (fun K hK => ?_) AllReadyH.nil
              go_simp
              refine (len_any _ _ _).mono ?_
              rintro e X3 ⟨rfl, hb⟩
              go_wp2_with fail
              refine hK.out _ _ ((hHeld.2.2.2.2.2.2.2.next hb).s) (fun hHeld2 => ?_)
              clear hK K hHeld hb
              have hHeld := hHeld2
              clear hHeld2
              try simp only [Act.put, List.setIfInBounds_toArray, List.set_cons_zero, List.set_cons_succ]
              refine wpAnyH_ready (rs := [12]) (by kernel_rfl) (by simp) ?_
              refine cons1 rfl (fun K hK => ?_) AllReadyH.nil
              go_simp
              refine (len_any _ _ _).mono ?_
              rintro e X4 ⟨rfl, hb⟩
              go_wp2_with fail
              refine hK.out _ _ ((hHeld.2.2.2.2.2.2.2.next hb).s) (fun hHeld2 => ?_)
              clear hK K hHeld hb
              have hHeld := hHeld2
              clear hHeld2
              try simp only [Act.put, List.setIfInBounds_toArray, List.set_cons_zero, List.set_cons_succ]
              obtain ⟨v0, hv0⟩ := hHeld.2.2.2.2.2.2.2.rb
              have HR := Lib.hid (hv0.set 0 (.bool true))
              have hcz := hv0.cell 0 rfl
              have hfz := hv0.free 0
              clear hv0
              refine take1 (i := 13) (v := .bool true) rfl (by kernel_rfl) (by kernel_rfl) (by kernel_rfl) (fun _ _ _ h => h) (Or.inl ⟨by rfl, fun w hSw => ?_⟩) hHeld ?_
              · (go_simp <;> omega)
              try simp only [Act.put, List.setIfInBounds_toArray, List.set_cons_zero, List.set_cons_succ]
              refine take1 (i := 14) (v := .bool true) rfl (by kernel_rfl) (by kernel_rfl) (by kernel_rfl) (fun _ _ _ h => h) (Or.inl ⟨by rfl, fun w hSw => ?_⟩) hHeld ?_
              · (go_simp)
              try simp only [Act.put, List.setIfInBounds_toArray, List.set_cons_zero, List.set_cons_succ]
              refine take1 (i := 15) (v := .bool true) rfl (by kernel_rfl) (by kernel_rfl) (by kernel_rfl) (fun _ _ _ h => h) (Or.inl ⟨by rfl, fun w hSw => ?_⟩) hHeld ?_
              · (go_simp)
              try simp only [Act.put, List.setIfInBounds_toArray, List.set_cons_zero, List.set_cons_succ]
              refine take1 (i := 16) (v := .int .i64 (((els T).length : Int))) rfl (by kernel_rfl) (by kernel_rfl) (by kernel_rfl) (fun _ _ _ h => h) (Or.inl ⟨by rfl, fun w hSw => ?_⟩) hHeld ?_
              · (go_simp)
              try simp only [Act.put, List.setIfInBounds_toArray, List.set_cons_zero, List.set_cons_succ]
              refine take1 (i := 17) (v := .slice ka (els T).length kc) rfl (by kernel_rfl) (by kernel_rfl) (by kernel_rfl) (fun _ _ _ h => h) (Or.inl ⟨by rfl, fun w hSw => ?_⟩) hHeld ?_
              · (go_simp)
              try simp only [Act.put, List.setIfInBounds_toArray, List.set_cons_zero, List.set_cons_succ]
              refine take1 (i := 18) (v := .int .i64 ((els T).length : Int)) rfl (by kernel_rfl) (by kernel_rfl) (by kernel_rfl) (fun _ _ _ h => h) (Or.inl ⟨by rfl, fun w hSw => ?_⟩) hHeld ?_
              · (go_simp)
              try simp only [Act.put, List.setIfInBounds_toArray, List.set_cons_zero, List.set_cons_succ]
              refine take1 (i := 19) (v := .int .u8 st) rfl (by kernel_rfl) (by kernel_rfl) (by kernel_rfl) (fun _ _ _ h => h) (Or.inl ⟨by rfl, fun w hSw => ?_⟩) hHeld ?_
              · (go_simp)
              try simp only [Act.put, List.setIfInBounds_toArray, List.set_cons_zero, List.set_cons_succ]
              refine take1 (i := 20) (v := .int .i64 st) rfl (by kernel_rfl) (by kernel_rfl) (by kernel_rfl) (fun _ _ _ h => h) (Or.inl ⟨by rfl, fun w hSw => ?_⟩) hHeld ?_
              · (go_simp)
              try simp only [Act.put, List.setIfInBounds_toArray, List.set_cons_zero, List.set_cons_succ]
              refine take1 (i := 21) (v := .int .i64 (st + 1)) rfl (by kernel_rfl) (by kernel_rfl) (by kernel_rfl) (fun _ _ _ h => h) (Or.inl ⟨by rfl, fun w hSw => ?_⟩) hHeld ?_
              · (go_simp)
              try simp only [Act.put, List.setIfInBounds_toArray, List.set_cons_zero, List.set_cons_succ]
              refine take1 (i := 22) (v := .int .i64 (((els T).length : Int))) rfl (by kernel_rfl) (by kernel_rfl) (by kernel_rfl) (fun _ _ _ h => h) (Or.inl ⟨by rfl, fun w hSw => ?_⟩) hHeld ?_
              · (go_simp <;> omega)
              try simp only [Act.put, List.setIfInBounds_toArray, List.set_cons_zero, List.set_cons_succ]
              refine take1 (i := 23) (v := .bool true) rfl (by kernel_rfl) (by kernel_rfl) (by kernel_rfl) (fun _ _ _ h => h) (Or.inl ⟨by rfl, fun w hSw => ?_⟩) hHeld ?_
              · (go_simp)
              try simp only [Act.put, List.setIfInBounds_toArray, List.set_cons_zero, List.set_cons_succ]
              refine take1 (i := 24) (v := .bool true) rfl (by kernel_rfl) (by kernel_rfl) (by kernel_rfl) (fun _ _ _ h => h) (Or.inl ⟨by rfl, fun w hSw => ?_⟩) hHeld ?_
              · (go_simp)
              try simp only [Act.put, List.setIfInBounds_toArray, List.set_cons_zero, List.set_cons_succ]
              refine wpAnyH_ready (rs := [25]) (by kernel_rfl) (by simp) ?_
              refine cons1 rfl (fun K hK => ?_) AllReadyH.nil
              go_simp
              go_wp2_with fail
              refine hK.out _ _ ((hHeld.2.2.2.2.2.2.2.put _).s) (fun hHeld2 => ?_)
              clear hK K hHeld hcz hfz
              have hHeld := hHeld2
              clear hHeld2
              try simp only [Act.put, List.setIfInBounds_toArray, List.set_cons_zero, List.set_cons_succ]
              refine wpAnyH_done (by kernel_rfl) ?_ _
              refine NoPanic.normal ?_
              have HF := Lib.hid hHeld.2.2.2.2.2.2.2
              clear hHeld
              have hd1 : ((X4.setCell ⟨w.heap.size + 1, 0, none⟩ (.bool true)).putObj D2 (.deferred none)).heap[D1]? = some (.deferred (some [])) := (World.putObj_heap_other (by have := hdd.out; omega)).trans HF.out.d1
              have hD1 := HDs.out
              have hD2 := hdd.out
              have hres := ((HR.out.putObj (D := D2) (by omega) (.deferred none)).putObj (D := D1) (by omega) (.deferred none)).cell 0 rfl
              have hbe : Below w.heap.size w (((X4.setCell ⟨w.heap.size + 1, 0, none⟩ (.bool true)).putObj D2 (.deferred none)).putObj D1 (.deferred none)) := (HF.out.bel.trans (belowK_b (w := w) (Nat.le_refl _) _ D2 _ _ (by omega) HF.out.d2 rfl rfl)).trans (belowK_b (w := w) (Nat.le_refl _) _ D1 _ _ (by omega) hd1 rfl rfl)
              have hd2 := HF.out.d2
              have HRES := Lib.hid (And.intro hres hbe)
              clear hres hbe
              go_wp2_with fail
              refine ⟨by simp, .inl ⟨_, _, rfl, run_takeDeferred hd2, ?_⟩⟩
              refine ⟨by simp, .inl ⟨_, _, rfl, run_takeDeferred hd1, ?_⟩⟩
              exact ⟨.bool true, by have := HRES.out.1; simp [results, Tryd.results4, go_sem, this], rfl, HRES.out.2⟩

end Go.Proofs.YtkhggojghjociaaDoor
