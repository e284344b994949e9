/-
  The walk of PtreeStays: it returns true, and nothing that existed has changed.
-/
import Derived.Test.YtjfffnnkkjceoaaDoorAwakeC
import Derived.Test.YtjfffnnkkjceoaaDoorRound
import Derived.Maps.AppendAt
import Derived.Deep.DeepCutAuto
namespace Go.Proofs.YtjfffnnkkjceoaaDoor
open Go Go.Proofs Go.RowKit Go.Shelf

attribute [local go_sem] Oper.semAt_some

/-- Something done. -/
structure Ac where
  o : Bool
  i : Int
  e : El
/-- A slice of what is done: its cells lie from off on in block b. -/
def LiesA (w : World) (b off : Nat) (l : List Ac) : Prop :=
  ∀ j (hj : j < l.length), w.cell? ⟨b, off + j * 6, none⟩ = some (.bool l[j].o) ∧ w.cell? ⟨b, off + j * 6 + 1, none⟩ = some (.int .i64 l[j].i) ∧ w.cell? ⟨b, off + j * 6 + 2, none⟩ = some (.int .i64 l[j].e.c) ∧
    w.cell? ⟨b, off + j * 6 + 3, none⟩ = some (.int .i64 l[j].e.s) ∧ w.cell? ⟨b, off + j * 6 + 4, none⟩ = some (.int .i32 l[j].e.ch) ∧ w.cell? ⟨b, off + j * 6 + 5, none⟩ = some (.bool l[j].e.d)
def IsActs (w : World) (v : Value) (l : List Ac) : Prop :=
  ∃ a cap, v = .slice a l.length cap ∧ l.length ≤ cap ∧ cap ≤ 9223372036854775807 ∧ (l ≠ [] → ∃ b off, a = some ⟨b, off, none⟩ ∧ b < w.heap.size ∧ LiesA w b off l)

/-- The boxes of the law behind the first loop: the number to stop at, the answer, the row. -/
structure SA (w : World) (st : Int) (q : Option Addr) (T : Tr) (W : World) : Prop where
  bel : Below w.heap.size w W
  bs : Blk W w.heap.size [.int .u8 st] 5
  br : Blk W (w.heap.size + 1) [.bool false] 4
  bt : Blk W (w.heap.size + 1 + 1) [.pointer q] 26
  tr : Is W q T
theorem SA.next {w : World} {st : Int} {q : Option Addr} {T : Tr} {W W' : World} (h : SA w st q T W) (hb : Below W.heap.size W W') : SA w st q T W' :=
  ⟨h.bel.trans (hb.mono h.bel.size), h.bs.next hb, h.br.next hb, h.bt.next hb, h.tr.next hb⟩
theorem SA.put {w : World} {st : Int} {q q' : Option Addr} {T T' : Tr} {W : World} (h : SA w st q T W) (h' : Is W q' T') : SA w st q' T' (W.setCell ⟨w.heap.size + 1 + 1, 0, none⟩ (.pointer q')) :=
  ⟨h.bel.setCell (p := ⟨w.heap.size + 1 + 1, 0, none⟩) (by show w.heap.size ≤ w.heap.size + 1 + 1; omega) _, h.bs.other _ (by show w.heap.size ≠ w.heap.size + 1 + 1; omega) _, h.br.other _ (by show w.heap.size + 1 ≠ w.heap.size + 1 + 1; omega) _, h.bt.set 0 _, Is.set h.bt (by decide) _ h'⟩
theorem SA.start (w : World) (st : Int) : SA w st none .nil (((w.alloc (.cells #[.int .u8 st] 5)).alloc (.cells #[.bool false] 4)).alloc (.cells #[.pointer none] 26)) :=
  ⟨(((Below.refl _ _).alloc (Nat.le_refl _) _).alloc (by simp) _).alloc (by simp; omega) _, ((Blk.start w _ _).alloc _).alloc _, (Blk.startAt (by simp)).alloc _, Blk.startAt (by simp), rfl⟩
theorem eqlF (p : Value) (w : World) : (binOp .eql 37 (.func (.func 15) #[] #[p]) .nilFunc).run Tryd.prog w = .ok (.bool false) w := by kernel_rfl
/-- The cells of the elements that came. -/
def keptC (pre : List (Nat × El)) : List Value := pre.flatMap fun x => elL x.2
theorem keptC_snoc (pre : List (Nat × El)) (x : Nat × El) : keptC (pre ++ [x]) = keptC pre ++ elL x.2 := by simp [keptC]
def zElem : Value := .agg #[.int .i64 0, .int .i64 0, .int .i32 0, .bool false]
theorem infoElem : (Tryd.prog.info? 30).map (fun i => (i.zero, i.size, i.bytes)) = some (some zElem, 4, 24) := by kernel_rfl
theorem cell_four_new (w : World) (x : El) (t : TypeId) : ∀ j u, (elL x)[j]? = some u → (w.alloc (.cells ⟨elL x⟩ t)).cell? ((⟨w.heap.size, 0, none⟩ : Addr).add j) = some u := by
  intro j u hj
  have := (Blk.start w (elL x) t).cell j hj
  rw [show (⟨w.heap.size, 0, none⟩ : Addr).add j = ⟨w.heap.size, j, none⟩ by unfold Addr.add; split <;> simp_all]
  exact this
theorem four_one (x : El) : ∀ u ∈ elL x, u.oneCell' = true := by
  intro u hu
  simp only [elL, List.mem_cons, List.not_mem_nil, or_false] at hu
  rcases hu with rfl | rfl | rfl | rfl <;> rfl
theorem keptC_idx : ∀ (k : Nat) (l : List El), keptC (idx k l) = l.flatMap elL
  | _, [] => rfl
  | k, x :: l => by have := keptC_idx (k + 1) l; simp only [keptC, idx, List.flatMap_cons] at *; rw [this]
/-- v is a slice of the elements l. -/
def Kept (W : World) (v : Value) (l : List El) : Prop :=
  (v = .slice none 0 0 ∧ l = []) ∨ ∃ g cap cur, v = .slice (some ⟨g, 0, none⟩) l.length cap ∧ W.heap[g]? = some (.cells cur 30 (0, 0)) ∧ l.length ≤ cap ∧ cap ≤ maxLen ∧ cur.toList.take (l.length * 4) = l.flatMap elL
theorem Kept.of {W : World} {b : Nat} {v : Value} {l : List El} (h : W.ownsRow b 30 4 v (idx 0 l).length (keptC (idx 0 l))) : Kept W v l := by
  rw [keptC_idx, idx_length] at h
  rcases h.2 with ⟨rfl, h0⟩ | ⟨g, cap, cur, rfl, _, hg, h1, h2, _, h3⟩
  · exact Or.inl ⟨rfl, List.eq_nil_of_length_eq_zero h0⟩
  · exact Or.inr ⟨g, cap, cur, rfl, hg, h1, h2, h3⟩
theorem Kept.next {W W' : World} {v : Value} {l : List El} (h : Kept W v l) (hb : Below W.heap.size W W') : Kept W' v l := by
  rcases h with h | ⟨g, cap, cur, rfl, hg, h⟩
  · exact Or.inl h
  · exact Or.inr ⟨g, cap, cur, rfl, by rw [hb.block g (Array.getElem?_eq_some_iff.1 hg).1]; exact hg, h⟩
theorem Kept.form {W : World} {v : Value} {l : List El} (h : Kept W v l) : ∃ a cap, v = .slice a l.length cap ∧ l.length ≤ cap ∧ cap ≤ 9223372036854775807 := by
  rcases h with ⟨rfl, rfl⟩ | ⟨g, cap, cur, rfl, _, h1, h2, _⟩
  · exact ⟨none, 0, rfl, Nat.le_refl _, by omega⟩
  · exact ⟨_, cap, rfl, h1, by unfold maxLen at h2; omega⟩
theorem take_flat (e : El) : ∀ (l : List El) (i j : Nat) (hi : i < l.length), j < 4 → (l.flatMap elL)[i * 4 + j]? = (elL l[i])[j]?
  | [], i, _, hi, _ => absurd hi (by simp)
  | x :: l, 0, j, _, hj => by
    simp only [List.flatMap_cons, Nat.zero_mul, Nat.zero_add, List.getElem_cons_zero]
    rw [List.getElem?_append_left (by simpa using hj)]
  | x :: l, i + 1, j, hi, hj => by
    have ih := take_flat e l i j (by simpa using hi) hj
    simp only [List.flatMap_cons, List.getElem_cons_succ]
    rw [List.getElem?_append_right (by simp; omega), ← ih]
    congr 1
    simp
    omega
theorem Kept.cell {W : World} {a : Option Addr} {n cap : Nat} {l : List El} (h : Kept W (.slice a n cap) l) (i : Nat) (hi : i < l.length) : ∃ g, a = some ⟨g, 0, none⟩ ∧ g < W.heap.size ∧ ∀ j, j < 4 → W.cell? ⟨g, i * 4 + j, none⟩ = (elL l[i])[j]? := by
  rcases h with ⟨_, rfl⟩ | ⟨g, cap', cur, hv, hg, h1, h2, h3⟩
  · cases hi
  · simp only [Value.slice.injEq] at hv
    obtain ⟨rfl, rfl, rfl⟩ := hv
    refine ⟨g, rfl, (Array.getElem?_eq_some_iff.1 hg).1, fun j hj => ?_⟩
    rw [← take_flat l[i] l i j hi hj, ← h3, List.getElem?_take_of_lt (by omega)]
    simp [World.cell?, hg]
/-- What stands behind the first range: the row, what was kept of it, and the mark of that range. -/
structure SB (w : World) (st : Int) (q : Option Addr) (T : Tr) (K D1 : Nat) (ka : Option Addr) (kc : Nat) (W : World) : Prop where
  sa : SA w st q T W
  bk : Blk W K [.slice ka T.size kc] 35
  kept : Kept W (.slice ka T.size kc) T.els
  dk : W.heap[D1]? = some (.deferred (some []))
theorem SB.next {w : World} {st : Int} {q : Option Addr} {T : Tr} {K D1 : Nat} {ka : Option Addr} {kc : Nat} {W W' : World} (h : SB w st q T K D1 ka kc W) (hb : Below W.heap.size W W') : SB w st q T K D1 ka kc W' :=
  ⟨h.sa.next hb, h.bk.next hb, h.kept.next hb, by rw [hb.block D1 (Array.getElem?_eq_some_iff.1 h.dk).1]; exact h.dk⟩
theorem SB.s {w : World} {st : Int} {q : Option Addr} {T : Tr} {K D1 : Nat} {ka : Option Addr} {kc : Nat} {W W' : World} (h : SB w st q T K D1 ka kc W) (hb : Below W.heap.size W W') :
    W'.cell? ⟨w.heap.size + 1 + 1, 0, none⟩ = some (.pointer q) ∧ SB w st q T K D1 ka kc W' := ⟨(h.next hb).sa.bt.cell 0 rfl, h.next hb⟩
/-- Where the second loop stands: what stood, and the row that is made. -/
structure HU5 (w : World) (st : Int) (q : Option Addr) (T : Tr) (K D1 : Nat) (ka : Option Addr) (kc : Nat) (V : World) (q' : Option Addr) (T' : Tr) (W : World) : Prop where
  base : SB w st q T K D1 ka kc V
  bel : Below V.heap.size V W
  bu : Blk W V.heap.size [.pointer q'] 26
  tr : Is W q' T'
theorem HU5.next {w : World} {st : Int} {q : Option Addr} {T : Tr} {K D1 : Nat} {ka : Option Addr} {kc : Nat} {V : World} {q' : Option Addr} {T' : Tr} {W W' : World} (h : HU5 w st q T K D1 ka kc V q' T' W) (hb : Below W.heap.size W W') : HU5 w st q T K D1 ka kc V q' T' W' :=
  ⟨h.base, h.bel.trans (hb.mono h.bel.size), h.bu.next hb, h.tr.next hb⟩
theorem HU5.put {w : World} {st : Int} {q : Option Addr} {T : Tr} {K D1 : Nat} {ka : Option Addr} {kc : Nat} {V : World} {q' q2 : Option Addr} {T' T2 : Tr} {W : World} (h : HU5 w st q T K D1 ka kc V q' T' W) (h' : Is W q2 T2) : HU5 w st q T K D1 ka kc V q2 T2 (W.setCell ⟨V.heap.size, 0, none⟩ (.pointer q2)) :=
  ⟨h.base, h.bel.setCell (p := ⟨V.heap.size, 0, none⟩) (Nat.le_refl _) _, h.bu.set 0 _, Is.set h.bu (by decide) _ h'⟩
theorem OnlyN.normal {Q : Act → World → Prop} {a : Act} {w : World} (h : Q a w) : OnlyN Q .normal a w := h
theorem El.same {x y : El} (h1 : x.c = y.c) (h2 : x.s = y.s) (h3 : x.ch = y.ch) (h4 : x.d = y.d) : x = y := by
  obtain ⟨c, s, ch, d, _, _⟩ := x
  obtain ⟨c', s', ch', d', _, _⟩ := y
  cases h1; cases h2; cases h3; cases h4; rfl
theorem mem_idx : ∀ (l : List El) (k i : Nat) (x : El), (i, x) ∈ idx k l → k ≤ i ∧ ∃ h : i - k < l.length, l[i - k] = x
  | [], _, _, _, h => by cases h
  | y :: l, k, i, x, h => by
    simp only [idx, List.mem_cons, Prod.mk.injEq] at h
    rcases h with ⟨rfl, rfl⟩ | h
    · exact ⟨Nat.le_refl _, by simp, by simp⟩
    · obtain ⟨h1, h2, h3⟩ := mem_idx l (k + 1) i x h
      refine ⟨by omega, by simp only [List.length_cons]; omega, ?_⟩
      have e : i - k = (i - (k + 1)) + 1 := by omega
      simp only [e, List.getElem_cons_succ]
      exact h3
theorem not_prefix {l : List El} {pre : List (Nat × El)} {i : Nat} {x : El} (h : ∀ hi : i < l.length, l[i] ≠ x) : ¬ pre ++ [(i, x)] <+: idx 0 l := by
  rintro ⟨t, ht⟩
  have hm : (i, x) ∈ idx 0 l := by rw [← ht]; simp
  obtain ⟨_, h1, h2⟩ := mem_idx l 0 i x hm
  exact h h1 h2
theorem snoc_len (pre : List (Nat × El)) (x : Nat × El) : (((pre ++ [x]).length : Nat) : Int) = (pre.length : Int) + 1 := by simp
/-- What stands at the law's last line. -/
structure SF (w : World) (st : Int) (q : Option Addr) (T : Tr) (K M D1 D2 : Nat) (n : Int) (ka : Option Addr) (kc : Nat) (W : World) : Prop where
  bel : Below w.heap.size w W
  bs : Blk W w.heap.size [.int .u8 st] 5
  bt : Blk W (w.heap.size + 1 + 1) [.pointer q] 26
  tr : Is W q T
  bk : Blk W K [.slice ka T.size kc] 35
  bm : Blk W M [.int .i64 n] 3
  d1 : W.heap[D1]? = some (.deferred (some []))
  d2 : W.heap[D2]? = some (.deferred (some []))
  rb : ∃ v, Blk W (w.heap.size + 1) [v] 4
  hK : w.heap.size + 1 + 1 < K
  hM : K < M
theorem SF.next {w : World} {st : Int} {q : Option Addr} {T : Tr} {K M D1 D2 : Nat} {n : Int} {ka : Option Addr} {kc : Nat} {W W' : World} (h : SF w st q T K M D1 D2 n ka kc W) (hb : Below W.heap.size W W') : SF w st q T K M D1 D2 n ka kc W' :=
  ⟨h.bel.trans (hb.mono h.bel.size), h.bs.next hb, h.bt.next hb, h.tr.next hb, h.bk.next hb, h.bm.next hb, by rw [hb.block D1 (Array.getElem?_eq_some_iff.1 h.d1).1]; exact h.d1, by rw [hb.block D2 (Array.getElem?_eq_some_iff.1 h.d2).1]; exact h.d2,
    let ⟨v, hv⟩ := h.rb; ⟨v, hv.next hb⟩, h.hK, h.hM⟩
theorem SF.put {w : World} {st : Int} {q : Option Addr} {T : Tr} {K M D1 D2 : Nat} {n : Int} {ka : Option Addr} {kc : Nat} {W : World} (h : SF w st q T K M D1 D2 n ka kc W) (u : Value) : SF w st q T K M D1 D2 n ka kc (W.setCell ⟨w.heap.size + 1, 0, none⟩ u) := by
  obtain ⟨v, hv⟩ := h.rb
  have hK := h.hK
  have hM := h.hM
  have hne : ∀ {D : Nat}, W.heap[D]? = some (.deferred (some [])) → D ≠ w.heap.size + 1 := fun hD e => by subst e; unfold Blk at hv; rw [hv] at hD; cases hD
  refine ⟨h.bel.setCell (p := ⟨w.heap.size + 1, 0, none⟩) (by show w.heap.size ≤ w.heap.size + 1; omega) _, h.bs.other _ (by show w.heap.size ≠ w.heap.size + 1; omega) _, h.bt.other _ (by show w.heap.size + 1 + 1 ≠ w.heap.size + 1; omega) _,
    Is.set hv (by decide) _ h.tr, h.bk.other _ (by show K ≠ w.heap.size + 1; omega) _, h.bm.other _ (by show M ≠ w.heap.size + 1; omega) _, ?_, ?_, ⟨u, hv.set 0 u⟩, hK, hM⟩
  · rw [Below.heap_setCell _ _ _ _ (hne h.d1)]; exact h.d1
  · rw [Below.heap_setCell _ _ _ _ (hne h.d2)]; exact h.d2
theorem SF.s {w : World} {st : Int} {q : Option Addr} {T : Tr} {K M D1 D2 : Nat} {n : Int} {ka : Option Addr} {kc : Nat} {W : World} (h : SF w st q T K M D1 D2 n ka kc W) :
    W.cell? ⟨w.heap.size + 1 + 1, 0, none⟩ = some (.pointer q) ∧ W.cell? ⟨K, 0, none⟩ = some (.slice ka T.size kc) ∧ W.cell? ⟨M, 0, none⟩ = some (.int .i64 n) ∧ W.cell? ⟨w.heap.size, 0, none⟩ = some (.int .u8 st) ∧
      W.cell? ⟨w.heap.size + 1, 0, none⟩ = some (cellAt W ⟨w.heap.size + 1, 0, none⟩) ∧ W.frozen? ⟨w.heap.size + 1, 0, none⟩ = false ∧ SF w st q T K M D1 D2 n ka kc W := by
  obtain ⟨v, hv⟩ := h.rb
  exact ⟨h.bt.cell 0 rfl, h.bk.cell 0 rfl, h.bm.cell 0 rfl, h.bs.cell 0 rfl, cellAt_of (hv.cell 0 rfl), hv.free 0, h⟩
theorem SF.of {w : World} {st : Int} {q : Option Addr} {T : Tr} {K M D1 D2 : Nat} {n : Int} {ka : Option Addr} {kc : Nat} {W : World} (h : SB w st q T K D1 ka kc W) (hm : Blk W M [.int .i64 n] 3) (h2 : W.heap[D2]? = some (.deferred (some []))) (hK : w.heap.size + 1 + 1 < K) (hM : K < M) : SF w st q T K M D1 D2 n ka kc W :=
  ⟨h.sa.bel, h.sa.bs, h.sa.bt, h.sa.tr, h.bk, hm, h.dk, h2, ⟨_, h.sa.br⟩, hK, hM⟩
theorem Blk.putObj {W : World} {b D : Nat} {vs : List Value} {t : TypeId} (h : Blk W b vs t) (hne : b ≠ D) (o : Obj) : Blk (W.putObj D o) b vs t := (World.putObj_heap_other hne).trans h
set_option maxHeartbeats 6400000 in
set_option maxRecDepth 100000 in
theorem stays_main (a a2 : Option Addr) (cap cap2 : Nat) (l m : List Ac) (st : Int) (w : World) (hst0 : 0 ≤ st) (hst1 : st ≤ 255) (hl60 : l.length ≤ 60) (hm60 : m.length ≤ 60) (hcap : l.length ≤ cap) (hcap2 : m.length ≤ cap2) (hmax : cap ≤ 9223372036854775807) (hmax2 : cap2 ≤ 9223372036854775807)
    (hL : l ≠ [] → ∃ b off, a = some ⟨b, off, none⟩ ∧ b < w.heap.size ∧ LiesA w b off l) (hM : m ≠ [] → ∃ b off, a2 = some ⟨b, off, none⟩ ∧ b < w.heap.size ∧ LiesA w b off m) (ht : Tab w) :
    Calls Tryd.prog 3 #[.slice a l.length cap, .slice a2 m.length cap2, .int .u8 st] w fun e w' => e = .returned (.bool true) ∧ Below w.heap.size w w' := by
  have HTab := Lib.hid ht
  have HL := Lib.hid hL
  have HM := Lib.hid hM
  clear ht hL hM
  refine (callsIn_wide (n := 5)).1 (callsIn_of_wp_marks Tryd.func3 rfl trivial (wpIn_wide.2 ?_) rfl)
  simp only [Tryd.ntmps3, List.size_toArray, List.length_cons, List.length_nil, Nat.reduceAdd, Nat.reduceSub, Array.replicate_succ, Array.replicate_zero, List.push_toArray, List.append_toArray, List.nil_append, List.cons_append]
  go_wp2_with fail
  go_loopg [32] l.length (fun g ti wr => ∃ k : Nat, k ≤ l.length ∧ g = l.length - k ∧ ti = .int .i64 (k : Int) ∧ ∃ q T, T.size ≤ k ∧ SA w st q T wr)
  case atStart => exact ⟨0, Nat.zero_le _, rfl, rfl, none, .nil, Nat.le_refl _, SA.start w st⟩
  case round =>
    obtain ⟨k, hk, rfl, rfl, q, T, hTk, hS⟩ := hrel
    by_cases hlt : k < l.length
    · obtain ⟨b, off, rfl, hbw, hLies⟩ := HL.out (fun e => by rw [e] at hlt; cases hlt)
      obtain ⟨l0, l1, l2, l3, l4, l5⟩ := hLies k hlt
      have hbs : b < wr.heap.size := Nat.lt_of_lt_of_le hbw hS.bel.size
      have k0 := (hS.bel.cell (p := ⟨b, off + k * 6, none⟩) hbw).trans l0
      have k1 := (hS.bel.cell (p := ⟨b, off + k * 6 + 1, none⟩) hbw).trans l1
      have k2 := (hS.bel.cell (p := ⟨b, off + k * 6 + 2, none⟩) hbw).trans l2
      have k3 := (hS.bel.cell (p := ⟨b, off + k * 6 + 3, none⟩) hbw).trans l3
      have k4 := (hS.bel.cell (p := ⟨b, off + k * 6 + 4, none⟩) hbw).trans l4
      have k5 := (hS.bel.cell (p := ⟨b, off + k * 6 + 5, none⟩) hbw).trans l5
      clear l0 l1 l2 l3 l4 l5 hLies
      generalize l[k] = x at *
      have hbA := (Below.refl wr.heap.size wr).alloc (Nat.le_refl _) (.cells #[.bool x.o, .int .i64 x.i, .int .i64 x.e.c, .int .i64 x.e.s, .int .i32 x.e.ch, .bool x.e.d] 32)
      have HS := Lib.hid (hS.next hbA)
      have ht0 := HS.out.bt.cell 0 rfl
      clear hS hbA
      go_wp2_with (go_at_call 5; refine (Insert_any x.i x.e _ HS.out.tr (by omega)).mono ?_; rintro e W1 ⟨q', rfl, hq, hb1⟩; refine Hid.out ?_)
      have HS1 := Lib.hid (HS.out.next hb1)
      have HQ := Lib.hid hq
      clear HS hb1 hq ht0
      have r0 := HS1.out.bt.cell 0 rfl
      have f0 := HS1.out.bt.free 0
      refine Lib.hid ?_
      go_wp2_with fail
      go_roundg (l.length - (k + 1))
      case measure => omega
      case rel => exact ⟨k + 1, by omega, rfl, by go_num, q', insTop T x.i x.e, Nat.le_trans (insTop_size _ _ _) (by omega), HS1.out.put HQ.out⟩
    · have hT60 : T.size ≤ 60 := by omega
      have HS := Lib.hid hS
      clear hS hTk HL
      obtain ⟨W1, rfl⟩ : ∃ W1 : World, W1 = wr := ⟨_, rfl⟩
      have ht0 := HS.out.bt.cell 0 rfl
      have hts : w.heap.size + 1 + 1 < W1.heap.size := HS.out.bt.lt
      have ef := eqlF
      have ht1 : ∀ o, (W1.alloc o).cell? ⟨w.heap.size + 1 + 1, 0, none⟩ = some (.pointer q) := fun o => (HS.out.bt.alloc o).cell 0 rfl
      have ht2 : ∀ o o', ((W1.alloc o).alloc o').cell? ⟨w.heap.size + 1 + 1, 0, none⟩ = some (.pointer q) := fun o o' => ((HS.out.bt.alloc o).alloc o').cell 0 rfl
      go_wp2_with (go_at_call 6; refine (all_any _ _).mono ?_; rintro e w' ⟨rfl, rfl⟩)
      clear ht0 ht1 ht2 ef
      have hbt := (Blk.startAt (W := (W1.alloc (.cells #[.slice none 0 0] 35)).alloc (.cells #[.pointer q] 26)) (b := W1.heap.size + 1 + 1) (vs := [.pointer q]) (t := 26) (by simp)).cell 0 rfl
      have hbk : Go.Boxed (((W1.alloc (.cells #[.slice none 0 0] 35)).alloc (.cells #[.pointer q] 26)).alloc (.cells #[.pointer q] 26)) W1.heap.size 35 (.slice none 0 0) := ((Go.Boxed.new W1 _ _).alloc _).alloc _
      have hb3 : Below W1.heap.size W1 (((W1.alloc (.cells #[.slice none 0 0] 35)).alloc (.cells #[.pointer q] 26)).alloc (.cells #[.pointer q] 26)) := (((Below.refl _ _).alloc (Nat.le_refl _) _).alloc (by simp) _).alloc (by simp; omega) _
      have hz3 : W1.heap.size + 1 + 1 < (((W1.alloc (.cells #[.slice none 0 0] 35)).alloc (.cells #[.pointer q] 26)).alloc (.cells #[.pointer q] 26)).heap.size := by simp
      generalize ((W1.alloc (.cells #[.slice none 0 0] 35)).alloc (.cells #[.pointer q] 26)).alloc (.cells #[.pointer q] 26) = W3 at *
      refine (wpIn_wide (n := 5)).1 ?_
      refine wpIn_rangeFunc_ownH rfl (by omega) (gf := 15) (lb := #[.pointer (some ⟨W1.heap.size + 1 + 1, 0, none⟩)]) rfl trivial (enters_of Tryd.func15 (by kernel_rfl) rfl)
        (all_stops _ (W1.heap.size + 1 + 1) W1.heap.size q T W3 hz3 (by omega) (by omega) hbt (HS.out.tr.below hb3)) belowK_t (belowK_b (by omega)) (Below.refl _ _) (fun _ => rfl)
        (fun pre W => (∃ v, Go.Boxed W W1.heap.size 35 v ∧ W.ownsRow W1.heap.size 30 4 v pre.length (keptC pre) ∧ True) ∧ Below W1.heap.size W1 W)
        (fun _ _ _ => False)
        (OwnFrom.and (Own.from (holdsRow_own W1.heap.size W1.heap.size 35 30 4 (fun pre : List (Nat × El) => pre.length) (fun pre => keptC pre) (fun _ _ => True)) _) (ownFrom_below (Nat.le_refl _) (by omega)))
        (fun _ _ _ _ _ hs _ _ => hs)
        ⟨⟨_, hbk, World.ownsRow_nil _ _ _ _, trivial⟩, hb3⟩
        (fun x a' W => ∃ Bx, Blk W Bx (elL x.2) 30 ∧ a' = { tmps := #[Value.slice a l.length cap, Value.slice a2 m.length cap2, Value.int IntKind.u8 st, undef, undef, Value.pointer (some ⟨w.heap.size, 0, none⟩), Value.pointer (some ⟨w.heap.size + 1, 0, none⟩), Value.pointer (some ⟨w.heap.size + 1 + 1, 0, none⟩), undef, u9, Value.pointer (some ⟨W1.heap.size, 0, none⟩), undef, .pointer (some ⟨Bx, 0, none⟩), undef, undef, undef, undef, undef, undef, undef, undef, Value.slice a l.length cap, Value.int IntKind.i64 (l.length : Int), Value.bool (decide ((60 : Int) < (l.length : Int))), Value.bool (decide ((60 : Int) < (l.length : Int))), Value.slice a2 m.length cap2, Value.int IntKind.i64 (m.length : Int), Value.bool (decide ((60 : Int) < (m.length : Int))), Value.bool (decide ((60 : Int) < (l.length : Int)) || decide ((60 : Int) < (m.length : Int))), undef, Value.slice a l.length cap, Value.int IntKind.i64 (l.length : Int), Value.int IntKind.i64 (k : Int), Value.bool false, u34, u35, u36, u37, u38, u39, u40, u41, u42, u43, u44, u45, Value.agg #[Value.pointer q], Value.func (Fn.func 15) #[] #[Value.pointer (some ⟨W1.heap.size + 1, 0, none⟩)], Value.bool false, Value.agg #[Value.pointer q], Value.func (Fn.func 15) #[] #[Value.pointer (some ⟨W1.heap.size + 1 + 1, 0, none⟩)], .int .i64 (x.1 : Int), .agg #[.int .i64 x.2.c, .int .i64 x.2.s, .int .i32 x.2.ch, .bool x.2.d], undef, undef, undef, undef, undef, undef, undef, undef, undef, undef, undef, undef, undef, undef, undef, undef, undef, undef, undef, undef, undef, undef, undef, undef, undef, undef, undef, undef, undef, undef, undef, undef, undef, undef, undef, undef, undef, undef, undef, undef, undef, undef, undef, undef, undef, undef, undef, undef, undef, undef, undef, undef, undef, undef, undef, undef, undef, undef, undef, undef, undef, undef, undef, undef, undef, undef, undef, undef, undef, undef, undef, undef, undef, undef, undef, undef, undef, undef, undef, undef, undef, undef, undef, undef, undef, undef, undef, undef], defers := [] })
        (fun x a' _ W W' row hs hg hr => by obtain ⟨Bx, hb, he⟩ := hs; exact ⟨Bx, hb.grown hg (fun r e => (hr r e).2), he⟩)
        ?assign ?body ?done ?stop
      case assign =>
        rintro l' pre x W K ⟨⟨v, hi1, hi2, -⟩, hi3⟩ hK
        gi_wp2
        exact hK _ _ ((KeepsOthers.alloc _ _).from _) ((Below.refl _ W).alloc hi3.size _) ⟨⟨v, hi1.alloc _, hi2.alloc _, trivial⟩, hi3.alloc hi3.size _⟩ ⟨W.heap.size, Blk.start _ _ _, rfl⟩
      case stop =>
        rintro D c pre W _ _ h _
        exact h.elim
      case body =>
        rintro l' pre x a' W hl' - ⟨⟨v, hi1, hi2, -⟩, hi3⟩ ⟨Bx, hb, rfl⟩ hlt'
        obtain ⟨i0, hi, hz0, hz1, hz2⟩ := info_parts infoElem
        have e0 := hb.cell 0 rfl
        have e1 := hb.cell 1 rfl
        have e2 := hb.cell 2 rfl
        have e3 := hb.cell 3 rfl
        have hv := hi1.cell
        gi_wp2_with (gi_at_builtin; refine wpListIn_append_own _ rfl _ _ 35 rfl W1.heap.size 30 i0 zElem 4 24 Tryd.underlying35 hi hz0 hz1 hz2 rfl (by decide) _ _ _ rfl (hi2.alloc _) ⟨W.heap.size, 0, none⟩ 1 1 (elL x.2) rfl rfl (cell_four_new _ _ _) (four_one x.2) (by unfold maxLen; omega) (by omega) (by have := hi3.size; simp; omega) ?_; intro v' w1 hown' hgrow _; obtain ⟨g', cap', rfl⟩ := ownsRow_succ hown'; obtain ⟨hv1, hv2, hr2, hk2, hb2⟩ := hi1.appended (by decide) hi2 hi3.size (Nat.le_refl _) hown' hgrow; have hc1 := hv1.cell; have hf1 := hv1.frozen)
        refine ⟨hk2.from _, hb2, ⟨_, hv2, ?_, trivial⟩, hi3.trans hb2⟩
        rw [keptC_snoc, List.length_append]
        exact hr2
      case done =>
        rintro D1 ys W hD1 rfl ⟨⟨v, hi1, hi2, -⟩, hi3⟩ hK1
        obtain ⟨ka, kc, rfl, hkc1, hkc2⟩ := (Kept.of hi2).form
        rw [Tr.els_length] at hkc1 hi1 hi2
        have hB : SB w st q T W1.heap.size D1 ka kc W := ⟨HS.out.next hi3, hi1, Kept.of hi2, hK1⟩
        have HDs := Lib.hid (show W1.heap.size < D1 by omega)
        clear HS hi1 hi2 hi3 hK1 hD1 hbt hbk hb3 hz3
        have HB := Lib.hid hB
        clear hB
        go_wp2_with fail
        refine wp_region_noPanic ?_
        refine wp_region_held_drew (S := (fun W => W.cell? ⟨w.heap.size + 1 + 1, 0, none⟩ = some (.pointer q) ∧ SB w st q T W1.heap.size D1 ka kc W)) (by kernel_rfl) ?_ (fun hHeld => ?_)
        · exact SB.s HB.out (Below.refl _ _).drew
        clear HB
        refine take1 (i := 0) (v := .agg #[.pointer q]) rfl (by kernel_rfl) (by kernel_rfl) (by kernel_rfl) (fun _ _ _ h => h) (Or.inl ⟨by rfl, fun w hSw => ?_⟩) hHeld ?_
        · (go_simp)
        try simp only [Act.put, List.setIfInBounds_toArray, List.set_cons_zero, List.set_cons_succ]
        refine take1 (i := 2) (v := .agg #[.pointer q]) rfl (by kernel_rfl) (by kernel_rfl) (by kernel_rfl) (fun _ _ _ h => h) (Or.inl ⟨by rfl, fun w hSw => ?_⟩) hHeld ?_
        · (go_simp)
        try simp only [Act.put, List.setIfInBounds_toArray, List.set_cons_zero, List.set_cons_succ]
        refine wpAnyH_ready (rs := [1]) (by kernel_rfl) (by simp) ?_
        refine cons1 rfl (fun K hK => ?_) AllReadyH.nil
        go_simp
        refine (text_any _ hHeld.2.sa.tr (by omega)).mono ?_
        rintro e V1 ⟨rfl, hb⟩
        go_wp2_with fail
        refine hK.out _ _ (SB.s hHeld.2 hb) (fun hHeld2 => ?_)
        clear hK K hHeld hb
        have hHeld := hHeld2
        clear hHeld2
        try simp only [Act.put, List.setIfInBounds_toArray, List.set_cons_zero, List.set_cons_succ]
        refine wpAnyH_ready (rs := [3]) (by kernel_rfl) (by simp) ?_
        refine cons1 rfl (fun K hK => ?_) AllReadyH.nil
        go_simp
        refine (aliveRow_any _ hHeld.2.sa.tr).mono ?_
        rintro e V2 ⟨rfl, hb⟩
        go_wp2_with fail
        refine hK.out _ _ (SB.s hHeld.2 hb) (fun hHeld2 => ?_)
        clear hK K hHeld hb
        have hHeld := hHeld2
        clear hHeld2
        try simp only [Act.put, List.setIfInBounds_toArray, List.set_cons_zero, List.set_cons_succ]
        refine take1 (i := 4) (v := .string ⟨(txtL T.els).toArray⟩) rfl (by kernel_rfl) (by kernel_rfl) (by kernel_rfl) (fun _ _ _ h => h) (Or.inl ⟨by rfl, fun w hSw => ?_⟩) hHeld ?_
        · (go_simp)
        try simp only [Act.put, List.setIfInBounds_toArray, List.set_cons_zero, List.set_cons_succ]
        refine take1 (i := 5) (v := .int .i64 (T.alive : Int)) rfl (by kernel_rfl) (by kernel_rfl) (by kernel_rfl) (fun _ _ _ h => h) (Or.inl ⟨by rfl, fun w hSw => ?_⟩) hHeld ?_
        · (go_simp)
        try simp only [Act.put, List.setIfInBounds_toArray, List.set_cons_zero, List.set_cons_succ]
        refine wpAnyH_done (by kernel_rfl) ?_ _
        refine NoPanic.normal ?_
        have HB := Lib.hid hHeld.2
        clear hHeld
        have ht0 := HB.out.sa.bt.cell 0 rfl
        go_wp2_with fail
        clear ht0
        have HU := Lib.hid (show HU5 w st q T W1.heap.size D1 ka kc V2 q T (V2.alloc (.cells #[.pointer q] 26)) from ⟨HB.out, (Below.refl _ _).alloc (Nat.le_refl _) _, Blk.start _ _ _, HB.out.sa.tr.next ((Below.refl _ _).alloc (Nat.le_refl _) _)⟩)
        clear HB
        go_loopg [64] m.length (fun g ti wr => ∃ kk : Nat, kk ≤ m.length ∧ g = m.length - kk ∧ ti = .int .i64 (kk : Int) ∧ ∃ q' T', T'.size ≤ 60 + kk ∧ HU5 w st q T W1.heap.size D1 ka kc V2 q' T' wr)
        case atStart => exact ⟨0, Nat.zero_le _, rfl, rfl, q, T, hT60, HU.out⟩
        case round =>
          obtain ⟨kk, hkk, rfl, rfl, q', T', hTk, hS⟩ := hrel
          clear HU
          by_cases hlt2 : kk < m.length
          · obtain ⟨b, off, rfl, hbw, hLies⟩ := HM.out (fun e => by rw [e] at hlt2; cases hlt2)
            obtain ⟨l0, l1, l2, l3, l4, l5⟩ := hLies kk hlt2
            have hbel : Below w.heap.size w wr := hS.base.sa.bel.trans (hS.bel.mono hS.base.sa.bel.size)
            have hbs : b < wr.heap.size := Nat.lt_of_lt_of_le hbw hbel.size
            have k0 := (hbel.cell (p := ⟨b, off + kk * 6, none⟩) hbw).trans l0
            have k1 := (hbel.cell (p := ⟨b, off + kk * 6 + 1, none⟩) hbw).trans l1
            have k2 := (hbel.cell (p := ⟨b, off + kk * 6 + 2, none⟩) hbw).trans l2
            have k3 := (hbel.cell (p := ⟨b, off + kk * 6 + 3, none⟩) hbw).trans l3
            have k4 := (hbel.cell (p := ⟨b, off + kk * 6 + 4, none⟩) hbw).trans l4
            have k5 := (hbel.cell (p := ⟨b, off + kk * 6 + 5, none⟩) hbw).trans l5
            clear l0 l1 l2 l3 l4 l5 hLies
            generalize m[kk] = x at *
            have hbA := (Below.refl wr.heap.size wr).alloc (Nat.le_refl _) (.cells #[.bool x.o, .int .i64 x.i, .int .i64 x.e.c, .int .i64 x.e.s, .int .i32 x.e.ch, .bool x.e.d] 32)
            have HS := Lib.hid (hS.next hbA)
            have ht0 := HS.out.bu.cell 0 rfl
            clear hS hbA hbel
            obtain ⟨o, i, e⟩ := x
            cases o
            · dsimp only at *
              go_wp2_with (go_at_call 5; refine (Insert_any i e _ HS.out.tr (by omega)).mono ?_; rintro e' Y1 ⟨q2, rfl, hq, hb1⟩; refine Hid.out ?_)
              have HS1 := Lib.hid (HS.out.next hb1)
              have HQ := Lib.hid hq
              clear HS hb1 hq ht0
              have r0 := HS1.out.bu.cell 0 rfl
              have f0 := HS1.out.bu.free 0
              refine Lib.hid ?_
              go_wp2_with fail
              go_roundg (m.length - (kk + 1))
              case measure => omega
              case rel => exact ⟨kk + 1, by omega, rfl, by go_num, q2, insTop T' i e, Nat.le_trans (insTop_size _ _ _) (by omega), HS1.out.put HQ.out⟩
            · dsimp only at *
              go_wp2_with (go_at_call 9; refine (Set_any i e _ HS.out.tr (by omega)).mono ?_; rintro e' Y1 ⟨q2, rfl, hq, hb1⟩; refine Hid.out ?_)
              have HS1 := Lib.hid (HS.out.next hb1)
              have HQ := Lib.hid hq
              clear HS hb1 hq ht0
              have r0 := HS1.out.bu.cell 0 rfl
              have f0 := HS1.out.bu.free 0
              refine Lib.hid ?_
              go_wp2_with fail
              go_roundg (m.length - (kk + 1))
              case measure => omega
              case rel => exact ⟨kk + 1, by omega, rfl, by go_num, q2, setTop T' i e, by rw [setTop_size]; omega, HS1.out.put HQ.out⟩
          · clear HM
            obtain ⟨W6, rfl⟩ : ∃ W6 : World, W6 = wr := ⟨_, rfl⟩
            have HB := Lib.hid (hS.base.next hS.bel)
            clear hS hTk
            have ht1 : ∀ o, (W6.alloc o).cell? ⟨w.heap.size + 1 + 1, 0, none⟩ = some (.pointer q) := fun o => (HB.out.sa.bt.alloc o).cell 0 rfl
            have hts6 : w.heap.size + 1 + 1 < W6.heap.size := HB.out.sa.bt.lt
            go_wp2_with (go_at_call 6; refine (all_any _ _).mono ?_; rintro e w' ⟨rfl, rfl⟩)
            clear ht1
            have hbt6 := (Blk.startAt (W := W6.alloc (.cells #[.int .i64 0] 3)) (b := W6.heap.size + 1) (vs := [.pointer q]) (t := 26) (by simp)).cell 0 rfl
            have hbm6 : Blk ((W6.alloc (.cells #[.int .i64 0] 3)).alloc (.cells #[.pointer q] 26)) W6.heap.size [.int .i64 ((([] : List (Nat × El)).length : Nat) : Int)] 3 := (Blk.start W6 [.int .i64 0] 3).alloc _
            have hb8 : Below W6.heap.size W6 ((W6.alloc (.cells #[.int .i64 0] 3)).alloc (.cells #[.pointer q] 26)) := ((Below.refl _ _).alloc (Nat.le_refl _) _).alloc (by simp) _
            have hz8 : W6.heap.size + 1 < ((W6.alloc (.cells #[.int .i64 0] 3)).alloc (.cells #[.pointer q] 26)).heap.size := by simp
            generalize (W6.alloc (.cells #[.int .i64 0] 3)).alloc (.cells #[.pointer q] 26) = W8 at *
            have hmx : Tryd.prog.follows .mixedOrders = true := by kernel_rfl
            refine (wpIn_wide (n := 5)).1 ?_
            refine wpIn_rangeFunc_ownH rfl (by omega) (gf := 15) (lb := #[.pointer (some ⟨W6.heap.size + 1, 0, none⟩)]) rfl trivial (enters_of Tryd.func15 (by kernel_rfl) rfl)
              (all_stops _ (W6.heap.size + 1) W6.heap.size q T W8 hz8 (by omega) (by omega) hbt6 (HB.out.sa.tr.below hb8)) belowK_t (belowK_b (by omega)) (Below.refl _ _) (fun _ => rfl)
              (fun pre W => (Blk W W6.heap.size [.int .i64 ((pre.length : Nat) : Int)] 3 ∧ (pre.length : Int) ≤ st) ∧ Below W6.heap.size W6 W)
              (fun c pre W => (c = .ret ∧ ¬ pre <+: idx 0 T.els) ∨ (c = .exit 6 ∧ (Blk W W6.heap.size [.int .i64 ((pre.length : Nat) : Int)] 3 ∧ (pre.length : Int) = st + 1) ∧ Below W6.heap.size W6 W))
              (fun s A B row hs hg hr => ⟨⟨hs.1.1.grown hg (fun r e => (hr r e).2), hs.1.2⟩, ownFrom_below (β := List (Nat × El)) (Nat.le_refl _) (by omega) s A B row hs.2 hg hr⟩)
              (fun c s A B row hs hg hr => hs.imp id (fun h => ⟨h.1, ⟨h.2.1.1.grown hg (fun r e => (hr r e).2), h.2.1.2⟩, ownFrom_below (β := List (Nat × El)) (Nat.le_refl _) (by omega) s A B row h.2.2 hg hr⟩))
              ⟨⟨hbm6, hst0⟩, hb8⟩
              (fun x a' W => ∃ Bx, Blk W Bx (elL x.2) 30 ∧ a' = { tmps := #[Value.slice a l.length cap, Value.slice a2 m.length cap2, Value.int IntKind.u8 st, undef, undef, Value.pointer (some ⟨w.heap.size, 0, none⟩), Value.pointer (some ⟨w.heap.size + 1, 0, none⟩), Value.pointer (some ⟨w.heap.size + 1 + 1, 0, none⟩), undef, u9, Value.pointer (some ⟨W1.heap.size, 0, none⟩), undef, undef, Value.string { data := (txtL T.els).toArray }, Value.int IntKind.i64 (T.alive : Int), Value.pointer (some ⟨V2.heap.size, 0, none⟩), undef, u17, Value.pointer (some ⟨W6.heap.size, 0, none⟩), .int .i64 (x.1 : Int), .pointer (some ⟨Bx, 0, none⟩), Value.slice a l.length cap, Value.int IntKind.i64 (l.length : Int), Value.bool (decide ((60 : Int) < (l.length : Int))), Value.bool (decide ((60 : Int) < (l.length : Int))), Value.slice a2 m.length cap2, Value.int IntKind.i64 (m.length : Int), Value.bool (decide ((60 : Int) < (m.length : Int))), Value.bool (decide ((60 : Int) < (l.length : Int)) || decide ((60 : Int) < (m.length : Int))), undef, Value.slice a l.length cap, Value.int IntKind.i64 (l.length : Int), Value.int IntKind.i64 (k : Int), Value.bool false, u34, u35, u36, u37, u38, u39, u40, u41, u42, u43, u44, u45, Value.agg #[Value.pointer q], Value.func (Fn.func 15) #[] #[Value.pointer (some ⟨W1.heap.size + 1, 0, none⟩)], Value.bool false, Value.agg #[Value.pointer q], Value.func (Fn.func 15) #[] #[Value.pointer (some ⟨W1.heap.size + 1 + 1, 0, none⟩)], undef, undef, undef, undef, undef, undef, Value.agg #[Value.pointer q], Value.string { data := (txtL T.els).toArray }, Value.agg #[Value.pointer q], Value.int IntKind.i64 (T.alive : Int), Value.agg #[Value.pointer q], Value.slice a2 m.length cap2, Value.int IntKind.i64 (m.length : Int), Value.int IntKind.i64 (kk : Int), Value.bool false, u66, u67, u68, u69, u70, u71, u72, u73, u74, u75, u76, u77, u78, u79, u80, u81, u82, u83, u84, u85, u86, u87, u88, Value.agg #[Value.pointer q], Value.func (Fn.func 15) #[] #[Value.pointer (some ⟨W6.heap.size + 1, 0, none⟩)], .int .i64 (x.1 : Int), .agg #[.int .i64 x.2.c, .int .i64 x.2.s, .int .i32 x.2.ch, .bool x.2.d], undef, undef, undef, undef, undef, undef, undef, undef, undef, undef, undef, undef, undef, undef, undef, undef, undef, undef, undef, undef, undef, undef, undef, undef, undef, undef, undef, undef, undef, undef, undef, undef, undef, undef, undef, undef, undef, undef, undef, undef, undef, undef, undef, undef, undef, undef, undef, undef], defers := [] })
              (fun x a' _ W W' row hs hg hr => by obtain ⟨Bx, hb, he⟩ := hs; exact ⟨Bx, hb.grown hg (fun r e => (hr r e).2), he⟩)
              ?assign2 ?body2 ?done2 ?stop2
            case assign2 =>
              rintro l' pre x W K ⟨⟨hi1, hi2⟩, hi3⟩ hK
              gi_wp2
              exact hK _ _ ((KeepsOthers.alloc _ _).from _) ((Below.refl _ W).alloc hi3.size _) ⟨⟨hi1.alloc _, hi2⟩, hi3.alloc hi3.size _⟩ ⟨W.heap.size, Blk.start _ _ _, rfl⟩
            case stop2 =>
              rintro D2 c pre W hD2 hpre (⟨rfl, hno⟩ | ⟨rfl, ⟨hm1, hm2⟩, hb9⟩) hK2
              · exact absurd hpre hno
              · have hle : pre.length ≤ T.size := by have := hpre.length_le; rw [idx_length, Tr.els_length] at this; exact this
                rw [hm2] at hm1
                have HF := Lib.hid (SF.of (D2 := D2) (HB.out.next hb9) hm1 hK2 hts (by have := HB.out.bk.lt; omega))
                have hn2 : st + 1 ≤ (T.size : Int) := by omega
                clear hm1 hm2 hb9 hK2 hpre hle
                have s0 : IntKind.i64.wrap st = st := IntWalk.i64_in _ (by omega)
                have s1 : IntKind.i64.wrap (st + 1) = st + 1 := IntWalk.i64_in _ (by omega)
                have hdd := Lib.hid (show D1 < D2 by have := (Array.getElem?_eq_some_iff.1 HB.out.dk).1; omega)
                clear hbt6 hbm6 hb8 hz8 hmx HB
                refine wpIn_wide.2 ?_
                go_wp2_with fail
                refine wp_region_noPanic ?_
                refine wp_region_held_drew (S := (fun W => W.cell? ⟨w.heap.size + 1 + 1, 0, none⟩ = some (.pointer q) ∧ W.cell? ⟨W1.heap.size, 0, none⟩ = some (.slice ka T.size kc) ∧ W.cell? ⟨W6.heap.size, 0, none⟩ = some (.int .i64 (st + 1)) ∧ W.cell? ⟨w.heap.size, 0, none⟩ = some (.int .u8 st) ∧ W.cell? ⟨w.heap.size + 1, 0, none⟩ = some (cellAt W ⟨w.heap.size + 1, 0, none⟩) ∧ W.frozen? ⟨w.heap.size + 1, 0, none⟩ = false ∧ SF w st q T W1.heap.size W6.heap.size D1 D2 (st + 1) ka kc W)) (by kernel_rfl) ?_ (fun hHeld => ?_)
                · exact (HF.out.next (Below.refl _ _).drew).s
                clear HF
                refine wpAnyH_ready (rs := [0]) (by kernel_rfl) (by simp) ?_
                refine cons1 rfl (fun K hK => ?_) AllReadyH.nil
                go_simp
                refine (awakeC_any _ (HTab.out.next hHeld.2.2.2.2.2.2.bel)).mono ?_
                rintro e X1 ⟨rfl, hb⟩
                go_wp2_with fail
                refine hK.out _ _ ((hHeld.2.2.2.2.2.2.next hb).s) (fun hHeld2 => ?_)
                clear hK K hHeld hb
                have hHeld := hHeld2
                clear hHeld2
                try simp only [Act.put, List.setIfInBounds_toArray, List.set_cons_zero, List.set_cons_succ]
                refine take1 (i := 1) (v := .bool true) rfl (by kernel_rfl) (by kernel_rfl) (by kernel_rfl) (fun _ _ _ h => h) (Or.inl ⟨by rfl, fun w hSw => ?_⟩) hHeld ?_
                · (go_simp)
                try simp only [Act.put, List.setIfInBounds_toArray, List.set_cons_zero, List.set_cons_succ]
                refine take1 (i := 2) (v := .agg #[.pointer q]) rfl (by kernel_rfl) (by kernel_rfl) (by kernel_rfl) (fun _ _ _ h => h) (Or.inl ⟨by rfl, fun w hSw => ?_⟩) hHeld ?_
                · (go_simp)
                try simp only [Act.put, List.setIfInBounds_toArray, List.set_cons_zero, List.set_cons_succ]
                refine take1 (i := 4) (v := .slice ka T.size kc) rfl (by kernel_rfl) (by kernel_rfl) (by kernel_rfl) (fun _ _ _ h => h) (Or.inl ⟨by rfl, fun w hSw => ?_⟩) hHeld ?_
                · (go_simp)
                try simp only [Act.put, List.setIfInBounds_toArray, List.set_cons_zero, List.set_cons_succ]
                refine take1 (i := 5) (v := .int .i64 (T.size : Int)) rfl (by kernel_rfl) (by kernel_rfl) (by kernel_rfl) (fun _ _ _ h => h) (Or.inl ⟨by rfl, fun w hSw => ?_⟩) hHeld ?_
                · (go_simp)
                try simp only [Act.put, List.setIfInBounds_toArray, List.set_cons_zero, List.set_cons_succ]
                refine wpAnyH_ready (rs := [3]) (by kernel_rfl) (by simp) ?_
                refine cons1 rfl (fun K hK => ?_) AllReadyH.nil
                go_simp
                refine (len_any _ hHeld.2.2.2.2.2.2.tr).mono ?_
                rintro e X2 ⟨rfl, hb⟩
                go_wp2_with fail
                refine hK.out _ _ ((hHeld.2.2.2.2.2.2.next hb).s) (fun hHeld2 => ?_)
                clear hK K hHeld hb
                have hHeld := hHeld2
                clear hHeld2
                try simp only [Act.put, List.setIfInBounds_toArray, List.set_cons_zero, List.set_cons_succ]
                refine take1 (i := 6) (v := .bool true) rfl (by kernel_rfl) (by kernel_rfl) (by kernel_rfl) (fun _ _ _ h => h) (Or.inl ⟨by rfl, fun w hSw => ?_⟩) hHeld ?_
                · (go_simp)
                try simp only [Act.put, List.setIfInBounds_toArray, List.set_cons_zero, List.set_cons_succ]
                refine take1 (i := 7) (v := .bool true) rfl (by kernel_rfl) (by kernel_rfl) (by kernel_rfl) (fun _ _ _ h => h) (Or.inl ⟨by rfl, fun w hSw => ?_⟩) hHeld ?_
                · (go_simp)
                try simp only [Act.put, List.setIfInBounds_toArray, List.set_cons_zero, List.set_cons_succ]
                refine take1 (i := 8) (v := .bool true) rfl (by kernel_rfl) (by kernel_rfl) (by kernel_rfl) (fun _ _ _ h => h) (Or.inl ⟨by rfl, fun w hSw => ?_⟩) hHeld ?_
                · (go_simp)
                try simp only [Act.put, List.setIfInBounds_toArray, List.set_cons_zero, List.set_cons_succ]
                refine take1 (i := 9) (v := .agg #[.pointer q]) rfl (by kernel_rfl) (by kernel_rfl) (by kernel_rfl) (fun _ _ _ h => h) (Or.inl ⟨by rfl, fun w hSw => ?_⟩) hHeld ?_
                · (go_simp)
                try simp only [Act.put, List.setIfInBounds_toArray, List.set_cons_zero, List.set_cons_succ]
                refine take1 (i := 11) (v := .string ⟨(txtL T.els).toArray⟩) rfl (by kernel_rfl) (by kernel_rfl) (by kernel_rfl) (fun _ _ _ h => h) (Or.inl ⟨by rfl, fun w hSw => ?_⟩) hHeld ?_
                · (go_simp)
                try simp only [Act.put, List.setIfInBounds_toArray, List.set_cons_zero, List.set_cons_succ]
                refine wpAnyH_ready (rs := [10]) (by kernel_rfl) (by simp) ?_
                refine cons1 rfl (fun K hK => ?_) AllReadyH.nil
                go_simp
                refine (text_any _ hHeld.2.2.2.2.2.2.tr (by omega)).mono ?_
                rintro e X3 ⟨rfl, hb⟩
                go_wp2_with fail
                refine hK.out _ _ ((hHeld.2.2.2.2.2.2.next hb).s) (fun hHeld2 => ?_)
                clear hK K hHeld hb
                have hHeld := hHeld2
                clear hHeld2
                try simp only [Act.put, List.setIfInBounds_toArray, List.set_cons_zero, List.set_cons_succ]
                refine take1 (i := 12) (v := .bool true) rfl (by kernel_rfl) (by kernel_rfl) (by kernel_rfl) (fun _ _ _ h => h) (Or.inl ⟨by rfl, fun w hSw => ?_⟩) hHeld ?_
                · (go_simp)
                try simp only [Act.put, List.setIfInBounds_toArray, List.set_cons_zero, List.set_cons_succ]
                refine take1 (i := 13) (v := .bool true) rfl (by kernel_rfl) (by kernel_rfl) (by kernel_rfl) (fun _ _ _ h => h) (Or.inl ⟨by rfl, fun w hSw => ?_⟩) hHeld ?_
                · (go_simp)
                try simp only [Act.put, List.setIfInBounds_toArray, List.set_cons_zero, List.set_cons_succ]
                refine take1 (i := 14) (v := .bool true) rfl (by kernel_rfl) (by kernel_rfl) (by kernel_rfl) (fun _ _ _ h => h) (Or.inl ⟨by rfl, fun w hSw => ?_⟩) hHeld ?_
                · (go_simp)
                try simp only [Act.put, List.setIfInBounds_toArray, List.set_cons_zero, List.set_cons_succ]
                refine take1 (i := 15) (v := .agg #[.pointer q]) rfl (by kernel_rfl) (by kernel_rfl) (by kernel_rfl) (fun _ _ _ h => h) (Or.inl ⟨by rfl, fun w hSw => ?_⟩) hHeld ?_
                · (go_simp)
                try simp only [Act.put, List.setIfInBounds_toArray, List.set_cons_zero, List.set_cons_succ]
                refine take1 (i := 17) (v := .int .i64 (T.alive : Int)) rfl (by kernel_rfl) (by kernel_rfl) (by kernel_rfl) (fun _ _ _ h => h) (Or.inl ⟨by rfl, fun w hSw => ?_⟩) hHeld ?_
                · (go_simp)
                try simp only [Act.put, List.setIfInBounds_toArray, List.set_cons_zero, List.set_cons_succ]
                refine wpAnyH_ready (rs := [16]) (by kernel_rfl) (by simp) ?_
                refine cons1 rfl (fun K hK => ?_) AllReadyH.nil
                go_simp
                refine (aliveRow_any _ hHeld.2.2.2.2.2.2.tr).mono ?_
                rintro e X4 ⟨rfl, hb⟩
                go_wp2_with fail
                refine hK.out _ _ ((hHeld.2.2.2.2.2.2.next hb).s) (fun hHeld2 => ?_)
                clear hK K hHeld hb
                have hHeld := hHeld2
                clear hHeld2
                try simp only [Act.put, List.setIfInBounds_toArray, List.set_cons_zero, List.set_cons_succ]
                refine take1 (i := 18) (v := .bool true) rfl (by kernel_rfl) (by kernel_rfl) (by kernel_rfl) (fun _ _ _ h => h) (Or.inl ⟨by rfl, fun w hSw => ?_⟩) hHeld ?_
                · (go_simp)
                try simp only [Act.put, List.setIfInBounds_toArray, List.set_cons_zero, List.set_cons_succ]
                refine take1 (i := 19) (v := .bool true) rfl (by kernel_rfl) (by kernel_rfl) (by kernel_rfl) (fun _ _ _ h => h) (Or.inl ⟨by rfl, fun w hSw => ?_⟩) hHeld ?_
                · (go_simp)
                try simp only [Act.put, List.setIfInBounds_toArray, List.set_cons_zero, List.set_cons_succ]
                refine take1 (i := 20) (v := .bool true) rfl (by kernel_rfl) (by kernel_rfl) (by kernel_rfl) (fun _ _ _ h => h) (Or.inl ⟨by rfl, fun w hSw => ?_⟩) hHeld ?_
                · (go_simp)
                try simp only [Act.put, List.setIfInBounds_toArray, List.set_cons_zero, List.set_cons_succ]
                refine take1 (i := 21) (v := .int .i64 (st + 1)) rfl (by kernel_rfl) (by kernel_rfl) (by kernel_rfl) (fun _ _ _ h => h) (Or.inl ⟨by rfl, fun w hSw => ?_⟩) hHeld ?_
                · (go_simp)
                try simp only [Act.put, List.setIfInBounds_toArray, List.set_cons_zero, List.set_cons_succ]
                refine take1 (i := 22) (v := .slice ka T.size kc) rfl (by kernel_rfl) (by kernel_rfl) (by kernel_rfl) (fun _ _ _ h => h) (Or.inl ⟨by rfl, fun w hSw => ?_⟩) hHeld ?_
                · (go_simp)
                try simp only [Act.put, List.setIfInBounds_toArray, List.set_cons_zero, List.set_cons_succ]
                refine take1 (i := 23) (v := .int .i64 (T.size : Int)) rfl (by kernel_rfl) (by kernel_rfl) (by kernel_rfl) (fun _ _ _ h => h) (Or.inl ⟨by rfl, fun w hSw => ?_⟩) hHeld ?_
                · (go_simp)
                try simp only [Act.put, List.setIfInBounds_toArray, List.set_cons_zero, List.set_cons_succ]
                refine take1 (i := 24) (v := .int .u8 st) rfl (by kernel_rfl) (by kernel_rfl) (by kernel_rfl) (fun _ _ _ h => h) (Or.inl ⟨by rfl, fun w hSw => ?_⟩) hHeld ?_
                · (go_simp)
                try simp only [Act.put, List.setIfInBounds_toArray, List.set_cons_zero, List.set_cons_succ]
                refine take1 (i := 25) (v := .int .i64 st) rfl (by kernel_rfl) (by kernel_rfl) (by kernel_rfl) (fun _ _ _ h => h) (Or.inl ⟨by rfl, fun w hSw => ?_⟩) hHeld ?_
                · (go_simp)
                try simp only [Act.put, List.setIfInBounds_toArray, List.set_cons_zero, List.set_cons_succ]
                refine take1 (i := 26) (v := .int .i64 (st + 1)) rfl (by kernel_rfl) (by kernel_rfl) (by kernel_rfl) (fun _ _ _ h => h) (Or.inl ⟨by rfl, fun w hSw => ?_⟩) hHeld ?_
                · (go_simp)
                try simp only [Act.put, List.setIfInBounds_toArray, List.set_cons_zero, List.set_cons_succ]
                refine take1 (i := 27) (v := .int .i64 (st + 1)) rfl (by kernel_rfl) (by kernel_rfl) (by kernel_rfl) (fun _ _ _ h => h) (Or.inl ⟨by rfl, fun w hSw => ?_⟩) hHeld ?_
                · (go_simp; omega)
                try simp only [Act.put, List.setIfInBounds_toArray, List.set_cons_zero, List.set_cons_succ]
                refine take1 (i := 28) (v := .bool true) rfl (by kernel_rfl) (by kernel_rfl) (by kernel_rfl) (fun _ _ _ h => h) (Or.inl ⟨by rfl, fun w hSw => ?_⟩) hHeld ?_
                · (go_simp)
                try simp only [Act.put, List.setIfInBounds_toArray, List.set_cons_zero, List.set_cons_succ]
                refine take1 (i := 29) (v := .bool true) rfl (by kernel_rfl) (by kernel_rfl) (by kernel_rfl) (fun _ _ _ h => h) (Or.inl ⟨by rfl, fun w hSw => ?_⟩) hHeld ?_
                · (go_simp)
                try simp only [Act.put, List.setIfInBounds_toArray, List.set_cons_zero, List.set_cons_succ]
                refine wpAnyH_ready (rs := [30]) (by kernel_rfl) (by simp) ?_
                refine cons1 rfl (fun K hK => ?_) AllReadyH.nil
                go_simp
                obtain ⟨v0, hv0⟩ := hHeld.2.2.2.2.2.2.rb
                have HR := Lib.hid (hv0.set 0 (.bool true))
                clear hv0
                go_wp2_with fail
                refine hK.out _ _ ((hHeld.2.2.2.2.2.2.put _).s) (fun hHeld2 => ?_)
                clear hK K hHeld 
                have hHeld := hHeld2
                clear hHeld2
                try simp only [Act.put, List.setIfInBounds_toArray, List.set_cons_zero, List.set_cons_succ]
                refine wpAnyH_done (by kernel_rfl) ?_ _
                refine NoPanic.normal ?_
                have HF := Lib.hid hHeld.2.2.2.2.2.2
                clear hHeld
                have hd1 : ((X4.setCell ⟨w.heap.size + 1, 0, none⟩ (.bool true)).putObj D2 (.deferred none)).heap[D1]? = some (.deferred (some [])) := (World.putObj_heap_other (by have := hdd.out; omega)).trans HF.out.d1
                have hD1 := HDs.out
                have hD2 := hdd.out
                have hres := ((HR.out.putObj (D := D2) (by omega) (.deferred none)).putObj (D := D1) (by omega) (.deferred none)).cell 0 rfl
                have hbe : Below w.heap.size w (((X4.setCell ⟨w.heap.size + 1, 0, none⟩ (.bool true)).putObj D2 (.deferred none)).putObj D1 (.deferred none)) := (HF.out.bel.trans (belowK_b (w := w) (Nat.le_refl _) _ D2 _ _ (by omega) HF.out.d2 rfl rfl)).trans (belowK_b (w := w) (Nat.le_refl _) _ D1 _ _ (by omega) hd1 rfl rfl)
                have hd2 := HF.out.d2
                go_wp2_with fail
                refine ⟨by simp, .inl ⟨_, _, rfl, run_takeDeferred hd2, ?_⟩⟩
                refine ⟨by simp, .inl ⟨_, _, rfl, run_takeDeferred hd1, ?_⟩⟩
                exact ⟨.bool true, by simp [results, Tryd.results3, go_sem, hres], rfl, hbe⟩
            case body2 =>
              rintro l' pre x a' W hl' - ⟨⟨hi1, hi2⟩, hi3⟩ ⟨Bx, hb, rfl⟩ hlt'
              have hSW := HB.out.next hi3
              have e0 := hb.cell 0 rfl
              have e1 := hb.cell 1 rfl
              have e2 := hb.cell 2 rfl
              have e3 := hb.cell 3 rfl
              have hkc := hSW.bk.cell 0 rfl
              have hm0 := hi1.cell 0 rfl
              have hmf := hi1.free 0
              have hr0 := hSW.sa.br.cell 0 rfl
              have hrf := hSW.sa.br.free 0
              have hsc := hSW.sa.bs.cell 0 rfl
              have hne : w.heap.size ≠ W6.heap.size := by omega
              have hs' : ∀ v, (W.setCell ⟨W6.heap.size, 0, none⟩ v).cell? ⟨w.heap.size, 0, none⟩ = some (.int .u8 st) := fun v => (hSW.sa.bs.other ⟨W6.heap.size, 0, none⟩ hne v).cell 0 rfl
              have HH := Lib.hid (And.intro hSW (And.intro hi1 hi3))
              clear hSW hi1 hi3 hb
              obtain ⟨i, x⟩ := x
              dsimp only at *
              by_cases hA : i < T.size
              · have hA' : i < T.els.length := by rw [Tr.els_length]; exact hA
                obtain ⟨g, rfl, hgl, hgc⟩ := HH.out.1.kept.cell i hA'
                have g0 := hgc 0 (by omega)
                have g1 := hgc 1 (by omega)
                have g2 := hgc 2 (by omega)
                have g3 := hgc 3 (by omega)
                clear hgc
                simp only [elL, List.getElem?_cons_zero, List.getElem?_cons_succ, Nat.add_zero] at g0 g1 g2 g3
                have hiz : (i : Int) < (T.size : Int) := by omega
                generalize hy : T.els[i] = y at *
                have HY := Lib.hid hy
                clear hy
                by_cases hE : y = x
                · subst hE
                  gi_wp2
                  refine region_round (S := fun W' => W' = W.drew) hmx (by kernel_rfl) rfl (fun hHeld => ?_)
                  refine take1 (i := 0) (v := .int .i64 (i : Int)) rfl (by kernel_rfl) (by kernel_rfl) (by kernel_rfl) (fun _ _ _ h => h) (Or.inl ⟨by rfl, fun w hSw => ?_⟩) hHeld ?_
                  · (go_simp)
                  try simp only [Act.put, List.setIfInBounds_toArray, List.set_cons_zero, List.set_cons_succ]
                  refine take1 (i := 1) (v := .slice (some ⟨g, 0, none⟩) T.size kc) rfl (by kernel_rfl) (by kernel_rfl) (by kernel_rfl) (fun _ _ _ h => h) (Or.inl ⟨by rfl, fun w hSw => ?_⟩) hHeld ?_
                  · (go_simp)
                  try simp only [Act.put, List.setIfInBounds_toArray, List.set_cons_zero, List.set_cons_succ]
                  refine take1 (i := 2) (v := .int .i64 (T.size : Int)) rfl (by kernel_rfl) (by kernel_rfl) (by kernel_rfl) (fun _ _ _ h => h) (Or.inl ⟨by rfl, fun w hSw => ?_⟩) hHeld ?_
                  · (go_simp)
                  try simp only [Act.put, List.setIfInBounds_toArray, List.set_cons_zero, List.set_cons_succ]
                  refine take1 (i := 3) (v := .bool false) rfl (by kernel_rfl) (by kernel_rfl) (by kernel_rfl) (fun _ _ _ h => h) (Or.inl ⟨by rfl, fun w hSw => ?_⟩) hHeld ?_
                  · (go_simp)
                  try simp only [Act.put, List.setIfInBounds_toArray, List.set_cons_zero, List.set_cons_succ]
                  refine take1 (i := 4) (v := .bool false) rfl (by kernel_rfl) (by kernel_rfl) (by kernel_rfl) (fun _ _ _ h => h) (Or.inl ⟨by rfl, fun w hSw => ?_⟩) hHeld ?_
                  · (go_simp)
                  try simp only [Act.put, List.setIfInBounds_toArray, List.set_cons_zero, List.set_cons_succ]
                  refine take1 (i := 5) (v := .agg #[.int .i64 y.c, .int .i64 y.s, .int .i32 y.ch, .bool y.d]) rfl (by kernel_rfl) (by kernel_rfl) (by kernel_rfl) (fun _ _ _ h => h) (Or.inl ⟨by rfl, fun w hSw => ?_⟩) hHeld ?_
                  · (go_simp)
                  try simp only [Act.put, List.setIfInBounds_toArray, List.set_cons_zero, List.set_cons_succ]
                  refine take1 (i := 6) (v := .slice (some ⟨g, 0, none⟩) T.size kc) rfl (by kernel_rfl) (by kernel_rfl) (by kernel_rfl) (fun _ _ _ h => h) (Or.inl ⟨by rfl, fun w hSw => ?_⟩) hHeld ?_
                  · (go_simp)
                  try simp only [Act.put, List.setIfInBounds_toArray, List.set_cons_zero, List.set_cons_succ]
                  refine take1 (i := 7) (v := .int .i64 (i : Int)) rfl (by kernel_rfl) (by kernel_rfl) (by kernel_rfl) (fun _ _ _ h => h) (Or.inl ⟨by rfl, fun w hSw => ?_⟩) hHeld ?_
                  · (go_simp)
                  try simp only [Act.put, List.setIfInBounds_toArray, List.set_cons_zero, List.set_cons_succ]
                  refine take1 (i := 8) (v := .pointer (some ⟨g, i * 4, none⟩)) rfl (by kernel_rfl) (by kernel_rfl) (by kernel_rfl) (fun _ _ _ h => h) (Or.inl ⟨by rfl, fun w hSw => ?_⟩) hHeld ?_
                  · (go_simp)
                  try simp only [Act.put, List.setIfInBounds_toArray, List.set_cons_zero, List.set_cons_succ]
                  refine take1 (i := 9) (v := .agg #[.int .i64 y.c, .int .i64 y.s, .int .i32 y.ch, .bool y.d]) rfl (by kernel_rfl) (by kernel_rfl) (by kernel_rfl) (fun _ _ _ h => h) (Or.inl ⟨by rfl, fun w hSw => ?_⟩) hHeld ?_
                  · (go_simp)
                  try simp only [Act.put, List.setIfInBounds_toArray, List.set_cons_zero, List.set_cons_succ]
                  refine take1 (i := 10) (v := .bool false) rfl (by kernel_rfl) (by kernel_rfl) (by kernel_rfl) (fun _ _ _ h => h) (Or.inl ⟨by rfl, fun w hSw => ?_⟩) hHeld ?_
                  · (go_simp)
                  try simp only [Act.put, List.setIfInBounds_toArray, List.set_cons_zero, List.set_cons_succ]
                  refine take1 (i := 11) (v := .bool false) rfl (by kernel_rfl) (by kernel_rfl) (by kernel_rfl) (fun _ _ _ h => h) (Or.inl ⟨by rfl, fun w hSw => ?_⟩) hHeld ?_
                  · (go_simp)
                  try simp only [Act.put, List.setIfInBounds_toArray, List.set_cons_zero, List.set_cons_succ]
                  refine wpAnyH_done (by kernel_rfl) ?_ _
                  refine OnlyN.normal ?_
                  clear hHeld
                  by_cases hgt : st < (pre.length : Int) + 1
                  · gi_wp2
                    refine ⟨((KeepsOthers.setCell _ _ _).trans (KeepsOthers.drew _)).from _, Or.inr ⟨rfl, ⟨?_, by rw [snoc_len]; omega⟩, ?_⟩⟩
                    · rw [snoc_len]; exact (HH.out.2.1.set 0 _).drew
                    · exact (HH.out.2.2.setCell (p := ⟨W6.heap.size, 0, none⟩) (Nat.le_refl _) _).drew
                  · gi_wp2
                    refine ⟨((KeepsOthers.setCell _ _ _).trans (KeepsOthers.drew _)).from _, ((Below.refl _ W).setCell (p := ⟨W6.heap.size, 0, none⟩) (Nat.le_refl _) _).drew, ⟨?_, by rw [snoc_len]; omega⟩, ?_⟩
                    · rw [snoc_len]; exact (HH.out.2.1.set 0 _).drew
                    · exact (HH.out.2.2.setCell (p := ⟨W6.heap.size, 0, none⟩) (Nat.le_refl _) _).drew
                · gi_wp2
                  refine region_round (S := fun W' => W' = W.drew) hmx (by kernel_rfl) rfl (fun hHeld => ?_)
                  refine take1 (i := 0) (v := .int .i64 (i : Int)) rfl (by kernel_rfl) (by kernel_rfl) (by kernel_rfl) (fun _ _ _ h => h) (Or.inl ⟨by rfl, fun w hSw => ?_⟩) hHeld ?_
                  · (go_simp)
                  try simp only [Act.put, List.setIfInBounds_toArray, List.set_cons_zero, List.set_cons_succ]
                  refine take1 (i := 1) (v := .slice (some ⟨g, 0, none⟩) T.size kc) rfl (by kernel_rfl) (by kernel_rfl) (by kernel_rfl) (fun _ _ _ h => h) (Or.inl ⟨by rfl, fun w hSw => ?_⟩) hHeld ?_
                  · (go_simp)
                  try simp only [Act.put, List.setIfInBounds_toArray, List.set_cons_zero, List.set_cons_succ]
                  refine take1 (i := 2) (v := .int .i64 (T.size : Int)) rfl (by kernel_rfl) (by kernel_rfl) (by kernel_rfl) (fun _ _ _ h => h) (Or.inl ⟨by rfl, fun w hSw => ?_⟩) hHeld ?_
                  · (go_simp)
                  try simp only [Act.put, List.setIfInBounds_toArray, List.set_cons_zero, List.set_cons_succ]
                  refine take1 (i := 3) (v := .bool false) rfl (by kernel_rfl) (by kernel_rfl) (by kernel_rfl) (fun _ _ _ h => h) (Or.inl ⟨by rfl, fun w hSw => ?_⟩) hHeld ?_
                  · (go_simp)
                  try simp only [Act.put, List.setIfInBounds_toArray, List.set_cons_zero, List.set_cons_succ]
                  refine take1 (i := 4) (v := .bool false) rfl (by kernel_rfl) (by kernel_rfl) (by kernel_rfl) (fun _ _ _ h => h) (Or.inl ⟨by rfl, fun w hSw => ?_⟩) hHeld ?_
                  · (go_simp)
                  try simp only [Act.put, List.setIfInBounds_toArray, List.set_cons_zero, List.set_cons_succ]
                  refine take1 (i := 5) (v := .agg #[.int .i64 x.c, .int .i64 x.s, .int .i32 x.ch, .bool x.d]) rfl (by kernel_rfl) (by kernel_rfl) (by kernel_rfl) (fun _ _ _ h => h) (Or.inl ⟨by rfl, fun w hSw => ?_⟩) hHeld ?_
                  · (go_simp)
                  try simp only [Act.put, List.setIfInBounds_toArray, List.set_cons_zero, List.set_cons_succ]
                  refine take1 (i := 6) (v := .slice (some ⟨g, 0, none⟩) T.size kc) rfl (by kernel_rfl) (by kernel_rfl) (by kernel_rfl) (fun _ _ _ h => h) (Or.inl ⟨by rfl, fun w hSw => ?_⟩) hHeld ?_
                  · (go_simp)
                  try simp only [Act.put, List.setIfInBounds_toArray, List.set_cons_zero, List.set_cons_succ]
                  refine take1 (i := 7) (v := .int .i64 (i : Int)) rfl (by kernel_rfl) (by kernel_rfl) (by kernel_rfl) (fun _ _ _ h => h) (Or.inl ⟨by rfl, fun w hSw => ?_⟩) hHeld ?_
                  · (go_simp)
                  try simp only [Act.put, List.setIfInBounds_toArray, List.set_cons_zero, List.set_cons_succ]
                  refine take1 (i := 8) (v := .pointer (some ⟨g, i * 4, none⟩)) rfl (by kernel_rfl) (by kernel_rfl) (by kernel_rfl) (fun _ _ _ h => h) (Or.inl ⟨by rfl, fun w hSw => ?_⟩) hHeld ?_
                  · (go_simp)
                  try simp only [Act.put, List.setIfInBounds_toArray, List.set_cons_zero, List.set_cons_succ]
                  refine take1 (i := 9) (v := .agg #[.int .i64 y.c, .int .i64 y.s, .int .i32 y.ch, .bool y.d]) rfl (by kernel_rfl) (by kernel_rfl) (by kernel_rfl) (fun _ _ _ h => h) (Or.inl ⟨by rfl, fun w hSw => ?_⟩) hHeld ?_
                  · (go_simp)
                  try simp only [Act.put, List.setIfInBounds_toArray, List.set_cons_zero, List.set_cons_succ]
                  refine take1 (i := 10) (v := .bool true) rfl (by kernel_rfl) (by kernel_rfl) (by kernel_rfl) (fun _ _ _ h => h) (Or.inl ⟨by rfl, fun w hSw => ?_⟩) hHeld ?_
                  · (by_cases h1 : x.c = y.c <;> by_cases h2 : x.s = y.s <;> by_cases h3 : x.ch = y.ch <;> by_cases h4 : x.d = y.d <;> go_simp <;> exact absurd (El.same h1 h2 h3 h4).symm hE)
                  try simp only [Act.put, List.setIfInBounds_toArray, List.set_cons_zero, List.set_cons_succ]
                  refine take1 (i := 11) (v := .bool true) rfl (by kernel_rfl) (by kernel_rfl) (by kernel_rfl) (fun _ _ _ h => h) (Or.inl ⟨by rfl, fun w hSw => ?_⟩) hHeld ?_
                  · (go_simp)
                  try simp only [Act.put, List.setIfInBounds_toArray, List.set_cons_zero, List.set_cons_succ]
                  refine wpAnyH_done (by kernel_rfl) ?_ _
                  refine OnlyN.normal ?_
                  clear hHeld
                  gi_wp2
                  refine ⟨((KeepsOthers.setCell _ _ _).trans (KeepsOthers.drew _)).from _, Or.inl ⟨rfl, not_prefix fun hi e => hE ?_⟩⟩
                  rw [← HY.out]; exact e
              · have hiz : (T.size : Int) ≤ (i : Int) := by omega
                have hA2 : ¬ (i : Int) < (T.size : Int) := by omega
                gi_wp2
                refine region_round (S := fun W' => W' = W.drew) hmx (by kernel_rfl) rfl (fun hHeld => ?_)
                refine take1 (i := 0) (v := .int .i64 (i : Int)) rfl (by kernel_rfl) (by kernel_rfl) (by kernel_rfl) (fun _ _ _ h => h) (Or.inl ⟨by rfl, fun w hSw => ?_⟩) hHeld ?_
                · (go_simp)
                try simp only [Act.put, List.setIfInBounds_toArray, List.set_cons_zero, List.set_cons_succ]
                refine take1 (i := 1) (v := .slice ka T.size kc) rfl (by kernel_rfl) (by kernel_rfl) (by kernel_rfl) (fun _ _ _ h => h) (Or.inl ⟨by rfl, fun w hSw => ?_⟩) hHeld ?_
                · (go_simp)
                try simp only [Act.put, List.setIfInBounds_toArray, List.set_cons_zero, List.set_cons_succ]
                refine take1 (i := 2) (v := .int .i64 (T.size : Int)) rfl (by kernel_rfl) (by kernel_rfl) (by kernel_rfl) (fun _ _ _ h => h) (Or.inl ⟨by rfl, fun w hSw => ?_⟩) hHeld ?_
                · (go_simp)
                try simp only [Act.put, List.setIfInBounds_toArray, List.set_cons_zero, List.set_cons_succ]
                refine take1 (i := 3) (v := .bool true) rfl (by kernel_rfl) (by kernel_rfl) (by kernel_rfl) (fun _ _ _ h => h) (Or.inl ⟨by rfl, fun w hSw => ?_⟩) hHeld ?_
                · (go_simp)
                try simp only [Act.put, List.setIfInBounds_toArray, List.set_cons_zero, List.set_cons_succ]
                refine take1 (i := 4) (v := .bool true) rfl (by kernel_rfl) (by kernel_rfl) (by kernel_rfl) (fun _ _ _ h => h) (Or.inl ⟨by rfl, fun w hSw => ?_⟩) hHeld ?_
                · (go_simp)
                try simp only [Act.put, List.setIfInBounds_toArray, List.set_cons_zero, List.set_cons_succ]
                refine take1 (i := 5) (v := undef) rfl (by kernel_rfl) (by kernel_rfl) (by kernel_rfl) (fun _ _ _ h => h) (Or.inr ⟨by rfl, rfl⟩) hHeld ?_
                try simp only [Act.put, List.setIfInBounds_toArray, List.set_cons_zero, List.set_cons_succ]
                refine take1 (i := 6) (v := undef) rfl (by kernel_rfl) (by kernel_rfl) (by kernel_rfl) (fun _ _ _ h => h) (Or.inr ⟨by rfl, rfl⟩) hHeld ?_
                try simp only [Act.put, List.setIfInBounds_toArray, List.set_cons_zero, List.set_cons_succ]
                refine take1 (i := 7) (v := undef) rfl (by kernel_rfl) (by kernel_rfl) (by kernel_rfl) (fun _ _ _ h => h) (Or.inr ⟨by rfl, rfl⟩) hHeld ?_
                try simp only [Act.put, List.setIfInBounds_toArray, List.set_cons_zero, List.set_cons_succ]
                refine take1 (i := 8) (v := undef) rfl (by kernel_rfl) (by kernel_rfl) (by kernel_rfl) (fun _ _ _ h => h) (Or.inr ⟨by rfl, rfl⟩) hHeld ?_
                try simp only [Act.put, List.setIfInBounds_toArray, List.set_cons_zero, List.set_cons_succ]
                refine take1 (i := 9) (v := undef) rfl (by kernel_rfl) (by kernel_rfl) (by kernel_rfl) (fun _ _ _ h => h) (Or.inr ⟨by rfl, rfl⟩) hHeld ?_
                try simp only [Act.put, List.setIfInBounds_toArray, List.set_cons_zero, List.set_cons_succ]
                refine take1 (i := 10) (v := undef) rfl (by kernel_rfl) (by kernel_rfl) (by kernel_rfl) (fun _ _ _ h => h) (Or.inr ⟨by rfl, rfl⟩) hHeld ?_
                try simp only [Act.put, List.setIfInBounds_toArray, List.set_cons_zero, List.set_cons_succ]
                refine take1 (i := 11) (v := .bool true) rfl (by kernel_rfl) (by kernel_rfl) (by kernel_rfl) (fun _ _ _ h => h) (Or.inl ⟨by rfl, fun w hSw => ?_⟩) hHeld ?_
                · (go_simp)
                try simp only [Act.put, List.setIfInBounds_toArray, List.set_cons_zero, List.set_cons_succ]
                refine wpAnyH_done (by kernel_rfl) ?_ _
                refine OnlyN.normal ?_
                clear hHeld
                gi_wp2
                refine ⟨((KeepsOthers.setCell _ _ _).trans (KeepsOthers.drew _)).from _, Or.inl ⟨rfl, not_prefix fun hi _ => ?_⟩⟩
                rw [Tr.els_length] at hi
                omega
            case done2 =>
              rintro D2 ys W hD2 rfl ⟨⟨hm1, hm2⟩, hb9⟩ hK2
              rw [idx_length, Tr.els_length] at hm1 hm2
              have HF := Lib.hid (SF.of (D2 := D2) (HB.out.next hb9) hm1 hK2 hts (by have := HB.out.bk.lt; omega))
              have hn2 : (T.size : Int) ≤ st := hm2
              clear hm1 hm2 hb9 hK2
              have s0 : IntKind.i64.wrap st = st := IntWalk.i64_in _ (by omega)
              have s1 : IntKind.i64.wrap (st + 1) = st + 1 := IntWalk.i64_in _ (by omega)
              have hdd := Lib.hid (show D1 < D2 by have := (Array.getElem?_eq_some_iff.1 HB.out.dk).1; omega)
              clear hbt6 hbm6 hb8 hz8 hmx HB
              go_wp2_with fail
              refine wp_region_noPanic ?_
              refine wp_region_held_drew (S := (fun W => W.cell? ⟨w.heap.size + 1 + 1, 0, none⟩ = some (.pointer q) ∧ W.cell? ⟨W1.heap.size, 0, none⟩ = some (.slice ka T.size kc) ∧ W.cell? ⟨W6.heap.size, 0, none⟩ = some (.int .i64 ((T.size : Int))) ∧ W.cell? ⟨w.heap.size, 0, none⟩ = some (.int .u8 st) ∧ W.cell? ⟨w.heap.size + 1, 0, none⟩ = some (cellAt W ⟨w.heap.size + 1, 0, none⟩) ∧ W.frozen? ⟨w.heap.size + 1, 0, none⟩ = false ∧ SF w st q T W1.heap.size W6.heap.size D1 D2 ((T.size : Int)) ka kc W)) (by kernel_rfl) ?_ (fun hHeld => ?_)
              · exact (HF.out.next (Below.refl _ _).drew).s
              clear HF
              refine wpAnyH_ready (rs := [0]) (by kernel_rfl) (by simp) ?_
              refine cons1 rfl (fun K hK => ?_) AllReadyH.nil
              go_simp
              refine (awakeC_any _ (HTab.out.next hHeld.2.2.2.2.2.2.bel)).mono ?_
              rintro e X1 ⟨rfl, hb⟩
              go_wp2_with fail
              refine hK.out _ _ ((hHeld.2.2.2.2.2.2.next hb).s) (fun hHeld2 => ?_)
              clear hK K hHeld hb
              have hHeld := hHeld2
              clear hHeld2
              try simp only [Act.put, List.setIfInBounds_toArray, List.set_cons_zero, List.set_cons_succ]
              refine take1 (i := 1) (v := .bool true) rfl (by kernel_rfl) (by kernel_rfl) (by kernel_rfl) (fun _ _ _ h => h) (Or.inl ⟨by rfl, fun w hSw => ?_⟩) hHeld ?_
              · (go_simp)
              try simp only [Act.put, List.setIfInBounds_toArray, List.set_cons_zero, List.set_cons_succ]
              refine take1 (i := 2) (v := .agg #[.pointer q]) rfl (by kernel_rfl) (by kernel_rfl) (by kernel_rfl) (fun _ _ _ h => h) (Or.inl ⟨by rfl, fun w hSw => ?_⟩) hHeld ?_
              · (go_simp)
              try simp only [Act.put, List.setIfInBounds_toArray, List.set_cons_zero, List.set_cons_succ]
              refine take1 (i := 4) (v := .slice ka T.size kc) rfl (by kernel_rfl) (by kernel_rfl) (by kernel_rfl) (fun _ _ _ h => h) (Or.inl ⟨by rfl, fun w hSw => ?_⟩) hHeld ?_
              · (go_simp)
              try simp only [Act.put, List.setIfInBounds_toArray, List.set_cons_zero, List.set_cons_succ]
              refine take1 (i := 5) (v := .int .i64 (T.size : Int)) rfl (by kernel_rfl) (by kernel_rfl) (by kernel_rfl) (fun _ _ _ h => h) (Or.inl ⟨by rfl, fun w hSw => ?_⟩) hHeld ?_
              · (go_simp)
              try simp only [Act.put, List.setIfInBounds_toArray, List.set_cons_zero, List.set_cons_succ]
              refine wpAnyH_ready (rs := [3]) (by kernel_rfl) (by simp) ?_
              refine cons1 rfl (fun K hK => ?_) AllReadyH.nil
              go_simp
              refine (len_any _ hHeld.2.2.2.2.2.2.tr).mono ?_
              rintro e X2 ⟨rfl, hb⟩
              go_wp2_with fail
              refine hK.out _ _ ((hHeld.2.2.2.2.2.2.next hb).s) (fun hHeld2 => ?_)
              clear hK K hHeld hb
              have hHeld := hHeld2
              clear hHeld2
              try simp only [Act.put, List.setIfInBounds_toArray, List.set_cons_zero, List.set_cons_succ]
              refine take1 (i := 6) (v := .bool true) rfl (by kernel_rfl) (by kernel_rfl) (by kernel_rfl) (fun _ _ _ h => h) (Or.inl ⟨by rfl, fun w hSw => ?_⟩) hHeld ?_
              · (go_simp)
              try simp only [Act.put, List.setIfInBounds_toArray, List.set_cons_zero, List.set_cons_succ]
              refine take1 (i := 7) (v := .bool true) rfl (by kernel_rfl) (by kernel_rfl) (by kernel_rfl) (fun _ _ _ h => h) (Or.inl ⟨by rfl, fun w hSw => ?_⟩) hHeld ?_
              · (go_simp)
              try simp only [Act.put, List.setIfInBounds_toArray, List.set_cons_zero, List.set_cons_succ]
              refine take1 (i := 8) (v := .bool true) rfl (by kernel_rfl) (by kernel_rfl) (by kernel_rfl) (fun _ _ _ h => h) (Or.inl ⟨by rfl, fun w hSw => ?_⟩) hHeld ?_
              · (go_simp)
              try simp only [Act.put, List.setIfInBounds_toArray, List.set_cons_zero, List.set_cons_succ]
              refine take1 (i := 9) (v := .agg #[.pointer q]) rfl (by kernel_rfl) (by kernel_rfl) (by kernel_rfl) (fun _ _ _ h => h) (Or.inl ⟨by rfl, fun w hSw => ?_⟩) hHeld ?_
              · (go_simp)
              try simp only [Act.put, List.setIfInBounds_toArray, List.set_cons_zero, List.set_cons_succ]
              refine take1 (i := 11) (v := .string ⟨(txtL T.els).toArray⟩) rfl (by kernel_rfl) (by kernel_rfl) (by kernel_rfl) (fun _ _ _ h => h) (Or.inl ⟨by rfl, fun w hSw => ?_⟩) hHeld ?_
              · (go_simp)
              try simp only [Act.put, List.setIfInBounds_toArray, List.set_cons_zero, List.set_cons_succ]
              refine wpAnyH_ready (rs := [10]) (by kernel_rfl) (by simp) ?_
              refine cons1 rfl (fun K hK => ?_) AllReadyH.nil
              go_simp
              refine (text_any _ hHeld.2.2.2.2.2.2.tr (by omega)).mono ?_
              rintro e X3 ⟨rfl, hb⟩
              go_wp2_with fail
              refine hK.out _ _ ((hHeld.2.2.2.2.2.2.next hb).s) (fun hHeld2 => ?_)
              clear hK K hHeld hb
              have hHeld := hHeld2
              clear hHeld2
              try simp only [Act.put, List.setIfInBounds_toArray, List.set_cons_zero, List.set_cons_succ]
              refine take1 (i := 12) (v := .bool true) rfl (by kernel_rfl) (by kernel_rfl) (by kernel_rfl) (fun _ _ _ h => h) (Or.inl ⟨by rfl, fun w hSw => ?_⟩) hHeld ?_
              · (go_simp)
              try simp only [Act.put, List.setIfInBounds_toArray, List.set_cons_zero, List.set_cons_succ]
              refine take1 (i := 13) (v := .bool true) rfl (by kernel_rfl) (by kernel_rfl) (by kernel_rfl) (fun _ _ _ h => h) (Or.inl ⟨by rfl, fun w hSw => ?_⟩) hHeld ?_
              · (go_simp)
              try simp only [Act.put, List.setIfInBounds_toArray, List.set_cons_zero, List.set_cons_succ]
              refine take1 (i := 14) (v := .bool true) rfl (by kernel_rfl) (by kernel_rfl) (by kernel_rfl) (fun _ _ _ h => h) (Or.inl ⟨by rfl, fun w hSw => ?_⟩) hHeld ?_
              · (go_simp)
              try simp only [Act.put, List.setIfInBounds_toArray, List.set_cons_zero, List.set_cons_succ]
              refine take1 (i := 15) (v := .agg #[.pointer q]) rfl (by kernel_rfl) (by kernel_rfl) (by kernel_rfl) (fun _ _ _ h => h) (Or.inl ⟨by rfl, fun w hSw => ?_⟩) hHeld ?_
              · (go_simp)
              try simp only [Act.put, List.setIfInBounds_toArray, List.set_cons_zero, List.set_cons_succ]
              refine take1 (i := 17) (v := .int .i64 (T.alive : Int)) rfl (by kernel_rfl) (by kernel_rfl) (by kernel_rfl) (fun _ _ _ h => h) (Or.inl ⟨by rfl, fun w hSw => ?_⟩) hHeld ?_
              · (go_simp)
              try simp only [Act.put, List.setIfInBounds_toArray, List.set_cons_zero, List.set_cons_succ]
              refine wpAnyH_ready (rs := [16]) (by kernel_rfl) (by simp) ?_
              refine cons1 rfl (fun K hK => ?_) AllReadyH.nil
              go_simp
              refine (aliveRow_any _ hHeld.2.2.2.2.2.2.tr).mono ?_
              rintro e X4 ⟨rfl, hb⟩
              go_wp2_with fail
              refine hK.out _ _ ((hHeld.2.2.2.2.2.2.next hb).s) (fun hHeld2 => ?_)
              clear hK K hHeld hb
              have hHeld := hHeld2
              clear hHeld2
              try simp only [Act.put, List.setIfInBounds_toArray, List.set_cons_zero, List.set_cons_succ]
              refine take1 (i := 18) (v := .bool true) rfl (by kernel_rfl) (by kernel_rfl) (by kernel_rfl) (fun _ _ _ h => h) (Or.inl ⟨by rfl, fun w hSw => ?_⟩) hHeld ?_
              · (go_simp)
              try simp only [Act.put, List.setIfInBounds_toArray, List.set_cons_zero, List.set_cons_succ]
              refine take1 (i := 19) (v := .bool true) rfl (by kernel_rfl) (by kernel_rfl) (by kernel_rfl) (fun _ _ _ h => h) (Or.inl ⟨by rfl, fun w hSw => ?_⟩) hHeld ?_
              · (go_simp)
              try simp only [Act.put, List.setIfInBounds_toArray, List.set_cons_zero, List.set_cons_succ]
              refine take1 (i := 20) (v := .bool true) rfl (by kernel_rfl) (by kernel_rfl) (by kernel_rfl) (fun _ _ _ h => h) (Or.inl ⟨by rfl, fun w hSw => ?_⟩) hHeld ?_
              · (go_simp)
              try simp only [Act.put, List.setIfInBounds_toArray, List.set_cons_zero, List.set_cons_succ]
              refine take1 (i := 21) (v := .int .i64 ((T.size : Int))) rfl (by kernel_rfl) (by kernel_rfl) (by kernel_rfl) (fun _ _ _ h => h) (Or.inl ⟨by rfl, fun w hSw => ?_⟩) hHeld ?_
              · (go_simp)
              try simp only [Act.put, List.setIfInBounds_toArray, List.set_cons_zero, List.set_cons_succ]
              refine take1 (i := 22) (v := .slice ka T.size kc) rfl (by kernel_rfl) (by kernel_rfl) (by kernel_rfl) (fun _ _ _ h => h) (Or.inl ⟨by rfl, fun w hSw => ?_⟩) hHeld ?_
              · (go_simp)
              try simp only [Act.put, List.setIfInBounds_toArray, List.set_cons_zero, List.set_cons_succ]
              refine take1 (i := 23) (v := .int .i64 (T.size : Int)) rfl (by kernel_rfl) (by kernel_rfl) (by kernel_rfl) (fun _ _ _ h => h) (Or.inl ⟨by rfl, fun w hSw => ?_⟩) hHeld ?_
              · (go_simp)
              try simp only [Act.put, List.setIfInBounds_toArray, List.set_cons_zero, List.set_cons_succ]
              refine take1 (i := 24) (v := .int .u8 st) rfl (by kernel_rfl) (by kernel_rfl) (by kernel_rfl) (fun _ _ _ h => h) (Or.inl ⟨by rfl, fun w hSw => ?_⟩) hHeld ?_
              · (go_simp)
              try simp only [Act.put, List.setIfInBounds_toArray, List.set_cons_zero, List.set_cons_succ]
              refine take1 (i := 25) (v := .int .i64 st) rfl (by kernel_rfl) (by kernel_rfl) (by kernel_rfl) (fun _ _ _ h => h) (Or.inl ⟨by rfl, fun w hSw => ?_⟩) hHeld ?_
              · (go_simp)
              try simp only [Act.put, List.setIfInBounds_toArray, List.set_cons_zero, List.set_cons_succ]
              refine take1 (i := 26) (v := .int .i64 (st + 1)) rfl (by kernel_rfl) (by kernel_rfl) (by kernel_rfl) (fun _ _ _ h => h) (Or.inl ⟨by rfl, fun w hSw => ?_⟩) hHeld ?_
              · (go_simp)
              try simp only [Act.put, List.setIfInBounds_toArray, List.set_cons_zero, List.set_cons_succ]
              refine take1 (i := 27) (v := .int .i64 ((T.size : Int))) rfl (by kernel_rfl) (by kernel_rfl) (by kernel_rfl) (fun _ _ _ h => h) (Or.inl ⟨by rfl, fun w hSw => ?_⟩) hHeld ?_
              · (go_simp; omega)
              try simp only [Act.put, List.setIfInBounds_toArray, List.set_cons_zero, List.set_cons_succ]
              refine take1 (i := 28) (v := .bool true) rfl (by kernel_rfl) (by kernel_rfl) (by kernel_rfl) (fun _ _ _ h => h) (Or.inl ⟨by rfl, fun w hSw => ?_⟩) hHeld ?_
              · (go_simp)
              try simp only [Act.put, List.setIfInBounds_toArray, List.set_cons_zero, List.set_cons_succ]
              refine take1 (i := 29) (v := .bool true) rfl (by kernel_rfl) (by kernel_rfl) (by kernel_rfl) (fun _ _ _ h => h) (Or.inl ⟨by rfl, fun w hSw => ?_⟩) hHeld ?_
              · (go_simp)
              try simp only [Act.put, List.setIfInBounds_toArray, List.set_cons_zero, List.set_cons_succ]
              refine wpAnyH_ready (rs := [30]) (by kernel_rfl) (by simp) ?_
              refine cons1 rfl (fun K hK => ?_) AllReadyH.nil
              go_simp
              obtain ⟨v0, hv0⟩ := hHeld.2.2.2.2.2.2.rb
              have HR := Lib.hid (hv0.set 0 (.bool true))
              clear hv0
              go_wp2_with fail
              refine hK.out _ _ ((hHeld.2.2.2.2.2.2.put _).s) (fun hHeld2 => ?_)
              clear hK K hHeld 
              have hHeld := hHeld2
              clear hHeld2
              try simp only [Act.put, List.setIfInBounds_toArray, List.set_cons_zero, List.set_cons_succ]
              refine wpAnyH_done (by kernel_rfl) ?_ _
              refine NoPanic.normal ?_
              have HF := Lib.hid hHeld.2.2.2.2.2.2
              clear hHeld
              have hd1 : ((X4.setCell ⟨w.heap.size + 1, 0, none⟩ (.bool true)).putObj D2 (.deferred none)).heap[D1]? = some (.deferred (some [])) := (World.putObj_heap_other (by have := hdd.out; omega)).trans HF.out.d1
              have hD1 := HDs.out
              have hD2 := hdd.out
              have hres := ((HR.out.putObj (D := D2) (by omega) (.deferred none)).putObj (D := D1) (by omega) (.deferred none)).cell 0 rfl
              have hbe : Below w.heap.size w (((X4.setCell ⟨w.heap.size + 1, 0, none⟩ (.bool true)).putObj D2 (.deferred none)).putObj D1 (.deferred none)) := (HF.out.bel.trans (belowK_b (w := w) (Nat.le_refl _) _ D2 _ _ (by omega) HF.out.d2 rfl rfl)).trans (belowK_b (w := w) (Nat.le_refl _) _ D1 _ _ (by omega) hd1 rfl rfl)
              have hd2 := HF.out.d2
              go_wp2_with fail
              refine ⟨by simp, .inl ⟨_, _, rfl, run_takeDeferred hd2, ?_⟩⟩
              refine ⟨by simp, .inl ⟨_, _, rfl, run_takeDeferred hd1, ?_⟩⟩
              exact ⟨.bool true, by simp [results, Tryd.results3, go_sem, hres], rfl, hbe⟩
end Go.Proofs.YtjfffnnkkjceoaaDoor
