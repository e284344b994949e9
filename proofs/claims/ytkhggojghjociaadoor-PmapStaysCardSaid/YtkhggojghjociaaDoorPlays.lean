/-
  The walk of PmapPlays: it returns true, and nothing that existed has changed.
-/
import Derived.Test.YtkhggojghjociaaDoorIs
namespace Go.Proofs.YtkhggojghjociaaDoor
open Go Go.Proofs Go.RowKit Go.Shelf

/-- Something done: an entry is put. -/
structure Ac where
  c : Int
  s : Int
  e : En
/-- A slice of what is done: its cells lie from off on in block b. -/
def LiesA (w : World) (b off : Nat) (l : List Ac) : Prop :=
  ∀ j (hj : j < l.length), w.cell? ⟨b, off + j * 6, none⟩ = some (.int .i64 l[j].c) ∧ w.cell? ⟨b, off + j * 6 + 1, none⟩ = some (.int .i64 l[j].s) ∧ w.cell? ⟨b, off + j * 6 + 2, none⟩ = some (.int .i64 l[j].e.ac) ∧
    w.cell? ⟨b, off + j * 6 + 3, none⟩ = some (.int .i64 l[j].e.an) ∧ w.cell? ⟨b, off + j * 6 + 4, none⟩ = some (.int .i32 l[j].e.ch) ∧ w.cell? ⟨b, off + j * 6 + 5, none⟩ = some (.bool l[j].e.d)
def IsActs (w : World) (v : Value) (l : List Ac) : Prop :=
  ∃ a cap, v = .slice a l.length cap ∧ l.length ≤ cap ∧ cap ≤ 9223372036854775807 ∧ (l ≠ [] → ∃ b off, a = some ⟨b, off, none⟩ ∧ b < w.heap.size ∧ LiesA w b off l)
def acL (x : Ac) : List Value := [.int .i64 x.c, .int .i64 x.s, .int .i64 x.e.ac, .int .i64 x.e.an, .int .i32 x.e.ch, .bool x.e.d]

theorem getL_some {at_ : Nat} {e : En} : ∀ {l : List (Nat × En)}, getL at_ l = some e → (at_, e) ∈ l
  | [], h => by cases h
  | x :: l, h => by
    simp only [getL] at h
    split at h
    · rename_i hx
      cases h
      rw [← hx]
      exact List.mem_cons_self
    · exact List.mem_cons_of_mem _ (getL_some h)
theorem reT_put {T : Pt} (c s : Int) (e : En) : reT (putM T c s e) = if mayB c s = true then rp ⟨c, s, e⟩ false (reT T) else reT T := by
  unfold putM
  by_cases h : mayB c s = true
  · rw [if_pos h, if_pos h]
    have hE : (⟨c, s, e⟩ : Re) = toRe (placeI c s, e) := by unfold toRe; rw [(place_nm h).1, (place_nm h).2]
    unfold reT
    rw [els_insL T e (place_lt h), hE, rp_insL _ _ (els_rising T)]
  · rw [if_neg h, if_neg h]
theorem len_putM (T : Pt) (c s : Int) (e : En) : (els (putM T c s e)).length ≤ (els T).length + 1 := by
  unfold putM
  split
  · rename_i h
    rw [els_insL T e (place_lt h), insL_length (els_rising T)]
    split <;> omega
  · omega
theorem idx_get {T : Pt} (hg : Good T) {c s r : Int} (h : IdxAt c s (reT T) r) : (r = -1 ∧ getM T c s = none) ∨ ∃ (i : Nat) (hi : i < (reT T).length) (e : En), r = (i : Int) ∧ getM T c s = some e ∧ (reT T)[i] = ⟨c, s, e⟩ := by
  rcases h with ⟨hr, hno⟩ | ⟨i, hi, hr, h1, h2⟩
  · refine .inl ⟨hr, ?_⟩
    cases hg2 : getM T c s with
    | none => rfl
    | some e =>
      unfold getM at hg2
      split at hg2
      · rename_i hm
        rw [getT_getL T (place_lt hm)] at hg2
        exact absurd ⟨(place_nm hm).1, (place_nm hm).2⟩ (hno (toRe (placeI c s, e)) (List.mem_map.2 ⟨_, getL_some hg2, rfl⟩))
      · cases hg2
  · have hx : (els T)[i]'(by rw [← reT_len]; exact hi) ∈ els T := List.getElem_mem _
    have he : (reT T)[i] = toRe ((els T)[i]'(by rw [← reT_len]; exact hi)) := by simp [reT]
    rw [he] at h1 h2
    generalize (els T)[i]'(by rw [← reT_len]; exact hi) = x at *
    refine .inr ⟨i, hi, x.2, hr, ?_, ?_⟩
    · rw [← h1, ← h2]; exact getM_of hg hx
    · rw [he, ← h1, ← h2]; rfl

/-- The boxes of the law. -/
structure PlS (w : World) (c s : Int) (p : Option Addr) (T : Pt) (v : Value) (W : World) : Prop where
  bel : Below w.heap.size w W
  ba : Blk W w.heap.size [.int .i64 c, .int .i64 s] 24
  bm : Blk W (w.heap.size + 1) [.pointer p, .int .i64 (cnt T)] 28
  tr : IsM W p T
  ls : IsR W v (reT T)
theorem PlS.next {w : World} {c s : Int} {p : Option Addr} {T : Pt} {v : Value} {W W' : World} (h : PlS w c s p T v W) (hb : Below W.heap.size W W') : PlS w c s p T v W' :=
  ⟨h.bel.trans (hb.mono h.bel.size), h.ba.next hb, h.bm.next hb, h.tr.next hb, h.ls.next hb⟩
theorem PlS.start (w : World) (c s : Int) : PlS w c s none .nil (.slice none 0 0) ((w.alloc (.cells #[.int .i64 c, .int .i64 s] 24)).alloc (.cells #[.pointer none, .int .i64 0] 28)) :=
  ⟨((Below.refl _ _).alloc (Nat.le_refl _) _).alloc (by simp) _, (Blk.start w _ _).alloc _, Blk.startAt (by simp), rfl, .inl ⟨rfl, rfl⟩⟩
/-- A round of the law's loop. -/
structure PlR (w : World) (c s : Int) (p : Option Addr) (T : Pt) (v : Value) (Bx Bq : Nat) (x : Ac) (q : Option Addr) (W : World) : Prop where
  base : PlS w c s p T v W
  bx : Blk W Bx (acL x) 33
  bq : Blk W Bq [.pointer q, .int .i64 (cnt (putM T x.c x.s x.e))] 28
  tq : IsM W q (putM T x.c x.s x.e)
theorem PlR.next {w : World} {c s : Int} {p : Option Addr} {T : Pt} {v : Value} {Bx Bq : Nat} {x : Ac} {q : Option Addr} {W W' : World} (h : PlR w c s p T v Bx Bq x q W) (hb : Below W.heap.size W W') : PlR w c s p T v Bx Bq x q W' :=
  ⟨h.base.next hb, h.bx.next hb, h.bq.next hb, h.tq.next hb⟩
theorem PlR.put {w : World} {c s : Int} {p : Option Addr} {T : Pt} {v v' : Value} {Bx Bq : Nat} {x : Ac} {q : Option Addr} {W : World} (h : PlR w c s p T v Bx Bq x q W) (hv : IsR W v' (reT (putM T x.c x.s x.e))) :
    PlS w c s q (putM T x.c x.s x.e) v' ((W.setCell ⟨w.heap.size + 1, 0, none⟩ (.pointer q)).setCell ⟨w.heap.size + 1, 1, none⟩ (.int .i64 (cnt (putM T x.c x.s x.e)))) := by
  have n0 : w.heap.size ≠ w.heap.size + 1 := by omega
  have h1 := h.base.bm.set 0 (.pointer q)
  refine ⟨(h.base.bel.setCell (p := ⟨w.heap.size + 1, 0, none⟩) (Nat.le_succ _) _).setCell (p := ⟨w.heap.size + 1, 1, none⟩) (Nat.le_succ _) _, (h.base.ba.other _ n0 _).other _ n0 _, h1.set 1 _, ?_, ?_⟩
  · have := IsP.set h1 (by decide) 1 (.int .i64 (cnt (putM T x.c x.s x.e))) (IsP.set h.base.bm (by decide) 0 (.pointer q) h.tq)
    unfold IsM
    simpa using this
  · exact (hv.set h.base.bm (by decide) 0 _).set h1 (by decide) 1 _

/-- What stands at the law's last line. -/
structure PlT (w : World) (c s : Int) (p : Option Addr) (T : Pt) (v : Value) (Be : Nat) (ev : En) (W : World) : Prop where
  base : PlS w c s p T v W
  be : Blk W Be (enL ev) 31
theorem PlT.next {w : World} {c s : Int} {p : Option Addr} {T : Pt} {v : Value} {Be : Nat} {ev : En} {W W' : World} (h : PlT w c s p T v Be ev W) (hb : Below W.heap.size W W') : PlT w c s p T v Be ev W' := ⟨h.base.next hb, h.be.next hb⟩
theorem PlT.s {w : World} {c s : Int} {p : Option Addr} {T : Pt} {v : Value} {Be : Nat} {ev : En} {X : World} (h : PlT w c s p T v Be ev X) :
    X.cell? ⟨w.heap.size + 1, 0, none⟩ = some (.pointer p) ∧ X.cell? ⟨w.heap.size + 1, 1, none⟩ = some (.int .i64 (((els T).length : Nat) : Int)) ∧ X.cell? ⟨Be, 0, none⟩ = some (.int .i64 ev.ac) ∧ X.cell? ⟨Be, 1, none⟩ = some (.int .i64 ev.an) ∧ X.cell? ⟨Be, 2, none⟩ = some (.int .i32 ev.ch) ∧ X.cell? ⟨Be, 3, none⟩ = some (.bool ev.d) ∧ X.cell? ⟨w.heap.size, 0, none⟩ = some (.int .i64 c) ∧ X.cell? ⟨w.heap.size, 1, none⟩ = some (.int .i64 s) ∧ PlT w c s p T v Be ev X :=
  ⟨h.base.bm.cell 0 rfl, h.base.bm.cell 1 rfl, h.be.cell 0 rfl, h.be.cell 1 rfl, h.be.cell 2 rfl, h.be.cell 3 rfl, h.base.ba.cell 0 rfl, h.base.ba.cell 1 rfl, h⟩

theorem PlT.sy {w : World} {c s : Int} {p : Option Addr} {T : Pt} {g n cap i : Nat} {Be : Nat} {ev : En} {X : World} (h : PlT w c s p T (.slice (some ⟨g, 0, none⟩) n cap) Be ev X) (hy : ∀ X, IsR X (.slice (some ⟨g, 0, none⟩) n cap) (reT T) → YC X g i ⟨c, s, ev⟩) :
    X.cell? ⟨w.heap.size + 1, 0, none⟩ = some (.pointer p) ∧ X.cell? ⟨w.heap.size + 1, 1, none⟩ = some (.int .i64 (((els T).length : Nat) : Int)) ∧ X.cell? ⟨Be, 0, none⟩ = some (.int .i64 ev.ac) ∧ X.cell? ⟨Be, 1, none⟩ = some (.int .i64 ev.an) ∧ X.cell? ⟨Be, 2, none⟩ = some (.int .i32 ev.ch) ∧ X.cell? ⟨Be, 3, none⟩ = some (.bool ev.d) ∧ X.cell? ⟨w.heap.size, 0, none⟩ = some (.int .i64 c) ∧ X.cell? ⟨w.heap.size, 1, none⟩ = some (.int .i64 s) ∧
    X.cell? ⟨g, i * 6, none⟩ = some (.int .i64 c) ∧ X.cell? ⟨g, i * 6 + 1, none⟩ = some (.int .i64 s) ∧ X.cell? ⟨g, i * 6 + 2, none⟩ = some (.int .i64 ev.ac) ∧ X.cell? ⟨g, i * 6 + 3, none⟩ = some (.int .i64 ev.an) ∧ X.cell? ⟨g, i * 6 + 4, none⟩ = some (.int .i32 ev.ch) ∧ X.cell? ⟨g, i * 6 + 5, none⟩ = some (.bool ev.d) ∧ PlT w c s p T (.slice (some ⟨g, 0, none⟩) n cap) Be ev X :=
  let y := hy X h.base.ls
  ⟨h.base.bm.cell 0 rfl, h.base.bm.cell 1 rfl, h.be.cell 0 rfl, h.be.cell 1 rfl, h.be.cell 2 rfl, h.be.cell 3 rfl, h.base.ba.cell 0 rfl, h.base.ba.cell 1 rfl, y.1, y.2.1, y.2.2.1, y.2.2.2.1, y.2.2.2.2.1, y.2.2.2.2.2, h⟩

set_option maxHeartbeats 6400000 in
set_option maxRecDepth 100000 in
theorem plays_main (a : Option Addr) (cap : Nat) (l : List Ac) (c s : Int) (w : World) (hl100 : l.length ≤ 100) (hcap : l.length ≤ cap) (hmax : cap ≤ 9223372036854775807)
    (hL : l ≠ [] → ∃ b off, a = some ⟨b, off, none⟩ ∧ b < w.heap.size ∧ LiesA w b off l) (ht : Tab w) :
    Calls Tryd.prog 3 #[.slice a l.length cap, .agg #[.int .i64 c, .int .i64 s]] w fun e w' => e = .returned (.bool true) ∧ Below w.heap.size w w' := by
  have HTab := Lib.hid ht
  have HL := Lib.hid hL
  have H0 := Lib.hid (PlS.start w c s)
  clear ht hL
  go_enter Tryd.func3, Tryd.ntmps3
  go_wp2_with fail
  go_loopg [6, 22] l.length (fun g tv ti wr => ∃ k : Nat, k ≤ l.length ∧ g = l.length - k ∧ ti = .int .i64 (k : Int) ∧ ∃ p T, (els T).length ≤ k ∧ Full 10 T ∧ Good T ∧ PlS w c s p T tv wr)
  case atStart => exact ⟨0, Nat.zero_le _, rfl, rfl, none, .nil, Nat.le_refl _, full_nil 10, good_nil, H0.out⟩
  case round =>
    obtain ⟨k, hk, rfl, rfl, p, T, hTk, hf, hg, hS⟩ := hrel
    clear H0
    have HFG := Lib.hid (And.intro hf hg)
    clear hf hg
    by_cases hlt : k < l.length
    · obtain ⟨b, off, rfl, hbw, hLies⟩ := HL.out (fun e => by rw [e] at hlt; cases hlt)
      obtain ⟨l0, l1, l2, l3, l4, l5⟩ := hLies k hlt
      have hbs : b < wr.heap.size := Nat.lt_of_lt_of_le hbw hS.bel.size
      have k0 := (hS.bel.cell (p := ⟨b, off + k * 6, none⟩) hbw).trans l0
      have k1 := (hS.bel.cell (p := ⟨b, off + k * 6 + 1, none⟩) hbw).trans l1
      have k2 := (hS.bel.cell (p := ⟨b, off + k * 6 + 2, none⟩) hbw).trans l2
      have k3 := (hS.bel.cell (p := ⟨b, off + k * 6 + 3, none⟩) hbw).trans l3
      have k4 := (hS.bel.cell (p := ⟨b, off + k * 6 + 4, none⟩) hbw).trans l4
      have k5 := (hS.bel.cell (p := ⟨b, off + k * 6 + 5, none⟩) hbw).trans l5
      clear l0 l1 l2 l3 l4 l5 hLies
      generalize l[k] = x at *
      have hbA := (Below.refl wr.heap.size wr).alloc (Nat.le_refl _) (.cells #[.int .i64 x.c, .int .i64 x.s, .int .i64 x.e.ac, .int .i64 x.e.an, .int .i32 x.e.ch, .bool x.e.d] 33)
      have HS := Lib.hid (hS.next hbA)
      have HX := Lib.hid (Blk.start wr (acL x) 33)
      have m0 := HS.out.bm.cell 0 rfl
      have m1 := HS.out.bm.cell 1 rfl
      clear hS hbA
      go_wp2_with (go_at_call 6; refine (Put_any x.c x.s x.e _ HS.out.tr (by omega)).mono ?_; rintro e W1 ⟨q, rfl, hq, hb1⟩; refine Hid.out ?_)
      have hb2 : Below (wr.alloc (.cells #[.int .i64 x.c, .int .i64 x.s, .int .i64 x.e.ac, .int .i64 x.e.an, .int .i32 x.e.ch, .bool x.e.d] 33)).heap.size (wr.alloc (.cells #[.int .i64 x.c, .int .i64 x.s, .int .i64 x.e.ac, .int .i64 x.e.an, .int .i32 x.e.ch, .bool x.e.d] 33)) (W1.alloc (.cells #[.pointer q, .int .i64 (cnt (putM T x.c x.s x.e))] 28)) := hb1.alloc hb1.size _
      have HR := Lib.hid (show PlR w c s p T u6 wr.heap.size W1.heap.size x q (W1.alloc (.cells #[.pointer q, .int .i64 (cnt (putM T x.c x.s x.e))] 28)) from
        ⟨HS.out.next hb2, HX.out.next hb2, Blk.start _ _ _, hq.next ((Below.refl _ _).alloc (Nat.le_refl _) _)⟩)
      have x0 := HR.out.bx.cell 0 rfl
      have x1 := HR.out.bx.cell 1 rfl
      have x2 := HR.out.bx.cell 2 rfl
      have x3 := HR.out.bx.cell 3 rfl
      have x4 := HR.out.bx.cell 4 rfl
      have x5 := HR.out.bx.cell 5 rfl
      clear HS HX hq hb1 hb2 m0 m1
      refine Lib.hid ?_
      go_wp2_with (go_at_call 8; refine (of4_any x.c x.s x.e _).mono ?_; unfold reV; rintro e W2 ⟨rfl, hb3⟩; refine Hid.out ?_)
      have HR2 := Lib.hid (HR.out.next hb3)
      clear HR hb3 x0 x1 x2 x3 x4 x5
      refine Lib.hid ?_
      go_wp2_with (go_at_call 7; refine (refPut_any ⟨x.c, x.s, x.e⟩ (reT T) _ _ HR2.out.base.ls (by rw [reT_len]; omega)).mono ?_; rintro e W3 ⟨v', rfl, hv, hb4⟩; refine Hid.out ?_)
      rw [show (if mayB (⟨x.c, x.s, x.e⟩ : Re).c (⟨x.c, x.s, x.e⟩ : Re).s = true then rp ⟨x.c, x.s, x.e⟩ false (reT T) else reT T) = reT (putM T x.c x.s x.e) from (reT_put x.c x.s x.e).symm] at hv
      have HR3 := Lib.hid (HR2.out.next hb4)
      have HN := Lib.hid (HR3.out.put hv)
      have HV := Lib.hid hv
      obtain ⟨a', cap', rfl, -, -⟩ := hv.form
      rw [reT_len] at *
      have q0 := HR3.out.bq.cell 0 rfl
      have q1 := HR3.out.bq.cell 1 rfl
      have z0 := HR3.out.base.bm.cell 0 rfl
      have z1 := HR3.out.base.bm.cell 1 rfl
      have y0 := HR3.out.base.bm.free 0
      have y1 := HR3.out.base.bm.free 1
      have hlp := len_putM T x.c x.s x.e
      have HF2 := Lib.hid (And.intro (full_putM x.c x.s x.e HFG.out.1) (good_putM x.c x.s x.e HFG.out.2))
      clear HR2 hb4 hv HFG
      generalize putM T x.c x.s x.e = T' at *
      obtain ⟨N, hN9⟩ : ∃ N, N = (els T').length := ⟨_, rfl⟩
      have hcn : cnt T' = (N : Int) := by rw [hN9]; rfl
      rw [← hN9]
      rw [← hN9] at hlp HN
      have HN9 := Lib.hid hN9
      clear hN9
      rw [hcn] at HN
      have m0 := HN.out.bm.cell 0 rfl
      have m1 := HN.out.bm.cell 1 rfl
      generalize mayB x.c x.s = mb at *
      refine Lib.hid ?_
      cases mb
      all_goals
        go_wp2_with (go_at_call 9; refine (len_any _ _ _).mono ?_; rintro e W4 ⟨rfl, hb5⟩)
        go_roundg (l.length - (k + 1))
        case measure => omega
        case rel => exact ⟨k + 1, by omega, rfl, by go_num, q, T', by rw [← HN9.out]; omega, HF2.out.1, HF2.out.2, HN.out.next hb5⟩
    · obtain rfl : k = l.length := by omega
      have HS := Lib.hid hS
      have m0 := hS.bm.cell 0 rfl
      have m1 := hS.bm.cell 1 rfl
      have i0 := hS.ba.cell 0 rfl
      have i1 := hS.ba.cell 1 rfl
      obtain ⟨N, hN9⟩ : ∃ N, N = (els T).length := ⟨_, rfl⟩
      have hcn : cnt T = (N : Int) := by rw [hN9]; rfl
      obtain ⟨a', cap', rfl, -, hc2⟩ := hS.ls.form
      rw [reT_len, ← hN9] at HS ⊢
      have HN9 := Lib.hid hN9
      clear hN9 hS HL
      go_wp2_with (go_at_call 10; refine (get_any _ c s _ HS.out.tr).mono ?_; unfold enV; rintro e W1 ⟨rfl, hb1⟩; refine Hid.out ?_)
      obtain ⟨ev, hev⟩ : ∃ ev, ev = (getM T c s).getD .zero := ⟨_, rfl⟩
      obtain ⟨ok, hok⟩ : ∃ ok, ok = (getM T c s).isSome := ⟨_, rfl⟩
      rw [← hev, ← hok]
      have hb2 := hb1.alloc hb1.size (.cells #[.int .i64 ev.ac, .int .i64 ev.an, .int .i32 ev.ch, .bool ev.d] 31)
      have HT := Lib.hid (show PlT w c s p T (.slice a' N cap') W1.heap.size ev (W1.alloc (.cells #[.int .i64 ev.ac, .int .i64 ev.an, .int .i32 ev.ch, .bool ev.d] 31)) from ⟨HS.out.next hb2, Blk.start _ _ _⟩)
      have HEV := Lib.hid (And.intro hev hok)
      have i0 := HT.out.base.ba.cell 0 rfl
      have i1 := HT.out.base.ba.cell 1 rfl
      clear hev hok hb2 hb1 HS m0 m1
      refine Lib.hid ?_
      go_wp2_with (go_at_call 12; refine (of_any c s _).mono ?_; rintro e W2 ⟨rfl, hb3⟩; refine Hid.out ?_)
      have HT2 := Lib.hid (HT.out.next hb3)
      clear HT hb3 i0 i1
      refine Lib.hid ?_
      go_wp2_with (go_at_call 11; refine (refGet_any c s (reT T) _ _ HT2.out.base.ls).mono ?_; rintro e W3 ⟨⟨r, rfl, hr⟩, hb4⟩; refine Hid.out ?_)
      have HZ0 := Lib.hid (HT2.out.next hb4)
      generalize W1.heap.size = Be at *
      have HIS := Lib.hid (fun (X : World) (h1 : IsM X p T) (h2 : IsR X (.slice a' N cap') (reT T)) => show Calls Tryd.prog 13 #[.agg #[.pointer p, .int .i64 (N : Int)], .slice a' N cap'] X _ from hcn ▸ is_any _ X h1 HFG.out.1 HFG.out.2 h2 (by omega))
      clear HT2 hb4
      rcases idx_get HFG.out.2 hr with ⟨rfl, hgm⟩ | ⟨i, hi, e, rfl, hgm, hy⟩
      · have hev2 : ev = .zero := by rw [HEV.out.1, hgm]; rfl
        have hok2 : ok = false := by rw [HEV.out.2, hgm]; rfl
        subst hev2
        subst hok2
        clear hr hgm HEV
        rw [HN9.out]
        rw [HN9.out] at HZ0 HIS
        refine Lib.hid ?_
        go_wp2_with fail
        refine wp_region_noPanic ?_
        refine wp_region_held_drew (S := (fun X => X.cell? ⟨w.heap.size + 1, 0, none⟩ = some (.pointer p) ∧ X.cell? ⟨w.heap.size + 1, 1, none⟩ = some (.int .i64 (((els T).length : Nat) : Int)) ∧ X.cell? ⟨Be, 0, none⟩ = some (.int .i64 0) ∧ X.cell? ⟨Be, 1, none⟩ = some (.int .i64 0) ∧ X.cell? ⟨Be, 2, none⟩ = some (.int .i32 0) ∧ X.cell? ⟨Be, 3, none⟩ = some (.bool false) ∧ X.cell? ⟨w.heap.size, 0, none⟩ = some (.int .i64 c) ∧ X.cell? ⟨w.heap.size, 1, none⟩ = some (.int .i64 s) ∧ PlT w c s p T (.slice a' (els T).length cap') Be .zero X)) (by kernel_rfl) ?_ (fun hHeld => ?_)
        · exact (HZ0.out.next (Below.refl _ _).drew).s
        clear HZ0
        refine wpAnyH_ready (rs := [0]) (by kernel_rfl) (by simp) ?_
        refine cons1 rfl (fun K hK => ?_) AllReadyH.nil
        go_simp
        refine (awakeD_any _ (HTab.out.next hHeld.2.2.2.2.2.2.2.2.base.bel)).mono ?_
        rintro e' u1 ⟨rfl, hb⟩
        go_wp2_with fail
        refine hK.out _ _ ((hHeld.2.2.2.2.2.2.2.2.next hb).s) (fun hHeld2 => ?_)
        clear hK K hHeld hb
        have hHeld := hHeld2
        clear hHeld2
        try simp only [Act.put, List.setIfInBounds_toArray, List.set_cons_zero, List.set_cons_succ]
        refine take1 (i := 1) (v := .bool true) rfl (by kernel_rfl) (by kernel_rfl) (by kernel_rfl) (fun _ _ _ h => h) (Or.inl ⟨by rfl, fun w hSw => ?_⟩) hHeld ?_
        · (go_simp)
        try simp only [Act.put, List.setIfInBounds_toArray, List.set_cons_zero, List.set_cons_succ]
        refine take1 (i := 2) (v := .agg #[.pointer p, .int .i64 (((els T).length : Nat) : Int)]) rfl (by kernel_rfl) (by kernel_rfl) (by kernel_rfl) (fun _ _ _ h => h) (Or.inl ⟨by rfl, fun w hSw => ?_⟩) hHeld ?_
        · (go_simp)
        try simp only [Act.put, List.setIfInBounds_toArray, List.set_cons_zero, List.set_cons_succ]
        refine take1 (i := 3) (v := .slice a' (els T).length cap') rfl (by kernel_rfl) (by kernel_rfl) (by kernel_rfl) (fun _ _ _ h => h) (Or.inl ⟨by rfl, fun w hSw => ?_⟩) hHeld ?_
        · (go_simp)
        try simp only [Act.put, List.setIfInBounds_toArray, List.set_cons_zero, List.set_cons_succ]
        refine wpAnyH_ready (rs := [4]) (by kernel_rfl) (by simp) ?_
        refine cons1 rfl (fun K hK => ?_) AllReadyH.nil
        go_simp
        refine (HIS.out _ hHeld.2.2.2.2.2.2.2.2.base.tr hHeld.2.2.2.2.2.2.2.2.base.ls).mono ?_
        rintro e' u2 ⟨rfl, hb⟩
        go_wp2_with fail
        refine hK.out _ _ ((hHeld.2.2.2.2.2.2.2.2.next hb).s) (fun hHeld2 => ?_)
        clear hK K hHeld hb
        have hHeld := hHeld2
        clear hHeld2
        try simp only [Act.put, List.setIfInBounds_toArray, List.set_cons_zero, List.set_cons_succ]
        refine take1 (i := 5) (v := .bool true) rfl (by kernel_rfl) (by kernel_rfl) (by kernel_rfl) (fun _ _ _ h => h) (Or.inl ⟨by rfl, fun w hSw => ?_⟩) hHeld ?_
        · (go_simp)
        try simp only [Act.put, List.setIfInBounds_toArray, List.set_cons_zero, List.set_cons_succ]
        refine take1 (i := 6) (v := .bool true) rfl (by kernel_rfl) (by kernel_rfl) (by kernel_rfl) (fun _ _ _ h => h) (Or.inl ⟨by rfl, fun w hSw => ?_⟩) hHeld ?_
        · (go_simp)
        try simp only [Act.put, List.setIfInBounds_toArray, List.set_cons_zero, List.set_cons_succ]
        refine take1 (i := 7) (v := .bool false) rfl (by kernel_rfl) (by kernel_rfl) (by kernel_rfl) (fun _ _ _ h => h) (Or.inl ⟨by rfl, fun w hSw => ?_⟩) hHeld ?_
        · (go_simp)
        try simp only [Act.put, List.setIfInBounds_toArray, List.set_cons_zero, List.set_cons_succ]
        refine take1 (i := 8) (v := .int .i64 (-1)) rfl (by kernel_rfl) (by kernel_rfl) (by kernel_rfl) (fun _ _ _ h => h) (Or.inl ⟨by rfl, fun w hSw => ?_⟩) hHeld ?_
        · (go_simp)
        try simp only [Act.put, List.setIfInBounds_toArray, List.set_cons_zero, List.set_cons_succ]
        refine take1 (i := 9) (v := .bool false) rfl (by kernel_rfl) (by kernel_rfl) (by kernel_rfl) (fun _ _ _ h => h) (Or.inl ⟨by rfl, fun w hSw => ?_⟩) hHeld ?_
        · (go_simp)
        try simp only [Act.put, List.setIfInBounds_toArray, List.set_cons_zero, List.set_cons_succ]
        refine take1 (i := 10) (v := .bool true) rfl (by kernel_rfl) (by kernel_rfl) (by kernel_rfl) (fun _ _ _ h => h) (Or.inl ⟨by rfl, fun w hSw => ?_⟩) hHeld ?_
        · (go_simp)
        try simp only [Act.put, List.setIfInBounds_toArray, List.set_cons_zero, List.set_cons_succ]
        refine take1 (i := 11) (v := .bool true) rfl (by kernel_rfl) (by kernel_rfl) (by kernel_rfl) (fun _ _ _ h => h) (Or.inl ⟨by rfl, fun w hSw => ?_⟩) hHeld ?_
        · (go_simp)
        try simp only [Act.put, List.setIfInBounds_toArray, List.set_cons_zero, List.set_cons_succ]
        refine take1 (i := 12) (v := .bool true) rfl (by kernel_rfl) (by kernel_rfl) (by kernel_rfl) (fun _ _ _ h => h) (Or.inl ⟨by rfl, fun w hSw => ?_⟩) hHeld ?_
        · (go_simp)
        try simp only [Act.put, List.setIfInBounds_toArray, List.set_cons_zero, List.set_cons_succ]
        refine take1 (i := 13) (v := .int .i64 (-1)) rfl (by kernel_rfl) (by kernel_rfl) (by kernel_rfl) (fun _ _ _ h => h) (Or.inl ⟨by rfl, fun w hSw => ?_⟩) hHeld ?_
        · (go_simp)
        try simp only [Act.put, List.setIfInBounds_toArray, List.set_cons_zero, List.set_cons_succ]
        refine take1 (i := 14) (v := .bool true) rfl (by kernel_rfl) (by kernel_rfl) (by kernel_rfl) (fun _ _ _ h => h) (Or.inl ⟨by rfl, fun w hSw => ?_⟩) hHeld ?_
        · (go_simp)
        try simp only [Act.put, List.setIfInBounds_toArray, List.set_cons_zero, List.set_cons_succ]
        refine take1 (i := 15) (v := .bool true) rfl (by kernel_rfl) (by kernel_rfl) (by kernel_rfl) (fun _ _ _ h => h) (Or.inl ⟨by rfl, fun w hSw => ?_⟩) hHeld ?_
        · (go_simp)
        try simp only [Act.put, List.setIfInBounds_toArray, List.set_cons_zero, List.set_cons_succ]
        refine take1 (i := 16) (v := .agg #[.int .i64 0, .int .i64 0, .int .i32 0, .bool false]) rfl (by kernel_rfl) (by kernel_rfl) (by kernel_rfl) (fun _ _ _ h => h) (Or.inl ⟨by rfl, fun w hSw => ?_⟩) hHeld ?_
        · (go_simp)
        try simp only [Act.put, List.setIfInBounds_toArray, List.set_cons_zero, List.set_cons_succ]
        refine take1 (i := 17) (v := .agg #[.int .i64 0, .int .i64 0, .int .i32 0, .bool false]) rfl (by kernel_rfl) (by kernel_rfl) (by kernel_rfl) (fun _ _ _ h => h) (Or.inl ⟨by rfl, fun w hSw => ?_⟩) hHeld ?_
        · (go_simp)
        try simp only [Act.put, List.setIfInBounds_toArray, List.set_cons_zero, List.set_cons_succ]
        refine take1 (i := 18) (v := .bool true) rfl (by kernel_rfl) (by kernel_rfl) (by kernel_rfl) (fun _ _ _ h => h) (Or.inl ⟨by rfl, fun w hSw => ?_⟩) hHeld ?_
        · (go_simp)
        try simp only [Act.put, List.setIfInBounds_toArray, List.set_cons_zero, List.set_cons_succ]
        refine take1 (i := 19) (v := .bool true) rfl (by kernel_rfl) (by kernel_rfl) (by kernel_rfl) (fun _ _ _ h => h) (Or.inl ⟨by rfl, fun w hSw => ?_⟩) hHeld ?_
        · (go_simp)
        try simp only [Act.put, List.setIfInBounds_toArray, List.set_cons_zero, List.set_cons_succ]
        refine take1 (i := 20) (v := .bool true) rfl (by kernel_rfl) (by kernel_rfl) (by kernel_rfl) (fun _ _ _ h => h) (Or.inl ⟨by rfl, fun w hSw => ?_⟩) hHeld ?_
        · (go_simp)
        try simp only [Act.put, List.setIfInBounds_toArray, List.set_cons_zero, List.set_cons_succ]
        refine take1 (i := 21) (v := undef) rfl (by kernel_rfl) (by kernel_rfl) (by kernel_rfl) (fun _ _ _ h => h) (Or.inr ⟨by rfl, rfl⟩) hHeld ?_
        try simp only [Act.put, List.setIfInBounds_toArray, List.set_cons_zero, List.set_cons_succ]
        refine take1 (i := 22) (v := undef) rfl (by kernel_rfl) (by kernel_rfl) (by kernel_rfl) (fun _ _ _ h => h) (Or.inr ⟨by rfl, rfl⟩) hHeld ?_
        try simp only [Act.put, List.setIfInBounds_toArray, List.set_cons_zero, List.set_cons_succ]
        refine take1 (i := 23) (v := undef) rfl (by kernel_rfl) (by kernel_rfl) (by kernel_rfl) (fun _ _ _ h => h) (Or.inr ⟨by rfl, rfl⟩) hHeld ?_
        try simp only [Act.put, List.setIfInBounds_toArray, List.set_cons_zero, List.set_cons_succ]
        refine take1 (i := 24) (v := undef) rfl (by kernel_rfl) (by kernel_rfl) (by kernel_rfl) (fun _ _ _ h => h) (Or.inr ⟨by rfl, rfl⟩) hHeld ?_
        try simp only [Act.put, List.setIfInBounds_toArray, List.set_cons_zero, List.set_cons_succ]
        refine take1 (i := 25) (v := undef) rfl (by kernel_rfl) (by kernel_rfl) (by kernel_rfl) (fun _ _ _ h => h) (Or.inr ⟨by rfl, rfl⟩) hHeld ?_
        try simp only [Act.put, List.setIfInBounds_toArray, List.set_cons_zero, List.set_cons_succ]
        refine take1 (i := 26) (v := undef) rfl (by kernel_rfl) (by kernel_rfl) (by kernel_rfl) (fun _ _ _ h => h) (Or.inr ⟨by rfl, rfl⟩) hHeld ?_
        try simp only [Act.put, List.setIfInBounds_toArray, List.set_cons_zero, List.set_cons_succ]
        refine take1 (i := 27) (v := undef) rfl (by kernel_rfl) (by kernel_rfl) (by kernel_rfl) (fun _ _ _ h => h) (Or.inr ⟨by rfl, rfl⟩) hHeld ?_
        try simp only [Act.put, List.setIfInBounds_toArray, List.set_cons_zero, List.set_cons_succ]
        refine take1 (i := 28) (v := undef) rfl (by kernel_rfl) (by kernel_rfl) (by kernel_rfl) (fun _ _ _ h => h) (Or.inr ⟨by rfl, rfl⟩) hHeld ?_
        try simp only [Act.put, List.setIfInBounds_toArray, List.set_cons_zero, List.set_cons_succ]
        refine take1 (i := 29) (v := undef) rfl (by kernel_rfl) (by kernel_rfl) (by kernel_rfl) (fun _ _ _ h => h) (Or.inr ⟨by rfl, rfl⟩) hHeld ?_
        try simp only [Act.put, List.setIfInBounds_toArray, List.set_cons_zero, List.set_cons_succ]
        refine take1 (i := 30) (v := undef) rfl (by kernel_rfl) (by kernel_rfl) (by kernel_rfl) (fun _ _ _ h => h) (Or.inr ⟨by rfl, rfl⟩) hHeld ?_
        try simp only [Act.put, List.setIfInBounds_toArray, List.set_cons_zero, List.set_cons_succ]
        refine take1 (i := 31) (v := undef) rfl (by kernel_rfl) (by kernel_rfl) (by kernel_rfl) (fun _ _ _ h => h) (Or.inr ⟨by rfl, rfl⟩) hHeld ?_
        try simp only [Act.put, List.setIfInBounds_toArray, List.set_cons_zero, List.set_cons_succ]
        refine take1 (i := 32) (v := undef) rfl (by kernel_rfl) (by kernel_rfl) (by kernel_rfl) (fun _ _ _ h => h) (Or.inr ⟨by rfl, rfl⟩) hHeld ?_
        try simp only [Act.put, List.setIfInBounds_toArray, List.set_cons_zero, List.set_cons_succ]
        refine take1 (i := 33) (v := .bool true) rfl (by kernel_rfl) (by kernel_rfl) (by kernel_rfl) (fun _ _ _ h => h) (Or.inl ⟨by rfl, fun w hSw => ?_⟩) hHeld ?_
        · (go_simp)
        try simp only [Act.put, List.setIfInBounds_toArray, List.set_cons_zero, List.set_cons_succ]
        refine take1 (i := 34) (v := .bool true) rfl (by kernel_rfl) (by kernel_rfl) (by kernel_rfl) (fun _ _ _ h => h) (Or.inl ⟨by rfl, fun w hSw => ?_⟩) hHeld ?_
        · (go_simp)
        try simp only [Act.put, List.setIfInBounds_toArray, List.set_cons_zero, List.set_cons_succ]
        refine take1 (i := 35) (v := .bool true) rfl (by kernel_rfl) (by kernel_rfl) (by kernel_rfl) (fun _ _ _ h => h) (Or.inl ⟨by rfl, fun w hSw => ?_⟩) hHeld ?_
        · (go_simp)
        try simp only [Act.put, List.setIfInBounds_toArray, List.set_cons_zero, List.set_cons_succ]
        refine wpAnyH_done (by kernel_rfl) ?_ _
        refine NoPanic.normal ?_
        have HZ := Lib.hid hHeld.2.2.2.2.2.2.2.2.base.bel
        clear hHeld
        go_wp2_with fail
        go_ret
        exact ⟨rfl, HZ.out⟩
      · have hev2 : ev = e := by rw [HEV.out.1, hgm]; rfl
        have hok2 : ok = true := by rw [HEV.out.2, hgm]; rfl
        subst hev2
        subst hok2
        obtain ⟨g, rfl, -, -⟩ := HZ0.out.base.ls.cell i hi
        have HYC := Lib.hid (fun (X : World) (h : IsR X (.slice (some ⟨g, 0, none⟩) N cap') (reT T)) => show YC X g i ⟨c, s, ev⟩ from hy ▸ yc_of h hi)
        have hi2 : i < (els T).length := by rw [← reT_len]; exact hi
        clear hr hgm HEV hy hi
        rw [HN9.out]
        rw [HN9.out] at HZ0 HIS HYC
        refine Lib.hid ?_
        go_wp2_with fail
        refine wp_region_noPanic ?_
        refine wp_region_held_drew (S := (fun X => X.cell? ⟨w.heap.size + 1, 0, none⟩ = some (.pointer p) ∧ X.cell? ⟨w.heap.size + 1, 1, none⟩ = some (.int .i64 (((els T).length : Nat) : Int)) ∧ X.cell? ⟨Be, 0, none⟩ = some (.int .i64 ev.ac) ∧ X.cell? ⟨Be, 1, none⟩ = some (.int .i64 ev.an) ∧ X.cell? ⟨Be, 2, none⟩ = some (.int .i32 ev.ch) ∧ X.cell? ⟨Be, 3, none⟩ = some (.bool ev.d) ∧ X.cell? ⟨w.heap.size, 0, none⟩ = some (.int .i64 c) ∧ X.cell? ⟨w.heap.size, 1, none⟩ = some (.int .i64 s) ∧ X.cell? ⟨g, i * 6, none⟩ = some (.int .i64 c) ∧ X.cell? ⟨g, i * 6 + 1, none⟩ = some (.int .i64 s) ∧ X.cell? ⟨g, i * 6 + 2, none⟩ = some (.int .i64 ev.ac) ∧ X.cell? ⟨g, i * 6 + 3, none⟩ = some (.int .i64 ev.an) ∧ X.cell? ⟨g, i * 6 + 4, none⟩ = some (.int .i32 ev.ch) ∧ X.cell? ⟨g, i * 6 + 5, none⟩ = some (.bool ev.d) ∧ PlT w c s p T (.slice (some ⟨g, 0, none⟩) (els T).length cap') Be ev X)) (by kernel_rfl) ?_ (fun hHeld => ?_)
        · exact (HZ0.out.next (Below.refl _ _).drew).sy HYC.out
        clear HZ0
        refine wpAnyH_ready (rs := [0]) (by kernel_rfl) (by simp) ?_
        refine cons1 rfl (fun K hK => ?_) AllReadyH.nil
        go_simp
        refine (awakeD_any _ (HTab.out.next hHeld.2.2.2.2.2.2.2.2.2.2.2.2.2.2.base.bel)).mono ?_
        rintro e' u1 ⟨rfl, hb⟩
        go_wp2_with fail
        refine hK.out _ _ ((hHeld.2.2.2.2.2.2.2.2.2.2.2.2.2.2.next hb).sy HYC.out) (fun hHeld2 => ?_)
        clear hK K hHeld hb
        have hHeld := hHeld2
        clear hHeld2
        try simp only [Act.put, List.setIfInBounds_toArray, List.set_cons_zero, List.set_cons_succ]
        refine take1 (i := 1) (v := .bool true) rfl (by kernel_rfl) (by kernel_rfl) (by kernel_rfl) (fun _ _ _ h => h) (Or.inl ⟨by rfl, fun w hSw => ?_⟩) hHeld ?_
        · (go_simp)
        try simp only [Act.put, List.setIfInBounds_toArray, List.set_cons_zero, List.set_cons_succ]
        refine take1 (i := 2) (v := .agg #[.pointer p, .int .i64 (((els T).length : Nat) : Int)]) rfl (by kernel_rfl) (by kernel_rfl) (by kernel_rfl) (fun _ _ _ h => h) (Or.inl ⟨by rfl, fun w hSw => ?_⟩) hHeld ?_
        · (go_simp)
        try simp only [Act.put, List.setIfInBounds_toArray, List.set_cons_zero, List.set_cons_succ]
        refine take1 (i := 3) (v := .slice (some ⟨g, 0, none⟩) (els T).length cap') rfl (by kernel_rfl) (by kernel_rfl) (by kernel_rfl) (fun _ _ _ h => h) (Or.inl ⟨by rfl, fun w hSw => ?_⟩) hHeld ?_
        · (go_simp)
        try simp only [Act.put, List.setIfInBounds_toArray, List.set_cons_zero, List.set_cons_succ]
        refine wpAnyH_ready (rs := [4]) (by kernel_rfl) (by simp) ?_
        refine cons1 rfl (fun K hK => ?_) AllReadyH.nil
        go_simp
        refine (HIS.out _ hHeld.2.2.2.2.2.2.2.2.2.2.2.2.2.2.base.tr hHeld.2.2.2.2.2.2.2.2.2.2.2.2.2.2.base.ls).mono ?_
        rintro e' u2 ⟨rfl, hb⟩
        go_wp2_with fail
        refine hK.out _ _ ((hHeld.2.2.2.2.2.2.2.2.2.2.2.2.2.2.next hb).sy HYC.out) (fun hHeld2 => ?_)
        clear hK K hHeld hb
        have hHeld := hHeld2
        clear hHeld2
        try simp only [Act.put, List.setIfInBounds_toArray, List.set_cons_zero, List.set_cons_succ]
        refine take1 (i := 5) (v := .bool true) rfl (by kernel_rfl) (by kernel_rfl) (by kernel_rfl) (fun _ _ _ h => h) (Or.inl ⟨by rfl, fun w hSw => ?_⟩) hHeld ?_
        · (go_simp)
        try simp only [Act.put, List.setIfInBounds_toArray, List.set_cons_zero, List.set_cons_succ]
        refine take1 (i := 6) (v := .bool true) rfl (by kernel_rfl) (by kernel_rfl) (by kernel_rfl) (fun _ _ _ h => h) (Or.inl ⟨by rfl, fun w hSw => ?_⟩) hHeld ?_
        · (go_simp)
        try simp only [Act.put, List.setIfInBounds_toArray, List.set_cons_zero, List.set_cons_succ]
        refine take1 (i := 7) (v := .bool true) rfl (by kernel_rfl) (by kernel_rfl) (by kernel_rfl) (fun _ _ _ h => h) (Or.inl ⟨by rfl, fun w hSw => ?_⟩) hHeld ?_
        · (go_simp)
        try simp only [Act.put, List.setIfInBounds_toArray, List.set_cons_zero, List.set_cons_succ]
        refine take1 (i := 8) (v := .int .i64 (i : Int)) rfl (by kernel_rfl) (by kernel_rfl) (by kernel_rfl) (fun _ _ _ h => h) (Or.inl ⟨by rfl, fun w hSw => ?_⟩) hHeld ?_
        · (go_simp)
        try simp only [Act.put, List.setIfInBounds_toArray, List.set_cons_zero, List.set_cons_succ]
        refine take1 (i := 9) (v := .bool true) rfl (by kernel_rfl) (by kernel_rfl) (by kernel_rfl) (fun _ _ _ h => h) (Or.inl ⟨by rfl, fun w hSw => ?_⟩) hHeld ?_
        · (go_simp)
        try simp only [Act.put, List.setIfInBounds_toArray, List.set_cons_zero, List.set_cons_succ]
        refine take1 (i := 10) (v := .bool true) rfl (by kernel_rfl) (by kernel_rfl) (by kernel_rfl) (fun _ _ _ h => h) (Or.inl ⟨by rfl, fun w hSw => ?_⟩) hHeld ?_
        · (go_simp)
        try simp only [Act.put, List.setIfInBounds_toArray, List.set_cons_zero, List.set_cons_succ]
        refine take1 (i := 11) (v := .bool true) rfl (by kernel_rfl) (by kernel_rfl) (by kernel_rfl) (fun _ _ _ h => h) (Or.inl ⟨by rfl, fun w hSw => ?_⟩) hHeld ?_
        · (go_simp)
        try simp only [Act.put, List.setIfInBounds_toArray, List.set_cons_zero, List.set_cons_succ]
        refine take1 (i := 12) (v := .bool true) rfl (by kernel_rfl) (by kernel_rfl) (by kernel_rfl) (fun _ _ _ h => h) (Or.inl ⟨by rfl, fun w hSw => ?_⟩) hHeld ?_
        · (go_simp)
        try simp only [Act.put, List.setIfInBounds_toArray, List.set_cons_zero, List.set_cons_succ]
        refine take1 (i := 13) (v := .int .i64 (i : Int)) rfl (by kernel_rfl) (by kernel_rfl) (by kernel_rfl) (fun _ _ _ h => h) (Or.inl ⟨by rfl, fun w hSw => ?_⟩) hHeld ?_
        · (go_simp)
        try simp only [Act.put, List.setIfInBounds_toArray, List.set_cons_zero, List.set_cons_succ]
        refine take1 (i := 14) (v := .bool false) rfl (by kernel_rfl) (by kernel_rfl) (by kernel_rfl) (fun _ _ _ h => h) (Or.inl ⟨by rfl, fun w hSw => ?_⟩) hHeld ?_
        · (go_simp)
        try simp only [Act.put, List.setIfInBounds_toArray, List.set_cons_zero, List.set_cons_succ]
        refine take1 (i := 15) (v := .bool false) rfl (by kernel_rfl) (by kernel_rfl) (by kernel_rfl) (fun _ _ _ h => h) (Or.inl ⟨by rfl, fun w hSw => ?_⟩) hHeld ?_
        · (go_simp)
        try simp only [Act.put, List.setIfInBounds_toArray, List.set_cons_zero, List.set_cons_succ]
        refine take1 (i := 16) (v := undef) rfl (by kernel_rfl) (by kernel_rfl) (by kernel_rfl) (fun _ _ _ h => h) (Or.inr ⟨by rfl, rfl⟩) hHeld ?_
        try simp only [Act.put, List.setIfInBounds_toArray, List.set_cons_zero, List.set_cons_succ]
        refine take1 (i := 17) (v := undef) rfl (by kernel_rfl) (by kernel_rfl) (by kernel_rfl) (fun _ _ _ h => h) (Or.inr ⟨by rfl, rfl⟩) hHeld ?_
        try simp only [Act.put, List.setIfInBounds_toArray, List.set_cons_zero, List.set_cons_succ]
        refine take1 (i := 18) (v := undef) rfl (by kernel_rfl) (by kernel_rfl) (by kernel_rfl) (fun _ _ _ h => h) (Or.inr ⟨by rfl, rfl⟩) hHeld ?_
        try simp only [Act.put, List.setIfInBounds_toArray, List.set_cons_zero, List.set_cons_succ]
        refine take1 (i := 19) (v := .bool false) rfl (by kernel_rfl) (by kernel_rfl) (by kernel_rfl) (fun _ _ _ h => h) (Or.inl ⟨by rfl, fun w hSw => ?_⟩) hHeld ?_
        · (go_simp)
        try simp only [Act.put, List.setIfInBounds_toArray, List.set_cons_zero, List.set_cons_succ]
        refine take1 (i := 20) (v := .bool false) rfl (by kernel_rfl) (by kernel_rfl) (by kernel_rfl) (fun _ _ _ h => h) (Or.inl ⟨by rfl, fun w hSw => ?_⟩) hHeld ?_
        · (go_simp)
        try simp only [Act.put, List.setIfInBounds_toArray, List.set_cons_zero, List.set_cons_succ]
        refine take1 (i := 21) (v := .int .i64 (i : Int)) rfl (by kernel_rfl) (by kernel_rfl) (by kernel_rfl) (fun _ _ _ h => h) (Or.inl ⟨by rfl, fun w hSw => ?_⟩) hHeld ?_
        · (go_simp)
        try simp only [Act.put, List.setIfInBounds_toArray, List.set_cons_zero, List.set_cons_succ]
        refine take1 (i := 22) (v := .bool true) rfl (by kernel_rfl) (by kernel_rfl) (by kernel_rfl) (fun _ _ _ h => h) (Or.inl ⟨by rfl, fun w hSw => ?_⟩) hHeld ?_
        · (go_simp)
        try simp only [Act.put, List.setIfInBounds_toArray, List.set_cons_zero, List.set_cons_succ]
        refine take1 (i := 23) (v := .bool true) rfl (by kernel_rfl) (by kernel_rfl) (by kernel_rfl) (fun _ _ _ h => h) (Or.inl ⟨by rfl, fun w hSw => ?_⟩) hHeld ?_
        · (go_simp)
        try simp only [Act.put, List.setIfInBounds_toArray, List.set_cons_zero, List.set_cons_succ]
        refine take1 (i := 24) (v := .agg #[.int .i64 c, .int .i64 s]) rfl (by kernel_rfl) (by kernel_rfl) (by kernel_rfl) (fun _ _ _ h => h) (Or.inl ⟨by rfl, fun w hSw => ?_⟩) hHeld ?_
        · (go_simp)
        try simp only [Act.put, List.setIfInBounds_toArray, List.set_cons_zero, List.set_cons_succ]
        refine take1 (i := 25) (v := .agg #[.int .i64 ev.ac, .int .i64 ev.an, .int .i32 ev.ch, .bool ev.d]) rfl (by kernel_rfl) (by kernel_rfl) (by kernel_rfl) (fun _ _ _ h => h) (Or.inl ⟨by rfl, fun w hSw => ?_⟩) hHeld ?_
        · (go_simp)
        try simp only [Act.put, List.setIfInBounds_toArray, List.set_cons_zero, List.set_cons_succ]
        refine take1 (i := 27) (v := .slice (some ⟨g, 0, none⟩) (els T).length cap') rfl (by kernel_rfl) (by kernel_rfl) (by kernel_rfl) (fun _ _ _ h => h) (Or.inl ⟨by rfl, fun w hSw => ?_⟩) hHeld ?_
        · (go_simp)
        try simp only [Act.put, List.setIfInBounds_toArray, List.set_cons_zero, List.set_cons_succ]
        refine take1 (i := 28) (v := .int .i64 (i : Int)) rfl (by kernel_rfl) (by kernel_rfl) (by kernel_rfl) (fun _ _ _ h => h) (Or.inl ⟨by rfl, fun w hSw => ?_⟩) hHeld ?_
        · (go_simp)
        try simp only [Act.put, List.setIfInBounds_toArray, List.set_cons_zero, List.set_cons_succ]
        refine take1 (i := 29) (v := .pointer (some ⟨g, i * 6, none⟩)) rfl (by kernel_rfl) (by kernel_rfl) (by kernel_rfl) (fun _ _ _ h => h) (Or.inl ⟨by rfl, fun w hSw => ?_⟩) hHeld ?_
        · (go_simp)
        try simp only [Act.put, List.setIfInBounds_toArray, List.set_cons_zero, List.set_cons_succ]
        refine take1 (i := 30) (v := .agg #[.int .i64 c, .int .i64 s, .int .i64 ev.ac, .int .i64 ev.an, .int .i32 ev.ch, .bool ev.d]) rfl (by kernel_rfl) (by kernel_rfl) (by kernel_rfl) (fun _ _ _ h => h) (Or.inl ⟨by rfl, fun w hSw => ?_⟩) hHeld ?_
        · (go_simp)
        try simp only [Act.put, List.setIfInBounds_toArray, List.set_cons_zero, List.set_cons_succ]
        refine wpAnyH_ready (rs := [26]) (by kernel_rfl) (by simp) ?_
        refine cons1 rfl (fun K hK => ?_) AllReadyH.nil
        go_simp
        refine (of4_any c s ev _).mono ?_
        unfold reV
        rintro e' u3 ⟨rfl, hb⟩
        go_wp2_with fail
        refine hK.out _ _ ((hHeld.2.2.2.2.2.2.2.2.2.2.2.2.2.2.next hb).sy HYC.out) (fun hHeld2 => ?_)
        clear hK K hHeld hb
        have hHeld := hHeld2
        clear hHeld2
        try simp only [Act.put, List.setIfInBounds_toArray, List.set_cons_zero, List.set_cons_succ]
        refine take1 (i := 31) (v := .bool true) rfl (by kernel_rfl) (by kernel_rfl) (by kernel_rfl) (fun _ _ _ h => h) (Or.inl ⟨by rfl, fun w hSw => ?_⟩) hHeld ?_
        · (go_simp)
        try simp only [Act.put, List.setIfInBounds_toArray, List.set_cons_zero, List.set_cons_succ]
        refine take1 (i := 32) (v := .bool true) rfl (by kernel_rfl) (by kernel_rfl) (by kernel_rfl) (fun _ _ _ h => h) (Or.inl ⟨by rfl, fun w hSw => ?_⟩) hHeld ?_
        · (go_simp)
        try simp only [Act.put, List.setIfInBounds_toArray, List.set_cons_zero, List.set_cons_succ]
        refine take1 (i := 33) (v := .bool true) rfl (by kernel_rfl) (by kernel_rfl) (by kernel_rfl) (fun _ _ _ h => h) (Or.inl ⟨by rfl, fun w hSw => ?_⟩) hHeld ?_
        · (go_simp)
        try simp only [Act.put, List.setIfInBounds_toArray, List.set_cons_zero, List.set_cons_succ]
        refine take1 (i := 34) (v := .bool true) rfl (by kernel_rfl) (by kernel_rfl) (by kernel_rfl) (fun _ _ _ h => h) (Or.inl ⟨by rfl, fun w hSw => ?_⟩) hHeld ?_
        · (go_simp)
        try simp only [Act.put, List.setIfInBounds_toArray, List.set_cons_zero, List.set_cons_succ]
        refine take1 (i := 35) (v := .bool true) rfl (by kernel_rfl) (by kernel_rfl) (by kernel_rfl) (fun _ _ _ h => h) (Or.inl ⟨by rfl, fun w hSw => ?_⟩) hHeld ?_
        · (go_simp)
        try simp only [Act.put, List.setIfInBounds_toArray, List.set_cons_zero, List.set_cons_succ]
        refine wpAnyH_done (by kernel_rfl) ?_ _
        refine NoPanic.normal ?_
        have HZ := Lib.hid hHeld.2.2.2.2.2.2.2.2.2.2.2.2.2.2.base.bel
        clear hHeld
        go_wp2_with fail
        go_ret
        exact ⟨rfl, HZ.out⟩

set_option maxHeartbeats 1600000 in
set_option maxRecDepth 100000 in
theorem plays_long (a : Option Addr) (n cap : Nat) (c s : Int) (w : World) (h : 100 < n) (ht : Tab w) :
    Calls Tryd.prog 3 #[.slice a n cap, .agg #[.int .i64 c, .int .i64 s]] w fun e w' => e = .returned (.bool true) ∧ Below w.heap.size w w' := by
  have hb0 : Below w.heap.size w (w.alloc (.cells #[.int .i64 c, .int .i64 s] 24)) := (Below.refl _ _).alloc (Nat.le_refl _) _
  have HB := Lib.hid hb0
  have HTab := Lib.hid ht
  clear hb0 ht
  go_enter Tryd.func3, Tryd.ntmps3
  go_wp2_with (go_at_call 5; refine (awakeD_any _ (HTab.out.next HB.out)).mono ?_; rintro e w1 ⟨rfl, hb1⟩)
  go_ret
  exact ⟨rfl, HB.out.trans (hb1.mono HB.out.size)⟩

theorem plays_any (v : Value) (l : List Ac) (c s : Int) (w : World) (hl : IsActs w v l) (ht : Tab w) :
    Calls Tryd.prog 3 #[v, .agg #[.int .i64 c, .int .i64 s]] w fun e w' => e = .returned (.bool true) ∧ Below w.heap.size w w' := by
  obtain ⟨a, cap, rfl, h1, h2, h3⟩ := hl
  by_cases c1 : l.length ≤ 100
  · exact plays_main a cap l c s w c1 h1 h2 h3 ht
  · exact plays_long a _ cap c s w (by omega) ht
end Go.Proofs.YtkhggojghjociaaDoor
