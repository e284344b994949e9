/-
  The contracts of last and of Last: the greatest digit that leads on, and the greatest id that has an entry.
-/
import Derived.Test.YtkhggojghjociaaDoorPutM
namespace Go.Proofs.YtkhggojghjociaaDoor
open Go Go.Proofs Go.RowKit

theorem kid_none {n : Nat} {W : World} {p : Option Addr} {T : Pt} (h : IsP n W p T) : (p = none ↔ T.isNil = true) := by
  rcases h.cases with ⟨rfl, rfl⟩ | ⟨b, ps, rfl, hbn, hB, hnn, hc⟩
  · exact ⟨fun _ => rfl, fun _ => rfl⟩
  · rw [hnn]; exact ⟨fun h => (by cases h), fun h => (by cases h)⟩

set_option maxHeartbeats 1600000 in
theorem last_any {n b : Nat} {ps : Nat → Option Addr} {T : Pt} (w : World) (hB : Blk w b (ptL ps T.en) 63) (hc : ∀ d, d < 8 → IsP n w (ps d) (T.nx d)) :
    Calls Tryd.prog 31 #[.pointer (some ⟨b, 0, none⟩)] w fun e w' => e = .returned (.int .i64 ((lastD T.nx 7 : Nat) : Int)) ∧ w' = w := by
  have HC := Lib.hid hc
  have HB := Lib.hid hB
  clear hc hB
  go_enter Tryd.func31, Tryd.ntmps31
  go_wp2
  go_loopg [3] 7 (fun g td wr => ∃ d : Nat, d ≤ 7 ∧ g = d ∧ td = .int .i64 (d : Int) ∧ lastD T.nx d = lastD T.nx 7 ∧ wr = w)
  case atStart => exact ⟨7, by omega, rfl, rfl, rfl, rfl⟩
  case round =>
    obtain ⟨d, hd, rfl, rfl, hl, rfl⟩ := hrel
    have HL := Lib.hid hl
    clear hl
    match gk, hd, HL with
    | 0, _, HL =>
      go_wp2
      go_ret
      exact ⟨by rw [← HL.out]; rfl, rfl⟩
    | d + 1, hd, HL =>
      have hcell := HB.out.cell _ (ptL_ptr ps T.en (show d + 1 < 8 by omega))
      have hk := kid_none (HC.out (d + 1) (by omega))
      have HK := Lib.hid hk
      clear hk
      cases hp : ps (d + 1) with
      | none =>
        rw [hp] at hcell
        have hn := HK.out.1 hp
        have HN := Lib.hid hn
        clear hn
        go_wp2
        go_roundg d
        case measure => omega
        case rel => exact ⟨d, by omega, rfl, by go_num, by rw [← HL.out]; simp only [lastD]; rw [if_pos HN.out], rfl⟩
      | some a =>
        rw [hp] at hcell
        have hn : ¬ (T.nx (d + 1)).isNil = true := fun e => by have := HK.out.2 e; rw [hp] at this; cases this
        have HN := Lib.hid hn
        clear hn
        go_wp2
        go_ret
        exact ⟨by rw [← HL.out]; simp only [lastD]; rw [if_neg HN.out]; rfl, rfl⟩

/-- The greatest id; None of the empty map. -/
def lastC (T : Pt) : Int := if T.isNil = true then 0 else nmC (lastP 10 0 T)
def lastS (T : Pt) : Int := if T.isNil = true then 0 else nmS (lastP 10 0 T)
theorem full_kid {i : Nat} {T : Pt} (hf : Full (i + 1) T) (hn : T.isNil = false) : Full i (T.nx (lastD T.nx 7)) ∧ (T.nx (lastD T.nx 7)).isNil = false := by
  have hex : ∃ d, d ≤ 7 ∧ (T.nx d).isNil = false := by
    rcases hf.2 with rfl | ⟨d, hd, hh⟩
    · cases hn
    · exact ⟨d, by omega, hh⟩
  have hle := lastD_le T.nx 7
  exact ⟨hf.1 _ (by omega), (lastD_spec T.nx 7 hex).1⟩
/-- The boxes of Last. -/
structure LastB (w : World) (p : Option Addr) (n : Int) (T : Pt) (W : World) : Prop where
  bel : Below w.heap.size w W
  bm : Blk W w.heap.size [.pointer p, .int .i64 n] 28
  br : Blk W (w.heap.size + 1) [.int .i64 0, .int .i64 0] 24
theorem LastB.next {w : World} {p : Option Addr} {n : Int} {T : Pt} {W W' : World} (h : LastB w p n T W) (hb : Below W.heap.size W W') : LastB w p n T W' :=
  ⟨h.bel.trans (hb.mono h.bel.size), h.bm.next hb, h.br.next hb⟩
theorem LastB.start {w : World} {p : Option Addr} {n : Int} {T : Pt} : LastB w p n T ((w.alloc (.cells #[.pointer p, .int .i64 n] 28)).alloc (.cells #[.int .i64 0, .int .i64 0] 24)) :=
  ⟨((Below.refl _ _).alloc (Nat.le_refl _) _).alloc (by simp) _, (Blk.start w _ _).alloc _, Blk.startAt (by simp)⟩

set_option maxHeartbeats 3200000 in
theorem Last_any {p : Option Addr} {T : Pt} (n : Int) (w : World) (h : IsM w p T) (hf : Full 10 T) :
    Calls Tryd.prog 18 #[.agg #[.pointer p, .int .i64 n]] w fun e w' => e = .returned (.agg #[.int .i64 (lastC T), .int .i64 (lastS T)]) ∧ Below w.heap.size w w' := by
  have H0 := Lib.hid (LastB.start (w := w) (p := p) (n := n) (T := T))
  cases hn : T.isNil with
  | true =>
    obtain rfl := Pt.isNil_true hn
    obtain rfl : p = none := h
    have y0 := H0.out.br.cell 0 rfl
    have y1 := H0.out.br.cell 1 rfl
    have z0 := H0.out.br.free 0
    have z1 := H0.out.br.free 1
    have HR := Lib.hid ((H0.out.br.set 0 (.int .i64 0)).set 1 (.int .i64 0))
    have HE := Lib.hid ((H0.out.bel.setCell (p := ⟨w.heap.size + 1, 0, none⟩) (by show w.heap.size ≤ w.heap.size + 1; omega) (.int .i64 0)).setCell (p := ⟨w.heap.size + 1, 1, none⟩) (by show w.heap.size ≤ w.heap.size + 1; omega) (.int .i64 0))
    clear y0 y1 z0 z1
    go_enter Tryd.func18, Tryd.ntmps18
    go_wp2
    exact bodyPost_ret (v := .agg #[.int .i64 0, .int .i64 0]) (by simp [results, Tryd.results18, go_sem]) rfl ⟨rfl, H0.out.bel⟩
  | false =>
    have HF := Lib.hid hf
    have HT := Lib.hid h
    clear hf h
    go_enter Tryd.func18, Tryd.ntmps18
    rcases HT.out.cases with ⟨_, rfl⟩ | ⟨b, ps, rfl, hbn, hB, hnn, hc⟩
    · cases hn
    clear hB hc hnn hbn
    go_wp2
    go_loopg [3, 4, 11] 10 (fun g tp ta ti wr => ∃ k : Nat, k ≤ 10 ∧ g = 10 - k ∧ ti = .int .i64 (k : Int) ∧ ∃ (x : Nat) (q : Option Addr) (U : Pt), ta = .int .i64 (x : Int) ∧ tp = .pointer q ∧ x < 8 ^ k ∧ IsP w.heap.size w q U ∧ Full (10 - k) U ∧ U.isNil = false ∧ lastP (10 - k) x U = lastP 10 0 T ∧ LastB w (some ⟨b, 0, none⟩) n T wr)
    case atStart => exact ⟨0, by omega, rfl, rfl, 0, _, T, rfl, rfl, by decide, HT.out, HF.out, hn, rfl, H0.out⟩
    case round =>
      obtain ⟨k, hk, rfl, rfl, x, q, U, rfl, rfl, hx, hU, hf, hnU, hl, hB⟩ := hrel
      rcases hU.cases with ⟨_, rfl⟩ | ⟨b', ps', rfl, hbn', hB', hnn', hc'⟩
      · cases hnU
      clear H0 HT HF
      by_cases hlt : k < 10
      · have hp : (8 : Nat) ^ k ≤ 8 ^ 9 := Nat.pow_le_pow_right (by decide) (by omega)
        have hxb : x < 134217728 := by have : (8 : Nat) ^ 9 = 134217728 := by decide
                                       omega
        have hD := lastD_le U.nx 7
        have hstep : 10 - k = (10 - (k + 1)) + 1 := by omega
        rw [hstep] at hf hl
        have hkid := full_kid hf hnn'
        have hcell := (hB'.next hB.bel).cell _ (ptL_ptr ps' U.en (show lastD U.nx 7 < 8 by omega))
        have hx8 : x * 8 + lastD U.nx 7 < 8 ^ (k + 1) := by rw [Nat.pow_succ]; omega
        have HG := Lib.hid (And.intro hkid (And.intro (hc' _ (show lastD U.nx 7 < 8 by omega)) (And.intro hx8 (show lastP (10 - (k + 1)) (x * 8 + lastD U.nx 7) (U.nx (lastD U.nx 7)) = lastP 10 0 T from hl))))
        have HL := Lib.hid (last_any (wr) (hB'.next hB.bel) (fun d hd => (hc' d hd).below hB.bel))
        have HB := Lib.hid hB
        clear hf hl hkid hx8 hc' hB hB' hnn' hnU hU hp
        generalize lastD U.nx 7 = D at *
        have s1 : IntKind.i64.wrap ((x : Int) * 8) = (x : Int) * 8 := IntWalk.i64_in _ (by omega)
        have s2 := or8 ((x : Int) * 8) (D : Int) (by omega) (by omega) (by omega) (by omega) (by omega)
        have hd8 : (D : Int) < 8 := by omega
        go_wp2_with (go_at_call 31; refine HL.out.mono ?_; rintro e w1 ⟨rfl, rfl⟩)
        go_quiet (fail)
        go_wp2
        go_roundg (10 - (k + 1))
        case measure => omega
        case rel => exact ⟨k + 1, by omega, rfl, by go_num, x * 8 + D, _, _, by go_num, rfl, HG.out.2.2.1, HG.out.2.1, HG.out.1.1, HG.out.1.2, HG.out.2.2.2, HB.out.next (below_drewN (Below.refl _ _) _)⟩
      · obtain rfl : k = 10 := by omega
        have hx2 : x < 1073741824 := by have : (8 : Nat) ^ 10 = 1073741824 := by decide
                                        omega
        have HB := Lib.hid hB
        have hlp : x = lastP 10 0 T := hl
        have HP := Lib.hid hlp
        clear hl hB hf hU hc' hB' hx hnU hnn' hlp
        go_wp2_with (go_at_call 32; refine (named_any x _ hx2).mono ?_; rintro e w1 ⟨rfl, hb⟩; refine Hid.out ?_)
        have hB1 := HB.out.next hb
        have y0 := hB1.br.cell 0 rfl
        have y1 := hB1.br.cell 1 rfl
        have z0 := hB1.br.free 0
        have z1 := hB1.br.free 1
        have HR := Lib.hid ((hB1.br.set 0 (.int .i64 (nmC x))).set 1 (.int .i64 (nmS x)))
        have HE := Lib.hid ((hB1.bel.setCell (p := ⟨w.heap.size + 1, 0, none⟩) (by show w.heap.size ≤ w.heap.size + 1; omega) (.int .i64 (nmC x))).setCell (p := ⟨w.heap.size + 1, 1, none⟩) (by show w.heap.size ≤ w.heap.size + 1; omega) (.int .i64 (nmS x)))
        have e0 : lastC T = nmC x := by unfold lastC; rw [hn, ← HP.out]; rfl
        have e1 : lastS T = nmS x := by unfold lastS; rw [hn, ← HP.out]; rfl
        have HV := Lib.hid (And.intro e0 e1)
        clear e0 e1 hB1 hb HB HP
        refine Lib.hid ?_
        go_wp2_with fail
        exact bodyPost_ret (v := .agg #[.int .i64 (nmC x), .int .i64 (nmS x)]) (by have r0 := HR.out.cell 0 rfl; have r1 := HR.out.cell 1 rfl; simp [results, Tryd.results18, go_sem, r0, r1]) rfl ⟨by rw [HV.out.1, HV.out.2], HE.out⟩
end Go.Proofs.YtkhggojghjociaaDoor
