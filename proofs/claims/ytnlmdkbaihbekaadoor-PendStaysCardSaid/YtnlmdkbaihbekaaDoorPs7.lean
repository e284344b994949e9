/-
  The walk of the law PendStays, over what the calls of core and pend answer.
-/
import Derived.Test.YtnlmdkbaihbekaaDoorPl7
import Derived.Deep.CutRange
namespace Go.Proofs.YtnlmdkbaihbekaaDoor
open Go Go.Proofs Go.RowKit

theorem add_nodup {l : List Oq} {o : Oq} (h : l.Nodup) : (addL l o).Nodup := by
  unfold addL
  split
  · rename_i he
    have hno : o ∉ l := fun hm => by
      have h4 : 0 ≤ fnd (twB o) l 0 := fnd_pos.2 ⟨o, hm, sameB_iff.2 rfl⟩
      by_cases hc : chkE o.k o.c o.s o.a o.n o.ch = 0
      · rw [(add_tw hc h4).1] at he; cases he
      · rw [(add_chk (l := l) hc).1] at he; exact hc he
    rw [List.nodup_append]
    exact ⟨h, by simp, fun a ha b hb => by rw [List.mem_singleton.1 hb]; exact fun e => hno (e ▸ ha)⟩
  · exact h
/-- Where PendStays stands: the room in its box. -/
structure Ps7 (w : World) (L : List Oq) (s : Value) (W : World) : Prop where
  bel : Below w.heap.size w W
  bR : Blk W w.heap.size [s] 25
  room : IsP7 W s L
theorem Ps7.next {w : World} {L : List Oq} {s : Value} {W W' : World} (h : Ps7 w L s W) (hb : Below W.heap.size W W') : Ps7 w L s W' := ⟨h.bel.trans (hb.mono h.bel.size), h.bR.next hb, h.room.next hb⟩
theorem Ps7.put {w : World} {L L2 : List Oq} {s s2 : Value} {W : World} (h : Ps7 w L s W) (hr : IsP7 W s2 L2) : Ps7 w L2 s2 (W.setCell ⟨w.heap.size, 0, none⟩ s2) :=
  ⟨h.bel.setCell (p := ⟨w.heap.size, 0, none⟩) (Nat.le_refl _) _, h.bR.set 0 s2, hr.set h.bR (by decide) _⟩
theorem Ps7.start (w : World) : Ps7 w [] (.slice none 0 0) (w.alloc (.cells #[.slice none 0 0] 25)) :=
  ⟨(Below.refl _ _).alloc (Nat.le_refl _) _, Blk.start w _ _, .inl ⟨rfl, rfl⟩⟩
/-- The first operation of a slice of one's own: its cell of the Char. -/
theorem own_first {W : World} {b : Nat} {a : Option Addr} {c : Nat} {L : List Oq} (h : W.ownsRow b 30 6 (.slice a L.length c) L.length (L.flatMap oqL)) (hL : 0 < L.length) :
    ∃ g x, a = some ⟨g, 0, none⟩ ∧ b ≤ g ∧ g < W.heap.size ∧ W.cell? ⟨g, 5, none⟩ = some (.int .i32 x) ∧ W.frozen? ⟨g, 5, none⟩ = false := by
  obtain ⟨g, cap, e, hg, -⟩ := own_form h hL
  cases e
  obtain ⟨g', e, hlt, hC⟩ := IsP7.at (Sl.of h) 0 hL
  cases e
  have := (hC W (Below.refl _ _)).2.2.2.2.2
  refine ⟨g, L[0].ch, rfl, hg, hlt, by simpa using this, ?_⟩
  rcases h.2 with ⟨h0, _⟩ | ⟨g2, cap2, cur, hv, _, hh, _⟩
  · cases h0
  · simp only [Value.slice.injEq, Option.some.injEq, Addr.mk.injEq] at hv
    obtain ⟨⟨rfl, _, _⟩, _, _⟩ := hv
    exact Blk.free (vs := cur.toList) hh 5

/-- Where the last loop stands. -/
def St9 (w : World) (a1 : Option Addr) (c1 : Nat) (a5 : Option Addr) (c5 : Nat) (L : List Oq) (W : World) : Prop := Below w.heap.size w W ∧ IsP7 W (.slice a1 L.length c1) L ∧ IsP7 W (.slice a5 L.length c5) L
theorem St9.next {w : World} {a1 : Option Addr} {c1 : Nat} {a5 : Option Addr} {c5 : Nat} {L : List Oq} {W W' : World} (h : St9 w a1 c1 a5 c5 L W) (hb : Below W.heap.size W W') : St9 w a1 c1 a5 c5 L W' := ⟨h.1.trans (hb.mono h.1.size), h.2.1.next hb, h.2.2.next hb⟩
set_option maxHeartbeats 6400000 in
set_option maxRecDepth 100000 in
theorem stays7_main (hAdd : PAddOk) (hNx : PNextOk 0) (hAll : PAllOk) (hAw : Awake7Ok) (ad1 ad2 : Option Addr) (cap1 cap2 : Nat) (l ks : List Oq) (w : World)
    (hl : l.length ≤ 40) (hks : ks.length ≤ 40) (_ : l.length ≤ cap1) (_ : cap1 ≤ 9223372036854775807) (_ : ks.length ≤ cap2) (_ : cap2 ≤ 9223372036854775807)
    (hL : l ≠ [] → ∃ b off, ad1 = some ⟨b, off, none⟩ ∧ b < w.heap.size ∧ LiesO w b off l) (hK : ks ≠ [] → ∃ b off, ad2 = some ⟨b, off, none⟩ ∧ b < w.heap.size ∧ LiesO w b off ks) (ht : Tabs w) :
    Calls Tryd.prog 3 #[.slice ad1 l.length cap1, .slice ad2 ks.length cap2] w fun e w' => e = .returned (.bool true) ∧ Below w.heap.size w w' := by
  have HTab := Lib.hid ht
  have HL := Lib.hid hL
  have HK := Lib.hid hK
  have HC := Lib.hid (And.intro hAdd (And.intro hNx (And.intro hAll hAw)))
  have H0 := Lib.hid (Ps7.start w)
  clear hL hK hAdd hNx hAll hAw ht
  have hl' : ¬ (40 : Int) < (l.length : Int) := by omega
  have hks' : ¬ (40 : Int) < (ks.length : Int) := by omega
  go_enter Tryd.func3, Tryd.ntmps3
  go_wp2_with fail
  go_loopg [34] l.length (fun g ti wr => ∃ k : Nat, k ≤ l.length ∧ g = l.length - k ∧ ti = .int .i64 (k : Int) ∧ ∃ L s, L.length ≤ 16 ∧ L.Nodup ∧ Ps7 w L s wr)
  case atStart => exact ⟨0, Nat.zero_le _, rfl, rfl, [], _, by simp, by simp, H0.out⟩
  case round =>
    obtain ⟨k, hk, rfl, rfl, L, s, hL16, hnd, hS⟩ := hrel
    clear H0
    have HND := Lib.hid hnd
    clear hnd
    obtain ⟨sa, sc, rfl, hsc1, hsc2⟩ := hS.room.form
    by_cases hlt : k < l.length
    · obtain ⟨b, off, rfl, hbw, hLies⟩ := HL.out (fun e => by rw [e] at hlt; cases hlt)
      obtain ⟨l0, l1, l2, l3, l4, l5⟩ := hLies k hlt
      have k0 := (hS.bel.cell (p := ⟨b, off + k * 6, none⟩) hbw).trans l0
      have k1 := (hS.bel.cell (p := ⟨b, off + k * 6 + 1, none⟩) hbw).trans l1
      have k2 := (hS.bel.cell (p := ⟨b, off + k * 6 + 2, none⟩) hbw).trans l2
      have k3 := (hS.bel.cell (p := ⟨b, off + k * 6 + 3, none⟩) hbw).trans l3
      have k4 := (hS.bel.cell (p := ⟨b, off + k * 6 + 4, none⟩) hbw).trans l4
      have k5 := (hS.bel.cell (p := ⟨b, off + k * 6 + 5, none⟩) hbw).trans l5
      clear l0 l1 l2 l3 l4 l5 hLies
      generalize l[k] = o at *
      have hba : Below wr.heap.size wr (wr.alloc (.cells #[.int .i64 o.k, .int .i64 o.c, .int .i64 o.s, .int .i64 o.a, .int .i64 o.n, .int .i32 o.ch] 30)) := (Below.refl _ _).alloc (Nat.le_refl _) _
      have HS := Lib.hid (hS.next hba)
      have hAL := add_len (o := o) hL16
      have HN2 := Lib.hid (add_nodup (o := o) HND.out)
      have HAd := Lib.hid (fun W (h : IsP7 W (.slice sa L.length sc) L) => HC.out.1 L o (.slice sa L.length sc) W hL16 h)
      have r0 := fun ob => (hS.bR.alloc ob).cell 0 rfl
      clear hS hba
      generalize addL L o = LA at *
      generalize addE L o = ae at *
      go_wp2_with (go_at_call 5; refine (HAd.out _ HS.out.room).mono ?_; rintro e w2 ⟨hb, s3, rfl, hs3⟩; obtain ⟨a3, c3, rfl, h31, h32⟩ := hs3.form; refine Hid.out ?_)
      have HS2 := Lib.hid (And.intro (HS.out.next hb) hs3)
      clear HS hb hs3 HAd r0 k0 k1 k2 k3 k4 k5
      have r0 := HS2.out.1.bR.cell 0 rfl
      have rf := HS2.out.1.bR.free 0
      have HS3 := Lib.hid (HS2.out.1.put HS2.out.2)
      refine Lib.hid ?_
      go_wp2_with fail
      go_roundg (l.length - (k + 1))
      case measure => omega
      case rel => exact ⟨k + 1, by omega, rfl, by go_num, LA, _, hAL, HN2.out, HS3.out⟩
    · obtain rfl : k = l.length := by omega
      have HS := Lib.hid hS
      have HAl := Lib.hid (fun W (h : IsP7 W (.slice sa L.length sc) L) => HC.out.2.2.1 L (.slice sa L.length sc) W hL16 h)
      have HAd := Lib.hid (fun o W (h : IsP7 W (.slice sa L.length sc) L) => HC.out.1 L o (.slice sa L.length sc) W hL16 h)
      have hNX := fun W (h : IsP7 W (.slice sa L.length sc) L) => HC.out.2.1 [] L (.slice sa L.length sc) none none .nil .nil W (Nat.le_refl _) ok_nil (StO.nil W) hL16 h
      rw [cnt_nil] at hNX
      have HNX := Lib.hid hNX
      have r0 := hS.bR.cell 0 rfl
      clear hS hNX hlt hk
      go_wp2_with (go_at_call 6; refine (HAl.out _ HS.out.room).mono ?_; rintro e w1 ⟨s1, rfl, ho, -, hb⟩; obtain ⟨a1, c1, rfl, h11, h12⟩ := ho.form; refine Hid.out ?_)
      have H1 := Lib.hid (show Ps7 w L (.slice sa L.length sc) w1 ∧ IsP7 w1 (.slice a1 L.length c1) L from ⟨HS.out.next hb, ho⟩)
      clear HS hb ho r0
      have hL16' : ¬ (16 : Int) < (L.length : Int) := by omega
      refine Lib.hid ?_
      go_wp2_with fail
      go_loopg [9, 52] L.length (fun g t9 ti wr => ∃ k : Nat, k ≤ L.length ∧ g = L.length - k ∧ ti = .int .i64 (k : Int) ∧ Ps7 w L (.slice sa L.length sc) wr ∧ IsP7 wr (.slice a1 L.length c1) L)
      case atStart => exact ⟨0, Nat.zero_le _, rfl, rfl, H1.out⟩
      case round =>
        obtain ⟨k, hk, rfl, rfl, hS, hP⟩ := hrel
        clear H1
        have H1 := Lib.hid (And.intro hS hP)
        clear hS hP
        by_cases hlt : k < L.length
        · obtain ⟨gk, rfl, hg, hC⟩ := H1.out.2.at k hlt
          obtain ⟨k0, k1, k2, k3, k4, k5⟩ := hC wr (Below.refl _ _)
          have HX := Lib.hid (fun j (hj : j < k) => show ¬ L[j] = L[k] from fun e => List.pairwise_iff_getElem.1 HND.out j k (by omega) hlt hj e)
          generalize hox : L[k] = o at *
          clear hC hox
          have hba : Below wr.heap.size wr (wr.alloc (.cells #[.int .i64 o.k, .int .i64 o.c, .int .i64 o.s, .int .i64 o.a, .int .i64 o.n, .int .i32 o.ch] 30)) := (Below.refl _ _).alloc (Nat.le_refl _) _
          have H2 := Lib.hid (And.intro (H1.out.1.next hba) (And.intro (H1.out.2.next hba) (show Blk (wr.alloc (.cells #[.int .i64 o.k, .int .i64 o.c, .int .i64 o.s, .int .i64 o.a, .int .i64 o.n, .int .i32 o.ch] 30)) wr.heap.size (oqL o) 30 from Blk.start wr (oqL o) _)))
          have hkc : k ≤ c1 := by omega
          clear H1 hba
          go_upto_region 15 with fail
          obtain ⟨Bo, hBo⟩ : ∃ Bo, Bo = wr.heap.size := ⟨_, rfl⟩
          generalize wr.alloc (.cells #[.int .i64 o.k, .int .i64 o.c, .int .i64 o.s, .int .i64 o.a, .int .i64 o.n, .int .i32 o.ch] 30) = W1 at *
          rw [← hBo] at H2 ⊢
          clear hBo k0 k1 k2 k3 k4 k5
          go_wp2_with fail
          go_loopg [61] k (fun g tj wi => ∃ j : Nat, j ≤ k ∧ g = k - j ∧ tj = .int .i64 (j : Int) ∧ Ps7 w L (.slice sa L.length sc) wi ∧ IsP7 wi (.slice (some ⟨gk, 0, none⟩) L.length c1) L ∧ Blk wi Bo (oqL o) 30)
          case atStart => exact ⟨0, Nat.zero_le _, rfl, rfl, H2.out⟩
          case round =>
            obtain ⟨j, hj, rfl, rfl, hS, hP, hO⟩ := hrel
            clear H2
            have H2 := Lib.hid (And.intro hS (And.intro hP hO))
            clear hS hP hO
            by_cases hjk : j < k
            · obtain ⟨g', e, hg', hC⟩ := H2.out.2.1.at j (by omega)
              cases e
              obtain ⟨k0, k1, k2, k3, k4, k5⟩ := hC wr (Below.refl _ _)
              have HXJ := Lib.hid (HX.out j hjk)
              generalize L[j] = y at *
              clear hC
              have hba : Below wr.heap.size wr (wr.alloc (.cells #[.int .i64 y.k, .int .i64 y.c, .int .i64 y.s, .int .i64 y.a, .int .i64 y.n, .int .i32 y.ch] 30)) := (Below.refl _ _).alloc (Nat.le_refl _) _
              have H3 := Lib.hid (And.intro (show Ps7 w L (.slice sa L.length sc) _ ∧ IsP7 _ (.slice (some ⟨gk, 0, none⟩) L.length c1) L ∧ Blk _ Bo (oqL o) 30 from ⟨H2.out.1.next hba, H2.out.2.1.next hba, H2.out.2.2.next hba⟩) (show Blk (wr.alloc (.cells #[.int .i64 y.k, .int .i64 y.c, .int .i64 y.s, .int .i64 y.a, .int .i64 y.n, .int .i32 y.ch] 30)) wr.heap.size (oqL y) 30 from Blk.start wr (oqL y) _))
              clear H2 hba
              go_upto_region 18 with fail
              obtain ⟨By, hBy⟩ : ∃ By, By = wr.heap.size := ⟨_, rfl⟩
              generalize wr.alloc (.cells #[.int .i64 y.k, .int .i64 y.c, .int .i64 y.s, .int .i64 y.a, .int .i64 y.n, .int .i32 y.ch] 30) = W2 at *
              rw [← hBy] at H3 ⊢
              clear hBy k0 k1 k2 k3 k4 k5
              go_cut [61, 67] from 61 to 68 (fun tj tb wx => tj = .int .i64 (j : Int) ∧ tb = .bool false ∧ wx = W2)
              case first =>
                have y0 := H3.out.2.cell 0 rfl
                have y1 := H3.out.2.cell 1 rfl
                have y2 := H3.out.2.cell 2 rfl
                have y3 := H3.out.2.cell 3 rfl
                have y4 := H3.out.2.cell 4 rfl
                have y5 := H3.out.2.cell 5 rfl
                have o0 := H3.out.1.2.2.cell 0 rfl
                have o1 := H3.out.1.2.2.cell 1 rfl
                have o2 := H3.out.1.2.2.cell 2 rfl
                have o3 := H3.out.1.2.2.cell 3 rfl
                have o4 := H3.out.1.2.2.cell 4 rfl
                have o5 := H3.out.1.2.2.cell 5 rfl
                go_wp2_with fail
                all_goals first
                  | (exfalso; exact HXJ.out (Oq.same (by assumption) (by assumption) (by assumption) (by assumption) (by assumption) (by assumption)))
                  | (go_meet; exact ⟨rfl, rfl, rfl⟩)
              case rest =>
              obtain ⟨rfl, rfl, rfl⟩ := hcut
              go_wp2_with fail
              go_roundg (k - (j + 1))
              case measure => omega
              case rel => exact ⟨j + 1, by omega, rfl, by go_num, H3.out.1⟩
            · obtain rfl : j = k := by omega
              go_wp2_with fail
              go_roundg (L.length - (j + 1))
              case measure => omega
              case rel => exact ⟨j + 1, by omega, rfl, by go_num, H2.out.1, H2.out.2.1⟩
        · obtain rfl : k = L.length := by omega
          clear HL
          go_wp2_with fail
          go_loopg [72] ks.length (fun g ti wr => ∃ k : Nat, k ≤ ks.length ∧ g = ks.length - k ∧ ti = .int .i64 (k : Int) ∧ Ps7 w L (.slice sa L.length sc) wr ∧ IsP7 wr (.slice a1 L.length c1) L)
          case atStart => exact ⟨0, Nat.zero_le _, rfl, rfl, H1.out⟩
          case round =>
            obtain ⟨k, hk, rfl, rfl, hS, hP⟩ := hrel
            clear H1
            have H1 := Lib.hid (And.intro hS hP)
            clear hS hP
            by_cases hlt : k < ks.length
            · obtain ⟨b, off, rfl, hbw, hLies⟩ := HK.out (fun e => by rw [e] at hlt; cases hlt)
              obtain ⟨l0, l1, l2, l3, l4, l5⟩ := hLies k hlt
              have k0 := (H1.out.1.bel.cell (p := ⟨b, off + k * 6, none⟩) hbw).trans l0
              have k1 := (H1.out.1.bel.cell (p := ⟨b, off + k * 6 + 1, none⟩) hbw).trans l1
              have k2 := (H1.out.1.bel.cell (p := ⟨b, off + k * 6 + 2, none⟩) hbw).trans l2
              have k3 := (H1.out.1.bel.cell (p := ⟨b, off + k * 6 + 3, none⟩) hbw).trans l3
              have k4 := (H1.out.1.bel.cell (p := ⟨b, off + k * 6 + 4, none⟩) hbw).trans l4
              have k5 := (H1.out.1.bel.cell (p := ⟨b, off + k * 6 + 5, none⟩) hbw).trans l5
              clear l0 l1 l2 l3 l4 l5 hLies
              generalize ks[k] = o at *
              have hba : Below wr.heap.size wr (wr.alloc (.cells #[.int .i64 o.k, .int .i64 o.c, .int .i64 o.s, .int .i64 o.a, .int .i64 o.n, .int .i32 o.ch] 30)) := (Below.refl _ _).alloc (Nat.le_refl _) _
              have H2 := Lib.hid (And.intro (H1.out.1.next hba) (H1.out.2.next hba))
              have r0 := fun ob => (H1.out.1.bR.alloc ob).cell 0 rfl
              clear H1 hba
              go_wp2_with (go_at_call 5; refine (HAd.out o _ H2.out.1.room).mono ?_; rintro e w2 ⟨hb, s3, rfl, hs3⟩; obtain ⟨a3, c3, rfl, h31, h32⟩ := hs3.form; refine Hid.out ?_)
              have H3 := Lib.hid (And.intro (H2.out.1.next hb) (H2.out.2.next hb))
              clear H2 hb hs3 r0 k0 k1 k2 k3 k4 k5
              have r0 := H3.out.1.bR.cell 0 rfl
              refine Lib.hid ?_
              go_wp2_with (go_at_call 7; refine (HNX.out _ H3.out.1.room).mono ?_; rintro e w3 ⟨hb, s4, l4, x4, rfl, hs4, hcase⟩; obtain ⟨a4, c4, rfl, h41, h42⟩ := hs4.form; refine Hid.out ?_)
              have H4 := Lib.hid (And.intro (H3.out.1.next hb) (H3.out.2.next hb))
              clear H3 hb hs4 hcase r0
              have r0 := H4.out.1.bR.cell 0 rfl
              refine Lib.hid ?_
              go_wp2_with (go_at_call 6; refine (HAl.out _ H4.out.1.room).mono ?_; rintro e w5 ⟨s5, rfl, hp5, ho, hb⟩; obtain ⟨a5, c5, rfl, h51, h52⟩ := hp5.form; refine Hid.out ?_)
              have hbH := hb
              clear r0
              by_cases hL0 : 0 < L.length
              · obtain ⟨gx, xc, rfl, hgx, -, x5, xf⟩ := own_first (ho hL0) hL0
                have H5 := Lib.hid (show Ps7 w L (.slice sa L.length sc) _ ∧ IsP7 _ (.slice a1 L.length c1) L from
                  ⟨H4.out.1.next (hb.setCell (p := ⟨gx, 5, none⟩) hgx (.int .i32 (wrap32 (xc + 1)))), H4.out.2.next (hb.setCell (p := ⟨gx, 5, none⟩) hgx (.int .i32 (wrap32 (xc + 1))))⟩)
                have hLi : (0 : Int) < (L.length : Int) := by omega
                clear H4 ho hb hbH hp5
                refine Lib.hid ?_
                go_wp2_with fail
                go_roundg (ks.length - (k + 1))
                case measure => omega
                case rel => exact ⟨k + 1, by omega, rfl, by go_num, H5.out⟩
              · have H5 := Lib.hid (And.intro (H4.out.1.next hb) (H4.out.2.next hb))
                have hLi : ¬ (0 : Int) < (L.length : Int) := by omega
                clear H4 ho hb hbH hp5
                refine Lib.hid ?_
                go_wp2_with fail
                go_roundg (ks.length - (k + 1))
                case measure => omega
                case rel => exact ⟨k + 1, by omega, rfl, by go_num, H5.out⟩
            · obtain rfl : k = ks.length := by omega
              have r0 := H1.out.1.bR.cell 0 rfl
              go_wp2_with (go_at_call 7; refine (HNX.out _ H1.out.1.room).mono ?_; rintro e w3 ⟨hb, s4, l4, x4, rfl, hs4, hcase⟩; obtain ⟨a4, c4, rfl, h41, h42⟩ := hs4.form; refine Hid.out ?_)
              have hl4 : l4.length ≤ 16 := by
                rcases hcase with ⟨_, h, _⟩ | ⟨i, hi, _, _, h⟩
                · rw [h]; exact hL16
                · rw [h, List.length_eraseIdx]; split <;> omega
              have hb2 : Below w3.heap.size w3 ((w3.alloc (.cells #[.slice a4 l4.length c4] 25)).alloc (.cells #[.int .i64 x4.k, .int .i64 x4.c, .int .i64 x4.s, .int .i64 x4.a, .int .i64 x4.n, .int .i32 x4.ch] 30)) := ((Below.refl _ _).alloc (Nat.le_refl _) _).alloc (by simp) _
              have H2 := Lib.hid (show (Ps7 w L (.slice sa L.length sc) ((w3.alloc (.cells #[.slice a4 l4.length c4] 25)).alloc (.cells #[.int .i64 x4.k, .int .i64 x4.c, .int .i64 x4.s, .int .i64 x4.a, .int .i64 x4.n, .int .i32 x4.ch] 30)) ∧ IsP7 ((w3.alloc (.cells #[.slice a4 l4.length c4] 25)).alloc (.cells #[.int .i64 x4.k, .int .i64 x4.c, .int .i64 x4.s, .int .i64 x4.a, .int .i64 x4.n, .int .i32 x4.ch] 30)) (.slice a1 L.length c1) L) ∧ Blk ((w3.alloc (.cells #[.slice a4 l4.length c4] 25)).alloc (.cells #[.int .i64 x4.k, .int .i64 x4.c, .int .i64 x4.s, .int .i64 x4.a, .int .i64 x4.n, .int .i32 x4.ch] 30)) w3.heap.size [.slice a4 l4.length c4] 25 ∧ IsP7 ((w3.alloc (.cells #[.slice a4 l4.length c4] 25)).alloc (.cells #[.int .i64 x4.k, .int .i64 x4.c, .int .i64 x4.s, .int .i64 x4.a, .int .i64 x4.n, .int .i32 x4.ch] 30)) (.slice a4 l4.length c4) l4 from
                ⟨⟨(H1.out.1.next hb).next hb2, (H1.out.2.next hb).next hb2⟩, (Blk.start w3 _ _).alloc _, hs4.next hb2⟩)
              have hBw : w.heap.size < w3.heap.size := (H1.out.1.next hb).bR.lt
              clear H1 hb hb2 hs4 hcase r0
              refine Lib.hid ?_
              go_upto_region 32 with fail
              obtain ⟨Bx, hBx⟩ : ∃ Bx, Bx = w3.heap.size := ⟨_, rfl⟩
              generalize (w3.alloc (.cells #[.slice a4 l4.length c4] 25)).alloc (.cells #[.int .i64 x4.k, .int .i64 x4.c, .int .i64 x4.s, .int .i64 x4.a, .int .i64 x4.n, .int .i32 x4.ch] 30) = W4 at *
              rw [← hBx] at H2 hBw ⊢
              clear hBx
              go_wp2_with fail
              go_loopg [104] ks.length (fun g ti wr => ∃ k : Nat, k ≤ ks.length ∧ g = ks.length - k ∧ ti = .int .i64 (k : Int) ∧ ∃ Lx sx, Lx.length ≤ 16 ∧ (Ps7 w L (.slice sa L.length sc) wr ∧ IsP7 wr (.slice a1 L.length c1) L) ∧ Blk wr Bx [sx] 25 ∧ IsP7 wr sx Lx)
              case atStart => exact ⟨0, Nat.zero_le _, rfl, rfl, l4, _, hl4, H2.out⟩
              case round =>
                obtain ⟨k, hk, rfl, rfl, Lx, sx, hLx, hS⟩ := hrel
                clear H2
                have H2 := Lib.hid hS
                clear hS
                obtain ⟨xa, xcc, rfl, hx1, hx2⟩ := H2.out.2.2.form
                by_cases hlt : k < ks.length
                · obtain ⟨b, off, rfl, hbw, hLies⟩ := HK.out (fun e => by rw [e] at hlt; cases hlt)
                  obtain ⟨l0, l1, l2, l3, l4, l5⟩ := hLies k hlt
                  have k0 := (H2.out.1.1.bel.cell (p := ⟨b, off + k * 6, none⟩) hbw).trans l0
                  have k1 := (H2.out.1.1.bel.cell (p := ⟨b, off + k * 6 + 1, none⟩) hbw).trans l1
                  have k2 := (H2.out.1.1.bel.cell (p := ⟨b, off + k * 6 + 2, none⟩) hbw).trans l2
                  have k3 := (H2.out.1.1.bel.cell (p := ⟨b, off + k * 6 + 3, none⟩) hbw).trans l3
                  have k4 := (H2.out.1.1.bel.cell (p := ⟨b, off + k * 6 + 4, none⟩) hbw).trans l4
                  have k5 := (H2.out.1.1.bel.cell (p := ⟨b, off + k * 6 + 5, none⟩) hbw).trans l5
                  clear l0 l1 l2 l3 l4 l5 hLies
                  generalize ks[k] = o at *
                  have hba : Below wr.heap.size wr (wr.alloc (.cells #[.int .i64 o.k, .int .i64 o.c, .int .i64 o.s, .int .i64 o.a, .int .i64 o.n, .int .i32 o.ch] 30)) := (Below.refl _ _).alloc (Nat.le_refl _) _
                  have H3 := Lib.hid (show (Ps7 w L (.slice sa L.length sc) _ ∧ IsP7 _ (.slice a1 L.length c1) L) ∧ Blk (wr.alloc (.cells #[.int .i64 o.k, .int .i64 o.c, .int .i64 o.s, .int .i64 o.a, .int .i64 o.n, .int .i32 o.ch] 30)) Bx [.slice xa Lx.length xcc] 25 ∧ IsP7 _ (.slice xa Lx.length xcc) Lx from
                    ⟨⟨H2.out.1.1.next hba, H2.out.1.2.next hba⟩, H2.out.2.1.next hba, H2.out.2.2.next hba⟩)
                  have r0 := fun ob => (H2.out.2.1.alloc ob).cell 0 rfl
                  have hAL := add_len (o := o) hLx
                  have HA2 := Lib.hid (fun W (h : IsP7 W (.slice xa Lx.length xcc) Lx) => HC.out.1 Lx o (.slice xa Lx.length xcc) W hLx h)
                  clear H2 hba
                  generalize addL Lx o = LA at *
                  generalize addE Lx o = ae at *
                  go_wp2_with (go_at_call 5; refine (HA2.out _ H3.out.2.2).mono ?_; rintro e w2 ⟨hb, s3, rfl, hs3⟩; obtain ⟨a3, c3, rfl, h31, h32⟩ := hs3.form; refine Hid.out ?_)
                  have H4 := Lib.hid (And.intro (And.intro (H3.out.1.1.next hb) (H3.out.1.2.next hb)) (And.intro (H3.out.2.1.next hb) hs3))
                  clear H3 hb hs3 r0 k0 k1 k2 k3 k4 k5 HA2
                  have r0 := H4.out.2.1.cell 0 rfl
                  have rf := H4.out.2.1.free 0
                  have hne : w.heap.size ≠ Bx := by omega
                  have H5 := Lib.hid (show (Ps7 w L (.slice sa L.length sc) (w2.setCell ⟨Bx, 0, none⟩ (.slice a3 LA.length c3)) ∧ IsP7 (w2.setCell ⟨Bx, 0, none⟩ (.slice a3 LA.length c3)) (.slice a1 L.length c1) L) ∧ Blk (w2.setCell ⟨Bx, 0, none⟩ (.slice a3 LA.length c3)) Bx [.slice a3 LA.length c3] 25 ∧ IsP7 (w2.setCell ⟨Bx, 0, none⟩ (.slice a3 LA.length c3)) (.slice a3 LA.length c3) LA from
                    ⟨⟨⟨H4.out.1.1.bel.setCell (p := ⟨Bx, 0, none⟩) (by show w.heap.size ≤ Bx; omega) _, H4.out.1.1.bR.other ⟨Bx, 0, none⟩ hne _, H4.out.1.1.room.set H4.out.2.1 (by decide) _⟩, H4.out.1.2.set H4.out.2.1 (by decide) _⟩, H4.out.2.1.set 0 _, H4.out.2.2.set H4.out.2.1 (by decide) _⟩)
                  clear hne
                  refine Lib.hid ?_
                  go_wp2_with fail
                  go_roundg (ks.length - (k + 1))
                  case measure => omega
                  case rel => exact ⟨k + 1, by omega, rfl, by go_num, LA, _, hAL, H5.out⟩
                · obtain rfl : k = ks.length := by omega
                  have H3 := Lib.hid H2.out.1
                  have r0 := H3.out.1.bR.cell 0 rfl
                  clear H2
                  go_wp2_with (go_at_call 6; refine (HAl.out _ H3.out.1.room).mono ?_; rintro e w5 ⟨s5, rfl, ho, -, hb⟩; obtain ⟨a5, c5, rfl, h51, h52⟩ := ho.form; refine Hid.out ?_)
                  have H4 := Lib.hid (show Below w.heap.size w w5 ∧ IsP7 w5 (.slice a1 L.length c1) L ∧ IsP7 w5 (.slice a5 L.length c5) L from ⟨(H3.out.1.next hb).bel, H3.out.2.next hb, ho⟩)
                  clear H3 ho hb r0
                  refine Lib.hid ?_
                  go_wp2_with fail
                  go_loopg [22, 124] L.length (fun g t22 ti wr => ∃ k : Nat, k ≤ L.length ∧ g = L.length - k ∧ ti = .int .i64 (k : Int) ∧ St9 w a1 c1 a5 c5 L wr)
                  case atStart => exact ⟨0, Nat.zero_le _, rfl, rfl, H4.out⟩
                  case round =>
                    obtain ⟨k, hk, rfl, rfl, hS⟩ := hrel
                    clear H4
                    have HS := Lib.hid hS
                    clear hS
                    by_cases hlt : k < L.length
                    · obtain ⟨g, rfl, -, -⟩ := HS.out.2.1.at k hlt
                      obtain ⟨g5, rfl, -, -⟩ := HS.out.2.2.at k hlt
                      have HC9 := Lib.hid (fun (X : World) g c (h : IsP7 X (.slice (some ⟨g, 0, none⟩) L.length c) L) => show OC X g k L[k] from by
                        obtain ⟨g', e, -, h1⟩ := h.at k hlt
                        cases e
                        exact h1 X (Below.refl _ _))
                      generalize L[k] = x at *
                      go_wp2_with fail
                      refine wp_region_noPanic ?_
                      refine wp_region_held_drew (S := (fun W => W.cell? ⟨g5, k * 6, none⟩ = some (.int .i64 x.k) ∧ W.cell? ⟨g5, k * 6 + 1, none⟩ = some (.int .i64 x.c) ∧ W.cell? ⟨g5, k * 6 + 2, none⟩ = some (.int .i64 x.s) ∧ W.cell? ⟨g5, k * 6 + 3, none⟩ = some (.int .i64 x.a) ∧ W.cell? ⟨g5, k * 6 + 4, none⟩ = some (.int .i64 x.n) ∧ W.cell? ⟨g5, k * 6 + 5, none⟩ = some (.int .i32 x.ch) ∧ W.cell? ⟨g, k * 6, none⟩ = some (.int .i64 x.k) ∧ W.cell? ⟨g, k * 6 + 1, none⟩ = some (.int .i64 x.c) ∧ W.cell? ⟨g, k * 6 + 2, none⟩ = some (.int .i64 x.s) ∧ W.cell? ⟨g, k * 6 + 3, none⟩ = some (.int .i64 x.a) ∧ W.cell? ⟨g, k * 6 + 4, none⟩ = some (.int .i64 x.n) ∧ W.cell? ⟨g, k * 6 + 5, none⟩ = some (.int .i32 x.ch) ∧ St9 w (some ⟨g, 0, none⟩) c1 (some ⟨g5, 0, none⟩) c5 L W)) (by kernel_rfl) ?_ (fun hHeld => ?_)
                      · exact (let h := St9.next HS.out (Below.refl _ _).drew; let c := HC9.out _ _ _ h.2.1; let d := HC9.out _ _ _ h.2.2; ⟨d.1, d.2.1, d.2.2.1, d.2.2.2.1, d.2.2.2.2.1, d.2.2.2.2.2, c.1, c.2.1, c.2.2.1, c.2.2.2.1, c.2.2.2.2.1, c.2.2.2.2.2, h⟩)
                      clear HS
                      refine tk 0 (.slice ((some ⟨g5, 0, none⟩)) L.length c5) hHeld (fun w hSw => ?_) ?_
                      · (go_simp)
                      try simp only [LAY]
                      refine tk 1 (.int .i64 ((k : Int))) hHeld (fun w hSw => ?_) ?_
                      · (go_simp)
                      try simp only [LAY]
                      refine tk 2 (.pointer (some ⟨g5, k * 6, none⟩)) hHeld (fun w hSw => ?_) ?_
                      · (go_simp)
                      try simp only [LAY]
                      refine tk 3 (.agg #[.int .i64 x.k, .int .i64 x.c, .int .i64 x.s, .int .i64 x.a, .int .i64 x.n, .int .i32 x.ch]) hHeld (fun w hSw => ?_) ?_
                      · (go_simp)
                      try simp only [LAY]
                      refine tk 4 (.slice ((some ⟨g, 0, none⟩)) L.length c1) hHeld (fun w hSw => ?_) ?_
                      · (go_simp)
                      try simp only [LAY]
                      refine tk 5 (.int .i64 ((k : Int))) hHeld (fun w hSw => ?_) ?_
                      · (go_simp)
                      try simp only [LAY]
                      refine tk 6 (.pointer (some ⟨g, k * 6, none⟩)) hHeld (fun w hSw => ?_) ?_
                      · (go_simp)
                      try simp only [LAY]
                      refine tk 7 (.agg #[.int .i64 x.k, .int .i64 x.c, .int .i64 x.s, .int .i64 x.a, .int .i64 x.n, .int .i32 x.ch]) hHeld (fun w hSw => ?_) ?_
                      · (go_simp)
                      try simp only [LAY]
                      refine tk 8 (.bool false) hHeld (fun w hSw => ?_) ?_
                      · (go_simp)
                      try simp only [LAY]
                      refine wpAnyH_done (by kernel_rfl) ?_ _
                      refine NoPanic.normal ?_
                      have HS := Lib.hid hHeld.2.2.2.2.2.2.2.2.2.2.2.2
                      clear hHeld
                      go_wp2_with fail
                      go_roundg (L.length - (k + 1))
                      case measure => omega
                      case rel => exact ⟨k + 1, by omega, rfl, by go_num, HS.out⟩
                    · obtain rfl : k = L.length := by omega
                      go_wp2_with (go_at_call 4; refine (HC.out.2.2.2 _ (HTab.out.next HS.out.1)).mono ?_; rintro e w9 ⟨rfl, hb⟩)
                      go_ret
                      exact ⟨rfl, HS.out.1.trans (hb.mono HS.out.1.size)⟩
set_option maxHeartbeats 1600000 in
set_option maxRecDepth 100000 in
theorem stays7_long (hAw : Awake7Ok) (ad1 ad2 : Option Addr) (k1 k2 cap1 cap2 : Nat) (w : World) (h : ¬ (k1 ≤ 40 ∧ k2 ≤ 40)) (ht : Tabs w) :
    Calls Tryd.prog 3 #[.slice ad1 k1 cap1, .slice ad2 k2 cap2] w fun e w' => e = .returned (.bool true) ∧ Below w.heap.size w w' := by
  have HTab := Lib.hid ht
  have HAw := Lib.hid hAw
  clear ht hAw
  by_cases c1 : k1 ≤ 40
  · have c1' : ¬ (40 : Int) < (k1 : Int) := by omega
    have c2' : (40 : Int) < (k2 : Int) := by omega
    go_enter Tryd.func3, Tryd.ntmps3
    go_wp2_with (go_at_call 4; refine (HAw.out _ HTab.out).mono ?_; rintro e w1 ⟨rfl, hb1⟩)
    go_ret
    exact ⟨rfl, hb1⟩
  · have c1' : (40 : Int) < (k1 : Int) := by omega
    go_enter Tryd.func3, Tryd.ntmps3
    go_wp2_with (go_at_call 4; refine (HAw.out _ HTab.out).mono ?_; rintro e w1 ⟨rfl, hb1⟩)
    go_ret
    exact ⟨rfl, hb1⟩
theorem stays7_any (hA : ApplyOk 50) (hAdd : PAddOk) (hNx : PNextOk 50) (hAll : PAllOk) (hLn : PLenOk) (hTp : PTopOk) (v1 v2 : Value) (l ks : List Oq) (w : World) (h1 : IsOps w v1 l) (h2 : IsOps w v2 ks) (ht : Tabs w) :
    Calls Tryd.prog 3 #[v1, v2] w fun e w' => e = .returned (.bool true) ∧ Below w.heap.size w w' := by
  obtain ⟨a1, c1, rfl, h11, h12, h13⟩ := h1
  obtain ⟨a2, c2, rfl, h21, h22, h23⟩ := h2
  have hN0 : PNextOk 0 := fun m l s p q T P w hm => hNx m l s p q T P w (by omega)
  have hAw : Awake7Ok := awake7_any (awake6_any (NN := 50) (by omega) hA) hAdd hN0 hLn hTp
  by_cases hc : l.length ≤ 40 ∧ ks.length ≤ 40
  · exact stays7_main hAdd hN0 hAll hAw a1 a2 c1 c2 l ks w hc.1 hc.2 h11 h12 h21 h22 h13 h23 ht
  · exact stays7_long hAw a1 a2 _ _ c1 c2 w hc ht
end Go.Proofs.YtnlmdkbaihbekaaDoor
