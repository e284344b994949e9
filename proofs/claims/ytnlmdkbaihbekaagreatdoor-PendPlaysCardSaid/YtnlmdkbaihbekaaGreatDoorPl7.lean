/-
  The law's Awake of layer 7, and the walk of the law PendPlays, over what the calls of core and pend answer.
-/
import Derived.Test.YtnlmdkbaihbekaaGreatDoorLPnd
import Derived.Test.YtnlmdkbaihbekaaGreatDoorAw6
namespace Go.Proofs.YtnlmdkbaihbekaaGreatDoor
open Go Go.Proofs Go.RowKit

def Awake7Ok : Prop := ∀ w : World, Tabs w → Calls Tryz.prog 4 #[] w fun e w' => e = .returned (.bool true) ∧ Below w.heap.size w w'
def ex7 : Oq := ⟨0, 2, 1, 1, 1, 98, by decide, by decide⟩
theorem ex7_add : addE [] ex7 = 0 ∧ addL [] ex7 = [ex7] := by
  have h : addE [] ex7 = 0 := by decide
  exact ⟨h, by unfold addL; rw [if_pos h]; rfl⟩
theorem ex7_nx : nxI [] [ex7] = -1 := by decide
theorem ex7_top : topI [ex7] = 2 := by decide
/-- A room's box. -/
theorem IsP7.set {W : World} {b i : Nat} {u : TypeId} {vs : List Value} (hB : Blk W b vs u) (ht : u ≠ 38) (x : Value) {v : Value} {L : List Oq} (h : IsP7 W v L) : IsP7 (W.setCell ⟨b, i, none⟩ x) v L := Sl.set hB ht i x h
theorem IsO.set {W : World} {b i : Nat} {u : TypeId} {vs : List Value} (hB : Blk W b vs u) (ht : u ≠ 45) (x : Value) {v : Value} {L : List Oq} (h : IsO W v L) : IsO (W.setCell ⟨b, i, none⟩ x) v L := Sl.set hB ht i x h

set_option maxHeartbeats 3200000 in
set_option maxRecDepth 100000 in
theorem awake7_any (hA6 : Awake6Ok) (hAdd : PAddOk) (hNx : PNextOk 0) (hLn : PLenOk) (hT : PTopOk) : Awake7Ok := by
  intro w ht
  have hAd := hAdd [] ex7 (.slice none 0 0) w (by simp) (.inl ⟨rfl, rfl⟩)
  rw [ex7_add.1, ex7_add.2] at hAd
  have HAd := Lib.hid hAd
  have HTab := Lib.hid ht
  have HA6 := Lib.hid hA6
  have HNx := Lib.hid (fun s W (h : IsP7 W s [ex7]) => hNx [] [ex7] s none none .nil .nil W (Nat.le_refl _) ok_nil (StO.nil W) (by simp) h)
  rw [ex7_nx] at HNx
  have HLn := Lib.hid (fun s W (h : IsP7 W s [ex7]) => hLn [ex7] s W (by simp) h)
  have HT := Lib.hid (fun s W (h : IsP7 W s [ex7]) => hT [ex7] s W (by simp) h)
  rw [ex7_top] at HT
  clear hAd ht hA6 hNx hLn hT hAdd
  have hcn : cnt .nil = 0 := cnt_nil
  rw [hcn] at HNx
  clear hcn
  go_enter Tryz.func4, Tryz.ntmps4
  go_wp2_with (go_at_call 11; refine HAd.out.mono ?_; rintro e w1 ⟨hb, s', rfl, hs⟩; obtain ⟨a1, c1, rfl, h11, h12⟩ := hs.form; refine Hid.out ?_)
  have hba : Below w1.heap.size w1 (w1.alloc (.cells #[.slice a1 [ex7].length c1] 48)) := (Below.refl _ _).alloc (Nat.le_refl _) _
  have H1 := Lib.hid (And.intro (hb.trans (hba.mono hb.size)) (And.intro (Blk.start w1 [.slice a1 [ex7].length c1] 48) (hs.next hba)))
  clear hba hb hs HAd
  have s0 := H1.out.2.1.cell 0 rfl
  refine Lib.hid ?_
  go_wp2_with (go_at_call 8; refine (HNx.out _ _ H1.out.2.2).mono ?_; rintro e w2 ⟨hb, s2, l2, x2, rfl, hs2, hcase⟩; obtain ⟨a2, c2, rfl, h21, h22⟩ := hs2.form; refine Hid.out ?_)
  obtain rfl : x2 = zeroOq := by
    rcases hcase with ⟨_, _, h⟩ | ⟨i, hi, h, _⟩
    · exact h
    · omega
  have hb2 : Below w2.heap.size w2 ((w2.alloc (.cells #[.slice a2 l2.length c2] 48)).alloc (.cells #[.int .i64 0, .int .i64 0, .int .i64 0, .int .i64 0, .int .i64 0, .int .i32 0] 38)) := ((Below.refl _ _).alloc (Nat.le_refl _) _).alloc (by simp) _
  have hb3 := hb.trans (hb2.mono hb.size)
  have H2 := Lib.hid (And.intro (H1.out.1.trans (hb3.mono H1.out.1.size)) (And.intro (H1.out.2.1.next hb3) (H1.out.2.2.next hb3)))
  clear H1 hb hb2 hb3 hs2 hcase s0 HNx
  refine Lib.hid ?_
  simp only [zeroOq]
  go_wp2_with (go_at_call 14; refine (HA6.out _ (HTab.out.next H2.out.1)).mono ?_; rintro e w3 ⟨rfl, hb⟩; refine Hid.out ?_)
  have H3 := Lib.hid (And.intro (H2.out.1.trans (hb.mono H2.out.1.size)) (And.intro (H2.out.2.1.next hb) (H2.out.2.2.next hb)))
  clear H2 hb
  have s0 := H3.out.2.1.cell 0 rfl
  refine Lib.hid ?_
  go_wp2_with (go_at_call 15; refine (HLn.out _ _ H3.out.2.2).mono ?_; rintro e w4 ⟨rfl, hb⟩; refine Hid.out ?_)
  have H4 := Lib.hid (And.intro (H3.out.1.trans (hb.mono H3.out.1.size)) (And.intro (H3.out.2.1.next hb) (H3.out.2.2.next hb)))
  clear H3 hb s0
  have s0 := H4.out.2.1.cell 0 rfl
  refine Lib.hid ?_
  go_wp2_with (go_at_call 16; refine (HT.out _ _ H4.out.2.2).mono ?_; rintro e w5 ⟨rfl, hb⟩)
  go_ret
  exact ⟨rfl, H4.out.1.trans (hb.mono H4.out.1.size)⟩

/-- Where the first loop stands: the state, and the operations that were applied. -/
structure Pq7 (w : World) (m : List Oq) (p q : Option Addr) (T : Tr) (P : Pt) (v : Value) (W : World) : Prop where
  bel : Below w.heap.size w W
  bs : Blk W w.heap.size (stL p q P) 32
  st : StO W m p q T P
  own : W.ownsRow (w.heap.size + 1) 45 6 v m.length (m.flatMap oqL)
theorem Pq7.next {w : World} {m : List Oq} {p q : Option Addr} {T : Tr} {P : Pt} {v : Value} {W W' : World} (h : Pq7 w m p q T P v W) (hb : Below W.heap.size W W') : Pq7 w m p q T P v W' :=
  ⟨h.bel.trans (hb.mono h.bel.size), h.bs.next hb, h.st.next hb, ownsRow_next h.own hb⟩
theorem Pq7.isO {w : World} {m : List Oq} {p q : Option Addr} {T : Tr} {P : Pt} {v : Value} {W : World} (h : Pq7 w m p q T P v W) : IsO W v m := Sl.of h.own
theorem Pq7.start (w : World) : Pq7 w [] none none .nil .nil (.slice none 0 0) (w.alloc (.cells #[.pointer none, .pointer none, .int .i64 0] 32)) :=
  ⟨(Below.refl _ _).alloc (Nat.le_refl _) _, Blk.start w _ _, StO.nil _, World.ownsRow_nil _ _ _ _⟩
/-- The state is set anew, for the operations of which it is. -/
theorem Pq7.turn {w : World} {m m2 : List Oq} {p q p' q' : Option Addr} {P : Pt} {T' : Tr} {P' : Pt} {v : Value} {N2 : Int} {W : World} (hbel : Below w.heap.size w W)
    (hbs : Blk W w.heap.size (stL p q P) 32) (hst : StO W m2 p' q' T' P') (hN : cnt P' = N2) (ho : W.ownsRow (w.heap.size + 1) 45 6 v m.length (m.flatMap oqL)) :
    Below w.heap.size w (((W.setCell ⟨w.heap.size, 0, none⟩ (.pointer p')).setCell ⟨w.heap.size, 1, none⟩ (.pointer q')).setCell ⟨w.heap.size, 2, none⟩ (.int .i64 N2)) ∧
    Blk (((W.setCell ⟨w.heap.size, 0, none⟩ (.pointer p')).setCell ⟨w.heap.size, 1, none⟩ (.pointer q')).setCell ⟨w.heap.size, 2, none⟩ (.int .i64 N2)) w.heap.size (stL p' q' P') 32 ∧
    StO (((W.setCell ⟨w.heap.size, 0, none⟩ (.pointer p')).setCell ⟨w.heap.size, 1, none⟩ (.pointer q')).setCell ⟨w.heap.size, 2, none⟩ (.int .i64 N2)) m2 p' q' T' P' ∧
    (((W.setCell ⟨w.heap.size, 0, none⟩ (.pointer p')).setCell ⟨w.heap.size, 1, none⟩ (.pointer q')).setCell ⟨w.heap.size, 2, none⟩ (.int .i64 N2)).ownsRow (w.heap.size + 1) 45 6 v m.length (m.flatMap oqL) := by
  subst hN
  have hle : w.heap.size ≤ w.heap.size := Nat.le_refl _
  have b1 := hbs.set 0 (.pointer p')
  have b2 := b1.set 1 (.pointer q')
  have b3 := b2.set 2 (.int .i64 (cnt P'))
  have k : ∀ t, 32 ≠ t → KT t W (((W.setCell ⟨w.heap.size, 0, none⟩ (.pointer p')).setCell ⟨w.heap.size, 1, none⟩ (.pointer q')).setCell ⟨w.heap.size, 2, none⟩ (.int .i64 (cnt P'))) :=
    fun t ht => ((KT.set hbs ht 0 _).trans (KT.set b1 ht 1 _)).trans (KT.set b2 ht 2 _)
  exact ⟨((hbel.setCell (p := ⟨w.heap.size, 0, none⟩) hle _).setCell (p := ⟨w.heap.size, 1, none⟩) hle _).setCell (p := ⟨w.heap.size, 2, none⟩) hle _, b3, hst.kt (k _ (by decide)) (k _ (by decide)) (by simp), own_kt ho (k _ (by decide))⟩
/-- Where the second loop stands: the room's box, what waits in it, and the document's list. -/
structure Pr7 (W0 : World) (L : List Oq) (s vl : Value) (W : World) : Prop where
  low : Below W0.heap.size W0 W
  bR : Blk W W0.heap.size [s] 48
  room : IsP7 W s L
  lst : IsO W vl L
theorem Pr7.next {W0 : World} {L : List Oq} {s vl : Value} {W W' : World} (h : Pr7 W0 L s vl W) (hb : Below W.heap.size W W') : Pr7 W0 L s vl W' :=
  ⟨h.low.trans (hb.mono h.low.size), h.bR.next hb, h.room.next hb, h.lst.next hb⟩
theorem Pr7.put {W0 : World} {L L2 : List Oq} {s s2 vl vl2 : Value} {W : World} (h : Pr7 W0 L s vl W) (hr : IsP7 W s2 L2) (hl : IsO W vl2 L2) : Pr7 W0 L2 s2 vl2 (W.setCell ⟨W0.heap.size, 0, none⟩ s2) :=
  ⟨h.low.setCell (p := ⟨W0.heap.size, 0, none⟩) (Nat.le_refl _) _, h.bR.set 0 s2, hr.set h.bR (by decide) _, hl.set h.bR (by decide) _⟩
theorem Pr7.start (W0 : World) : Pr7 W0 [] (.slice none 0 0) (.slice none 0 0) (W0.alloc (.cells #[.slice none 0 0] 48)) :=
  ⟨(Below.refl _ _).alloc (Nat.le_refl _) _, Blk.start W0 _ _, .inl ⟨rfl, rfl⟩, .inl ⟨rfl, rfl⟩⟩
/-- Behind Next: the new room and the operation in their boxes. -/
structure Nx7 (w W0 : World) (m : List Oq) (p q : Option Addr) (T : Tr) (P : Pt) (vm : Value) (L : List Oq) (s vl s2 : Value) (L2 : List Oq) (Bo Bn : Nat) (o : Oq) (xs : List Value) (W : World) : Prop where
  pr : Pr7 W0 L s vl W
  box : Blk W Bo (oqL o) 38
  pq : Pq7 w m p q T P vm W
  nroom : IsP7 W s2 L2
  bn : Blk W Bn [s2] 48
  bx : Blk W (Bn + 1) xs 38
theorem Nx7.next {w W0 : World} {m : List Oq} {p q : Option Addr} {T : Tr} {P : Pt} {vm : Value} {L : List Oq} {s vl s2 : Value} {L2 : List Oq} {Bo Bn : Nat} {o : Oq} {xs : List Value} {W W' : World}
    (h : Nx7 w W0 m p q T P vm L s vl s2 L2 Bo Bn o xs W) (hb : Below W.heap.size W W') : Nx7 w W0 m p q T P vm L s vl s2 L2 Bo Bn o xs W' :=
  ⟨h.pr.next hb, h.box.next hb, h.pq.next hb, h.nroom.next hb, h.bn.next hb, h.bx.next hb⟩
theorem Nx7.ne {w W0 : World} {m : List Oq} {p q : Option Addr} {T : Tr} {P : Pt} {vm : Value} {L : List Oq} {s vl s2 : Value} {L2 : List Oq} {Bo Bn : Nat} {o : Oq} {xs : List Value} {W : World}
    (h : Nx7 w W0 m p q T P vm L s vl s2 L2 Bo Bn o xs W) : Bo ≠ W0.heap.size := fun e => by
  have h1 := h.box
  have h2 := h.pr.bR
  rw [e] at h1
  unfold Blk at h1 h2
  rw [h1] at h2
  simp at h2
/-- The room's box is set to the new room. -/
theorem Nx7.put {w W0 : World} {m : List Oq} {p q : Option Addr} {T : Tr} {P : Pt} {vm : Value} {L : List Oq} {s vl s2 : Value} {L2 : List Oq} {Bo Bn : Nat} {o : Oq} {xs : List Value} {W : World}
    (h : Nx7 w W0 m p q T P vm L s vl s2 L2 Bo Bn o xs W) : (Below W0.heap.size W0 (W.setCell ⟨W0.heap.size, 0, none⟩ s2) ∧ Blk (W.setCell ⟨W0.heap.size, 0, none⟩ s2) W0.heap.size [s2] 48 ∧ IsP7 (W.setCell ⟨W0.heap.size, 0, none⟩ s2) s2 L2) ∧
      IsO (W.setCell ⟨W0.heap.size, 0, none⟩ s2) vl L ∧ Blk (W.setCell ⟨W0.heap.size, 0, none⟩ s2) Bo (oqL o) 38 :=
  ⟨⟨h.pr.low.setCell (p := ⟨W0.heap.size, 0, none⟩) (Nat.le_refl _) _, h.pr.bR.set 0 s2, h.nroom.set h.pr.bR (by decide) _⟩, h.pr.lst.set h.pr.bR (by decide) _, h.box.other ⟨W0.heap.size, 0, none⟩ h.ne _⟩
theorem nxI_cases (m l : List Oq) : nxI m l = -1 ∨ ∃ i : Nat, nxI m l = (i : Int) ∧ i < l.length := by
  rcases fnd_spec (nxB m) l 0 with ⟨h, _⟩ | ⟨i, hi, h, _⟩
  · exact .inl h
  · exact .inr ⟨i, by unfold nxI; rw [h]; simp, hi⟩
/-- A slice of bools. -/
def LiesB (w : World) (b off : Nat) (l : List Bool) : Prop := ∀ j (hj : j < l.length), w.cell? ⟨b, off + j, none⟩ = some (.bool l[j])

set_option maxHeartbeats 6400000 in
set_option maxRecDepth 100000 in
theorem pend_main (hA : ApplyOk 50) (hAdd : PAddOk) (hNx : PNextOk 50) (hAll : PAllOk) (hLn : PLenOk) (hTp : PTopOk) (hAw : Awake7Ok) (ad1 ad2 ad3 : Option Addr) (cap1 cap2 cap3 : Nat) (l ap : List Oq) (lets : List Bool) (w : World)
    (hl : l.length ≤ 40) (hap : ap.length ≤ 30) (hle : lets.length ≤ 40) (_ : l.length ≤ cap1) (_ : cap1 ≤ 9223372036854775807) (_ : ap.length ≤ cap2) (_ : cap2 ≤ 9223372036854775807) (_ : lets.length ≤ cap3) (_ : cap3 ≤ 9223372036854775807)
    (hL : l ≠ [] → ∃ b off, ad1 = some ⟨b, off, none⟩ ∧ b < w.heap.size ∧ LiesO w b off l) (hP : ap ≠ [] → ∃ b off, ad2 = some ⟨b, off, none⟩ ∧ b < w.heap.size ∧ LiesO w b off ap)
    (hB : lets ≠ [] → ∃ b off, ad3 = some ⟨b, off, none⟩ ∧ b < w.heap.size ∧ LiesB w b off lets) (ht : Tabs w) :
    Calls Tryz.prog 3 #[.slice ad1 l.length cap1, .slice ad2 ap.length cap2, .slice ad3 lets.length cap3] w fun e w' => e = .returned (.bool true) ∧ Below w.heap.size w w' := by
  have HTab := Lib.hid ht
  have HL := Lib.hid hL
  have HP := Lib.hid hP
  have HB := Lib.hid hB
  have HA := Lib.hid hA
  have HC := Lib.hid (And.intro hAdd (And.intro hNx (And.intro hAll (And.intro hLn (And.intro hTp hAw)))))
  have H0 := Lib.hid (Pq7.start w)
  clear hL hP hB hA hAdd hNx hAll hLn hTp hAw ht
  have hl' : ¬ (40 : Int) < (l.length : Int) := by omega
  have hap' : ¬ (30 : Int) < (ap.length : Int) := by omega
  have hle' : ¬ (40 : Int) < (lets.length : Int) := by omega
  go_enter Tryz.func3, Tryz.ntmps3
  go_wp2_with fail
  go_loopg [8, 42] ap.length (fun g tv ti wr => ∃ k : Nat, k ≤ ap.length ∧ g = ap.length - k ∧ ti = .int .i64 (k : Int) ∧ ∃ m p q T P, m.length ≤ k ∧ OkO m ∧ Pq7 w m p q T P tv wr)
  case atStart => exact ⟨0, Nat.zero_le _, rfl, rfl, [], none, none, .nil, .nil, Nat.le_refl _, ok_nil, H0.out⟩
  case round =>
    obtain ⟨k, hk, rfl, rfl, m, p, q, T, P, hmk, hok, hS⟩ := hrel
    clear H0
    have HOK := Lib.hid hok
    clear hok
    have hm1' : m.length ≤ 1000 := by omega
    by_cases hlt : k < ap.length
    · obtain ⟨b, off, rfl, hbw, hLies⟩ := HP.out (fun e => by rw [e] at hlt; cases hlt)
      obtain ⟨l0, l1, l2, l3, l4, l5⟩ := hLies k hlt
      have k0 := (hS.bel.cell (p := ⟨b, off + k * 6, none⟩) hbw).trans l0
      have k1 := (hS.bel.cell (p := ⟨b, off + k * 6 + 1, none⟩) hbw).trans l1
      have k2 := (hS.bel.cell (p := ⟨b, off + k * 6 + 2, none⟩) hbw).trans l2
      have k3 := (hS.bel.cell (p := ⟨b, off + k * 6 + 3, none⟩) hbw).trans l3
      have k4 := (hS.bel.cell (p := ⟨b, off + k * 6 + 4, none⟩) hbw).trans l4
      have k5 := (hS.bel.cell (p := ⟨b, off + k * 6 + 5, none⟩) hbw).trans l5
      clear l0 l1 l2 l3 l4 l5 hLies
      generalize ap[k] = o at *
      generalize hcn : cnt P = N at *
      have HCN := Lib.hid hcn
      have hba : Below wr.heap.size wr (wr.alloc (.cells #[.int .i64 o.k, .int .i64 o.c, .int .i64 o.s, .int .i64 o.a, .int .i64 o.n, .int .i32 o.ch] 38)) := (Below.refl _ _).alloc (Nat.le_refl _) _
      have HS1 := Lib.hid (And.intro (hS.next hba) (show Blk (wr.alloc (.cells #[.int .i64 o.k, .int .i64 o.c, .int .i64 o.s, .int .i64 o.a, .int .i64 o.n, .int .i32 o.ch] 38)) wr.heap.size (oqL o) 38 from Blk.start wr (oqL o) _))
      have s0 := fun ob => (hS.bs.alloc ob).cell 0 rfl
      have s1 := fun ob => (hS.bs.alloc ob).cell 1 rfl
      have s2 := fun ob => ((hS.bs.alloc ob).cell 2 rfl).trans (show some (Value.int .i64 (cnt P)) = some (.int .i64 N) by rw [hcn])
      have HAP := Lib.hid (fun W (h : StO W m p q T P) => HA.out.one m o p q T P W (by omega) HOK.out h)
      rw [hcn] at HAP
      clear hS hba hcn
      have HWA := Lib.hid (fun (_ : wrongE m o = 0) => wrong_ok HOK.out (by assumption))
      go_wp2_with (go_at_call 5; refine (HAP.out _ HS1.out.1.st).mono ?_; rintro e w1 ⟨hb, p', q', T', P', m', z, rfl, hst, hcase⟩; refine Hid.out ?_)
      generalize hcn2 : cnt P' = N2 at *
      have HCN2 := Lib.hid hcn2
      clear hcn2
      have hb2 : Below w1.heap.size w1 (w1.alloc (.cells #[.pointer p', .pointer q', .int .i64 N2] 32)) := (Below.refl _ _).alloc (Nat.le_refl _) _
      have HS2 := Lib.hid (And.intro ((HS1.out.1.next hb).next hb2) (And.intro ((HS1.out.2.next hb).next hb2) (And.intro (show Blk (w1.alloc (.cells #[.pointer p', .pointer q', .int .i64 N2] 32)) w1.heap.size [.pointer p', .pointer q', .int .i64 N2] 32 from Blk.start w1 _ _) (hst.next hb2))))
      have HCS := Lib.hid hcase
      obtain ⟨Bo, hBo⟩ : ∃ Bo, Bo = wr.heap.size := ⟨_, rfl⟩
      obtain ⟨Bn, hBn⟩ : ∃ Bn, Bn = w1.heap.size := ⟨_, rfl⟩
      rw [← hBo, ← hBn] at HS2
      have HBN := Lib.hid hBn
      have HBO := Lib.hid hBo
      refine Lib.hid ?_
      rw [← hBo]
      clear HS1 hb hb2 k0 k1 k2 k3 k4 k5 s0 s1 s2 hBo hBn HAP hst hcase
      have HWR := Lib.hid (fun W (h : IsO W u8 m) => refWrong_any m o hm1' u8 W h)
      generalize hwe : wrongE m o = we at *
      have HWE := Lib.hid hwe
      clear hwe
      rcases HCS.out with ⟨h0, hmm, -⟩ | ⟨h0, hmm, -⟩
      · have hweb : (we == 0) = false := by simpa using h0
        clear HCS HWA h0 hmm
        obtain ⟨W5, hW5⟩ : ∃ W5, W5 = w1.alloc (.cells #[.pointer p', .pointer q', .int .i64 N2] 32) := ⟨_, rfl⟩
        have o0 := HS2.out.2.1.cell 0 rfl
        have o1 := HS2.out.2.1.cell 1 rfl
        have o2 := HS2.out.2.1.cell 2 rfl
        have o3 := HS2.out.2.1.cell 3 rfl
        have o4 := HS2.out.2.1.cell 4 rfl
        have o5 := HS2.out.2.1.cell 5 rfl
        clear hW5 W5
        go_wp2_with (go_at_call 7; refine (of5_any o.k o.c o.s o.a o.n o.ch _).mono ?_; rintro e w2 ⟨rfl, hb⟩; refine Hid.out ?_)
        have HS3 := Lib.hid (HS2.out.1.next hb)
        clear HS2 hb o0 o1 o2 o3 o4 o5
        refine Lib.hid ?_
        go_wp2_with (go_at_call 6; refine (HWR.out _ HS3.out.isO).mono ?_; rintro e w3 ⟨rfl, hb⟩; refine Hid.out ?_)
        have HS4 := Lib.hid (HS3.out.next hb)
        clear HS3 hb HWR
        refine Lib.hid ?_
        go_wp2_with fail
        go_roundg (ap.length - (k + 1))
        case measure => omega
        case rel => exact ⟨k + 1, by omega, rfl, by go_num, m, p, q, T, P, by omega, HOK.out, HS4.out⟩
      · subst h0
        have hmm2 := hmm
        subst hmm2
        have HOK2 := Lib.hid (HWA.out rfl)
        have HMM := Lib.hid hmm
        clear HCS HWA hmm
        have b0 := HS2.out.2.2.1.cell 0 rfl
        have b1 := HS2.out.2.2.1.cell 1 rfl
        have b2 := HS2.out.2.2.1.cell 2 rfl
        have s0 := HS2.out.1.bs.cell 0 rfl
        have s1 := HS2.out.1.bs.cell 1 rfl
        have s2 := HS2.out.1.bs.cell 2 rfl
        have f0 := HS2.out.1.bs.free 0
        have f1 := HS2.out.1.bs.free 1
        have f2 := HS2.out.1.bs.free 2
        rw [HBN.out] at b0 b1 b2
        have HQ := Lib.hid (Pq7.turn HS2.out.1.bel HS2.out.1.bs HS2.out.2.2.2 HCN2.out HS2.out.1.own)
        have hBoW : Bo ≠ w.heap.size := fun e => by have h1 := HS2.out.2.1; have h2 := HS2.out.1.bs; rw [e] at h1; unfold Blk at h1 h2; rw [h1] at h2; simp at h2
        have HBX := Lib.hid (((HS2.out.2.1.other ⟨w.heap.size, 0, none⟩ hBoW (.pointer p')).other ⟨w.heap.size, 1, none⟩ hBoW (.pointer q')).other ⟨w.heap.size, 2, none⟩ hBoW (.int .i64 N2))
        clear hBoW
        have o0 := HBX.out.cell 0 rfl
        have o1 := HBX.out.cell 1 rfl
        have o2 := HBX.out.cell 2 rfl
        have o3 := HBX.out.cell 3 rfl
        have o4 := HBX.out.cell 4 rfl
        have o5 := HBX.out.cell 5 rfl
        go_wp2_with (go_at_call 7; refine (of5_any o.k o.c o.s o.a o.n o.ch _).mono ?_; rintro e w2 ⟨rfl, hb⟩; refine Hid.out ?_)
        have HR := Lib.hid (And.intro (HQ.out.1.trans (hb.mono HQ.out.1.size)) (And.intro (HQ.out.2.1.next hb) (And.intro (HQ.out.2.2.1.next hb) (And.intro (ownsRow_next HQ.out.2.2.2 hb) (HBX.out.next hb)))))
        clear HQ HBX HS2 hb o0 o1 o2 o3 o4 o5 b0 b1 b2 s0 s1 s2 f0 f1 f2
        refine Lib.hid ?_
        go_wp2_with (go_at_call 6; refine (HWR.out _ (Sl.of HR.out.2.2.2.1)).mono ?_; rintro e w3 ⟨rfl, hb⟩; refine Hid.out ?_)
        have HR2 := Lib.hid (And.intro (HR.out.1.trans (hb.mono HR.out.1.size)) (And.intro (HR.out.2.1.next hb) (And.intro (HR.out.2.2.1.next hb) (And.intro (ownsRow_next HR.out.2.2.2.1 hb) (HR.out.2.2.2.2.next hb)))))
        clear HR hb HWR
        have o0 := HR2.out.2.2.2.2.cell 0 rfl
        have o1 := HR2.out.2.2.2.2.cell 1 rfl
        have o2 := HR2.out.2.2.2.2.cell 2 rfl
        have o3 := HR2.out.2.2.2.2.cell 3 rfl
        have o4 := HR2.out.2.2.2.2.cell 4 rfl
        have o5 := HR2.out.2.2.2.2.cell 5 rfl
        refine Lib.hid ?_
        go_wp2_with (go_at_call 7; refine (of5_any o.k o.c o.s o.a o.n o.ch _).mono ?_; rintro e w4 ⟨rfl, hb⟩; refine Hid.out ?_)
        have hB5 : Below w4.heap.size w4 (w4.alloc (.cells ⟨oqL o⟩ 45)) := (Below.refl _ _).alloc (Nat.le_refl _) _
        have hB6 := hb.trans (hB5.mono hb.size)
        have HR3 := Lib.hid (And.intro (HR2.out.1.trans (hB6.mono HR2.out.1.size)) (And.intro (HR2.out.2.1.next hB6) (And.intro (HR2.out.2.2.1.next hB6) (ownsRow_next HR2.out.2.2.2.1 hB6))))
        have hsz := HR3.out.2.1.lt
        have hsz2 : w.heap.size + 1 ≤ w4.heap.size := by have := (HR2.out.2.1.next hb).lt; omega
        clear HR2 hb hB5 hB6 o0 o1 o2 o3 o4 o5
        obtain ⟨i0, hi0, hz0, hz1, hz2⟩ := info_parts infoOq
        refine Lib.hid ?_
        go_wp2_with (at_builtin; refine wpList_append_own _ rfl _ _ 33 rfl (w.heap.size + 1) 45 i0 zOq 6 48 Tryz.underlying33 hi0 hz0 hz1 hz2 rfl (by decide) _ _ _ rfl HR3.out.2.2.2 ⟨w4.heap.size, 0, none⟩ 1 1 (oqL o) rfl rfl (cells_new w4 (oqL o) _) (oq_one o) (by unfold maxLen; omega) (by omega) (by simp; omega) ?_; intro v5 W5 ho5 hg5 _; refine Hid.out ?_)
        have hlow : Below (w.heap.size + 1) _ W5 := Below.of_grown hg5 (by simp; omega) (own_ge HR3.out.2.2.2)
        have HS5 := Lib.hid (show Pq7 w (m ++ [o]) p' q' T' P' v5 W5 from
          ⟨HR3.out.1.trans (hlow.mono (by omega)), HR3.out.2.1.below hlow (by omega), HR3.out.2.2.1.kt (KT.apart HR3.out.2.2.2 (by decide) hg5) (KT.apart HR3.out.2.2.2 (by decide) hg5) hg5.size, by rw [List.length_append, List.flatMap_append]; simpa using ho5⟩)
        clear HR3 ho5 hg5 hlow
        refine Lib.hid ?_
        go_wp2_with fail
        go_roundg (ap.length - (k + 1))
        case measure => omega
        case rel => exact ⟨k + 1, by omega, rfl, by go_num, m ++ [o], p', q', T', P', by simp; omega, HOK2.out, HS5.out⟩
    · obtain rfl : k = ap.length := by omega
      clear HP HA
      have HS := Lib.hid (And.intro hS HOK.out)
      clear hS HOK
      generalize wr = W0 at *
      have H2 := Lib.hid (Pr7.start W0)
      go_wp2_with fail
      go_loopg [15, 69] l.length (fun g tv ti wx => ∃ k : Nat, k ≤ l.length ∧ g = l.length - k ∧ ti = .int .i64 (k : Int) ∧ ∃ L s, L.length ≤ 16 ∧ Pr7 W0 L s tv wx)
      case atStart => exact ⟨0, Nat.zero_le _, rfl, rfl, [], _, by simp, H2.out⟩
      case round =>
        obtain ⟨k, hk, rfl, rfl, L, s, hL16, hR⟩ := hrel
        clear H2
        have HQ := Lib.hid (And.intro (HS.out.1.next hR.low) HS.out.2)
        by_cases hlt : k < l.length
        · obtain ⟨b, off, rfl, hbw, hLies⟩ := HL.out (fun e => by rw [e] at hlt; cases hlt)
          obtain ⟨l0, l1, l2, l3, l4, l5⟩ := hLies k hlt
          have k0 := (HQ.out.1.bel.cell (p := ⟨b, off + k * 6, none⟩) hbw).trans l0
          have k1 := (HQ.out.1.bel.cell (p := ⟨b, off + k * 6 + 1, none⟩) hbw).trans l1
          have k2 := (HQ.out.1.bel.cell (p := ⟨b, off + k * 6 + 2, none⟩) hbw).trans l2
          have k3 := (HQ.out.1.bel.cell (p := ⟨b, off + k * 6 + 3, none⟩) hbw).trans l3
          have k4 := (HQ.out.1.bel.cell (p := ⟨b, off + k * 6 + 4, none⟩) hbw).trans l4
          have k5 := (HQ.out.1.bel.cell (p := ⟨b, off + k * 6 + 5, none⟩) hbw).trans l5
          clear l0 l1 l2 l3 l4 l5 hLies
          generalize l[k] = o at *
          have hba : Below wr.heap.size wr (wr.alloc (.cells #[.int .i64 o.k, .int .i64 o.c, .int .i64 o.s, .int .i64 o.a, .int .i64 o.n, .int .i32 o.ch] 38)) := (Below.refl _ _).alloc (Nat.le_refl _) _
          have HR := Lib.hid (And.intro (hR.next hba) (show Blk (wr.alloc (.cells #[.int .i64 o.k, .int .i64 o.c, .int .i64 o.s, .int .i64 o.a, .int .i64 o.n, .int .i32 o.ch] 38)) wr.heap.size (oqL o) 38 from Blk.start wr (oqL o) _))
          have HBL := Lib.hid (fun (h : lets ≠ []) => HB.out h)
          obtain ⟨sa, sc, rfl, hsc1, hsc2⟩ := hR.room.form
          go_upto_region 19 with fail
          obtain ⟨Bo, hBo⟩ : ∃ Bo, Bo = wr.heap.size := ⟨_, rfl⟩
          generalize wr.alloc (.cells #[.int .i64 o.k, .int .i64 o.c, .int .i64 o.s, .int .i64 o.a, .int .i64 o.n, .int .i32 o.ch] 38) = W1 at *
          rw [← hBo] at HR ⊢
          clear hBo hba k0 k1 k2 k3 k4 k5 hR HQ
          obtain ⟨bt, hbt⟩ : ∃ bt : Bool, bt = (lets[k]?).getD false := ⟨_, rfl⟩
          have HBT := Lib.hid hbt
          clear hbt
          go_cut [69, 83] from 69 to 148 (fun tk tb wx => tk = .int .i64 (k : Int) ∧ tb = .bool bt ∧ wx = W1)
          case first =>
            by_cases hkb : k < lets.length
            · obtain ⟨b3, off3, rfl, hb3w, hLB⟩ := HBL.out (fun e => by rw [e] at hkb; cases hkb)
              have kb := ((HS.out.1.next HR.out.1.low).bel.cell (p := ⟨b3, off3 + k, none⟩) hb3w).trans (hLB k hkb)
              have hbt : bt = lets[k] := by rw [HBT.out, List.getElem?_eq_getElem hkb]; rfl
              rw [← hbt] at kb
              have hkbi : (k : Int) < (lets.length : Int) := by omega
              clear hLB hbt
              go_wp2_with fail
              go_meet
              exact ⟨rfl, rfl, rfl⟩
            · have hkbi : ¬ (k : Int) < (lets.length : Int) := by omega
              have hbt : bt = false := by rw [HBT.out, List.getElem?_eq_none (by omega)]; rfl
              subst hbt
              go_wp2_with fail
              go_meet
              exact ⟨rfl, rfl, rfl⟩
          case rest =>
          obtain ⟨rfl, rfl, rfl⟩ := hcut
          clear HBL HBT
          generalize wc = W1 at *
          go_upto_if 83 with fail
          go_cut [15, 69] from 69 to 148 (fun tv tk wx => tk = .int .i64 (k : Int) ∧ ∃ L' s', L'.length ≤ 16 ∧ Pr7 W0 L' s' tv wx ∧ Blk wx Bo (oqL o) 38)
          case first =>
            cases bt with
            | false =>
                go_wp2_with fail
                go_meet
                exact ⟨rfl, L, _, hL16, HR.out.1, HR.out.2⟩
            | true =>
                have HQ := Lib.hid (HS.out.1.next HR.out.1.low)
                generalize hcn : cnt P = N at *
                have s0 := HQ.out.bs.cell 0 rfl
                have s1 := HQ.out.bs.cell 1 rfl
                have s2 := (HQ.out.bs.cell 2 rfl).trans (show some (Value.int .i64 (cnt P)) = some (.int .i64 N) by rw [hcn])
                have r0 := HR.out.1.bR.cell 0 rfl
                have HCN := Lib.hid hcn
                have hNX := HC.out.2.1 m L (.slice sa L.length sc) p q T P W1 (by omega) HS.out.2 HQ.out.st hL16 HR.out.1.room
                rw [hcn] at hNX
                have HRN := Lib.hid (fun W (hm : IsO W u8 m) (h : IsO W u15 L) => refNext_any m L (by omega) u15 u8 W h hm)
                clear hcn
                rcases nxI_cases m L with hnx | ⟨i, hnx, hiL⟩
                · rw [hnx] at hNX HRN
                  have HNX := Lib.hid hNX
                  clear hNX hnx
                  go_wp2_with (go_at_call 8; refine HNX.out.mono ?_; rintro e w2 ⟨hb, s', l', x', rfl, hs', hcase⟩; obtain ⟨a2, c2, rfl, h21, h22⟩ := hs'.form; refine Hid.out ?_)
                  obtain ⟨hlL, hx0⟩ : l' = L ∧ x' = zeroOq := by
                    rcases hcase with ⟨_, h1, h2⟩ | ⟨i, hi, h, _⟩
                    · exact ⟨h1, h2⟩
                    · omega
                  subst hlL hx0
                  have hb2 : Below w2.heap.size w2 ((w2.alloc (.cells #[.slice a2 l'.length c2] 48)).alloc (.cells #[.int .i64 0, .int .i64 0, .int .i64 0, .int .i64 0, .int .i64 0, .int .i32 0] 38)) := ((Below.refl _ _).alloc (Nat.le_refl _) _).alloc (by simp) _
                  have HR2 := Lib.hid (show (Pr7 W0 l' (.slice sa l'.length sc) u15 ((w2.alloc (.cells #[.slice a2 l'.length c2] 48)).alloc (.cells #[.int .i64 0, .int .i64 0, .int .i64 0, .int .i64 0, .int .i64 0, .int .i32 0] 38)) ∧ Blk ((w2.alloc (.cells #[.slice a2 l'.length c2] 48)).alloc (.cells #[.int .i64 0, .int .i64 0, .int .i64 0, .int .i64 0, .int .i64 0, .int .i32 0] 38)) Bo (oqL o) 38) ∧ Pq7 w m p q T P u8 ((w2.alloc (.cells #[.slice a2 l'.length c2] 48)).alloc (.cells #[.int .i64 0, .int .i64 0, .int .i64 0, .int .i64 0, .int .i64 0, .int .i32 0] 38)) ∧ IsP7 ((w2.alloc (.cells #[.slice a2 l'.length c2] 48)).alloc (.cells #[.int .i64 0, .int .i64 0, .int .i64 0, .int .i64 0, .int .i64 0, .int .i32 0] 38)) (.slice a2 l'.length c2) l' ∧ Blk ((w2.alloc (.cells #[.slice a2 l'.length c2] 48)).alloc (.cells #[.int .i64 0, .int .i64 0, .int .i64 0, .int .i64 0, .int .i64 0, .int .i32 0] 38)) w2.heap.size [.slice a2 l'.length c2] 48 ∧ Blk ((w2.alloc (.cells #[.slice a2 l'.length c2] 48)).alloc (.cells #[.int .i64 0, .int .i64 0, .int .i64 0, .int .i64 0, .int .i64 0, .int .i32 0] 38)) (w2.heap.size + 1) [.int .i64 0, .int .i64 0, .int .i64 0, .int .i64 0, .int .i64 0, .int .i32 0] 38 from
                    ⟨⟨(HR.out.1.next hb).next hb2, (HR.out.2.next hb).next hb2⟩, (HQ.out.next hb).next hb2, hs'.next hb2, (Blk.start w2 _ _).alloc _, Blk.startAt (W := w2.alloc (.cells #[.slice a2 l'.length c2] 48)) (by simp)⟩)
                  obtain ⟨Bn, hBn⟩ : ∃ Bn, Bn = w2.heap.size := ⟨_, rfl⟩
                  have HBN := Lib.hid hBn
                  clear HR HQ hb hb2 hs' hcase s0 s1 s2 r0 HNX hBn
                  refine Lib.hid ?_
                  simp only [zeroOq]
                  go_upto_region 21 with fail
                  generalize ((w2.alloc (.cells #[.slice a2 l'.length c2] 48)).alloc (.cells #[.int .i64 0, .int .i64 0, .int .i64 0, .int .i64 0, .int .i64 0, .int .i32 0] 38)) = W3 at *
                  rw [← HBN.out] at HR2 ⊢
                  clear HBN
                  go_wp2_with (go_at_call 9; refine (HRN.out _ HR2.out.2.1.isO HR2.out.1.1.lst).mono ?_; rintro e w4 ⟨rfl, hb⟩; refine Hid.out ?_)
                  have HT := Lib.hid (show Nx7 w W0 m p q T P u8 l' (.slice sa l'.length sc) u15 (.slice a2 l'.length c2) l' Bo Bn o [.int .i64 0, .int .i64 0, .int .i64 0, .int .i64 0, .int .i64 0, .int .i32 0] w4 from
                    ⟨HR2.out.1.1.next hb, HR2.out.1.2.next hb, HR2.out.2.1.next hb, HR2.out.2.2.1.next hb, HR2.out.2.2.2.1.next hb, HR2.out.2.2.2.2.next hb⟩)
                  clear HR2 hb HRN
                  refine Lib.hid ?_
                  go_wp2_with fail
                  refine wp_region_noPanic ?_
                  refine wp_region_held_drew (S := (fun W => W.cell? ⟨(Bn + 1), 0, none⟩ = some (.int .i64 0) ∧ W.cell? ⟨(Bn + 1), 1, none⟩ = some (.int .i64 0) ∧ W.cell? ⟨(Bn + 1), 2, none⟩ = some (.int .i64 0) ∧ W.cell? ⟨(Bn + 1), 3, none⟩ = some (.int .i64 0) ∧ W.cell? ⟨(Bn + 1), 4, none⟩ = some (.int .i64 0) ∧ W.cell? ⟨(Bn + 1), 5, none⟩ = some (.int .i32 0) ∧ Nx7 w W0 m p q T P u8 l' (.slice sa l'.length sc) u15 (.slice a2 l'.length c2) l' Bo Bn o [.int .i64 0, .int .i64 0, .int .i64 0, .int .i64 0, .int .i64 0, .int .i32 0] W)) (by kernel_rfl) ?_ (fun hHeld => ?_)
                  · exact (let h := HT.out.next (Below.refl _ _).drew; ⟨h.bx.cell 0 rfl, h.bx.cell 1 rfl, h.bx.cell 2 rfl, h.bx.cell 3 rfl, h.bx.cell 4 rfl, h.bx.cell 5 rfl, h⟩)
                  clear HT
                  refine tk 0 (.bool false) hHeld (fun w hSw => ?_) ?_
                  · (go_simp)
                  try simp only [LAY]
                  refine tk 1 (.int .i64 ((-1))) hHeld (fun w hSw => ?_) ?_
                  · (go_simp)
                  try simp only [LAY]
                  refine tk 2 (.bool false) hHeld (fun w hSw => ?_) ?_
                  · (go_simp)
                  try simp only [LAY]
                  refine tk 3 (.bool false) hHeld (fun w hSw => ?_) ?_
                  · (go_simp)
                  try simp only [LAY]
                  refine tk 4 (.bool false) hHeld (fun w hSw => ?_) ?_
                  · (go_simp)
                  try simp only [LAY]
                  refine tk 5 (.bool false) hHeld (fun w hSw => ?_) ?_
                  · (go_simp)
                  try simp only [LAY]
                  refine tk 6 (.bool false) hHeld (fun w hSw => ?_) ?_
                  · (go_simp)
                  try simp only [LAY]
                  refine sk 7 hHeld ?_
                  try simp only [LAY]
                  refine sk 8 hHeld ?_
                  try simp only [LAY]
                  refine sk 9 hHeld ?_
                  try simp only [LAY]
                  refine sk 10 hHeld ?_
                  try simp only [LAY]
                  refine sk 11 hHeld ?_
                  try simp only [LAY]
                  refine sk 12 hHeld ?_
                  try simp only [LAY]
                  refine sk 13 hHeld ?_
                  try simp only [LAY]
                  refine tk 14 (.bool false) hHeld (fun w hSw => ?_) ?_
                  · (go_simp)
                  try simp only [LAY]
                  refine tk 15 (.bool false) hHeld (fun w hSw => ?_) ?_
                  · (go_simp)
                  try simp only [LAY]
                  refine tk 16 (.bool false) hHeld (fun w hSw => ?_) ?_
                  · (go_simp)
                  try simp only [LAY]
                  refine tk 17 (.bool false) hHeld (fun w hSw => ?_) ?_
                  · (go_simp)
                  try simp only [LAY]
                  refine tk 18 (.bool true) hHeld (fun w hSw => ?_) ?_
                  · (go_simp)
                  try simp only [LAY]
                  refine tk 19 (.bool true) hHeld (fun w hSw => ?_) ?_
                  · (go_simp)
                  try simp only [LAY]
                  refine tk 20 (.agg #[.int .i64 0, .int .i64 0, .int .i64 0, .int .i64 0, .int .i64 0, .int .i32 0]) hHeld (fun w hSw => ?_) ?_
                  · (go_simp)
                  try simp only [LAY]
                  refine tk 21 (.agg #[.int .i64 0, .int .i64 0, .int .i64 0, .int .i64 0, .int .i64 0, .int .i32 0]) hHeld (fun w hSw => ?_) ?_
                  · (go_simp)
                  try simp only [LAY]
                  refine tk 22 (.bool false) hHeld (fun w hSw => ?_) ?_
                  · (go_simp)
                  try simp only [LAY]
                  refine tk 23 (.bool false) hHeld (fun w hSw => ?_) ?_
                  · (go_simp)
                  try simp only [LAY]
                  refine tk 24 (.bool false) hHeld (fun w hSw => ?_) ?_
                  · (go_simp)
                  try simp only [LAY]
                  refine wpAnyH_done (by kernel_rfl) ?_ _
                  refine NoPanic.normal ?_
                  have HT := Lib.hid hHeld.2.2.2.2.2.2
                  clear hHeld
                  have t0 := HT.out.bn.cell 0 rfl
                  have r0 := HT.out.pr.bR.cell 0 rfl
                  have rf := HT.out.pr.bR.free 0
                  go_wp2_with fail
                  go_meet
                  exact ⟨rfl, l', _, hL16, HT.out.pr.put HT.out.nroom HT.out.pr.lst, HT.out.put.2.2⟩
                · rw [hnx] at hNX HRN
                  have HNX := Lib.hid hNX
                  have hd0 : decide (0 ≤ (i : Int)) = true := by simp
                  rw [hd0] at HNX
                  clear hNX hnx hd0
                  have HWO := Lib.hid (fun W (h : IsO W u15 L) => refWithout_any L i hiL (by omega) u15 W h)
                  go_wp2_with (go_at_call 8; refine HNX.out.mono ?_; rintro e w2 ⟨hb, s', l', x', rfl, hs', hcase⟩; obtain ⟨a2, c2, rfl, h21, h22⟩ := hs'.form; refine Hid.out ?_)
                  obtain ⟨hlL, hx0⟩ : l' = L.eraseIdx i ∧ x' = L[i] := by
                    rcases hcase with ⟨h, _⟩ | ⟨j, hj, h, h1, h2⟩
                    · omega
                    · obtain rfl : i = j := by omega
                      exact ⟨h2, h1⟩
                  have HLL := Lib.hid (And.intro hlL (And.intro hx0 (show l'.length ≤ 16 by rw [hlL, List.length_eraseIdx]; split <;> omega)))
                  have hb2 : Below w2.heap.size w2 ((w2.alloc (.cells #[.slice a2 l'.length c2] 48)).alloc (.cells #[.int .i64 x'.k, .int .i64 x'.c, .int .i64 x'.s, .int .i64 x'.a, .int .i64 x'.n, .int .i32 x'.ch] 38)) := ((Below.refl _ _).alloc (Nat.le_refl _) _).alloc (by simp) _
                  have HR2 := Lib.hid (show (Pr7 W0 L (.slice sa L.length sc) u15 ((w2.alloc (.cells #[.slice a2 l'.length c2] 48)).alloc (.cells #[.int .i64 x'.k, .int .i64 x'.c, .int .i64 x'.s, .int .i64 x'.a, .int .i64 x'.n, .int .i32 x'.ch] 38)) ∧ Blk ((w2.alloc (.cells #[.slice a2 l'.length c2] 48)).alloc (.cells #[.int .i64 x'.k, .int .i64 x'.c, .int .i64 x'.s, .int .i64 x'.a, .int .i64 x'.n, .int .i32 x'.ch] 38)) Bo (oqL o) 38) ∧ Pq7 w m p q T P u8 ((w2.alloc (.cells #[.slice a2 l'.length c2] 48)).alloc (.cells #[.int .i64 x'.k, .int .i64 x'.c, .int .i64 x'.s, .int .i64 x'.a, .int .i64 x'.n, .int .i32 x'.ch] 38)) ∧ IsP7 ((w2.alloc (.cells #[.slice a2 l'.length c2] 48)).alloc (.cells #[.int .i64 x'.k, .int .i64 x'.c, .int .i64 x'.s, .int .i64 x'.a, .int .i64 x'.n, .int .i32 x'.ch] 38)) (.slice a2 l'.length c2) l' ∧ Blk ((w2.alloc (.cells #[.slice a2 l'.length c2] 48)).alloc (.cells #[.int .i64 x'.k, .int .i64 x'.c, .int .i64 x'.s, .int .i64 x'.a, .int .i64 x'.n, .int .i32 x'.ch] 38)) w2.heap.size [.slice a2 l'.length c2] 48 ∧ Blk ((w2.alloc (.cells #[.slice a2 l'.length c2] 48)).alloc (.cells #[.int .i64 x'.k, .int .i64 x'.c, .int .i64 x'.s, .int .i64 x'.a, .int .i64 x'.n, .int .i32 x'.ch] 38)) (w2.heap.size + 1) (oqL x') 38 from
                    ⟨⟨(HR.out.1.next hb).next hb2, (HR.out.2.next hb).next hb2⟩, (HQ.out.next hb).next hb2, hs'.next hb2, (Blk.start w2 _ _).alloc _, Blk.startAt (W := w2.alloc (.cells #[.slice a2 l'.length c2] 48)) (by simp)⟩)
                  obtain ⟨Bn, hBn⟩ : ∃ Bn, Bn = w2.heap.size := ⟨_, rfl⟩
                  have HBN := Lib.hid hBn
                  clear HR HQ hb hb2 hs' hcase s0 s1 s2 r0 HNX hBn hlL hx0
                  refine Lib.hid ?_
                  go_upto_region 21 with fail
                  generalize ((w2.alloc (.cells #[.slice a2 l'.length c2] 48)).alloc (.cells #[.int .i64 x'.k, .int .i64 x'.c, .int .i64 x'.s, .int .i64 x'.a, .int .i64 x'.n, .int .i32 x'.ch] 38)) = W3 at *
                  rw [← HBN.out] at HR2 ⊢
                  clear HBN
                  go_wp2_with (go_at_call 9; refine (HRN.out _ HR2.out.2.1.isO HR2.out.1.1.lst).mono ?_; rintro e w4 ⟨rfl, hb⟩; refine Hid.out ?_)
                  have HT := Lib.hid (show Nx7 w W0 m p q T P u8 L (.slice sa L.length sc) u15 (.slice a2 l'.length c2) l' Bo Bn o (oqL x') w4 from
                    ⟨HR2.out.1.1.next hb, HR2.out.1.2.next hb, HR2.out.2.1.next hb, HR2.out.2.2.1.next hb, HR2.out.2.2.2.1.next hb, HR2.out.2.2.2.2.next hb⟩)
                  clear HR2 hb HRN
                  obtain ⟨g, gc, rfl⟩ : ∃ g gc, u15 = .slice (some ⟨g, 0, none⟩) L.length gc := by
                    rcases HT.out.pr.lst with ⟨_, rfl⟩ | ⟨g, gc, cur, rfl, _⟩
                    · simp at hiL
                    · exact ⟨g, gc, rfl⟩
                  have HC2 := Lib.hid (fun (X : World) (h : IsO X (.slice (some ⟨g, 0, none⟩) L.length gc) L) => show OC X g i x' from by
                    obtain ⟨g', e, -, h1⟩ := h.at i hiL
                    cases e
                    rw [HLL.out.2.1]
                    exact h1 X (Below.refl _ _))
                  refine Lib.hid ?_
                  go_wp2_with fail
                  refine wp_region_noPanic ?_
                  refine wp_region_held_drew (S := (fun W => W.cell? ⟨(Bn + 1), 0, none⟩ = some (.int .i64 x'.k) ∧ W.cell? ⟨(Bn + 1), 1, none⟩ = some (.int .i64 x'.c) ∧ W.cell? ⟨(Bn + 1), 2, none⟩ = some (.int .i64 x'.s) ∧ W.cell? ⟨(Bn + 1), 3, none⟩ = some (.int .i64 x'.a) ∧ W.cell? ⟨(Bn + 1), 4, none⟩ = some (.int .i64 x'.n) ∧ W.cell? ⟨(Bn + 1), 5, none⟩ = some (.int .i32 x'.ch) ∧ W.cell? ⟨g, i * 6, none⟩ = some (.int .i64 x'.k) ∧ W.cell? ⟨g, i * 6 + 1, none⟩ = some (.int .i64 x'.c) ∧ W.cell? ⟨g, i * 6 + 2, none⟩ = some (.int .i64 x'.s) ∧ W.cell? ⟨g, i * 6 + 3, none⟩ = some (.int .i64 x'.a) ∧ W.cell? ⟨g, i * 6 + 4, none⟩ = some (.int .i64 x'.n) ∧ W.cell? ⟨g, i * 6 + 5, none⟩ = some (.int .i32 x'.ch) ∧ Nx7 w W0 m p q T P u8 L (.slice sa L.length sc) (.slice (some ⟨g, 0, none⟩) L.length gc) (.slice a2 l'.length c2) l' Bo Bn o (oqL x') W)) (by kernel_rfl) ?_ (fun hHeld => ?_)
                  · exact (let h := HT.out.next (Below.refl _ _).drew; let c := HC2.out _ h.pr.lst; ⟨h.bx.cell 0 rfl, h.bx.cell 1 rfl, h.bx.cell 2 rfl, h.bx.cell 3 rfl, h.bx.cell 4 rfl, h.bx.cell 5 rfl, c.1, c.2.1, c.2.2.1, c.2.2.2.1, c.2.2.2.2.1, c.2.2.2.2.2, h⟩)
                  clear HT
                  refine tk 0 (.bool true) hHeld (fun w hSw => ?_) ?_
                  · (go_simp)
                  try simp only [LAY]
                  refine tk 1 (.int .i64 ((i : Int))) hHeld (fun w hSw => ?_) ?_
                  · (go_simp)
                  try simp only [LAY]
                  refine tk 2 (.bool true) hHeld (fun w hSw => ?_) ?_
                  · (go_simp; try omega)
                  try simp only [LAY]
                  refine tk 3 (.bool false) hHeld (fun w hSw => ?_) ?_
                  · (go_simp)
                  try simp only [LAY]
                  refine tk 4 (.bool false) hHeld (fun w hSw => ?_) ?_
                  · (go_simp)
                  try simp only [LAY]
                  refine tk 5 (.bool true) hHeld (fun w hSw => ?_) ?_
                  · (go_simp)
                  try simp only [LAY]
                  refine tk 6 (.bool true) hHeld (fun w hSw => ?_) ?_
                  · (go_simp)
                  try simp only [LAY]
                  refine tk 7 (.agg #[.int .i64 x'.k, .int .i64 x'.c, .int .i64 x'.s, .int .i64 x'.a, .int .i64 x'.n, .int .i32 x'.ch]) hHeld (fun w hSw => ?_) ?_
                  · (go_simp)
                  try simp only [LAY]
                  refine tk 9 (.slice ((some ⟨g, 0, none⟩)) L.length gc) hHeld (fun w hSw => ?_) ?_
                  · (go_simp)
                  try simp only [LAY]
                  refine tk 10 (.int .i64 ((i : Int))) hHeld (fun w hSw => ?_) ?_
                  · (go_simp)
                  try simp only [LAY]
                  refine tk 11 (.pointer (some ⟨g, i * 6, none⟩)) hHeld (fun w hSw => ?_) ?_
                  · (go_simp)
                  try simp only [LAY]
                  refine tk 12 (.agg #[.int .i64 x'.k, .int .i64 x'.c, .int .i64 x'.s, .int .i64 x'.a, .int .i64 x'.n, .int .i32 x'.ch]) hHeld (fun w hSw => ?_) ?_
                  · (go_simp)
                  try simp only [LAY]
                  refine wpAnyH_ready (rs := [8]) (by kernel_rfl) (by simp) ?_
                  refine cons1 rfl (fun KK hK => ?_) AllReadyH.nil
                  go_simp
                  refine (of5_any x'.k x'.c x'.s x'.a x'.n x'.ch _).mono ?_
                  rintro e' u1 ⟨rfl, hb⟩
                  go_wp2_with fail
                  refine hK.out _ _ ((let h := hHeld.2.2.2.2.2.2.2.2.2.2.2.2.next hb; let c := HC2.out _ h.pr.lst; ⟨h.bx.cell 0 rfl, h.bx.cell 1 rfl, h.bx.cell 2 rfl, h.bx.cell 3 rfl, h.bx.cell 4 rfl, h.bx.cell 5 rfl, c.1, c.2.1, c.2.2.1, c.2.2.2.1, c.2.2.2.2.1, c.2.2.2.2.2, h⟩)) (fun hHeld2 => ?_)
                  clear hK KK hHeld hb
                  have hHeld := hHeld2
                  clear hHeld2
                  try simp only [LAY]
                  refine tk 13 (.bool false) hHeld (fun w hSw => ?_) ?_
                  · (go_simp)
                  try simp only [LAY]
                  refine tk 14 (.bool false) hHeld (fun w hSw => ?_) ?_
                  · (go_simp)
                  try simp only [LAY]
                  refine tk 15 (.bool false) hHeld (fun w hSw => ?_) ?_
                  · (go_simp)
                  try simp only [LAY]
                  refine tk 16 (.bool false) hHeld (fun w hSw => ?_) ?_
                  · (go_simp)
                  try simp only [LAY]
                  refine tk 17 (.bool true) hHeld (fun w hSw => ?_) ?_
                  · (go_simp)
                  try simp only [LAY]
                  refine tk 18 (.bool false) hHeld (fun w hSw => ?_) ?_
                  · (go_simp)
                  try simp only [LAY]
                  refine tk 19 (.bool false) hHeld (fun w hSw => ?_) ?_
                  · (go_simp)
                  try simp only [LAY]
                  refine sk 20 hHeld ?_
                  try simp only [LAY]
                  refine sk 21 hHeld ?_
                  try simp only [LAY]
                  refine sk 22 hHeld ?_
                  try simp only [LAY]
                  refine tk 23 (.bool false) hHeld (fun w hSw => ?_) ?_
                  · (go_simp)
                  try simp only [LAY]
                  refine tk 24 (.bool false) hHeld (fun w hSw => ?_) ?_
                  · (go_simp)
                  try simp only [LAY]
                  refine wpAnyH_done (by kernel_rfl) ?_ _
                  refine NoPanic.normal ?_
                  have HT := Lib.hid hHeld.2.2.2.2.2.2.2.2.2.2.2.2
                  clear hHeld
                  have t0 := HT.out.bn.cell 0 rfl
                  have r0 := HT.out.pr.bR.cell 0 rfl
                  have rf := HT.out.pr.bR.free 0
                  have HU := Lib.hid HT.out.put
                  go_wp2_with (go_at_call 10; refine (HWO.out _ HU.out.2.1).mono ?_; rintro e w6 ⟨v6, rfl, hv6, hb⟩)
                  go_meet
                  exact ⟨rfl, l', _, HLL.out.2.2, ⟨HU.out.1.1.trans (hb.mono HU.out.1.1.size), HU.out.1.2.1.next hb, HU.out.1.2.2.next hb, by rw [HLL.out.1]; exact hv6⟩, HU.out.2.2.next hb⟩
          case rest =>
            obtain ⟨rfl, L', s', hL', hR', hBo⟩ := hcut
            clear HR
            obtain ⟨sa2, sc2, rfl, hs21, hs22⟩ := hR'.room.form
            have HR := Lib.hid (And.intro hR' hBo)
            have HAd := Lib.hid (fun W (h : IsP7 W (.slice sa2 L'.length sc2) L') => HC.out.1 L' o (.slice sa2 L'.length sc2) W hL' h)
            have HRA := Lib.hid (fun W (h : IsO W u15 L') => refAdd_any L' o (by omega) u15 W h)
            have hAL := add_len (o := o) hL'
            clear hR' hBo
            generalize addL L' o = LA at *
            generalize addE L' o = ae at *
            have r0 := HR.out.1.bR.cell 0 rfl
            have o0 := HR.out.2.cell 0 rfl
            have o1 := HR.out.2.cell 1 rfl
            have o2 := HR.out.2.cell 2 rfl
            have o3 := HR.out.2.cell 3 rfl
            have o4 := HR.out.2.cell 4 rfl
            have o5 := HR.out.2.cell 5 rfl
            go_wp2_with (go_at_call 11; refine (HAd.out _ HR.out.1.room).mono ?_; rintro e w2 ⟨hb, s3, rfl, hs3⟩; obtain ⟨a3, c3, rfl, h31, h32⟩ := hs3.form; refine Hid.out ?_)
            have hb2 : Below w2.heap.size w2 (w2.alloc (.cells #[.slice a3 LA.length c3] 48)) := (Below.refl _ _).alloc (Nat.le_refl _) _
            have HR2 := Lib.hid (show (Pr7 W0 L' _ u15 _ ∧ Blk _ Bo (oqL o) 38) ∧ IsP7 (w2.alloc (.cells #[.slice a3 LA.length c3] 48)) (.slice a3 LA.length c3) LA ∧ Blk (w2.alloc (.cells #[.slice a3 LA.length c3] 48)) w2.heap.size [.slice a3 LA.length c3] 48 from
              ⟨⟨(HR.out.1.next hb).next hb2, (HR.out.2.next hb).next hb2⟩, hs3.next hb2, Blk.start w2 _ _⟩)
            clear HR hb hs3 r0 o0 o1 o2 o3 o4 o5 HAd
            refine Lib.hid ?_
            go_upto_region 28 with fail
            obtain ⟨Bn, hBn⟩ : ∃ Bn, Bn = w2.heap.size := ⟨_, rfl⟩
            generalize (w2.alloc (.cells #[.slice a3 LA.length c3] 48)) = W3 at *
            rw [← hBn] at HR2 ⊢
            clear hBn hb2
            have o0 := HR2.out.1.2.cell 0 rfl
            have o1 := HR2.out.1.2.cell 1 rfl
            have o2 := HR2.out.1.2.cell 2 rfl
            have o3 := HR2.out.1.2.cell 3 rfl
            have o4 := HR2.out.1.2.cell 4 rfl
            have o5 := HR2.out.1.2.cell 5 rfl
            go_wp2_with (go_at_call 7; refine (of5_any o.k o.c o.s o.a o.n o.ch _).mono ?_; rintro e w4 ⟨rfl, hb⟩; refine Hid.out ?_)
            have HR3 := Lib.hid (And.intro (HR2.out.1.1.next hb) (And.intro (HR2.out.2.1.next hb) (HR2.out.2.2.next hb)))
            clear HR2 hb o0 o1 o2 o3 o4 o5
            refine Lib.hid ?_
            go_wp2_with (go_at_call 12; refine (HRA.out _ HR3.out.1.lst).mono ?_; rintro e w5 ⟨v5, rfl, hv5, hb⟩; refine Hid.out ?_)
            have HR4 := Lib.hid (And.intro (HR3.out.1.next hb) (And.intro (HR3.out.2.1.next hb) (And.intro (HR3.out.2.2.next hb) hv5)))
            clear HR3 hb hv5 HRA
            have t0 := HR4.out.2.2.1.cell 0 rfl
            have r0 := HR4.out.1.bR.cell 0 rfl
            have rf := HR4.out.1.bR.free 0
            have HR5 := Lib.hid (HR4.out.1.put HR4.out.2.1 HR4.out.2.2.2)
            have x0 := HR5.out.bR.cell 0 rfl
            have HIS := Lib.hid (fun W (h1 : IsP7 W (.slice a3 LA.length c3) LA) (h2 : IsO W v5 LA) => is7_any HC.out.2.2.1 HC.out.2.2.2.1 HC.out.2.2.2.2.1 LA hAL (.slice a3 LA.length c3) v5 W h1 h2)
            refine Lib.hid ?_
            go_wp2_with (go_at_call 13; refine (HIS.out _ HR5.out.room HR5.out.lst).mono ?_; rintro e w6 ⟨rfl, hb⟩; refine Hid.out ?_)
            have HR6 := Lib.hid (HR5.out.next hb)
            clear HR4 HR5 hb t0 r0 rf x0 HIS
            refine Lib.hid ?_
            go_wp2_with fail
            go_roundg (l.length - (k + 1))
            case measure => omega
            case rel => exact ⟨k + 1, by omega, rfl, by go_num, LA, _, hAL, HR6.out⟩
        · obtain rfl : k = l.length := by omega
          have HW := Lib.hid HQ.out.1.bel
          go_wp2_with (go_at_call 4; refine (HC.out.2.2.2.2.2 _ (HTab.out.next HW.out)).mono ?_; rintro e w9 ⟨rfl, hb⟩)
          go_ret
          exact ⟨rfl, HW.out.trans (hb.mono HW.out.size)⟩

def IsBools (w : World) (v : Value) (l : List Bool) : Prop :=
  ∃ a cap, v = .slice a l.length cap ∧ l.length ≤ cap ∧ cap ≤ 9223372036854775807 ∧ (l ≠ [] → ∃ b off, a = some ⟨b, off, none⟩ ∧ b < w.heap.size ∧ LiesB w b off l)
set_option maxHeartbeats 1600000 in
set_option maxRecDepth 100000 in
theorem pend_long (hAw : Awake7Ok) (ad1 ad2 ad3 : Option Addr) (k1 k2 k3 cap1 cap2 cap3 : Nat) (w : World) (h : ¬ (k1 ≤ 40 ∧ k2 ≤ 30 ∧ k3 ≤ 40)) (ht : Tabs w) :
    Calls Tryz.prog 3 #[.slice ad1 k1 cap1, .slice ad2 k2 cap2, .slice ad3 k3 cap3] w fun e w' => e = .returned (.bool true) ∧ Below w.heap.size w w' := by
  have HTab := Lib.hid ht
  have HAw := Lib.hid hAw
  clear ht hAw
  by_cases c1 : k1 ≤ 40
  · have c1' : ¬ (40 : Int) < (k1 : Int) := by omega
    by_cases c2 : k2 ≤ 30
    · have c2' : ¬ (30 : Int) < (k2 : Int) := by omega
      have c3' : (40 : Int) < (k3 : Int) := by omega
      go_enter Tryz.func3, Tryz.ntmps3
      go_wp2_with (go_at_call 4; refine (HAw.out _ HTab.out).mono ?_; rintro e w1 ⟨rfl, hb1⟩)
      go_ret
      exact ⟨rfl, hb1⟩
    · have c2' : (30 : Int) < (k2 : Int) := by omega
      go_enter Tryz.func3, Tryz.ntmps3
      go_wp2_with (go_at_call 4; refine (HAw.out _ HTab.out).mono ?_; rintro e w1 ⟨rfl, hb1⟩)
      go_ret
      exact ⟨rfl, hb1⟩
  · have c1' : (40 : Int) < (k1 : Int) := by omega
    go_enter Tryz.func3, Tryz.ntmps3
    go_wp2_with (go_at_call 4; refine (HAw.out _ HTab.out).mono ?_; rintro e w1 ⟨rfl, hb1⟩)
    go_ret
    exact ⟨rfl, hb1⟩
theorem pend_any (hA : ApplyOk 50) (hAdd : PAddOk) (hNx : PNextOk 50) (hAll : PAllOk) (hLn : PLenOk) (hTp : PTopOk) (v1 v2 v3 : Value) (l ap : List Oq) (lets : List Bool) (w : World) (h1 : IsOps w v1 l) (h2 : IsOps w v2 ap) (h3 : IsBools w v3 lets) (ht : Tabs w) :
    Calls Tryz.prog 3 #[v1, v2, v3] w fun e w' => e = .returned (.bool true) ∧ Below w.heap.size w w' := by
  obtain ⟨a1, c1, rfl, h11, h12, h13⟩ := h1
  obtain ⟨a2, c2, rfl, h21, h22, h23⟩ := h2
  obtain ⟨a3, c3, rfl, h31, h32, h33⟩ := h3
  have hAw : Awake7Ok := awake7_any (awake6_any (NN := 50) (by omega) hA) hAdd (fun m l s p q T P w hm => hNx m l s p q T P w (by omega)) hLn hTp
  by_cases hc : l.length ≤ 40 ∧ ap.length ≤ 30 ∧ lets.length ≤ 40
  · exact pend_main hA hAdd hNx hAll hLn hTp hAw a1 a2 a3 c1 c2 c3 l ap lets w hc.1 hc.2.1 hc.2.2 h11 h12 h21 h22 h31 h32 h13 h23 h33 ht
  · exact pend_long hAw a1 a2 a3 _ _ _ c1 c2 c3 w hc ht
end Go.Proofs.YtnlmdkbaihbekaaGreatDoor
