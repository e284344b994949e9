import Derived.Test.YtmodpjhffbledaaGreatDoorDx8
set_option maxRecDepth 100000
set_option maxHeartbeats 12800000
namespace Go.Proofs.YtmodpjhffbledaaGreatDoor
open Go Go.Proofs Go.RowKit
structure Act8 where
 kd : Int
 o : Oq
 st : Int
 at_ : Int
 ch : Int
 k0 : 0 ≤ kd
 k1 : kd ≤ 255
 a0 : -9223372036854775808 ≤ at_
 a1 : at_ ≤ 9223372036854775807
 lo : -2147483648 ≤ ch
 hi : ch ≤ 2147483647
def actL (x : Act8) : List Value := [.int .u8 x.kd, .int .i64 x.o.k, .int .i64 x.o.c, .int .i64 x.o.s, .int .i64 x.o.a, .int .i64 x.o.n, .int .i32 x.o.ch, .int .i64 x.st, .int .i64 x.at_, .int .i32 x.ch]
structure VAll : Prop where
 rm : VRemoteOk
 ins : VInsertOk
 del : VDeleteOk
 txt : VTextOk
 len : VLenOk
 seq : VSeqOk
 wait : VWaitOk
 tal : VTallyOk
 bef : VBeforeOk
 nam : VNamedOk
theorem do8_any (H : VAll) (m l : List Oq) (n : Nat) (hV : VOk m l n) (hn : n ≤ 45) (x : Act8) (c0 c1 c2 c3 c4 c5 c6 c7 vm vl : Value) (w : World) (hS : IsV w m l [c0, c1, c2, c3, c4, c5, c6, c7]) (hM : IsO w vm m) (hL : IsO w vl l) (hp : Pows w) (ht : Tabs w) :
  Calls Tryz.prog 6 #[.agg #[c0, c1, c2, c3, c4, c5, c6, c7], .agg #[vm, vl], .agg #[.int .u8 x.kd, .int .i64 x.o.k, .int .i64 x.o.c, .int .i64 x.o.s, .int .i64 x.o.a, .int .i64 x.o.n, .int .i32 x.o.ch, .int .i64 x.st, .int .i64 x.at_, .int .i32 x.ch]] w fun e w' => Below w.heap.size w w' ∧ ∃ d0 d1 d2 d3 d4 d5 d6 d7 vm' vl' m' l', e = .returned (.tuple #[.agg #[d0, d1, d2, d3, d4, d5, d6, d7], .agg #[vm', vl'], .bool true]) ∧ VOk m' l' (n + 1) ∧ IsV w' m' l' [d0, d1, d2, d3, d4, d5, d6, d7] ∧ IsO w' vm' m' ∧ IsO w' vl' l' := by
 obtain ⟨kd, o, st, at_, ch, k0, k1, a0, a1, lo, hi⟩ := x;by_cases h0 : kd = 0
 ·subst h0; exact do8_0 H.rm H.txt H.len H.seq H.wait H.tal m l n hV hn o st at_ ch c0 c1 c2 c3 c4 c5 c6 c7 vm vl w hS hM hL hp ht
 by_cases h1 : kd = 1
 ·subst h1; exact do8_1 H.ins H.txt H.len H.seq H.wait H.tal m l n hV hn o st at_ ch a0 a1 lo hi c0 c1 c2 c3 c4 c5 c6 c7 vm vl w hS hM hL hp ht
 by_cases h2 : kd = 2
 ·subst h2; exact do8_2 H.del H.txt H.len H.seq H.wait H.tal m l n hV hn o st at_ ch a0 a1 c0 c1 c2 c3 c4 c5 c6 c7 vm vl w hS hM hL hp ht
 exact do8_x m l n hV kd h0 h1 h2 o st at_ ch c0 c1 c2 c3 c4 c5 c6 c7 vm vl w hS hM hL
theorem isv_nil (w : World) : IsV w [] [] [.pointer none, .pointer none, .int .i64 0, .slice none 0 0, .int .i64 0, .int .i64 0, .complex .f64 0 0, .complex .f64 0 0] :=
 ⟨none, none, .nil, .nil, .slice none 0 0, StO.nil w, .inl ⟨rfl, rfl⟩, by
  have h : fl 0 = 0 := fl_zero;have hc : cnt .nil = 0 := cnt_nil;have e : idsO [] = [] := rfl;rw [hc, e]
  show ([.pointer none, .pointer none, .int .i64 0, .slice none 0 0, .int .i64 0, .int .i64 0, .complex .f64 0 0, .complex .f64 0 0] : List Value) = [.pointer none, .pointer none, .int .i64 0, .slice none 0 0, .int .i64 0, .int .i64 0, .complex .f64 (fl 0) (fl 0), .complex .f64 (fl 0) (fl 0)]
  rw [h]⟩
def LiesA (w : World) (b off : Nat) (l : List Act8) : Prop := ∀ j (hj : j < l.length), ∀ i, i < 10 → w.cell? ⟨b, off + j * 10 + i, none⟩ = (actL l[j])[i]?
structure P8 (w : World) (a b : Int) (cs : List Value) (vm vl : Value) (m l : List Oq) (W : World) : Prop where
 bel : Below w.heap.size w W
 ba : Blk W (w.heap.size) [.int .i64 a, .int .i64 b] 24
 bv : Blk W (w.heap.size + 1) cs 41
 bm : Blk W (w.heap.size + 1 + 1) [vm, vl] 44
 iv : IsV W m l cs
 io : IsO W vm m
 il : IsO W vl l
theorem P8.next {w : World} {a b : Int} {cs : List Value} {vm vl : Value} {m l : List Oq} {W W' : World} (h : P8 w a b cs vm vl m l W) (hb : Below W.heap.size W W') : P8 w a b cs vm vl m l W' :=
 ⟨h.bel.trans (hb.mono h.bel.size), h.ba.next hb, h.bv.next hb, h.bm.next hb, h.iv.next hb, h.io.next hb, h.il.next hb⟩
theorem P8.setV {w : World} {a b : Int} {c0 c1 c2 c3 c4 c5 c6 c7 d0 d1 d2 d3 d4 d5 d6 d7 vm vl u v : Value} {m l m2 l2 : List Oq} {W : World} (h : P8 w a b [c0, c1, c2, c3, c4, c5, c6, c7] vm vl m l W) (h1 : IsV W m2 l2 [d0, d1, d2, d3, d4, d5, d6, d7]) (h2 : IsO W u m2) (h3 : IsO W v l2) :
  (Below w.heap.size w (setN W (w.heap.size + 1) 0 [d0, d1, d2, d3, d4, d5, d6, d7]) ∧ Blk (setN W (w.heap.size + 1) 0 [d0, d1, d2, d3, d4, d5, d6, d7]) (w.heap.size) [.int .i64 a, .int .i64 b] 24 ∧ Blk (setN W (w.heap.size + 1) 0 [d0, d1, d2, d3, d4, d5, d6, d7]) (w.heap.size + 1) [d0, d1, d2, d3, d4, d5, d6, d7] 41 ∧ Blk (setN W (w.heap.size + 1) 0 [d0, d1, d2, d3, d4, d5, d6, d7]) (w.heap.size + 1 + 1) [vm, vl] 44) ∧
   IsV (setN W (w.heap.size + 1) 0 [d0, d1, d2, d3, d4, d5, d6, d7]) m2 l2 [d0, d1, d2, d3, d4, d5, d6, d7] ∧ IsO (setN W (w.heap.size + 1) 0 [d0, d1, d2, d3, d4, d5, d6, d7]) u m2 ∧ IsO (setN W (w.heap.size + 1) 0 [d0, d1, d2, d3, d4, d5, d6, d7]) v l2 := by
 have k : ∀ t, 41 ≠ t → KT t W (setN W (w.heap.size + 1) 0 [d0, d1, d2, d3, d4, d5, d6, d7]) := fun t ht => KT.setN ht _ 0 h.bv
 exact ⟨⟨setN_below (by omega) _ 0 h.bel, k _ (by decide) _ _ h.ba, setN_blk [d0, d1, d2, d3, d4, d5, d6, d7] 0 h.bv, k _ (by decide) _ _ h.bm⟩, h1.kt (k _ (by decide)) (k _ (by decide)) (k _ (by decide)) (Nat.le_of_eq (setN_size _ 0).symm), Sl.kt (k _ (by decide)) h2, Sl.kt (k _ (by decide)) h3⟩
theorem P8.setM {w : World} {a b : Int} {cs : List Value} {vm vl u v : Value} {m2 l2 : List Oq} {W : World} (h : (Below w.heap.size w W ∧ Blk W (w.heap.size) [.int .i64 a, .int .i64 b] 24 ∧ Blk W (w.heap.size + 1) cs 41 ∧ Blk W (w.heap.size + 1 + 1) [vm, vl] 44) ∧ IsV W m2 l2 cs ∧ IsO W u m2 ∧ IsO W v l2) :
  P8 w a b cs u v m2 l2 (setN W (w.heap.size + 1 + 1) 0 [u, v]) := by
 obtain ⟨⟨g1, g2, g3, g4⟩, h1, h2, h3⟩ := h;have k : ∀ t, 44 ≠ t → KT t W (setN W (w.heap.size + 1 + 1) 0 [u, v]) := fun t ht => KT.setN ht _ 0 g4
 exact ⟨setN_below (by omega) _ 0 g1, k _ (by decide) _ _ g2, k _ (by decide) _ _ g3, setN_blk [u, v] 0 g4, h1.kt (k _ (by decide)) (k _ (by decide)) (k _ (by decide)) (Nat.le_of_eq (setN_size _ 0).symm), Sl.kt (k _ (by decide)) h2, Sl.kt (k _ (by decide)) h3⟩
def Awake8Ok : Prop := ∀ w : World, Pows w → Tabs w → Calls Tryz.prog 5 #[] w fun e w' => e = .returned (.bool true) ∧ Below w.heap.size w w'
structure T8 (w : World) (bB bW : Nat) (nc ns : Int) (ve : Value) (L : List El) (W : World) : Prop where
 bel : Below w.heap.size w W
 bb : Blk W bB [.int .i64 nc, .int .i64 ns] 24
 bw : Blk W bW [.int .i64 nc, .int .i64 ns] 57
 ie : IsE W ve L
theorem T8.next {w : World} {bB bW : Nat} {nc ns : Int} {ve : Value} {L : List El} {W W' : World} (h : T8 w bB bW nc ns ve L W) (hb : Below W.heap.size W W') : T8 w bB bW nc ns ve L W' := ⟨h.bel.trans (hb.mono h.bel.size), h.bb.next hb, h.bw.next hb, h.ie.next hb⟩
theorem vplays_main (H : VAll) (hAw : Awake8Ok) (ad : Option Addr) (cap : Nat) (acts : List Act8) (a b at_ : Int) (ha0 : -9223372036854775808 ≤ at_) (ha1 : at_ ≤ 9223372036854775807) (w : World) (hl : acts.length ≤ 40) (_ : acts.length ≤ cap) (_ : cap ≤ 9223372036854775807)
  (hL : acts ≠ [] → ∃ b off, ad = some ⟨b, off, none⟩ ∧ b < w.heap.size ∧ LiesA w b off acts) (hp : Pows w) (ht : Tabs w) :
  Calls Tryz.prog 3 #[.slice ad acts.length cap, .agg #[.int .i64 a, .int .i64 b], .int .i64 at_] w fun e w' => e = .returned (.bool true) ∧ Below w.heap.size w w' := by
 have HL := Lh hL;have HPT := Lh (And.intro hp ht);have HH := Lh (And.intro H hAw);have hl' : ¬ (40 : Int) < (acts.length : Int) := by omega
 have H0 := Lh (show P8 w a b [.pointer none, .pointer none, .int .i64 0, .slice none 0 0, .int .i64 0, .int .i64 0, .complex .f64 0 0, .complex .f64 0 0] (.slice none 0 0) (.slice none 0 0) [] [] (((w.alloc (.cells #[.int .i64 a, .int .i64 b] 24)).alloc (.cells #[.pointer none, .pointer none, .int .i64 0, .slice none 0 0, .int .i64 0, .int .i64 0, .complex .f64 0 0, .complex .f64 0 0] 41)).alloc (.cells #[.slice none 0 0, .slice none 0 0] 44)) from
  ⟨(((Below.refl _ _).alloc (Nat.le_refl _) _).alloc (by simp) _).alloc (by simp; omega) _, ((Blk.startAt (b := w.heap.size) rfl).alloc _).alloc _, (Blk.startAt (b := w.heap.size + 1) (by simp)).alloc _, Blk.startAt (b := w.heap.size + 1 + 1) (by simp), isv_nil _, .inl ⟨rfl, rfl⟩, .inl ⟨rfl, rfl⟩⟩)
 clear hL hp ht H hAw
 go_enter Tryz.func3, Tryz.ntmps3
 go_wp2_with fail
 go_loopg [25] acts.length (fun g ti wr => ∃ k : Nat, k ≤ acts.length ∧ g = acts.length - k ∧ ti = .int .i64 (k : Int) ∧ ∃ (c0 c1 c2 c3 c4 c5 c6 c7 vm vl : Value) (m l : List Oq), VOk m l k ∧ P8 w a b [c0, c1, c2, c3, c4, c5, c6, c7] vm vl m l wr)
 case atStart => exact ⟨0, Nat.zero_le _, rfl, rfl, _, _, _, _, _, _, _, _, _, _, [], [], VOk.nil, H0.out⟩
 case round =>
  obtain ⟨k, hk, rfl, rfl, c0, c1, c2, c3, c4, c5, c6, c7, vm, vl, m, l, hV, hP⟩ := hrel;clear H0;by_cases hlt : k < acts.length
  ·obtain ⟨bA, off, rfl, hbw, hLies⟩ := HL.out (fun e => by rw [e] at hlt; cases hlt)
   have k0 := (hP.bel.cell (p := ⟨bA, off + k * 10, none⟩) hbw).trans (hLies k hlt 0 (by omega));have k1 := (hP.bel.cell (p := ⟨bA, off + k * 10 + 1, none⟩) hbw).trans (hLies k hlt 1 (by omega));have k2 := (hP.bel.cell (p := ⟨bA, off + k * 10 + 2, none⟩) hbw).trans (hLies k hlt 2 (by omega));have k3 := (hP.bel.cell (p := ⟨bA, off + k * 10 + 3, none⟩) hbw).trans (hLies k hlt 3 (by omega));have k4 := (hP.bel.cell (p := ⟨bA, off + k * 10 + 4, none⟩) hbw).trans (hLies k hlt 4 (by omega));have k5 := (hP.bel.cell (p := ⟨bA, off + k * 10 + 5, none⟩) hbw).trans (hLies k hlt 5 (by omega));have k6 := (hP.bel.cell (p := ⟨bA, off + k * 10 + 6, none⟩) hbw).trans (hLies k hlt 6 (by omega));have k7 := (hP.bel.cell (p := ⟨bA, off + k * 10 + 7, none⟩) hbw).trans (hLies k hlt 7 (by omega));have k8 := (hP.bel.cell (p := ⟨bA, off + k * 10 + 8, none⟩) hbw).trans (hLies k hlt 8 (by omega));have k9 := (hP.bel.cell (p := ⟨bA, off + k * 10 + 9, none⟩) hbw).trans (hLies k hlt 9 (by omega))
   change _ = some (Value.int .u8 acts[k].kd) at k0
   change _ = some (Value.int .i64 acts[k].o.k) at k1
   change _ = some (Value.int .i64 acts[k].o.c) at k2
   change _ = some (Value.int .i64 acts[k].o.s) at k3
   change _ = some (Value.int .i64 acts[k].o.a) at k4
   change _ = some (Value.int .i64 acts[k].o.n) at k5
   change _ = some (Value.int .i32 acts[k].o.ch) at k6
   change _ = some (Value.int .i64 acts[k].st) at k7
   change _ = some (Value.int .i64 acts[k].at_) at k8
   change _ = some (Value.int .i32 acts[k].ch) at k9
   clear hLies;generalize acts[k] = x at *
   have hba : Below wr.heap.size wr (wr.alloc (.cells #[.int .u8 x.kd, .int .i64 x.o.k, .int .i64 x.o.c, .int .i64 x.o.s, .int .i64 x.o.a, .int .i64 x.o.n, .int .i32 x.o.ch, .int .i64 x.st, .int .i64 x.at_, .int .i32 x.ch] 49)) := (Below.refl _ _).alloc (Nat.le_refl _) _;have HP1 := Lh (hP.next hba);have HV := Lh hV;have HDO := Lh (fun W (h : P8 w a b [c0, c1, c2, c3, c4, c5, c6, c7] vm vl m l W) => do8_any HH.out.1 m l k HV.out (by omega) x c0 c1 c2 c3 c4 c5 c6 c7 vm vl W h.iv h.io h.il (HPT.out.1.next h.bel) (HPT.out.2.next h.bel));clear hP hV hba;obtain ⟨v0, v1, v2, v3, v4, v5, v6, v7⟩ := HP1.out.bv.c8;obtain ⟨z0, z1⟩ := HP1.out.bm.c2;go_wp2_with (go_at_call 6; refine (HDO.out _ HP1.out).mono ?_; rintro e w1 ⟨hb, d0, d1, d2, d3, d4, d5, d6, d7, u, v, m2, l2, rfl, hv2, hiv, hio, hil⟩; obtain ⟨b1, p1, rfl, e1, e2⟩ := hio.form; obtain ⟨b2, p2, rfl, e3, e4⟩ := hil.form; refine Hid.out ?_)
   have HP2 := Lh (HP1.out.next hb);have HI := Lh (And.intro hiv (And.intro hio hil));have HV2 := Lh hv2;have hon := hiv.one;have sd0 := fun (W : World) (a : Addr) (md : Mode) => run_store Tryz.prog W a d0 md (hon d0 (by simp))
   have sd1 := fun (W : World) (a : Addr) (md : Mode) => run_store Tryz.prog W a d1 md (hon d1 (by simp))
   have sd2 := fun (W : World) (a : Addr) (md : Mode) => run_store Tryz.prog W a d2 md (hon d2 (by simp))
   have sd3 := fun (W : World) (a : Addr) (md : Mode) => run_store Tryz.prog W a d3 md (hon d3 (by simp))
   have sd4 := fun (W : World) (a : Addr) (md : Mode) => run_store Tryz.prog W a d4 md (hon d4 (by simp))
   have sd5 := fun (W : World) (a : Addr) (md : Mode) => run_store Tryz.prog W a d5 md (hon d5 (by simp))
   have sd6 := fun (W : World) (a : Addr) (md : Mode) => run_store Tryz.prog W a d6 md (hon d6 (by simp))
   have sd7 := fun (W : World) (a : Addr) (md : Mode) => run_store Tryz.prog W a d7 md (hon d7 (by simp))
   clear HP1 HV HDO hb hiv hio hil hv2 hon k0 k1 k2 k3 k4 k5 k6 k7 k8 k9 v0 v1 v2 v3 v4 v5 v6 v7 z0 z1;obtain ⟨n0, n1, n2, n3, n4, n5, n6, n7⟩ := HP2.out.bv.c8;obtain ⟨fn0, fn1, fn2, fn3, fn4, fn5, fn6, fn7⟩ := HP2.out.bv.f8;have HQ2 := Lh (HP2.out.setV HI.out.1 HI.out.2.1 HI.out.2.2)
   change Hid ((Below _ _ ((((((((w1.setCell ⟨w.heap.size + 1, 0, none⟩ (d0)).setCell ⟨w.heap.size + 1, 1, none⟩ (d1)).setCell ⟨w.heap.size + 1, 2, none⟩ (d2)).setCell ⟨w.heap.size + 1, 3, none⟩ (d3)).setCell ⟨w.heap.size + 1, 4, none⟩ (d4)).setCell ⟨w.heap.size + 1, 5, none⟩ (d5)).setCell ⟨w.heap.size + 1, 6, none⟩ (d6)).setCell ⟨w.heap.size + 1, 7, none⟩ (d7)) ∧ Blk ((((((((w1.setCell ⟨w.heap.size + 1, 0, none⟩ (d0)).setCell ⟨w.heap.size + 1, 1, none⟩ (d1)).setCell ⟨w.heap.size + 1, 2, none⟩ (d2)).setCell ⟨w.heap.size + 1, 3, none⟩ (d3)).setCell ⟨w.heap.size + 1, 4, none⟩ (d4)).setCell ⟨w.heap.size + 1, 5, none⟩ (d5)).setCell ⟨w.heap.size + 1, 6, none⟩ (d6)).setCell ⟨w.heap.size + 1, 7, none⟩ (d7)) _ _ _ ∧ Blk ((((((((w1.setCell ⟨w.heap.size + 1, 0, none⟩ (d0)).setCell ⟨w.heap.size + 1, 1, none⟩ (d1)).setCell ⟨w.heap.size + 1, 2, none⟩ (d2)).setCell ⟨w.heap.size + 1, 3, none⟩ (d3)).setCell ⟨w.heap.size + 1, 4, none⟩ (d4)).setCell ⟨w.heap.size + 1, 5, none⟩ (d5)).setCell ⟨w.heap.size + 1, 6, none⟩ (d6)).setCell ⟨w.heap.size + 1, 7, none⟩ (d7)) _ _ _ ∧ Blk ((((((((w1.setCell ⟨w.heap.size + 1, 0, none⟩ (d0)).setCell ⟨w.heap.size + 1, 1, none⟩ (d1)).setCell ⟨w.heap.size + 1, 2, none⟩ (d2)).setCell ⟨w.heap.size + 1, 3, none⟩ (d3)).setCell ⟨w.heap.size + 1, 4, none⟩ (d4)).setCell ⟨w.heap.size + 1, 5, none⟩ (d5)).setCell ⟨w.heap.size + 1, 6, none⟩ (d6)).setCell ⟨w.heap.size + 1, 7, none⟩ (d7)) _ _ _) ∧ IsV ((((((((w1.setCell ⟨w.heap.size + 1, 0, none⟩ (d0)).setCell ⟨w.heap.size + 1, 1, none⟩ (d1)).setCell ⟨w.heap.size + 1, 2, none⟩ (d2)).setCell ⟨w.heap.size + 1, 3, none⟩ (d3)).setCell ⟨w.heap.size + 1, 4, none⟩ (d4)).setCell ⟨w.heap.size + 1, 5, none⟩ (d5)).setCell ⟨w.heap.size + 1, 6, none⟩ (d6)).setCell ⟨w.heap.size + 1, 7, none⟩ (d7)) _ _ _ ∧ IsO ((((((((w1.setCell ⟨w.heap.size + 1, 0, none⟩ (d0)).setCell ⟨w.heap.size + 1, 1, none⟩ (d1)).setCell ⟨w.heap.size + 1, 2, none⟩ (d2)).setCell ⟨w.heap.size + 1, 3, none⟩ (d3)).setCell ⟨w.heap.size + 1, 4, none⟩ (d4)).setCell ⟨w.heap.size + 1, 5, none⟩ (d5)).setCell ⟨w.heap.size + 1, 6, none⟩ (d6)).setCell ⟨w.heap.size + 1, 7, none⟩ (d7)) _ _ ∧ IsO ((((((((w1.setCell ⟨w.heap.size + 1, 0, none⟩ (d0)).setCell ⟨w.heap.size + 1, 1, none⟩ (d1)).setCell ⟨w.heap.size + 1, 2, none⟩ (d2)).setCell ⟨w.heap.size + 1, 3, none⟩ (d3)).setCell ⟨w.heap.size + 1, 4, none⟩ (d4)).setCell ⟨w.heap.size + 1, 5, none⟩ (d5)).setCell ⟨w.heap.size + 1, 6, none⟩ (d6)).setCell ⟨w.heap.size + 1, 7, none⟩ (d7)) _ _) at HQ2
   generalize hW2 : (((((((w1.setCell ⟨w.heap.size + 1, 0, none⟩ (d0)).setCell ⟨w.heap.size + 1, 1, none⟩ (d1)).setCell ⟨w.heap.size + 1, 2, none⟩ (d2)).setCell ⟨w.heap.size + 1, 3, none⟩ (d3)).setCell ⟨w.heap.size + 1, 4, none⟩ (d4)).setCell ⟨w.heap.size + 1, 5, none⟩ (d5)).setCell ⟨w.heap.size + 1, 6, none⟩ (d6)).setCell ⟨w.heap.size + 1, 7, none⟩ (d7) = w2 at *
   obtain ⟨q0, q1⟩ := HQ2.out.1.2.2.2.c2;obtain ⟨fq0, fq1⟩ := HQ2.out.1.2.2.2.f2;have HQ3 := Lh (P8.setM HQ2.out)
   change Hid (P8 _ _ _ _ _ _ _ _ ((w2.setCell ⟨w.heap.size + 1 + 1, 0, none⟩ (.slice b1 m2.length p1)).setCell ⟨w.heap.size + 1 + 1, 1, none⟩ (.slice b2 l2.length p2))) at HQ3
   generalize hW3 : (w2.setCell ⟨w.heap.size + 1 + 1, 0, none⟩ (.slice b1 m2.length p1)).setCell ⟨w.heap.size + 1 + 1, 1, none⟩ (.slice b2 l2.length p2) = w3 at *
   refine Lh ?_;go_wp2_with fail
   go_roundg (acts.length - (k + 1))
   case measure => omega
   case rel => exact ⟨k + 1, by omega, rfl, by go_num, _, _, _, _, _, _, _, _, _, _, m2, l2, HV2.out, HQ3.out⟩
  ·obtain rfl : k = acts.length := by omega
   have HP := Lh hP;have HV := Lh hV;have hlen := hV.len;have HBF := Lh (fun W (h : IsV W m l [c0, c1, c2, c3, c4, c5, c6, c7]) => HH.out.1.bef m l acts.length a b c0 c1 c2 c3 c4 c5 c6 c7 W HV.out (by omega) h);have HNM := Lh (fun W (h : IsV W m l [c0, c1, c2, c3, c4, c5, c6, c7]) => HH.out.1.nam m l acts.length at_ c0 c1 c2 c3 c4 c5 c6 c7 W HV.out (by omega) ha0 ha1 h);have HLS := Lh (fun W (h : IsO W vm m) => ref8List_any m (by omega) HV.out.ok.gd vm vl W h);have HRN := Lh (fun W (h : IsO W vm m) => refNamed_any m at_ ha0 ha1 HV.out.ok (by omega) vm vl W h);have hdl : (docR m).length ≤ m.length := by rw [docR_len]; exact row_len HV.out.ok.gd
   generalize docR m = L at *
   have HPC := Lh (fun v W (h : IsE W v L) => refPlace_any a b L v W h);obtain ⟨F, hF⟩ : ∃ F, F = fnd (elB a b) L 0 := ⟨_, rfl⟩
   have HRK := Lh (fun v W (h : IsE W v L) => refRank_any L F v W h (by omega));rw [← hF] at HBF HPC;obtain ⟨⟨nc, ns⟩, hN⟩ : ∃ N, N = namC L at_ := ⟨_, rfl⟩
   rw [← hN] at HNM HRN
   dsimp only at HNM HRN
   generalize rkL L F = RK at *
   clear hP hV hF hN;obtain ⟨v0, v1, v2, v3, v4, v5, v6, v7⟩ := HP.out.bv.c8;obtain ⟨y0, y1⟩ := HP.out.ba.c2;go_wp2_with (go_at_call 7; refine (HBF.out _ HP.out.iv).mono ?_; rintro e w1 ⟨rfl, hb⟩; refine Hid.out ?_)
   have HP1 := Lh (HP.out.next hb);clear HP hb HBF y0 y1 v0 v1 v2 v3 v4 v5 v6 v7;obtain ⟨z0, z1⟩ := HP1.out.bm.c2;refine Lh ?_;go_wp2_with (go_at_call 8; refine (HLS.out _ HP1.out.io).mono ?_; rintro e w2 ⟨v3, rfl, hE, hb⟩; obtain ⟨a3, p3, rfl, e1, e2⟩ := hE.form; refine Hid.out ?_)
   have HP2 := Lh (HP1.out.next hb);have HE := Lh hE;clear HP1 hb hE z0 z1 HLS;obtain ⟨y0, y1⟩ := HP2.out.ba.c2;refine Lh ?_;go_wp2_with (go_at_call 10; refine (of_any _ _ _).mono ?_; rintro e w3 ⟨rfl, hb⟩; refine Hid.out ?_)
   have HP3 := Lh (HP2.out.next hb);have HE3 := Lh (HE.out.next hb);clear HP2 HE hb y0 y1;refine Lh ?_;go_wp2_with (go_at_call 9; refine (HPC.out _ _ HE3.out).mono ?_; rintro e w4 ⟨rfl, hb⟩; refine Hid.out ?_)
   have HP := Lh (HP3.out.next hb);have HE4 := Lh (HE3.out.next hb);clear HP3 HE3 hb HPC;obtain ⟨v0, v1, v2, v3, v4, v5, v6, v7⟩ := HP.out.bv.c8;refine Lh ?_;go_wp2_with (go_at_call 11; refine (HNM.out _ HP.out.iv).mono ?_; rintro e w5 ⟨rfl, hb⟩; refine Hid.out ?_)
   have hbB : Below w5.heap.size w5 (w5.alloc (.cells #[.int .i64 nc, .int .i64 ns] 24)) := (Below.refl _ _).alloc (Nat.le_refl _) _;have HP5 := Lh (HP.out.next (hb.trans (hbB.mono hb.size)));have HE5 := Lh (HE4.out.next (hb.trans (hbB.mono hb.size)));have hbb : Blk (w5.alloc (.cells #[.int .i64 nc, .int .i64 ns] 24)) w5.heap.size [.int .i64 nc, .int .i64 ns] 24 := Blk.startAt rfl;clear HP HE4 hb hbB HNM v0 v1 v2 v3 v4 v5 v6 v7;obtain ⟨z0, z1⟩ := HP5.out.bm.c2;refine Lh ?_;go_wp2_with (go_at_call 12; refine (HRN.out _ HP5.out.io).mono ?_; rintro e w6 ⟨rfl, hb⟩; refine Hid.out ?_)
   have hbW : Below w6.heap.size w6 (w6.alloc (.cells #[.int .i64 nc, .int .i64 ns] 57)) := (Below.refl _ _).alloc (Nat.le_refl _) _;have hbN := hb.trans (hbW.mono hb.size);have HT := Lh (show T8 w w5.heap.size w6.heap.size nc ns (.slice a3 L.length p3) L (w6.alloc (.cells #[.int .i64 nc, .int .i64 ns] 57)) from ⟨(HP5.out.next hbN).bel, hbb.next hbN, Blk.startAt rfl, HE5.out.next hbN⟩);generalize hW7 : w6.alloc (.cells #[.int .i64 nc, .int .i64 ns] 57) = w7 at *
   clear HP5 HE5 hbb hb hbN hbW z0 z1 HRN;refine Lh ?_;go_wp2_with fail
   have hdum := trivial;clear hW7;refine rgH (fun W => Cc2 W w5.heap.size (.int .i64 nc) (.int .i64 ns) (Cc2 W w6.heap.size (.int .i64 nc) (.int .i64 ns) (T8 w w5.heap.size w6.heap.size nc ns (.slice a3 L.length p3) L W))) (let h := HT.out.next bD; (h.bb.d2 (h.bw.d2 h))) fun hH => ?_
   clear hdum HT;refine rd1 0 (by kernel_rfl) rfl fun KK hK => ?_
   go_simp
   refine (HH.out.2 _ (HPT.out.1.next hH.2.2.2.2.bel) (HPT.out.2.next hH.2.2.2.2.bel)).mono ?_
   rintro e' u1 ⟨rfl, hb⟩
   go_wp2_with fail
   refine hK.out _ _ ((let h := hH.2.2.2.2.next hb; (h.bb.d2 (h.bw.d2 h)))) (fun hH2 => ?_);clear hK KK hH hb;have hH := hH2;clear hH2
   try simp only [LAY]
   refine tq 1 (.bool true) hH ?_;refine tq 2 (.bool ((decide (0 ≤ F)))) hH ?_;refine tq 3 (.int .i64 F) hH ?_;refine tq 4 (.bool ((decide (0 ≤ F)))) hH ?_;refine tq 5 (.bool true) hH ?_;refine tq 6 (.bool true) hH ?_;refine tq 7 (.bool true) hH ?_;refine tq 8 (.int .i64 ((RK : Int))) hH ?_;refine tq 9 (.slice a3 L.length p3) hH ?_;refine tq 10 (.int .i64 F) hH ?_;refine rd1 11 (by kernel_rfl) rfl fun KK hK => ?_
   go_simp
   refine (HRK.out _ _ hH.2.2.2.2.ie).mono ?_
   rintro e' u1 ⟨rfl, hb⟩
   go_wp2_with fail
   refine hK.out _ _ ((let h := hH.2.2.2.2.next hb; (h.bb.d2 (h.bw.d2 h)))) (fun hH2 => ?_);clear hK KK hH hb;have hH := hH2;clear hH2
   try simp only [LAY]
   refine tk 12 (.int .i64 ((RK : Int))) hH (fun w hSw => ?_) ?_
   ·(go_simp; try omega)
   try simp only [LAY]
   refine tq 13 (.bool true) hH ?_;refine tq 14 (.bool true) hH ?_;refine tq 15 (.bool true) hH ?_;refine tq 16 (.agg #[.int .i64 nc, .int .i64 ns]) hH ?_;refine tq 18 (.agg #[.int .i64 nc, .int .i64 ns]) hH ?_;refine rd1 17 (by kernel_rfl) rfl fun KK hK => ?_
   go_simp
   refine (of_any nc ns _).mono ?_
   rintro e' u1 ⟨rfl, hb⟩
   go_wp2_with fail
   refine hK.out _ _ ((let h := hH.2.2.2.2.next hb; (h.bb.d2 (h.bw.d2 h)))) (fun hH2 => ?_);clear hK KK hH hb;have hH := hH2;clear hH2
   try simp only [LAY]
   refine tq 19 (.bool true) hH ?_;refine tq 20 (.bool true) hH ?_;refine tq 21 (.bool true) hH ?_;refine tq 22 (.bool ((!noneB nc ns))) hH ?_;refine tq 23 (.agg #[.int .i64 nc, .int .i64 ns]) hH ?_;refine rd1 24 (by kernel_rfl) rfl fun KK hK => ?_
   go_simp
   refine (none_any nc ns _).mono ?_
   rintro e' u1 ⟨rfl, hb⟩
   go_wp2_with fail
   refine hK.out _ _ ((let h := hH.2.2.2.2.next hb; (h.bb.d2 (h.bw.d2 h)))) (fun hH2 => ?_);clear hK KK hH hb;have hH := hH2;clear hH2
   try simp only [LAY]
   refine tq 25 (.bool ((!noneB nc ns))) hH ?_;refine tq 26 (.bool true) hH ?_;refine tq 27 (.bool true) hH ?_;refine tq 28 (.bool true) hH ?_;refine dnH ?_;have HB := Lh hH.2.2.2.2.bel;clear hH;go_wp2_with fail
   go_ret
   exact ⟨rfl, HB.out⟩
end Go.Proofs.YtmodpjhffbledaaGreatDoor
