import Derived.Test.YtmodpjhffbledaaGreatDoorAw8
import Derived.Test.YtmodpjhffbledaaGreatDoorEd8
import Derived.Test.YtmodpjhffbledaaGreatDoorRs8
set_option maxRecDepth 100000
set_option maxHeartbeats 12800000
namespace Go.Proofs.YtmodpjhffbledaaGreatDoor
open Go Go.Proofs Go.RowKit
theorem qt_nil : Qt [] [] := fun x hx => by cases hx
theorem ch_nil : ChO [] := fun x hx => by cases hx
theorem qt_ins {m l : List Oq} (h : Qt m l) (site at_ ch : Int) (lo : -2147483648 ≤ ch) (hi : ch ≤ 2147483647) : Qt (inT8 m l site at_ ch lo hi).1 (inT8 m l site at_ ch lo hi).2.1 := by
 unfold inT8; split
 ·exact h
 ·exact qt_rem h _
theorem ch_ins {m l : List Oq} (h : ChO m) (site at_ ch : Int) (lo : -2147483648 ≤ ch) (hi : ch ≤ 2147483647) : ChO (inT8 m l site at_ ch lo hi).1 := by
 unfold inT8; split
 ·exact h
 ·exact ch_rem h _
theorem qt_dl {m l : List Oq} (h : Qt m l) (k : Int) : Qt (deT8 m l k).1 (deT8 m l k).2.1 := by
 unfold deT8; split
 ·exact h
 ·exact qt_rem h _
theorem ch_dl {m l : List Oq} (h : ChO m) (k : Int) : ChO (deT8 m l k).1 := by
 unfold deT8; split
 ·exact h
 ·exact ch_rem h _
theorem ins_bad {m l : List Oq} {n : Nat} (hV : VOk m l n) (hq : Qt m l) {site at_ ch : Int} (lo : -2147483648 ≤ ch) (hi : ch ≤ 2147483647) (h : inE8 m l site at_ ch lo hi ≠ 0) : inT8 m l site at_ ch lo hi = (m, l, []) := by
 by_cases hc : inC8 m l site at_ ch = 0
 ·exact absurd (ins_own hV hq lo hi hc).1 h
 ·unfold inT8; rw [if_pos hc]
theorem ins_good {m l : List Oq} {site at_ ch : Int} (lo : -2147483648 ≤ ch) (hi : ch ≤ 2147483647) (h : inE8 m l site at_ ch lo hi = 0) : inC8 m l site at_ ch = 0 := by
 by_cases hc : inC8 m l site at_ ch = 0
 ·exact hc
 ·unfold inE8 at h; rw [if_pos hc] at h; exact absurd h hc
theorem txS_alv (L : List El) : txtS L = ⟨((alv L).flatMap Lib.encodeRune).toArray⟩ := by unfold txtS; rw [txt_alv]
theorem opP_zero (o : Oq) : opP 0 o = o := if_pos rfl
theorem rk_at (A B : List El) : rkL (A ++ B) (A.length : Int) = (A.map El.al).sum := by
 unfold rkL; rw [Int.toNat_natCast, List.take_left]
theorem edit_own {m l : List Oq} {n : Nat} (hV : VOk m l n) (hq : Qt m l) {site at_ ch : Int} (lo : -2147483648 ≤ ch) (hi : ch ≤ 2147483647) (hE : inE8 m l site at_ ch lo hi = 0) :
  ∃ (k : Nat) (m2 m3 : List Oq) (o d : Oq) (c1 c2 : Chg), at_ = (k : Int) ∧ k ≤ (alv (docR m)).length ∧ ChrB ch ∧ opP (inE8 m l site at_ ch lo hi) (inV8 m l site at_ ch lo hi) = o ∧ o.s = site ∧
   inT8 m l site at_ ch lo hi = (m2, l, [c1]) ∧ c1.a = at_ ∧ VOk m2 l (n + 1) ∧ alv (docR m2) = (alv (docR m)).take k ++ ch :: (alv (docR m)).drop k ∧
   deE8 m2 l at_ = 0 ∧ opP 0 (deV8 m2 at_) = d ∧ d.c = o.c ∧ d.s = o.s ∧ deT8 m2 l at_ = (m3, l, [c2]) ∧ c2.a = at_ ∧ VOk m3 l (n + 2) ∧ alv (docR m3) = alv (docR m) := by
 obtain ⟨h0, hT, hw, hch, ha, hg, A, B, hA, hB, hpl, hs⟩ := ins_own hV hq lo hi (ins_good lo hi hE);have hV2 := hV.ins site at_ ch lo hi;have hq2 := qt_ins hq site at_ ch lo hi;rw [hT] at hV2 hq2
 dsimp only at hV2 hq2
 obtain ⟨hd, hdE, hdT, ⟨e', he', hL3⟩, hpd⟩ := del_own hV hw rfl hg hq2 hB rfl ⟨rfl, rfl⟩ hs;have hV3 := hV2.del at_;rw [hdT] at hV3
 dsimp only at hV3
 have hk : (alv A).length = at_.toNat := by rw [alv_len]; omega
 have hAB : alv (docR m) = alv A ++ alv B := by rw [hA, alv_append]
 refine ⟨at_.toNat, _, _, _, _, _, _, by omega, ?_, hch, rfl, ?_, hT, ?_, hV2, ?_, hdE, rfl, ?_, ?_, hdT, ?_, hV3, ?_⟩
 ·rw [hAB, List.length_append]; omega
 ·rw [hE, opP_zero]; rfl
 ·show ((rkL _ _ : Nat) : Int) = at_
  rw [hpl, hB, rk_at]; exact hs
 ·rw [hB, hAB, ← hk, List.take_left, List.drop_left, alv_append]; rfl
 ·rw [hE, opP_zero, opP_zero, hd]
 ·rw [hE, opP_zero, opP_zero, hd]
 ·show ((rkL _ _ : Nat) : Int) = at_
  rw [hpd, hL3, rk_at]; exact hs
 ·rw [hL3, hAB, alv_append]
  congr 1
  show alv (e' :: B) = alv B
  unfold alv; rw [List.filter_cons_of_neg (by simp [he'])]
structure W8 (w : World) (gW : Nat) (cs ds : List Value) (m l m2 l2 : List Oq) (x : Oq) (vt : Value) (T : List Int) (W : World) : Prop where
 a : A8 w w.heap.size cs m l W
 lt : w.heap.size < gW
 bw : Blk W gW ds 41
 bo : Blk W (gW + 1) (oqL x) 47
 iw : IsV W m2 l2 ds
 rn : IsRn W vt T
theorem W8.next {w : World} {gW : Nat} {cs ds : List Value} {m l m2 l2 : List Oq} {x : Oq} {vt : Value} {T : List Int} {W W' : World} (h : W8 w gW cs ds m l m2 l2 x vt T W) (hb : Below W.heap.size W W') : W8 w gW cs ds m l m2 l2 x vt T W' :=
 ⟨h.a.next hb, h.lt, h.bw.next hb, h.bo.next hb, h.iw.next hb, h.rn.next hb⟩
theorem flat_ge : ∀ T : List Int, (T.flatMap Lib.encodeRune).length ≤ 4 * T.length
 | [] => Nat.le_refl _
 | r :: T => by
  have := flat_ge T;have := (enc_len r).2;rw [List.flatMap_cons, List.length_append, List.length_cons]; omega
theorem vc_at {W : World} {g cC : Nat} {c : Chg} (h : IsVC W (.slice (some ⟨g, 0, none⟩) 1 cC) [c]) : W.cell? ⟨g, 1, none⟩ = some (.int .i64 c.a) := by
 obtain ⟨g', e, _, hc⟩ := Sl.cell chgL_len h 0 (by simp)
 cases e
 exact hc 1 (by decide)
structure Z8 (w : World) (gW gC cC : Nat) (cs ds : List Value) (m l m2 : List Oq) (x : Oq) (e1 : Chg) (vt : Value) (T : List Int) (W : World) : Prop where
 h : W8 w gW cs ds m l m2 l x vt T W
 ic : IsVC W (.slice (some ⟨gC, 0, none⟩) 1 cC) [e1]
theorem Z8.next {w : World} {gW gC cC : Nat} {cs ds : List Value} {m l m2 : List Oq} {x : Oq} {e1 : Chg} {vt : Value} {T : List Int} {W W' : World} (h : Z8 w gW gC cC cs ds m l m2 x e1 vt T W) (hb : Below W.heap.size W W') : Z8 w gW gC cC cs ds m l m2 x e1 vt T W' := ⟨h.h.next hb, h.ic.next hb⟩
structure U8 (w : World) (gW gU gD cD : Nat) (cs ds ys : List Value) (m l m2 m3 : List Oq) (x y : Oq) (e2 : Chg) (vt : Value) (T : List Int) (W : World) : Prop where
 h : W8 w gW cs ds m l m2 l x vt T W
 bu : Blk W gU ys 41
 bp : Blk W (gU + 1) (oqL y) 47
 iu : IsV W m3 l ys
 ic : IsVC W (.slice (some ⟨gD, 0, none⟩) 1 cD) [e2]
theorem U8.next {w : World} {gW gU gD cD : Nat} {cs ds ys : List Value} {m l m2 m3 : List Oq} {x y : Oq} {e2 : Chg} {vt : Value} {T : List Int} {W W' : World} (h : U8 w gW gU gD cD cs ds ys m l m2 m3 x y e2 vt T W) (hb : Below W.heap.size W W') : U8 w gW gU gD cD cs ds ys m l m2 m3 x y e2 vt T W' := ⟨h.h.next hb, h.bu.next hb, h.bp.next hb, h.iu.next hb, h.ic.next hb⟩
theorem vedits_main (H : VAll) (hAw : Awake8Ok) (ad : Option Addr) (cap : Nat) (acts : List Act8) (site at_ ch : Int) (ha0 : -9223372036854775808 ≤ at_) (ha1 : at_ ≤ 9223372036854775807) (lo : -2147483648 ≤ ch) (hi : ch ≤ 2147483647) (w : World) (hl : acts.length ≤ 40) (_ : acts.length ≤ cap) (_ : cap ≤ 9223372036854775807)
  (hL : acts ≠ [] → ∃ b off, ad = some ⟨b, off, none⟩ ∧ b < w.heap.size ∧ LiesA w b off acts) (hp : Pows w) (ht : Tabs w) :
  Calls Tryz.prog 4 #[.slice ad acts.length cap, .int .i64 site, .int .i64 at_, .int .i32 ch] w fun e w' => e = .returned (.bool true) ∧ Below w.heap.size w w' := by
 have HL := Lh hL;have HPT := Lh (And.intro hp ht);have HH := Lh (And.intro H hAw);have hl' : ¬ (40 : Int) < (acts.length : Int) := by omega
 have H0 := Lh (show A8 w w.heap.size [.pointer none, .pointer none, .int .i64 0, .slice none 0 0, .int .i64 0, .int .i64 0, .complex .f64 0 0, .complex .f64 0 0] [] [] (w.alloc (.cells #[.pointer none, .pointer none, .int .i64 0, .slice none 0 0, .int .i64 0, .int .i64 0, .complex .f64 0 0, .complex .f64 0 0] 41)) from ⟨(Below.refl _ _).alloc (Nat.le_refl _) _, Nat.le_refl _, Blk.startAt rfl, isv_nil _⟩);clear hL hp ht H hAw
 go_enter Tryz.func4, Tryz.ntmps4
 go_wp2_with fail
 go_loopg [25] acts.length (fun g ti wr => ∃ k : Nat, k ≤ acts.length ∧ g = acts.length - k ∧ ti = .int .i64 (k : Int) ∧ ∃ (c0 c1 c2 c3 c4 c5 c6 c7 : Value) (m l : List Oq), Hid (VOk m l k ∧ Qt m l ∧ ChO m) ∧ A8 w w.heap.size [c0, c1, c2, c3, c4, c5, c6, c7] m l wr)
 case atStart => exact ⟨0, Nat.zero_le _, rfl, rfl, _, _, _, _, _, _, _, _, [], [], Lh ⟨VOk.nil, qt_nil, ch_nil⟩, H0.out⟩
 case round =>
  obtain ⟨k, hk, rfl, rfl, c0, c1, c2, c3, c4, c5, c6, c7, m, l, HV, hP⟩ := hrel;clear H0;by_cases hlt : k < acts.length
  ·obtain ⟨bA, off, rfl, hbw, hLies⟩ := HL.out (fun e => by rw [e] at hlt; cases hlt)
   have k0 := (hP.bel.cell (p := ⟨bA, off + k * 10, none⟩) hbw).trans (hLies k hlt 0 (by omega));have k1 := (hP.bel.cell (p := ⟨bA, off + k * 10 + 1, none⟩) hbw).trans (hLies k hlt 1 (by omega));have k2 := (hP.bel.cell (p := ⟨bA, off + k * 10 + 2, none⟩) hbw).trans (hLies k hlt 2 (by omega));have k3 := (hP.bel.cell (p := ⟨bA, off + k * 10 + 3, none⟩) hbw).trans (hLies k hlt 3 (by omega));have k4 := (hP.bel.cell (p := ⟨bA, off + k * 10 + 4, none⟩) hbw).trans (hLies k hlt 4 (by omega));have k5 := (hP.bel.cell (p := ⟨bA, off + k * 10 + 5, none⟩) hbw).trans (hLies k hlt 5 (by omega));have k6 := (hP.bel.cell (p := ⟨bA, off + k * 10 + 6, none⟩) hbw).trans (hLies k hlt 6 (by omega));have k7 := (hP.bel.cell (p := ⟨bA, off + k * 10 + 7, none⟩) hbw).trans (hLies k hlt 7 (by omega));have k8 := (hP.bel.cell (p := ⟨bA, off + k * 10 + 8, none⟩) hbw).trans (hLies k hlt 8 (by omega));have k9 := (hP.bel.cell (p := ⟨bA, off + k * 10 + 9, none⟩) hbw).trans (hLies k hlt 9 (by omega))
   change _ = some (Value.int .u8 acts[k].kd) at k0
   change _ = some (Value.int .i64 acts[k].o.k) at k1
   change _ = some (Value.int .i64 acts[k].o.c) at k2
   change _ = some (Value.int .i64 acts[k].o.s) at k3
   change _ = some (Value.int .i64 acts[k].o.a) at k4
   change _ = some (Value.int .i64 acts[k].o.n) at k5
   change _ = some (Value.int .i32 acts[k].o.ch) at k6
   change _ = some (Value.int .i64 acts[k].st) at k7
   change _ = some (Value.int .i64 acts[k].at_) at k8
   change _ = some (Value.int .i32 acts[k].ch) at k9
   clear hLies;generalize acts[k] = x at *
   have hba : Below wr.heap.size wr (wr.alloc (.cells #[.int .u8 x.kd, .int .i64 x.o.k, .int .i64 x.o.c, .int .i64 x.o.s, .int .i64 x.o.a, .int .i64 x.o.n, .int .i32 x.o.ch, .int .i64 x.st, .int .i64 x.at_, .int .i32 x.ch] 49)) := (Below.refl _ _).alloc (Nat.le_refl _) _;have HA1 := Lh (hP.next hba);have HRM := Lh (fun W (h : IsV W m l [c0, c1, c2, c3, c4, c5, c6, c7]) => HH.out.1.rm m l k x.o c0 c1 c2 c3 c4 c5 c6 c7 W HV.out.1 (by omega) h);have HIN := Lh (fun W (h : IsV W m l [c0, c1, c2, c3, c4, c5, c6, c7]) => HH.out.1.ins m l k x.st x.at_ x.ch x.lo x.hi c0 c1 c2 c3 c4 c5 c6 c7 W HV.out.1 (by omega) x.a0 x.a1 h);have HDE := Lh (fun W (h : IsV W m l [c0, c1, c2, c3, c4, c5, c6, c7]) => HH.out.1.del m l k x.at_ c0 c1 c2 c3 c4 c5 c6 c7 W HV.out.1 (by omega) x.a0 x.a1 h);clear hP hba;by_cases h0 : x.kd = 0
   ·have e0 : (x.kd == 0) = true := by simpa using h0
    clear h0;obtain ⟨v0, v1, v2, v3, v4, v5, v6, v7⟩ := HA1.out.bv.c8;go_wp2_with (go_at_call 15; refine (HRM.out _ HA1.out.iv).mono ?_; rintro e w1 ⟨hb, d0, d1, d2, d3, d4, d5, d6, d7, lc, rfl, hiv, hic⟩; obtain ⟨al, pl, rfl, hd1, hd2⟩ := hic.form; refine Hid.out ?_)
    have hon := hiv.one;have sd0 := fun (W : World) (a : Addr) (md : Mode) => run_store Tryz.prog W a d0 md (hon d0 (by simp))
    have sd1 := fun (W : World) (a : Addr) (md : Mode) => run_store Tryz.prog W a d1 md (hon d1 (by simp))
    have sd2 := fun (W : World) (a : Addr) (md : Mode) => run_store Tryz.prog W a d2 md (hon d2 (by simp))
    have sd3 := fun (W : World) (a : Addr) (md : Mode) => run_store Tryz.prog W a d3 md (hon d3 (by simp))
    have sd4 := fun (W : World) (a : Addr) (md : Mode) => run_store Tryz.prog W a d4 md (hon d4 (by simp))
    have sd5 := fun (W : World) (a : Addr) (md : Mode) => run_store Tryz.prog W a d5 md (hon d5 (by simp))
    have sd6 := fun (W : World) (a : Addr) (md : Mode) => run_store Tryz.prog W a d6 md (hon d6 (by simp))
    have sd7 := fun (W : World) (a : Addr) (md : Mode) => run_store Tryz.prog W a d7 md (hon d7 (by simp))
    have HA2 := Lh (HA1.out.next hb);have HIV := Lh hiv;clear HA1 hb hiv hic hon v0 v1 v2 v3 v4 v5 v6 v7;obtain ⟨n0, n1, n2, n3, n4, n5, n6, n7⟩ := HA2.out.bv.c8;obtain ⟨fn0, fn1, fn2, fn3, fn4, fn5, fn6, fn7⟩ := HA2.out.bv.f8;have HA3 := Lh (HA2.out.put HIV.out)
    change Hid (A8 _ _ _ _ _ ((((((((w1.setCell ⟨w.heap.size, 0, none⟩ (d0)).setCell ⟨w.heap.size, 1, none⟩ (d1)).setCell ⟨w.heap.size, 2, none⟩ (d2)).setCell ⟨w.heap.size, 3, none⟩ (d3)).setCell ⟨w.heap.size, 4, none⟩ (d4)).setCell ⟨w.heap.size, 5, none⟩ (d5)).setCell ⟨w.heap.size, 6, none⟩ (d6)).setCell ⟨w.heap.size, 7, none⟩ (d7))) at HA3
    generalize hWC : (((((((w1.setCell ⟨w.heap.size, 0, none⟩ (d0)).setCell ⟨w.heap.size, 1, none⟩ (d1)).setCell ⟨w.heap.size, 2, none⟩ (d2)).setCell ⟨w.heap.size, 3, none⟩ (d3)).setCell ⟨w.heap.size, 4, none⟩ (d4)).setCell ⟨w.heap.size, 5, none⟩ (d5)).setCell ⟨w.heap.size, 6, none⟩ (d6)).setCell ⟨w.heap.size, 7, none⟩ (d7) = w2 at *
    refine Lh ?_;go_wp2_with fail
    go_roundg (acts.length - (k + 1))
    case measure => omega
    case rel => exact ⟨k + 1, by omega, rfl, by go_num, _, _, _, _, _, _, _, _, _, _, Lh ⟨HV.out.1.rem x.o, qt_rem HV.out.2.1 x.o, ch_rem HV.out.2.2 x.o⟩, HA3.out⟩
   by_cases h1 : x.kd = 1
   ·have e0 : (x.kd == 0) = false := by simpa using h0
    have e1 : (x.kd == 1) = true := by simpa using h1
    clear h0 h1;obtain ⟨v0, v1, v2, v3, v4, v5, v6, v7⟩ := HA1.out.bv.c8;go_wp2_with (go_at_call 16; refine (HIN.out _ HA1.out.iv).mono ?_; rintro e w1 ⟨hb, d0, d1, d2, d3, d4, d5, d6, d7, lc, x9, -, rfl, hiv, hic⟩; obtain ⟨al, pl, rfl, hd1, hd2⟩ := hic.form; refine Hid.out ?_)
    have hon := hiv.one;have sd0 := fun (W : World) (a : Addr) (md : Mode) => run_store Tryz.prog W a d0 md (hon d0 (by simp))
    have sd1 := fun (W : World) (a : Addr) (md : Mode) => run_store Tryz.prog W a d1 md (hon d1 (by simp))
    have sd2 := fun (W : World) (a : Addr) (md : Mode) => run_store Tryz.prog W a d2 md (hon d2 (by simp))
    have sd3 := fun (W : World) (a : Addr) (md : Mode) => run_store Tryz.prog W a d3 md (hon d3 (by simp))
    have sd4 := fun (W : World) (a : Addr) (md : Mode) => run_store Tryz.prog W a d4 md (hon d4 (by simp))
    have sd5 := fun (W : World) (a : Addr) (md : Mode) => run_store Tryz.prog W a d5 md (hon d5 (by simp))
    have sd6 := fun (W : World) (a : Addr) (md : Mode) => run_store Tryz.prog W a d6 md (hon d6 (by simp))
    have sd7 := fun (W : World) (a : Addr) (md : Mode) => run_store Tryz.prog W a d7 md (hon d7 (by simp))
    have HA2 := Lh (HA1.out.next hb);have HIV := Lh hiv;clear HA1 hb hiv hic hon v0 v1 v2 v3 v4 v5 v6 v7;obtain ⟨n0, n1, n2, n3, n4, n5, n6, n7⟩ := HA2.out.bv.c8;obtain ⟨fn0, fn1, fn2, fn3, fn4, fn5, fn6, fn7⟩ := HA2.out.bv.f8;have HA3 := Lh (HA2.out.put HIV.out)
    change Hid (A8 _ _ _ _ _ ((((((((w1.setCell ⟨w.heap.size, 0, none⟩ (d0)).setCell ⟨w.heap.size, 1, none⟩ (d1)).setCell ⟨w.heap.size, 2, none⟩ (d2)).setCell ⟨w.heap.size, 3, none⟩ (d3)).setCell ⟨w.heap.size, 4, none⟩ (d4)).setCell ⟨w.heap.size, 5, none⟩ (d5)).setCell ⟨w.heap.size, 6, none⟩ (d6)).setCell ⟨w.heap.size, 7, none⟩ (d7))) at HA3
    generalize hWC : (((((((w1.setCell ⟨w.heap.size, 0, none⟩ (d0)).setCell ⟨w.heap.size, 1, none⟩ (d1)).setCell ⟨w.heap.size, 2, none⟩ (d2)).setCell ⟨w.heap.size, 3, none⟩ (d3)).setCell ⟨w.heap.size, 4, none⟩ (d4)).setCell ⟨w.heap.size, 5, none⟩ (d5)).setCell ⟨w.heap.size, 6, none⟩ (d6)).setCell ⟨w.heap.size, 7, none⟩ (d7) = w2 at *
    refine Lh ?_;go_wp2_with fail
    go_roundg (acts.length - (k + 1))
    case measure => omega
    case rel => exact ⟨k + 1, by omega, rfl, by go_num, _, _, _, _, _, _, _, _, _, _, Lh ⟨HV.out.1.ins x.st x.at_ x.ch x.lo x.hi, qt_ins HV.out.2.1 x.st x.at_ x.ch x.lo x.hi, ch_ins HV.out.2.2 x.st x.at_ x.ch x.lo x.hi⟩, HA3.out⟩
   by_cases h2 : x.kd = 2
   ·have e0 : (x.kd == 0) = false := by simpa using h0
    have e1 : (x.kd == 1) = false := by simpa using h1
    have e2 : (x.kd == 2) = true := by simpa using h2
    clear h0 h1 h2;obtain ⟨v0, v1, v2, v3, v4, v5, v6, v7⟩ := HA1.out.bv.c8;go_wp2_with (go_at_call 17; refine (HDE.out _ HA1.out.iv).mono ?_; rintro e w1 ⟨hb, d0, d1, d2, d3, d4, d5, d6, d7, lc, x9, -, rfl, hiv, hic⟩; obtain ⟨al, pl, rfl, hd1, hd2⟩ := hic.form; refine Hid.out ?_)
    have hon := hiv.one;have sd0 := fun (W : World) (a : Addr) (md : Mode) => run_store Tryz.prog W a d0 md (hon d0 (by simp))
    have sd1 := fun (W : World) (a : Addr) (md : Mode) => run_store Tryz.prog W a d1 md (hon d1 (by simp))
    have sd2 := fun (W : World) (a : Addr) (md : Mode) => run_store Tryz.prog W a d2 md (hon d2 (by simp))
    have sd3 := fun (W : World) (a : Addr) (md : Mode) => run_store Tryz.prog W a d3 md (hon d3 (by simp))
    have sd4 := fun (W : World) (a : Addr) (md : Mode) => run_store Tryz.prog W a d4 md (hon d4 (by simp))
    have sd5 := fun (W : World) (a : Addr) (md : Mode) => run_store Tryz.prog W a d5 md (hon d5 (by simp))
    have sd6 := fun (W : World) (a : Addr) (md : Mode) => run_store Tryz.prog W a d6 md (hon d6 (by simp))
    have sd7 := fun (W : World) (a : Addr) (md : Mode) => run_store Tryz.prog W a d7 md (hon d7 (by simp))
    have HA2 := Lh (HA1.out.next hb);have HIV := Lh hiv;clear HA1 hb hiv hic hon v0 v1 v2 v3 v4 v5 v6 v7;obtain ⟨n0, n1, n2, n3, n4, n5, n6, n7⟩ := HA2.out.bv.c8;obtain ⟨fn0, fn1, fn2, fn3, fn4, fn5, fn6, fn7⟩ := HA2.out.bv.f8;have HA3 := Lh (HA2.out.put HIV.out)
    change Hid (A8 _ _ _ _ _ ((((((((w1.setCell ⟨w.heap.size, 0, none⟩ (d0)).setCell ⟨w.heap.size, 1, none⟩ (d1)).setCell ⟨w.heap.size, 2, none⟩ (d2)).setCell ⟨w.heap.size, 3, none⟩ (d3)).setCell ⟨w.heap.size, 4, none⟩ (d4)).setCell ⟨w.heap.size, 5, none⟩ (d5)).setCell ⟨w.heap.size, 6, none⟩ (d6)).setCell ⟨w.heap.size, 7, none⟩ (d7))) at HA3
    generalize hWC : (((((((w1.setCell ⟨w.heap.size, 0, none⟩ (d0)).setCell ⟨w.heap.size, 1, none⟩ (d1)).setCell ⟨w.heap.size, 2, none⟩ (d2)).setCell ⟨w.heap.size, 3, none⟩ (d3)).setCell ⟨w.heap.size, 4, none⟩ (d4)).setCell ⟨w.heap.size, 5, none⟩ (d5)).setCell ⟨w.heap.size, 6, none⟩ (d6)).setCell ⟨w.heap.size, 7, none⟩ (d7) = w2 at *
    refine Lh ?_;go_wp2_with fail
    go_roundg (acts.length - (k + 1))
    case measure => omega
    case rel => exact ⟨k + 1, by omega, rfl, by go_num, _, _, _, _, _, _, _, _, _, _, Lh ⟨HV.out.1.del x.at_, qt_dl HV.out.2.1 x.at_, ch_dl HV.out.2.2 x.at_⟩, HA3.out⟩
   have e0 : (x.kd == 0) = false := by simpa using h0
   have e1 : (x.kd == 1) = false := by simpa using h1
   have e2 : (x.kd == 2) = false := by simpa using h2
   clear h0 h1 h2;go_wp2_with fail
   go_roundg (acts.length - (k + 1))
   case measure => omega
   case rel => exact ⟨k + 1, by omega, rfl, by go_num, _, _, _, _, _, _, _, _, m, l, Lh ⟨HV.out.1.more (by omega), HV.out.2⟩, HA1.out⟩
  ·obtain rfl : k = acts.length := by omega
   have HP := Lh hP;have hlen := HV.out.1.len;have hTc : ∀ r ∈ alv (docR m), ChrB r := ch_row HV.out.1.ok.gd HV.out.2.2;have hTl : (alv (docR m)).length ≤ 900 := by rw [alv_len]; have h1 := alive_le (docR m); have h2 := docR_len m; have h3 := row_len HV.out.1.ok.gd; omega
   have hTk : (rkL (docR m) ((docR m).length : Int) : Int) = ((alv (docR m)).length : Int) := by rw [rkL_len, alv_len]
   have HTX := Lh (fun (c0 c1 c2 c3 c4 c5 c6 c7 : Value) W (h : IsV W m l [c0, c1, c2, c3, c4, c5, c6, c7]) (h2 : Tabs W) => HH.out.1.txt m l acts.length c0 c1 c2 c3 c4 c5 c6 c7 W HV.out.1 (by omega) h h2);rw [txS_alv] at HTX;have HLN := Lh (fun (c0 c1 c2 c3 c4 c5 c6 c7 : Value) W (h : IsV W m l [c0, c1, c2, c3, c4, c5, c6, c7]) => HH.out.1.len m l acts.length c0 c1 c2 c3 c4 c5 c6 c7 W HV.out.1 (by omega) h);rw [hTk] at HLN;have HSQ := Lh (fun (c0 c1 c2 c3 c4 c5 c6 c7 : Value) W (h : IsV W m l [c0, c1, c2, c3, c4, c5, c6, c7]) => HH.out.1.seq m l acts.length c0 c1 c2 c3 c4 c5 c6 c7 W HV.out.1 (by omega) h);have HIN := Lh (fun W (h : IsV W m l [c0, c1, c2, c3, c4, c5, c6, c7]) => HH.out.1.ins m l acts.length site at_ ch lo hi c0 c1 c2 c3 c4 c5 c6 c7 W HV.out.1 (by omega) ha0 ha1 h);obtain ⟨T, hT⟩ : ∃ T, T = alv (docR m) := ⟨_, rfl⟩
   have HT := Lh hT;rw [← hT] at HTX HLN hTc hTl;have HTC := Lh hTc;clear hP hTk hT hTc;obtain ⟨v0, v1, v2, v3, v4, v5, v6, v7⟩ := HP.out.bv.c8;go_wp2_with (go_at_call 18; refine (HTX.out c0 c1 c2 c3 c4 c5 c6 c7 _ HP.out.iv (HPT.out.2.next HP.out.bel)).mono ?_; rintro e w1 ⟨rfl, hb⟩; refine Hid.out ?_)
   obtain ⟨cp, w2, hcv, hrn, hbe⟩ := runes_at T HTC.out (by omega) w1;obtain ⟨_, _, he9, hcp1, hcp2⟩ := hrn.form
   cases he9
   have HP2 := Lh (HP.out.next (hb.trans (hbe.mono hb.size)));have HRN := Lh hrn;generalize hgT : w1.heap.size = gT at *
   clear HP hb hbe hrn v0 v1 v2 v3 v4 v5 v6 v7;obtain ⟨v0, v1, v2, v3, v4, v5, v6, v7⟩ := HP2.out.bv.c8;refine Lh ?_;go_wp2_with (go_at_call 19; refine (HLN.out c0 c1 c2 c3 c4 c5 c6 c7 _ HP2.out.iv).mono ?_; rintro e w3 ⟨rfl, hb⟩; refine Hid.out ?_)
   have HP3 := Lh (HP2.out.next hb);have HRN3 := Lh (HRN.out.next hb);clear HP2 HRN hb hcv hgT v0 v1 v2 v3 v4 v5 v6 v7;obtain ⟨v0, v1, v2, v3, v4, v5, v6, v7⟩ := HP3.out.bv.c8;refine Lh ?_;go_wp2_with (go_at_call 16; refine (HIN.out _ HP3.out.iv).mono ?_; rintro e w4 ⟨hb, d0, d1, d2, d3, d4, d5, d6, d7, lc, x, hx, rfl, hiv, hic⟩; obtain ⟨al, pl, rfl, hd1, hd2⟩ := hic.form; have HX := Lh hx; clear hx; refine Hid.out ?_)
   have hon := hiv.one;have sd0 := fun (W : World) (a : Addr) (md : Mode) => run_store Tryz.prog W a d0 md (hon d0 (by simp))
   have sd1 := fun (W : World) (a : Addr) (md : Mode) => run_store Tryz.prog W a d1 md (hon d1 (by simp))
   have sd2 := fun (W : World) (a : Addr) (md : Mode) => run_store Tryz.prog W a d2 md (hon d2 (by simp))
   have sd3 := fun (W : World) (a : Addr) (md : Mode) => run_store Tryz.prog W a d3 md (hon d3 (by simp))
   have sd4 := fun (W : World) (a : Addr) (md : Mode) => run_store Tryz.prog W a d4 md (hon d4 (by simp))
   have sd5 := fun (W : World) (a : Addr) (md : Mode) => run_store Tryz.prog W a d5 md (hon d5 (by simp))
   have sd6 := fun (W : World) (a : Addr) (md : Mode) => run_store Tryz.prog W a d6 md (hon d6 (by simp))
   have sd7 := fun (W : World) (a : Addr) (md : Mode) => run_store Tryz.prog W a d7 md (hon d7 (by simp))
   have hbA : Below w4.heap.size w4 ((w4.alloc (.cells #[d0, d1, d2, d3, d4, d5, d6, d7] 41)).alloc (.cells #[.int .i64 x.k, .int .i64 x.c, .int .i64 x.s, .int .i64 x.a, .int .i64 x.n, .int .i32 x.ch] 47)) := ((Below.refl _ _).alloc (Nat.le_refl _) _).alloc (by simp) _;have hbB := hb.trans (hbA.mono hb.size);have HW := Lh (show W8 w w4.heap.size [c0, c1, c2, c3, c4, c5, c6, c7] [d0, d1, d2, d3, d4, d5, d6, d7] m l (inT8 m l site at_ ch lo hi).1 (inT8 m l site at_ ch lo hi).2.1 x (.slice (some ⟨gT, 0, none⟩) T.length cp) T ((w4.alloc (.cells #[d0, d1, d2, d3, d4, d5, d6, d7] 41)).alloc (.cells #[.int .i64 x.k, .int .i64 x.c, .int .i64 x.s, .int .i64 x.a, .int .i64 x.n, .int .i32 x.ch] 47)) from
    ⟨HP3.out.next hbB, (HP3.out.next hb).bv.lt, (Blk.startAt rfl).alloc _, Blk.startAt (by simp), hiv.next hbA, HRN3.out.next hbB⟩)
   have HIC := Lh (hic.next hbA);generalize hWA : (w4.alloc (.cells #[d0, d1, d2, d3, d4, d5, d6, d7] 41)).alloc (.cells #[.int .i64 x.k, .int .i64 x.c, .int .i64 x.s, .int .i64 x.a, .int .i64 x.n, .int .i32 x.ch] 47) = w5 at *
   generalize hgW : w4.heap.size = gW at *
   clear HP3 HRN3 hb hbA hbB hiv hic hon HIN v0 v1 v2 v3 v4 v5 v6 v7;by_cases hE : inE8 m l site at_ ch lo hi = 0
   rotate_left
   ·have hT8 := ins_bad HV.out.1 HV.out.2.1 lo hi hE
    rw [hT8] at HW HIC;generalize inT8 m l site at_ ch lo hi = T8' at *
    subst hT8
    dsimp only at HW HIC hd1
    have hE' : (inE8 m l site at_ ch lo hi == 0) = false := by simpa using hE
    clear hE;refine Lh ?_;go_wp2_with fail
    have hdum := trivial;clear hWA;refine rgH (fun W => Ce W w.heap.size 0 c0 ∧ Ce W gW 0 d0 ∧ Ce W w.heap.size 1 c1 ∧ Ce W gW 1 d1 ∧ Ce W w.heap.size 2 c2 ∧ Ce W gW 2 d2 ∧ Ce W w.heap.size 3 c3 ∧ Ce W gW 3 d3 ∧ Ce W w.heap.size 4 c4 ∧ Ce W gW 4 d4 ∧ Ce W w.heap.size 5 c5 ∧ Ce W gW 5 d5 ∧ Ce W w.heap.size 6 c6 ∧ Ce W gW 6 d6 ∧ Ce W w.heap.size 7 c7 ∧ Ce W gW 7 d7 ∧ W8 w gW [c0, c1, c2, c3, c4, c5, c6, c7] [d0, d1, d2, d3, d4, d5, d6, d7] m l m l x (.slice (some ⟨gT, 0, none⟩) T.length cp) T W) (let h := HW.out.next bD; ⟨h.a.bv.cell 0 rfl, h.bw.cell 0 rfl, h.a.bv.cell 1 rfl, h.bw.cell 1 rfl, h.a.bv.cell 2 rfl, h.bw.cell 2 rfl, h.a.bv.cell 3 rfl, h.bw.cell 3 rfl, h.a.bv.cell 4 rfl, h.bw.cell 4 rfl, h.a.bv.cell 5 rfl, h.bw.cell 5 rfl, h.a.bv.cell 6 rfl, h.bw.cell 6 rfl, h.a.bv.cell 7 rfl, h.bw.cell 7 rfl, h⟩) fun hH => ?_
    clear hdum HW;refine rd1 0 (by kernel_rfl) rfl fun KK hK => ?_
    go_simp
    refine (HH.out.2 _ (HPT.out.1.next hH.2.2.2.2.2.2.2.2.2.2.2.2.2.2.2.2.a.bel) (HPT.out.2.next hH.2.2.2.2.2.2.2.2.2.2.2.2.2.2.2.2.a.bel)).mono ?_
    rintro e' u1 ⟨rfl, hb⟩
    go_wp2_with fail
    refine hK.out _ _ ((let h := hH.2.2.2.2.2.2.2.2.2.2.2.2.2.2.2.2.next hb; ⟨h.a.bv.cell 0 rfl, h.bw.cell 0 rfl, h.a.bv.cell 1 rfl, h.bw.cell 1 rfl, h.a.bv.cell 2 rfl, h.bw.cell 2 rfl, h.a.bv.cell 3 rfl, h.bw.cell 3 rfl, h.a.bv.cell 4 rfl, h.bw.cell 4 rfl, h.a.bv.cell 5 rfl, h.bw.cell 5 rfl, h.a.bv.cell 6 rfl, h.bw.cell 6 rfl, h.a.bv.cell 7 rfl, h.bw.cell 7 rfl, h⟩)) (fun hH2 => ?_);clear hK KK hH hb;have hH := hH2;clear hH2
    try simp only [LAY]
    refine tq 1 (.bool true) hH ?_;refine tq 2 (.agg #[d0, d1, d2, d3, d4, d5, d6, d7]) hH ?_;refine tq 4 (.agg #[c0, c1, c2, c3, c4, c5, c6, c7]) hH ?_;refine rd1 3 (by kernel_rfl) rfl fun KK hK => ?_
    go_simp
    refine (HTX.out d0 d1 d2 d3 d4 d5 d6 d7 _ hH.2.2.2.2.2.2.2.2.2.2.2.2.2.2.2.2.iw (HPT.out.2.next hH.2.2.2.2.2.2.2.2.2.2.2.2.2.2.2.2.a.bel)).mono ?_
    rintro e' u1 ⟨rfl, hb⟩
    go_wp2_with fail
    refine hK.out _ _ ((let h := hH.2.2.2.2.2.2.2.2.2.2.2.2.2.2.2.2.next hb; ⟨h.a.bv.cell 0 rfl, h.bw.cell 0 rfl, h.a.bv.cell 1 rfl, h.bw.cell 1 rfl, h.a.bv.cell 2 rfl, h.bw.cell 2 rfl, h.a.bv.cell 3 rfl, h.bw.cell 3 rfl, h.a.bv.cell 4 rfl, h.bw.cell 4 rfl, h.a.bv.cell 5 rfl, h.bw.cell 5 rfl, h.a.bv.cell 6 rfl, h.bw.cell 6 rfl, h.a.bv.cell 7 rfl, h.bw.cell 7 rfl, h⟩)) (fun hH2 => ?_);clear hK KK hH hb;have hH := hH2;clear hH2
    try simp only [LAY]
    refine rd1 5 (by kernel_rfl) rfl fun KK hK => ?_
    go_simp
    refine (HTX.out c0 c1 c2 c3 c4 c5 c6 c7 _ hH.2.2.2.2.2.2.2.2.2.2.2.2.2.2.2.2.a.iv (HPT.out.2.next hH.2.2.2.2.2.2.2.2.2.2.2.2.2.2.2.2.a.bel)).mono ?_
    rintro e' u1 ⟨rfl, hb⟩
    go_wp2_with fail
    refine hK.out _ _ ((let h := hH.2.2.2.2.2.2.2.2.2.2.2.2.2.2.2.2.next hb; ⟨h.a.bv.cell 0 rfl, h.bw.cell 0 rfl, h.a.bv.cell 1 rfl, h.bw.cell 1 rfl, h.a.bv.cell 2 rfl, h.bw.cell 2 rfl, h.a.bv.cell 3 rfl, h.bw.cell 3 rfl, h.a.bv.cell 4 rfl, h.bw.cell 4 rfl, h.a.bv.cell 5 rfl, h.bw.cell 5 rfl, h.a.bv.cell 6 rfl, h.bw.cell 6 rfl, h.a.bv.cell 7 rfl, h.bw.cell 7 rfl, h⟩)) (fun hH2 => ?_);clear hK KK hH hb;have hH := hH2;clear hH2
    try simp only [LAY]
    refine tq 6 (.bool true) hH ?_;refine tq 7 (.bool true) hH ?_;refine tq 8 (.bool true) hH ?_;refine tq 9 (.agg #[d0, d1, d2, d3, d4, d5, d6, d7]) hH ?_;refine tq 11 (.agg #[c0, c1, c2, c3, c4, c5, c6, c7]) hH ?_;refine rd1 10 (by kernel_rfl) rfl fun KK hK => ?_
    go_simp
    refine (HSQ.out d0 d1 d2 d3 d4 d5 d6 d7 _ hH.2.2.2.2.2.2.2.2.2.2.2.2.2.2.2.2.iw).mono ?_
    rintro e' u1 ⟨rfl, hb⟩
    go_wp2_with fail
    refine hK.out _ _ ((let h := hH.2.2.2.2.2.2.2.2.2.2.2.2.2.2.2.2.next hb; ⟨h.a.bv.cell 0 rfl, h.bw.cell 0 rfl, h.a.bv.cell 1 rfl, h.bw.cell 1 rfl, h.a.bv.cell 2 rfl, h.bw.cell 2 rfl, h.a.bv.cell 3 rfl, h.bw.cell 3 rfl, h.a.bv.cell 4 rfl, h.bw.cell 4 rfl, h.a.bv.cell 5 rfl, h.bw.cell 5 rfl, h.a.bv.cell 6 rfl, h.bw.cell 6 rfl, h.a.bv.cell 7 rfl, h.bw.cell 7 rfl, h⟩)) (fun hH2 => ?_);clear hK KK hH hb;have hH := hH2;clear hH2
    try simp only [LAY]
    refine rd1 12 (by kernel_rfl) rfl fun KK hK => ?_
    go_simp
    refine (HSQ.out c0 c1 c2 c3 c4 c5 c6 c7 _ hH.2.2.2.2.2.2.2.2.2.2.2.2.2.2.2.2.a.iv).mono ?_
    rintro e' u1 ⟨rfl, hb⟩
    go_wp2_with fail
    refine hK.out _ _ ((let h := hH.2.2.2.2.2.2.2.2.2.2.2.2.2.2.2.2.next hb; ⟨h.a.bv.cell 0 rfl, h.bw.cell 0 rfl, h.a.bv.cell 1 rfl, h.bw.cell 1 rfl, h.a.bv.cell 2 rfl, h.bw.cell 2 rfl, h.a.bv.cell 3 rfl, h.bw.cell 3 rfl, h.a.bv.cell 4 rfl, h.bw.cell 4 rfl, h.a.bv.cell 5 rfl, h.bw.cell 5 rfl, h.a.bv.cell 6 rfl, h.bw.cell 6 rfl, h.a.bv.cell 7 rfl, h.bw.cell 7 rfl, h⟩)) (fun hH2 => ?_);clear hK KK hH hb;have hH := hH2;clear hH2
    try simp only [LAY]
    refine tq 13 (.bool true) hH ?_;refine tq 14 (.bool true) hH ?_;refine tq 15 (.bool true) hH ?_;refine tq 16 (.slice al 0 pl) hH ?_;refine tq 17 (.int .i64 0) hH ?_;refine tq 18 (.bool true) hH ?_;refine tq 19 (.bool true) hH ?_;refine tq 20 (.bool true) hH ?_;refine dnH ?_;have HB := Lh hH.2.2.2.2.2.2.2.2.2.2.2.2.2.2.2.2.a.bel;clear hH;go_wp2_with fail
    go_ret
    exact ⟨rfl, HB.out⟩
   ·obtain ⟨k, m2, m3, o, d, e1, e2, hat, hkl, hcb, hox, hos, hT8, he1, hV2, hal2, hdE, hdd, hdc, hds, hdT, he2, hV3, hal3⟩ := edit_own HV.out.1 HV.out.2.1 lo hi hE
    have hxo := HX.out.trans hox;subst hxo;have HOS := Lh hos;have HDC := Lh (And.intro hdc hds);clear hos hdc hds hox;rw [hT8] at HW HIC hd1;generalize inT8 m l site at_ ch lo hi = T8' at *
    subst hT8
    dsimp only at HW HIC hd1
    subst hat;have hE' : (inE8 m l site (k : Int) ch lo hi == 0) = true := by simpa using hE
    rw [← HT.out] at hkl hal2 hal3;obtain ⟨S1, hS1⟩ : ∃ s : ByteArray, s = ⟨((T.take k).flatMap Lib.encodeRune).toArray⟩ := ⟨_, rfl⟩
    obtain ⟨S2, hS2⟩ : ∃ s : ByteArray, s = Utf8.encode ch := ⟨_, rfl⟩
    obtain ⟨S3, hS3⟩ : ∃ s : ByteArray, s = ⟨((T.drop k).flatMap Lib.encodeRune).toArray⟩ := ⟨_, rfl⟩
    obtain ⟨S4, hS4⟩ : ∃ s : ByteArray, s = ⟨((alv (docR m2)).flatMap Lib.encodeRune).toArray⟩ := ⟨_, rfl⟩
    have hEq : S1 ++ S2 ++ S3 = S4 := by
     rw [hS1, hS2, hS3, hS4, enc_eq hcb, hal2]
     apply ByteArray.ext
     simp [ByteArray.data_append]
    have HSZ := Lh (show S1.size ≤ 4000 ∧ S2.size ≤ 4000 ∧ S3.size ≤ 4000 from by
     have g1 := flat_ge (T.take k);have g3 := flat_ge (T.drop k);have g2 := (enc_len ch).2;rw [List.length_take] at g1;rw [List.length_drop] at g3;rw [hS1, hS2, hS3, enc_eq hcb];refine ⟨?_, ?_, ?_⟩
     ·show (List.toArray _).size ≤ _
      rw [List.size_toArray]; omega
     ·show (List.toArray _).size ≤ _
      rw [List.size_toArray]; omega
     ·show (List.toArray _).size ≤ _
      rw [List.size_toArray]; omega)
    have HTX2 := Lh (fun (c0 c1 c2 c3 c4 c5 c6 c7 : Value) W (h : IsV W m2 l [c0, c1, c2, c3, c4, c5, c6, c7]) (h2 : Tabs W) => HH.out.1.txt m2 l (acts.length + 1) c0 c1 c2 c3 c4 c5 c6 c7 W hV2 (by omega) h h2);rw [txS_alv, ← hS4] at HTX2;have HTX3 := Lh (fun (c0 c1 c2 c3 c4 c5 c6 c7 : Value) W (h : IsV W m3 l [c0, c1, c2, c3, c4, c5, c6, c7]) (h2 : Tabs W) => HH.out.1.txt m3 l (acts.length + 2) c0 c1 c2 c3 c4 c5 c6 c7 W hV3 (by omega) h h2);rw [txS_alv, hal3] at HTX3;have HDE := Lh (fun W (h : IsV W m2 l [d0, d1, d2, d3, d4, d5, d6, d7]) => HH.out.1.del m2 l (acts.length + 1) (k : Int) d0 d1 d2 d3 d4 d5 d6 d7 W hV2 (by omega) ha0 ha1 h);rw [hdE, hdT, hdd] at HDE
    dsimp only at HDE
    have HSH := Lh (fun W (h : IsRn W (.slice (some ⟨gT, 0, none⟩) T.length cp) T) => str_head HTC.out W h hkl);have HST := Lh (fun W (h : IsRn W (.slice (some ⟨gT, 0, none⟩) T.length cp) T) => str_tail HTC.out W h hkl);have HSF := Lh (fun W (h : IsRn W (.slice (some ⟨gT, 0, none⟩) T.length cp) T) => str_head HTC.out W h (Nat.le_refl _));rw [← hS1] at HSH;rw [← hS3] at HST;rw [List.take_length] at HSF;have HS2 := Lh hS2.symm;clear hal2 hal3 hdE hdd hdT hS1 hS2 hS3 hS4 hV2 hV3 hE hcb;obtain ⟨gC, hgC, _, _⟩ := Sl.cell chgL_len HIC.out 0 (by simp);subst hgC;have HZ := Lh (show Z8 w gW gC pl [c0, c1, c2, c3, c4, c5, c6, c7] [d0, d1, d2, d3, d4, d5, d6, d7] m l m2 x e1 _ T w5 from ⟨HW.out, HIC.out⟩);have hsh := fun W => slice_head (P := Tryz.prog) (t := 71) (e := 1) Tryz.underlying71 (by kernel_rfl) (some ⟨gT, 0, none⟩) T.length cp k (by omega) W
    have hst := fun W => slice_tail (P := Tryz.prog) (t := 71) (e := 1) Tryz.underlying71 (by kernel_rfl) (some ⟨gT, 0, none⟩) T.length cp k hkl W
    clear HW HIC;refine Lh ?_;go_wp2_with fail
    have hdum := trivial;clear hWA;refine rgH (fun W => Cc8 W gW d0 d1 d2 d3 d4 d5 d6 d7 (Ce W (gW + 1) 2 (.int .i64 x.s) ∧ Ce W gC 1 (.int .i64 e1.a) ∧ Z8 w gW gC pl [c0, c1, c2, c3, c4, c5, c6, c7] [d0, d1, d2, d3, d4, d5, d6, d7] m l m2 x e1 (.slice (some ⟨gT, 0, none⟩) T.length cp) T W)) (let h := HZ.out.next bD; (h.h.bw.d8 ⟨h.h.bo.cell 2 rfl, vc_at h.ic, h⟩)) fun hH => ?_
    clear hdum HZ;refine tq 0 (.int .i64 ((k : Int))) hH ?_;refine tk 1 (.bool false) hH (fun w hSw => ?_) ?_
    ·(go_simp; try omega)
    try simp only [LAY]
    refine tq 2 (.bool false) hH ?_;refine tq 3 (.int .i64 ((k : Int))) hH ?_;refine tq 4 (.slice (some ⟨gT, 0, none⟩) T.length cp) hH ?_;refine tq 5 (.int .i64 ((T.length : Int))) hH ?_;refine tk 6 (.bool false) hH (fun w hSw => ?_) ?_
    ·(go_simp; try omega)
    try simp only [LAY]
    refine tq 7 (.bool false) hH ?_;refine tq 8 (.bool false) hH ?_;refine tq 9 (.slice (some ⟨gC, 0, none⟩) 1 pl) hH ?_;refine tq 10 (.int .i64 1) hH ?_;refine tq 11 (.bool false) hH ?_;refine tq 12 (.bool false) hH ?_;refine tq 13 (.bool false) hH ?_;refine tq 14 (.slice (some ⟨gC, 0, none⟩) 1 pl) hH ?_;refine tq 15 (.pointer (some ⟨gC, 0, none⟩)) hH ?_;refine tq 16 (.pointer (some ⟨gC, 1, none⟩)) hH ?_;refine tq 17 (.int .i64 e1.a) hH ?_;refine tq 18 (.int .i64 ((k : Int))) hH ?_;refine tq 19 (.bool false) hH ?_;refine tq 20 (.bool false) hH ?_;refine tq 21 (.bool false) hH ?_;refine tq 22 (.pointer (some ⟨gW + 1, 1, none⟩)) hH ?_;refine tq 23 (.pointer (some ⟨gW + 1, 2, none⟩)) hH ?_;refine tq 24 (.int .i64 x.s) hH ?_;refine tq 25 (.int .i64 site) hH ?_;refine tk 26 (.bool false) hH (fun w hSw => ?_) ?_
    ·(have hcv := HOS.out; go_simp)
    try simp only [LAY]
    refine tq 27 (.bool false) hH ?_;refine tq 28 (.bool false) hH ?_;refine tq 29 (.agg #[d0, d1, d2, d3, d4, d5, d6, d7]) hH ?_;refine tq 31 (.slice (some ⟨gT, 0, none⟩) T.length cp) hH ?_;refine tq 32 (.int .i64 ((k : Int))) hH ?_;refine tq 33 (.slice (some ⟨gT, 0, none⟩) k cp) hH ?_;refine tk 34 (.string S1) hH (fun w hSw => ?_) ?_
    ·(have hcv := HSH.out _ hSw.2.2.2.2.2.2.2.2.2.2.h.rn; go_simp)
    try simp only [LAY]
    refine tq 35 (.int .i32 ch) hH ?_;refine tk 36 (.string S2) hH (fun w hSw => ?_) ?_
    ·(have hcv := HS2.out; go_simp)
    try simp only [LAY]
    refine tk 37 (.string (S1 ++ S2)) hH (fun w hSw => ?_) ?_
    ·(go_simp; have h := HSZ.out; omega)
    try simp only [LAY]
    refine tq 38 (.slice (some ⟨gT, 0, none⟩) T.length cp) hH ?_;refine tq 39 (.int .i64 ((k : Int))) hH ?_;refine tq 40 (.slice (tailA (some ⟨gT, 0, none⟩) k cp 1) (T.length - k) (cp - k)) hH ?_;refine tk 41 (.string S3) hH (fun w hSw => ?_) ?_
    ·(have hcv := HST.out _ hSw.2.2.2.2.2.2.2.2.2.2.h.rn; go_simp)
    try simp only [LAY]
    refine tk 42 (.string (S1 ++ S2 ++ S3)) hH (fun w hSw => ?_) ?_
    ·(go_simp; have h := HSZ.out; omega)
    try simp only [LAY]
    refine rd1 30 (by kernel_rfl) rfl fun KK hK => ?_
    go_simp
    refine (HTX2.out d0 d1 d2 d3 d4 d5 d6 d7 _ hH.2.2.2.2.2.2.2.2.2.2.h.iw (HPT.out.2.next hH.2.2.2.2.2.2.2.2.2.2.h.a.bel)).mono ?_
    rintro e' u1 ⟨rfl, hb⟩
    go_wp2_with fail
    refine hK.out _ _ ((let h := hH.2.2.2.2.2.2.2.2.2.2.next hb; (h.h.bw.d8 ⟨h.h.bo.cell 2 rfl, vc_at h.ic, h⟩))) (fun hH2 => ?_);clear hK KK hH hb;have hH := hH2;clear hH2
    try simp only [LAY]
    refine tq 43 (.bool false) hH ?_;refine tq 44 (.bool false) hH ?_;refine dnH ?_;have HB := Lh hH.2.2.2.2.2.2.2.2.2.2;clear hH;obtain ⟨v0, v1, v2, v3, v4, v5, v6, v7⟩ := HB.out.h.bw.c8;go_wp2_with (go_at_call 17; refine (HDE.out _ HB.out.h.iw).mono ?_; rintro e w6 ⟨hb, y0, y1, y2, y3, y4, y5, y6, y7, lc, y, hy, rfl, hiv, hic⟩; obtain ⟨al2, pl2, rfl, hf1, hf2⟩ := hic.form; obtain ⟨gD, hgD, _, _⟩ := Sl.cell chgL_len hic 0 (by simp); subst hgD; have HY := Lh hy; clear hy; refine Hid.out ?_)
    have hon := hiv.one;have sy0 := fun (W : World) (a : Addr) (md : Mode) => run_store Tryz.prog W a y0 md (hon y0 (by simp))
    have sy1 := fun (W : World) (a : Addr) (md : Mode) => run_store Tryz.prog W a y1 md (hon y1 (by simp))
    have sy2 := fun (W : World) (a : Addr) (md : Mode) => run_store Tryz.prog W a y2 md (hon y2 (by simp))
    have sy3 := fun (W : World) (a : Addr) (md : Mode) => run_store Tryz.prog W a y3 md (hon y3 (by simp))
    have sy4 := fun (W : World) (a : Addr) (md : Mode) => run_store Tryz.prog W a y4 md (hon y4 (by simp))
    have sy5 := fun (W : World) (a : Addr) (md : Mode) => run_store Tryz.prog W a y5 md (hon y5 (by simp))
    have sy6 := fun (W : World) (a : Addr) (md : Mode) => run_store Tryz.prog W a y6 md (hon y6 (by simp))
    have sy7 := fun (W : World) (a : Addr) (md : Mode) => run_store Tryz.prog W a y7 md (hon y7 (by simp))
    have hbA : Below w6.heap.size w6 ((w6.alloc (.cells #[y0, y1, y2, y3, y4, y5, y6, y7] 41)).alloc (.cells #[.int .i64 y.k, .int .i64 y.c, .int .i64 y.s, .int .i64 y.a, .int .i64 y.n, .int .i32 y.ch] 47)) := ((Below.refl _ _).alloc (Nat.le_refl _) _).alloc (by simp) _;have hbB := hb.trans (hbA.mono hb.size);have HU := Lh (show U8 w gW w6.heap.size gD pl2 [c0, c1, c2, c3, c4, c5, c6, c7] [d0, d1, d2, d3, d4, d5, d6, d7] [y0, y1, y2, y3, y4, y5, y6, y7] m l m2 m3 x y e2 (.slice (some ⟨gT, 0, none⟩) T.length cp) T ((w6.alloc (.cells #[y0, y1, y2, y3, y4, y5, y6, y7] 41)).alloc (.cells #[.int .i64 y.k, .int .i64 y.c, .int .i64 y.s, .int .i64 y.a, .int .i64 y.n, .int .i32 y.ch] 47)) from
     ⟨HB.out.h.next hbB, (Blk.startAt rfl).alloc _, Blk.startAt (by simp), hiv.next hbA, hic.next hbA⟩)
    generalize hWC : (w6.alloc (.cells #[y0, y1, y2, y3, y4, y5, y6, y7] 41)).alloc (.cells #[.int .i64 y.k, .int .i64 y.c, .int .i64 y.s, .int .i64 y.a, .int .i64 y.n, .int .i32 y.ch] 47) = w7 at *
    generalize hgU : w6.heap.size = gU at *
    clear HB hb hbA hbB hiv hic hon HDE v0 v1 v2 v3 v4 v5 v6 v7;refine Lh ?_;go_wp2_with fail
    have hdum := trivial;clear hWC;refine rgH (fun W => Ce W w.heap.size 0 c0 ∧ Ce W gU 0 y0 ∧ Ce W w.heap.size 1 c1 ∧ Ce W gU 1 y1 ∧ Ce W w.heap.size 2 c2 ∧ Ce W gU 2 y2 ∧ Ce W w.heap.size 3 c3 ∧ Ce W gU 3 y3 ∧ Ce W w.heap.size 4 c4 ∧ Ce W gU 4 y4 ∧ Ce W w.heap.size 5 c5 ∧ Ce W gU 5 y5 ∧ Ce W w.heap.size 6 c6 ∧ Ce W gU 6 y6 ∧ Ce W w.heap.size 7 c7 ∧ Ce W gU 7 y7 ∧ Ce W (gW + 1) 1 (.int .i64 x.c) ∧ Ce W (gU + 1) 1 (.int .i64 y.c) ∧ Ce W (gW + 1) 2 (.int .i64 x.s) ∧ Ce W (gU + 1) 2 (.int .i64 y.s) ∧ Ce W gD 1 (.int .i64 e2.a) ∧ U8 w gW gU gD pl2 [c0, c1, c2, c3, c4, c5, c6, c7] [d0, d1, d2, d3, d4, d5, d6, d7] [y0, y1, y2, y3, y4, y5, y6, y7] m l m2 m3 x y e2 (.slice (some ⟨gT, 0, none⟩) T.length cp) T W) (let h := HU.out.next bD; ⟨h.h.a.bv.cell 0 rfl, h.bu.cell 0 rfl, h.h.a.bv.cell 1 rfl, h.bu.cell 1 rfl, h.h.a.bv.cell 2 rfl, h.bu.cell 2 rfl, h.h.a.bv.cell 3 rfl, h.bu.cell 3 rfl, h.h.a.bv.cell 4 rfl, h.bu.cell 4 rfl, h.h.a.bv.cell 5 rfl, h.bu.cell 5 rfl, h.h.a.bv.cell 6 rfl, h.bu.cell 6 rfl, h.h.a.bv.cell 7 rfl, h.bu.cell 7 rfl, h.h.bo.cell 1 rfl, h.bp.cell 1 rfl, h.h.bo.cell 2 rfl, h.bp.cell 2 rfl, vc_at h.ic, h⟩) fun hH => ?_
    clear hdum HU;refine rd1 0 (by kernel_rfl) rfl fun KK hK => ?_
    go_simp
    refine (HH.out.2 _ (HPT.out.1.next hH.2.2.2.2.2.2.2.2.2.2.2.2.2.2.2.2.2.2.2.2.2.h.a.bel) (HPT.out.2.next hH.2.2.2.2.2.2.2.2.2.2.2.2.2.2.2.2.2.2.2.2.2.h.a.bel)).mono ?_
    rintro e' u1 ⟨rfl, hb⟩
    go_wp2_with fail
    refine hK.out _ _ ((let h := hH.2.2.2.2.2.2.2.2.2.2.2.2.2.2.2.2.2.2.2.2.2.next hb; ⟨h.h.a.bv.cell 0 rfl, h.bu.cell 0 rfl, h.h.a.bv.cell 1 rfl, h.bu.cell 1 rfl, h.h.a.bv.cell 2 rfl, h.bu.cell 2 rfl, h.h.a.bv.cell 3 rfl, h.bu.cell 3 rfl, h.h.a.bv.cell 4 rfl, h.bu.cell 4 rfl, h.h.a.bv.cell 5 rfl, h.bu.cell 5 rfl, h.h.a.bv.cell 6 rfl, h.bu.cell 6 rfl, h.h.a.bv.cell 7 rfl, h.bu.cell 7 rfl, h.h.bo.cell 1 rfl, h.bp.cell 1 rfl, h.h.bo.cell 2 rfl, h.bp.cell 2 rfl, vc_at h.ic, h⟩)) (fun hH2 => ?_);clear hK KK hH hb;have hH := hH2;clear hH2
    try simp only [LAY]
    refine tq 1 (.bool true) hH ?_;refine tq 2 (.int .i64 0) hH ?_;refine tq 3 (.bool true) hH ?_;refine tq 4 (.bool true) hH ?_;refine tq 5 (.bool true) hH ?_;refine tq 6 (.slice (some ⟨gD, 0, none⟩) 1 pl2) hH ?_;refine tq 7 (.int .i64 1) hH ?_;refine tq 8 (.bool true) hH ?_;refine tq 9 (.bool true) hH ?_;refine tq 10 (.bool true) hH ?_;refine tq 11 (.slice (some ⟨gD, 0, none⟩) 1 pl2) hH ?_;refine tq 12 (.pointer (some ⟨gD, 0, none⟩)) hH ?_;refine tq 13 (.pointer (some ⟨gD, 1, none⟩)) hH ?_;refine tq 14 (.int .i64 e2.a) hH ?_;refine tq 15 (.int .i64 ((k : Int))) hH ?_;refine tq 16 (.bool true) hH ?_;refine tq 17 (.bool true) hH ?_;refine tq 18 (.bool true) hH ?_;refine tq 19 (.pointer (some ⟨gU + 1, 1, none⟩)) hH ?_;refine tq 20 (.agg #[.int .i64 y.c, .int .i64 y.s]) hH ?_;refine tq 21 (.pointer (some ⟨gW + 1, 1, none⟩)) hH ?_;refine tq 22 (.agg #[.int .i64 x.c, .int .i64 x.s]) hH ?_;refine tk 23 (.bool true) hH (fun w hSw => ?_) ?_
    ·(have h1 := HDC.out.1; have h2 := HDC.out.2; have h3 := HY.out; subst h3; go_simp)
    try simp only [LAY]
    refine tq 24 (.bool true) hH ?_;refine tq 25 (.bool true) hH ?_;refine tq 26 (.agg #[y0, y1, y2, y3, y4, y5, y6, y7]) hH ?_;refine tq 28 (.agg #[c0, c1, c2, c3, c4, c5, c6, c7]) hH ?_;refine rd1 27 (by kernel_rfl) rfl fun KK hK => ?_
    go_simp
    refine (HTX3.out y0 y1 y2 y3 y4 y5 y6 y7 _ hH.2.2.2.2.2.2.2.2.2.2.2.2.2.2.2.2.2.2.2.2.2.iu (HPT.out.2.next hH.2.2.2.2.2.2.2.2.2.2.2.2.2.2.2.2.2.2.2.2.2.h.a.bel)).mono ?_
    rintro e' u1 ⟨rfl, hb⟩
    go_wp2_with fail
    refine hK.out _ _ ((let h := hH.2.2.2.2.2.2.2.2.2.2.2.2.2.2.2.2.2.2.2.2.2.next hb; ⟨h.h.a.bv.cell 0 rfl, h.bu.cell 0 rfl, h.h.a.bv.cell 1 rfl, h.bu.cell 1 rfl, h.h.a.bv.cell 2 rfl, h.bu.cell 2 rfl, h.h.a.bv.cell 3 rfl, h.bu.cell 3 rfl, h.h.a.bv.cell 4 rfl, h.bu.cell 4 rfl, h.h.a.bv.cell 5 rfl, h.bu.cell 5 rfl, h.h.a.bv.cell 6 rfl, h.bu.cell 6 rfl, h.h.a.bv.cell 7 rfl, h.bu.cell 7 rfl, h.h.bo.cell 1 rfl, h.bp.cell 1 rfl, h.h.bo.cell 2 rfl, h.bp.cell 2 rfl, vc_at h.ic, h⟩)) (fun hH2 => ?_);clear hK KK hH hb;have hH := hH2;clear hH2
    try simp only [LAY]
    refine rd1 29 (by kernel_rfl) rfl fun KK hK => ?_
    go_simp
    refine (HTX.out c0 c1 c2 c3 c4 c5 c6 c7 _ hH.2.2.2.2.2.2.2.2.2.2.2.2.2.2.2.2.2.2.2.2.2.h.a.iv (HPT.out.2.next hH.2.2.2.2.2.2.2.2.2.2.2.2.2.2.2.2.2.2.2.2.2.h.a.bel)).mono ?_
    rintro e' u1 ⟨rfl, hb⟩
    go_wp2_with fail
    refine hK.out _ _ ((let h := hH.2.2.2.2.2.2.2.2.2.2.2.2.2.2.2.2.2.2.2.2.2.next hb; ⟨h.h.a.bv.cell 0 rfl, h.bu.cell 0 rfl, h.h.a.bv.cell 1 rfl, h.bu.cell 1 rfl, h.h.a.bv.cell 2 rfl, h.bu.cell 2 rfl, h.h.a.bv.cell 3 rfl, h.bu.cell 3 rfl, h.h.a.bv.cell 4 rfl, h.bu.cell 4 rfl, h.h.a.bv.cell 5 rfl, h.bu.cell 5 rfl, h.h.a.bv.cell 6 rfl, h.bu.cell 6 rfl, h.h.a.bv.cell 7 rfl, h.bu.cell 7 rfl, h.h.bo.cell 1 rfl, h.bp.cell 1 rfl, h.h.bo.cell 2 rfl, h.bp.cell 2 rfl, vc_at h.ic, h⟩)) (fun hH2 => ?_);clear hK KK hH hb;have hH := hH2;clear hH2
    try simp only [LAY]
    refine tq 30 (.bool true) hH ?_;refine tq 31 (.bool true) hH ?_;refine tq 32 (.bool true) hH ?_;refine tq 33 (.agg #[c0, c1, c2, c3, c4, c5, c6, c7]) hH ?_;refine tq 35 (.slice (some ⟨gT, 0, none⟩) T.length cp) hH ?_;refine tk 36 (.string ⟨(List.flatMap Lib.encodeRune T).toArray⟩) hH (fun w hSw => ?_) ?_
    ·(have hcv := HSF.out _ hSw.2.2.2.2.2.2.2.2.2.2.2.2.2.2.2.2.2.2.2.2.2.h.rn; go_simp)
    try simp only [LAY]
    refine rd1 34 (by kernel_rfl) rfl fun KK hK => ?_
    go_simp
    refine (HTX.out c0 c1 c2 c3 c4 c5 c6 c7 _ hH.2.2.2.2.2.2.2.2.2.2.2.2.2.2.2.2.2.2.2.2.2.h.a.iv (HPT.out.2.next hH.2.2.2.2.2.2.2.2.2.2.2.2.2.2.2.2.2.2.2.2.2.h.a.bel)).mono ?_
    rintro e' u1 ⟨rfl, hb⟩
    go_wp2_with fail
    refine hK.out _ _ ((let h := hH.2.2.2.2.2.2.2.2.2.2.2.2.2.2.2.2.2.2.2.2.2.next hb; ⟨h.h.a.bv.cell 0 rfl, h.bu.cell 0 rfl, h.h.a.bv.cell 1 rfl, h.bu.cell 1 rfl, h.h.a.bv.cell 2 rfl, h.bu.cell 2 rfl, h.h.a.bv.cell 3 rfl, h.bu.cell 3 rfl, h.h.a.bv.cell 4 rfl, h.bu.cell 4 rfl, h.h.a.bv.cell 5 rfl, h.bu.cell 5 rfl, h.h.a.bv.cell 6 rfl, h.bu.cell 6 rfl, h.h.a.bv.cell 7 rfl, h.bu.cell 7 rfl, h.h.bo.cell 1 rfl, h.bp.cell 1 rfl, h.h.bo.cell 2 rfl, h.bp.cell 2 rfl, vc_at h.ic, h⟩)) (fun hH2 => ?_);clear hK KK hH hb;have hH := hH2;clear hH2
    try simp only [LAY]
    refine tq 37 (.bool true) hH ?_;refine tq 38 (.bool true) hH ?_;refine tq 39 (.bool true) hH ?_;refine dnH ?_;have HB := Lh hH.2.2.2.2.2.2.2.2.2.2.2.2.2.2.2.2.2.2.2.2.2.h.a.bel;clear hH;go_wp2_with fail
    go_ret
    exact ⟨rfl, HB.out⟩
end Go.Proofs.YtmodpjhffbledaaGreatDoor
