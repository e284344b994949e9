/-
  The walk of the law CoreFull, over what Apply answers.
-/
import Derived.Test.YtlnonnjpcajgjaaDoorAw6
namespace Go.Proofs.YtlnonnjpcajgjaaDoor
open Go Go.Proofs Go.RowKit

/-- What Apply answers where there are 4096 elements. -/
def ApplyFull : Prop := ∀ (m : List Oq) (o : Oq) (p q : Option Addr) (T : Tr) (P : Pt) (w : World), OkO m → StO w m p q T P → T.size = 4096 → CanI m o → chkE o.k o.c o.s o.a o.n o.ch = 0 →
  Calls Tryd.prog 4 #[.agg #[.pointer p, .pointer q, .int .i64 (cnt P)], .agg #[.int .i64 o.k, .int .i64 o.c, .int .i64 o.s, .int .i64 o.a, .int .i64 o.n, .int .i32 o.ch]] w fun r w' => Below w.heap.size w w' ∧
    r = .returned (.tuple #[.agg #[.pointer p, .pointer q, .int .i64 (cnt P)], .int .i64 (-1), .int .i64 7])
def fulO (i : Nat) : Oq := ⟨0, (i : Int) + 1, 1, 0, 0, 120, by decide, by decide⟩
def fulM : Nat → List Oq
  | 0 => []
  | k + 1 => fulM k ++ [fulO k]
theorem fulM_len : ∀ k, (fulM k).length = k
  | 0 => rfl
  | k + 1 => by simp [fulM, fulM_len k]
theorem fulM_mem : ∀ {k : Nat} {x : Oq}, x ∈ fulM k → x.k = 0 ∧ x.c ≤ k
  | 0, _, h => by simp [fulM] at h
  | k + 1, x, h => by
    simp only [fulM, List.mem_append, List.mem_singleton] at h
    rcases h with h | rfl
    · have := fulM_mem h; exact ⟨this.1, by omega⟩
    · exact ⟨rfl, by simp [fulO]⟩
theorem ful_may {k : Nat} (h : k ≤ 5000) : mayB (fulO k).c (fulO k).s = true := by
  exact decide_eq_true (by simp only [fulO]; omega)
theorem ful_chk {k : Nat} (h : k ≤ 5000) : chkE (fulO k).k (fulO k).c (fulO k).s (fulO k).a (fulO k).n (fulO k).ch = 0 := by
  have := chk_none (k := 0) (c := (fulO k).c) (s := (fulO k).s) (ch := 120) rfl (ful_may h)
  exact this.trans rfl
theorem ful_can {k : Nat} (h : k ≤ 5000) : CanI (fulM k) (fulO k) :=
  ⟨rfl, by simp only [fulO]; omega, by simp only [fulO]; omega, by simp only [fulO]; omega, fun x hx _ he => by
    have := (fulM_mem hx).2
    have := he.1
    simp only [fulO] at this
    omega, .inl ⟨rfl, rfl⟩⟩
theorem ful_wrong {k : Nat} (h : k ≤ 5000) : wrongE (fulM k) (fulO k) = 0 := by
  refine wrong_i0 (ful_chk h) (by simp [fulO]) (fnd_neg.2 fun x hx => ?_) (.inl rfl)
  have := (fulM_mem hx).2
  refine decide_eq_false fun e => ?_
  have := e.2.1
  simp only [fulO] at this
  omega
theorem ful_ok : ∀ {k : Nat}, k ≤ 5000 → OkO (fulM k)
  | 0, _ => ok_nil
  | k + 1, h => wrong_ok (ful_ok (by omega)) (ful_wrong (by omega))
theorem ful_row : ∀ {k : Nat}, k ≤ 5000 → (rowO (fulM k)).length = k
  | 0, _ => by show (rowO []).length = 0; rw [row_nil]; rfl
  | k + 1, h => by
    show (rowO (fulM k ++ [fulO k])).length = _
    rw [row_ins (ful_ok (by omega)).gd (ful_can (by omega)), (perm_insR _ _).length_eq, List.length_cons, ful_row (by omega)]
/-- Where the law stands. -/
structure Fu6 (w : World) (m : List Oq) (p q : Option Addr) (T : Tr) (P : Pt) (W : World) : Prop where
  bel : Below w.heap.size w W
  bs : Blk W w.heap.size (stL p q P) 29
  st : StO W m p q T P
theorem Fu6.next {w : World} {m : List Oq} {p q : Option Addr} {T : Tr} {P : Pt} {W W' : World} (h : Fu6 w m p q T P W) (hb : Below W.heap.size W W') : Fu6 w m p q T P W' :=
  ⟨h.bel.trans (hb.mono h.bel.size), h.bs.next hb, h.st.next hb⟩
theorem Fu6.size {w : World} {k : Nat} {p q : Option Addr} {T : Tr} {P : Pt} {W : World} (h : Fu6 w (fulM k) p q T P W) (hk : k ≤ 5000) : T.size = k := by
  rw [← Tr.els_length, h.st.row, List.length_map, ful_row hk]
/-- What comes of one Insert more. -/
theorem full_step (hA : ApplyOk 4095) (hF : ApplyFull) {w : World} {i : Nat} (hi : i ≤ 4098) {p q : Option Addr} {T : Tr} {P : Pt} {W : World} (hs : Fu6 w (fulM (min i 4096)) p q T P W) :
    Calls Tryd.prog 4 #[.agg #[.pointer p, .pointer q, .int .i64 (cnt P)], .agg #[.int .i64 0, .int .i64 ((i : Int) + 1), .int .i64 1, .int .i64 0, .int .i64 0, .int .i32 120]] W fun r w' => Below W.heap.size W w' ∧
      ∃ (p' q' : Option Addr) (T' : Tr) (P' : Pt) (z : Int), r = .returned (.tuple #[.agg #[.pointer p', .pointer q', .int .i64 (cnt P')], .int .i64 z, .int .i64 (if 4096 ≤ i then 7 else 0)]) ∧ StO w' (fulM (min (i + 1) 4096)) p' q' T' P' := by
  by_cases h : 4096 ≤ i
  · have hm : min i 4096 = 4096 := by omega
    have hm2 : min (i + 1) 4096 = 4096 := by omega
    rw [hm] at hs
    rw [hm2, if_pos h]
    have hc : CanI (fulM 4096) (fulO i) := ⟨rfl, by simp only [fulO]; omega, by simp only [fulO]; omega, by simp only [fulO]; omega, fun x hx _ he => by
      have := (fulM_mem hx).2
      have := he.1
      simp only [fulO] at this
      omega, .inl ⟨rfl, rfl⟩⟩
    refine (hF (fulM 4096) (fulO i) p q T P W (ful_ok (by omega)) hs.st (hs.size (by omega)) hc (ful_chk (by omega))).mono ?_
    rintro r w' ⟨hb, rfl⟩
    exact ⟨hb, p, q, T, P, -1, rfl, hs.st.next hb⟩
  · have hm : min i 4096 = i := by omega
    have hm2 : min (i + 1) 4096 = i + 1 := by omega
    rw [hm] at hs
    rw [hm2, if_neg h]
    have hw := ful_wrong (k := i) (by omega)
    refine (hA.one (fulM i) (fulO i) p q T P W (by rw [fulM_len]; omega) (ful_ok (by omega)) hs.st).mono ?_
    rintro r w' ⟨hb, p', q', T', P', m', z, rfl, hst, hcase⟩
    rcases hcase with ⟨h1, _⟩ | ⟨_, rfl, _⟩
    · exact absurd hw h1
    · exact ⟨hb, p', q', T', P', z, by rw [hw], hst⟩

set_option maxHeartbeats 6400000 in
set_option maxRecDepth 100000 in
theorem full6_any (hA : ApplyOk 4095) (hF : ApplyFull) (n : Nat) (hn : n ≤ 255) (w : World) (ht : Tabs w) :
    Calls Tryd.prog 3 #[.int .u8 (n : Int)] w fun e w' => e = .returned (.bool true) ∧ Below w.heap.size w w' := by
  have HTab := Lib.hid ht
  have HAF := Lib.hid (And.intro hA hF)
  have HAw := Lib.hid (awake6_any (NN := 4095) (by omega) hA)
  clear ht hA hF
  have H0 := Lib.hid (show Fu6 w (fulM (min 0 4096)) none none .nil .nil (w.alloc (.cells #[.pointer none, .pointer none, .int .i64 0] 29)) from
    ⟨(Below.refl _ _).alloc (Nat.le_refl _) _, Blk.start w _ _, StO.nil _⟩)
  go_enter Tryd.func3, Tryd.ntmps3
  go_wp2_with fail
  obtain ⟨K, hK, hK1, hK2⟩ : ∃ K : Nat, (4093 + (n : Int) % 6) = (K : Int) ∧ 4093 ≤ K ∧ K ≤ 4098 := ⟨4093 + n % 6, by omega, by omega, by omega⟩
  rw [hK]
  clear hK
  go_loopg [5, 6, 12] K (fun g te tj ti wr => ∃ i : Nat, i ≤ K ∧ g = K - i ∧ ti = .int .i64 (i : Int) ∧ ∃ p q T P, Fu6 w (fulM (min i 4096)) p q T P wr)
  case atStart => exact ⟨0, Nat.zero_le _, rfl, rfl, none, none, .nil, .nil, H0.out⟩
  case round =>
    obtain ⟨i, hi, rfl, rfl, p, q, T, P, hS⟩ := hrel
    clear H0
    by_cases hlt : i < K
    · have HST := Lib.hid (full_step HAF.out.1 HAF.out.2 (i := i) (by omega) hS)
      have HS1 := Lib.hid hS
      generalize hcn : cnt P = N at *
      have s0 := hS.bs.cell 0 rfl
      have s1 := hS.bs.cell 1 rfl
      have s2 := (hS.bs.cell 2 rfl).trans (show some (Value.int .i64 (cnt P)) = some (.int .i64 N) by rw [hcn])
      clear hS hcn
      by_cases hf : 4096 ≤ i
      · rw [if_pos hf] at HST
        have hfi : (4096 : Int) ≤ (i : Int) := by omega
        have hfd : decide (4096 ≤ i) = true := decide_eq_true hf
        go_wp2_with (go_at_call 4; refine HST.out.mono ?_; rintro e w1 ⟨hb, p', q', T', P', z, rfl, hst⟩; refine Hid.out ?_)
        generalize hcn2 : cnt P' = N2 at *
        have HK := Lib.hid (stO_kt_state hst (HS1.out.bs.next hb) hcn2)
        have HS2 := Lib.hid (HS1.out.next hb)
        clear hb s0 s1 s2 HST hst HS1
        have s0 := HS2.out.bs.cell 0 rfl
        have s1 := HS2.out.bs.cell 1 rfl
        have s2 := HS2.out.bs.cell 2 rfl
        have f0 := HS2.out.bs.free 0
        have f1 := HS2.out.bs.free 1
        have f2 := HS2.out.bs.free 2
        have HS3 := Lib.hid (show Fu6 w (fulM (min (i + 1) 4096)) p' q' T' P' (((w1.setCell ⟨w.heap.size, 0, none⟩ (.pointer p')).setCell ⟨w.heap.size, 1, none⟩ (.pointer q')).setCell ⟨w.heap.size, 2, none⟩ (.int .i64 N2)) from
          ⟨((HS2.out.bel.setCell (p := ⟨w.heap.size, 0, none⟩) (Nat.le_refl _) _).setCell (p := ⟨w.heap.size, 1, none⟩) (Nat.le_refl _) _).setCell (p := ⟨w.heap.size, 2, none⟩) (Nat.le_refl _) _, HK.out.2, HK.out.1⟩)
        have HCN := Lib.hid hcn2
        clear HK HS2 hcn2
        refine Lib.hid ?_
        go_wp2_with fail
        go_roundg (K - (i + 1))
        case measure => omega
        case rel => exact ⟨i + 1, by omega, rfl, by go_num, p', q', T', P', HS3.out⟩
      · rw [if_neg hf] at HST
        go_wp2_with (go_at_call 4; refine HST.out.mono ?_; rintro e w1 ⟨hb, p', q', T', P', z, rfl, hst⟩; refine Hid.out ?_)
        generalize hcn2 : cnt P' = N2 at *
        have HK := Lib.hid (stO_kt_state hst (HS1.out.bs.next hb) hcn2)
        have HS2 := Lib.hid (HS1.out.next hb)
        clear hb s0 s1 s2 HST hst HS1
        have s0 := HS2.out.bs.cell 0 rfl
        have s1 := HS2.out.bs.cell 1 rfl
        have s2 := HS2.out.bs.cell 2 rfl
        have f0 := HS2.out.bs.free 0
        have f1 := HS2.out.bs.free 1
        have f2 := HS2.out.bs.free 2
        have HS3 := Lib.hid (show Fu6 w (fulM (min (i + 1) 4096)) p' q' T' P' (((w1.setCell ⟨w.heap.size, 0, none⟩ (.pointer p')).setCell ⟨w.heap.size, 1, none⟩ (.pointer q')).setCell ⟨w.heap.size, 2, none⟩ (.int .i64 N2)) from
          ⟨((HS2.out.bel.setCell (p := ⟨w.heap.size, 0, none⟩) (Nat.le_refl _) _).setCell (p := ⟨w.heap.size, 1, none⟩) (Nat.le_refl _) _).setCell (p := ⟨w.heap.size, 2, none⟩) (Nat.le_refl _) _, HK.out.2, HK.out.1⟩)
        have HCN := Lib.hid hcn2
        clear HK HS2 hcn2
        refine Lib.hid ?_
        go_wp2_with fail
        go_roundg (K - (i + 1))
        case measure => omega
        case rel => exact ⟨i + 1, by omega, rfl, by go_num, p', q', T', P', HS3.out⟩
    · obtain rfl : i = K := by omega
      have hTs := hS.size (by omega)
      have HS := Lib.hid hS
      clear hS
      go_wp2_with (go_at_call 5; refine (HAw.out _ (HTab.out.next HS.out.bel)).mono ?_; rintro e w1 ⟨rfl, hb⟩; refine Hid.out ?_)
      have HS1 := Lib.hid (HS.out.next hb)
      clear HS hb
      have s0 := HS1.out.bs.cell 0 rfl
      have HLN := Lib.hid (fun W (h : Is W p T) => len_any W h)
      rw [hTs] at HLN
      refine Lib.hid ?_
      by_cases hf : i ≤ 4096
      · have hmn : min i 4096 = i := by omega
        have hmi : min (i : Int) 4096 = (i : Int) := by omega
        rw [hmn] at HLN
        go_wp2_with (go_at_call 6; refine (HLN.out _ HS1.out.st.tr).mono ?_; rintro e w2 ⟨rfl, hb⟩)
        go_ret
        exact ⟨rfl, HS1.out.bel.trans (hb.mono HS1.out.bel.size)⟩
      · have hmn : min i 4096 = 4096 := by omega
        have hmi : min (i : Int) 4096 = 4096 := by omega
        rw [hmn] at HLN
        go_wp2_with (go_at_call 6; refine (HLN.out _ HS1.out.st.tr).mono ?_; rintro e w2 ⟨rfl, hb⟩)
        go_ret
        exact ⟨rfl, HS1.out.bel.trans (hb.mono HS1.out.bel.size)⟩
end Go.Proofs.YtlnonnjpcajgjaaDoor
