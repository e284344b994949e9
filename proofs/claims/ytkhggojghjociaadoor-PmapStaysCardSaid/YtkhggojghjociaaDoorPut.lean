/-
  The contract of a part's put: the parts on the way to a place are made anew, all others are shared.
-/
import Derived.Test.YtkhggojghjociaaDoorGet
namespace Go.Proofs.YtkhggojghjociaaDoor
open Go Go.Proofs Go.RowKit

/-- Where the parts that were made lead: whatever the part in block b becomes, the root's trie is that, put in its place. -/
def Hole (W : World) (r b : Nat) (plug : Pt → Pt) : Prop :=
  ∀ (W' : World) (T' : Pt), (∀ c, c < W.heap.size → c ≠ b → W'.heap[c]? = W.heap[c]?) → W.heap.size ≤ W'.heap.size → IsM W' (some ⟨b, 0, none⟩) T' → IsM W' (some ⟨r, 0, none⟩) (plug T')
theorem Hole.next {W W' : World} {r b : Nat} {plug : Pt → Pt} (h : Hole W r b plug) (hb : Below W.heap.size W W') : Hole W' r b plug := fun W2 T' h1 h2 h3 =>
  h W2 T' (fun c hc hne => (h1 c (Nat.lt_of_lt_of_le hc hb.size) hne).trans (hb.block c hc)) (Nat.le_trans hb.size h2) h3
/-- Where the loop of put stands behind k digits. -/
structure PutS (w : World) (e : En) (r : Nat) (T : Pt) (x k b : Nat) (U : Pt) (ps : Nat → Option Addr) (W : World) : Prop where
  bel : Below w.heap.size w W
  be : Blk W w.heap.size (enL e) 31
  new : w.heap.size < b
  bb : Blk W b (ptL ps U.en) 63
  kids : ∀ d, d < 8 → IsP w.heap.size W (ps d) (U.nx d)
  hole : ∃ plug : Pt → Pt, Hole W r b plug ∧ plug (putT (10 - k) U x e) = putT 10 T x e
theorem PutS.next {w : World} {e : En} {r : Nat} {T : Pt} {x k b : Nat} {U : Pt} {ps : Nat → Option Addr} {W W' : World} (h : PutS w e r T x k b U ps W) (hb : Below W.heap.size W W') : PutS w e r T x k b U ps W' :=
  ⟨h.bel.trans (hb.mono h.bel.size), h.be.next hb, h.new, h.bb.next hb, fun d hd => (h.kids d hd).below (hb.mono h.bel.size), let ⟨p, h1, h2⟩ := h.hole; ⟨p, h1.next hb, h2⟩⟩
/-- What a child's new part holds. -/
theorem kid_of {n : Nat} {W : World} {p : Option Addr} {U : Pt} (h : IsP n W p U) : ∃ ps', (∀ W1, (Calls Tryd.prog 33 #[.pointer p] W1 (RetN ps' U.en W1)) ∨ ¬ Below W.heap.size W W1) ∧ ∀ d, d < 8 → IsP n W (ps' d) (U.nx d) := by
  rcases h.cases with ⟨rfl, rfl⟩ | ⟨b, ps, rfl, hbn, hB, hnn, hc⟩
  · exact ⟨fun _ => none, fun W1 => .inl (renew_nil W1), fun d _ => rfl⟩
  · refine ⟨ps, fun W1 => ?_, hc⟩
    by_cases hb : Below W.heap.size W W1
    · exact .inl (renew_part W1 (hB.next hb))
    · exact .inr hb
theorem renew_at {W W1 : World} {p : Option Addr} {U : Pt} {ps' : Nat → Option Addr} (h : ∀ W1, (Calls Tryd.prog 33 #[.pointer p] W1 (RetN ps' U.en W1)) ∨ ¬ Below W.heap.size W W1) (hb : Below W.heap.size W W1) :
    Calls Tryd.prog 33 #[.pointer p] W1 (RetN ps' U.en W1) := (h W1).elim id fun hn => absurd hb hn
theorem putT_step {k : Nat} (hk : k < 10) (U : Pt) (x : Nat) (e : En) : putT (10 - k) U x e = .part (fun d => if d = x / 8 ^ (9 - k) % 8 then putT (10 - (k + 1)) (U.nx d) x e else U.nx d) U.en := by
  have : 10 - k = (10 - (k + 1)) + 1 := by omega
  rw [this]
  simp only [putT]
  rw [show 10 - (k + 1) = 9 - k by omega]
/-- One digit on: the child's new part is in its place. -/
theorem PutS.step {w : World} {e : En} {r : Nat} {T : Pt} {x k b : Nat} {U : Pt} {ps : Nat → Option Addr} {W W1 : World} (hk : k < 10) (h : PutS w e r T x k b U ps W) {D : Nat} (hD : D = x / 8 ^ (9 - k) % 8) {ps' : Nat → Option Addr}
    (hkid : ∀ d, d < 8 → IsP w.heap.size W (ps' d) ((U.nx D).nx d)) (hb : Below W.heap.size W W1) (hs : W.heap.size < W1.heap.size) (hN : Blk W1 W.heap.size (ptL ps' (U.nx D).en) 63) :
    PutS w e r T x (k + 1) W.heap.size (U.nx D) ps' (W1.setCell ⟨b, D, none⟩ (.pointer (some ⟨W.heap.size, 0, none⟩))) := by
  have hD8 : D < 8 := hD ▸ Nat.mod_lt _ (by decide)
  have hbW := h.bb.lt
  have h1 := h.next hb
  have hb1 : b < W1.heap.size := h1.bb.lt
  have hnew := h.new
  have hne : ∀ c, c ≠ b → (W1.setCell ⟨b, D, none⟩ (.pointer (some ⟨W.heap.size, 0, none⟩))).heap[c]? = W1.heap[c]? := fun c hc => Below.heap_setCell _ _ _ _ hc
  have hset := h1.bb.set D (.pointer (some ⟨W.heap.size, 0, none⟩))
  rw [ptL_set _ _ _ hD8] at hset
  have hlow : ∀ c, c < w.heap.size → (W1.setCell ⟨b, D, none⟩ (.pointer (some ⟨W.heap.size, 0, none⟩))).heap[c]? = W1.heap[c]? := fun c hc => hne c (by omega)
  refine ⟨h1.bel.setCell (p := ⟨b, D, none⟩) (Nat.le_of_lt hnew) _, h1.be.other _ (by show w.heap.size ≠ b; omega) _, Nat.lt_trans hnew hbW, hN.other _ (by show W.heap.size ≠ b; omega) _, fun d hd => ((hkid d hd).below (hb.mono h.bel.size)).same hlow, ?_⟩
  obtain ⟨plug, hh, hp⟩ := h.hole
  refine ⟨fun T' => plug (.part (fun j => if j = D then T' else U.nx j) U.en), fun W' T' ha hsz hT' => ?_, ?_⟩
  · have hsz1 : (W1.setCell ⟨b, D, none⟩ (.pointer (some ⟨W.heap.size, 0, none⟩))).heap.size = W1.heap.size := by simp
    rw [hsz1] at hsz ha
    have hold : ∀ c, c < W.heap.size → c ≠ b → W'.heap[c]? = W.heap[c]? := fun c hc hcb => by
      rw [ha c (Nat.lt_trans hc hs) (by omega), hne c hcb, hb.block c hc]
    refine hh W' _ hold (by omega) ⟨b, fun j => if j = D then some ⟨W.heap.size, 0, none⟩ else ps j, rfl, by omega, ?_, fun d hd => ?_⟩
    · have := ha b hb1 (by omega)
      unfold Blk at hset ⊢
      rw [this]
      exact hset
    · by_cases hdD : d = D
      · simp only [if_pos hdD]
        exact hT'
      · simp only [if_neg hdD]
        have hlt := h.bel.size
        exact ((h.kids d hd).same (W' := W') fun c hc => hold c (by omega) (by omega)).mono (by omega)
  · rw [← hp, putT_step hk, hD]
    show plug (.part _ _) = plug (.part _ _)
    congr 2
    funext j
    split
    · rename_i hj; rw [hj]
    · rfl

/-- The entry is written behind the last digit. -/
theorem PutS.done {w : World} {e : En} {r : Nat} {T : Pt} {x b : Nat} {U : Pt} {ps : Nat → Option Addr} {W : World} (h : PutS w e r T x 10 b U ps W) :
    Below w.heap.size w ((((W.setCell ⟨b, 8, none⟩ (.int .i64 e.ac)).setCell ⟨b, 9, none⟩ (.int .i64 e.an)).setCell ⟨b, 10, none⟩ (.int .i32 e.ch)).setCell ⟨b, 11, none⟩ (.bool e.d)) ∧
    IsM ((((W.setCell ⟨b, 8, none⟩ (.int .i64 e.ac)).setCell ⟨b, 9, none⟩ (.int .i64 e.an)).setCell ⟨b, 10, none⟩ (.int .i32 e.ch)).setCell ⟨b, 11, none⟩ (.bool e.d)) (some ⟨r, 0, none⟩) (putT 10 T x e) := by
  have hnew := h.new
  have hset := (((h.bb.set 8 (.int .i64 e.ac)).set 9 (.int .i64 e.an)).set 10 (.int .i32 e.ch)).set 11 (.bool e.d)
  rw [ptL_en] at hset
  have hbe := below_put4 h.bel (Nat.le_of_lt hnew) 8 (.int .i64 e.ac) (.int .i64 e.an) (.int .i32 e.ch) (.bool e.d)
  have hsame : ∀ c, c ≠ b → ((((W.setCell ⟨b, 8, none⟩ (.int .i64 e.ac)).setCell ⟨b, 9, none⟩ (.int .i64 e.an)).setCell ⟨b, 10, none⟩ (.int .i32 e.ch)).setCell ⟨b, 11, none⟩ (.bool e.d)).heap[c]? = W.heap[c]? := fun c hc => by
    rw [Below.heap_setCell _ _ _ _ hc, Below.heap_setCell _ _ _ _ hc, Below.heap_setCell _ _ _ _ hc, Below.heap_setCell _ _ _ _ hc]
  obtain ⟨plug, hh, hp⟩ := h.hole
  refine ⟨hbe, ?_⟩
  rw [← hp]
  refine hh _ _ (fun c _ hcb => hsame c hcb) (by simp) ⟨b, ps, rfl, by simpa using h.bb.lt, hset, fun d hd => ?_⟩
  have hlt := h.bel.size
  exact ((h.kids d hd).same fun c hc => hsame c (by omega)).mono (by simpa using hlt)
theorem PutS.start {w W : World} {e : En} {T : Pt} {x : Nat} {ps : Nat → Option Addr} (hk : ∀ d, d < 8 → IsP w.heap.size (w.alloc (.cells ⟨enL e⟩ 31)) (ps d) (T.nx d))
    (hb : Below (w.heap.size + 1) (w.alloc (.cells ⟨enL e⟩ 31)) W) (hN : Blk W (w.heap.size + 1) (ptL ps T.en) 63) : PutS w e (w.heap.size + 1) T x 0 (w.heap.size + 1) T ps W := by
  have hb0 : Below w.heap.size w (w.alloc (.cells ⟨enL e⟩ 31)) := (Below.refl _ _).alloc (Nat.le_refl _) _
  have hbw := hb.mono (Nat.le_succ w.heap.size)
  exact ⟨hb0.trans hbw, (Blk.start w _ _).below hb (by omega), Nat.lt_succ_self _, hN, fun d hd => (hk d hd).below hbw, fun T' => T', fun _ _ _ _ h => h, rfl⟩

/-- What put hands back. -/
def RetM (T : Pt) (w : World) (e : Ending) (w' : World) : Prop := ∃ q, e = .returned (.pointer q) ∧ IsM w' q T ∧ Below w.heap.size w w'
set_option maxHeartbeats 3200000 in
theorem put_any {p : Option Addr} {T : Pt} (e : En) (x : Nat) (w : World) (h : IsM w p T) (hx : x < 1073741824) :
    Calls Tryd.prog 20 #[.pointer p, .int .i64 (x : Int), .agg #[.int .i64 e.ac, .int .i64 e.an, .int .i32 e.ch, .bool e.d]] w (RetM (putT 10 T x e) w) := by
  obtain ⟨ps0, hps0, hk0⟩ := kid_of (IsP.below ((Below.refl w.heap.size w).alloc (Nat.le_refl _) (.cells ⟨enL e⟩ 31)) h)
  have HK0 := Lib.hid (And.intro (fun W1 (hb : Below (w.alloc (.cells #[.int .i64 e.ac, .int .i64 e.an, .int .i32 e.ch, .bool e.d] 31)).heap.size (w.alloc (.cells #[.int .i64 e.ac, .int .i64 e.an, .int .i32 e.ch, .bool e.d] 31)) W1) => renew_at hps0 hb) hk0)
  clear h hps0 hk0
  go_enter Tryd.func20, Tryd.ntmps20
  go_wp2_with (go_at_call 33; refine (HK0.out.1 _ (Below.refl _ _)).mono ?_; rintro e' W0 ⟨rfl, hb, hs, hN⟩; refine Hid.out ?_)
  have hsz : (w.alloc (.cells #[.int .i64 e.ac, .int .i64 e.an, .int .i32 e.ch, .bool e.d] 31)).heap.size = w.heap.size + 1 := by simp
  rw [hsz] at hb hN
  have HS0 := Lib.hid (PutS.start (x := x) HK0.out.2 hb hN)
  clear hb hN HK0 hsz hs
  refine Lib.hid ?_
  go_wp2_with fail
  go_loopg [8, 14] 10 (fun g tb ti wr => ∃ k : Nat, k ≤ 10 ∧ g = 10 - k ∧ ti = .int .i64 (k : Int) ∧ ∃ b U ps, tb = .pointer (some ⟨b, 0, none⟩) ∧ PutS w e (w.heap.size + 1) T x k b U ps wr)
  case atStart => exact ⟨0, by omega, rfl, rfl, _, T, ps0, rfl, HS0.out⟩
  case round =>
    obtain ⟨k, hk, rfl, rfl, b, U, ps, rfl, hS⟩ := hrel
    clear HS0
    by_cases hlt : k < 10
    · have hd : x / 8 ^ (9 - k) % 8 < 8 := Nat.mod_lt _ (by decide)
      have HD := Lib.hid (digit_any x k)
      have HS := Lib.hid hS
      obtain ⟨D, hD⟩ : ∃ D, D = x / 8 ^ (9 - k) % 8 := ⟨_, rfl⟩
      rw [← hD] at HD hd
      have HDe := Lib.hid hD
      clear hD
      obtain ⟨ps', hk1, hk2⟩ := kid_of (hS.kids D hd)
      have HK := Lib.hid (And.intro hk1 hk2)
      clear hk1 hk2 hS
      go_wp2_with (go_at_call 34; refine (HD.out _ hx hlt).mono ?_; rintro e' W0 ⟨rfl, rfl⟩)
      have hcell := (HS.out.next (Below.refl _ _).drew).bb.cell _ (ptL_ptr ps U.en hd)
      refine wp_region_noPanic ?_
      refine wp_region_held_drew (S := (fun _ => True)) (by kernel_rfl) ?_ (fun hHeld => ?_)
      · exact trivial
      refine take1 (i := 0) (v := .pointer (some ⟨b, 0, none⟩)) rfl (by kernel_rfl) (by kernel_rfl) (by kernel_rfl) (fun _ _ _ h => h) (Or.inl ⟨by rfl, fun w hSw => ?_⟩) hHeld ?_
      · (go_simp)
      try simp only [Act.put, List.setIfInBounds_toArray, List.set_cons_zero, List.set_cons_succ]
      refine take1 (i := 1) (v := .int .i64 (D : Int)) rfl (by kernel_rfl) (by kernel_rfl) (by kernel_rfl) (fun _ _ _ h => h) (Or.inl ⟨by rfl, fun w hSw => ?_⟩) hHeld ?_
      · (go_simp)
      try simp only [Act.put, List.setIfInBounds_toArray, List.set_cons_zero, List.set_cons_succ]
      refine take1 (i := 2) (v := .pointer (some ⟨b, 0, none⟩)) rfl (by kernel_rfl) (by kernel_rfl) (by kernel_rfl) (fun _ _ _ h => h) (Or.inl ⟨by rfl, fun w hSw => ?_⟩) hHeld ?_
      · (go_simp)
      try simp only [Act.put, List.setIfInBounds_toArray, List.set_cons_zero, List.set_cons_succ]
      refine take1 (i := 3) (v := .int .i64 (D : Int)) rfl (by kernel_rfl) (by kernel_rfl) (by kernel_rfl) (fun _ _ _ h => h) (Or.inl ⟨by rfl, fun w hSw => ?_⟩) hHeld ?_
      · (go_simp)
      try simp only [Act.put, List.setIfInBounds_toArray, List.set_cons_zero, List.set_cons_succ]
      refine take1 (i := 4) (v := .pointer (some ⟨b, 0, none⟩)) rfl (by kernel_rfl) (by kernel_rfl) (by kernel_rfl) (fun _ _ _ h => h) (Or.inl ⟨by rfl, fun w hSw => ?_⟩) hHeld ?_
      · (go_simp)
      try simp only [Act.put, List.setIfInBounds_toArray, List.set_cons_zero, List.set_cons_succ]
      refine take1 (i := 5) (v := .pointer (some ⟨b, 0, none⟩)) rfl (by kernel_rfl) (by kernel_rfl) (by kernel_rfl) (fun _ _ _ h => h) (Or.inl ⟨by rfl, fun w hSw => ?_⟩) hHeld ?_
      · (go_simp)
      try simp only [Act.put, List.setIfInBounds_toArray, List.set_cons_zero, List.set_cons_succ]
      refine take1 (i := 6) (v := .pointer (some ⟨b, D, none⟩)) rfl (by kernel_rfl) (by kernel_rfl) (by kernel_rfl) (fun _ _ _ h => h) (Or.inl ⟨by rfl, fun w hSw => ?_⟩) hHeld ?_
      · (go_simp; intro hh; omega)
      try simp only [Act.put, List.setIfInBounds_toArray, List.set_cons_zero, List.set_cons_succ]
      refine take1 (i := 9) (v := .pointer (some ⟨b, 0, none⟩)) rfl (by kernel_rfl) (by kernel_rfl) (by kernel_rfl) (fun _ _ _ h => h) (Or.inl ⟨by rfl, fun w hSw => ?_⟩) hHeld ?_
      · (go_simp)
      try simp only [Act.put, List.setIfInBounds_toArray, List.set_cons_zero, List.set_cons_succ]
      refine take1 (i := 10) (v := .pointer (some ⟨b, 0, none⟩)) rfl (by kernel_rfl) (by kernel_rfl) (by kernel_rfl) (fun _ _ _ h => h) (Or.inl ⟨by rfl, fun w hSw => ?_⟩) hHeld ?_
      · (go_simp)
      try simp only [Act.put, List.setIfInBounds_toArray, List.set_cons_zero, List.set_cons_succ]
      refine wpAnyH_ready (rs := [7]) (by kernel_rfl) (by simp) ?_
      refine cons1 rfl (fun K hK => ?_) AllReadyH.nil
      go_simp
      go_wp2_with fail
      refine hK.out _ _ (trivial) (fun hHeld2 => ?_)
      clear hK K hHeld 
      have hHeld := hHeld2
      clear hHeld2
      try simp only [Act.put, List.setIfInBounds_toArray, List.set_cons_zero, List.set_cons_succ]
      refine wpAnyH_ready (rs := [8]) (by kernel_rfl) (by simp) ?_
      refine cons1 rfl (fun K hK => ?_) AllReadyH.nil
      go_simp
      refine (renew_at HK.out.1 (Below.refl _ _).drew).mono ?_
      rintro e' W1 ⟨rfl, hb, hs, hN⟩
      go_wp2_with fail
      refine hK.out _ _ (trivial) (fun hHeld2 => ?_)
      clear hK K hHeld hcell
      have hHeld := hHeld2
      clear hHeld2
      try simp only [Act.put, List.setIfInBounds_toArray, List.set_cons_zero, List.set_cons_succ]
      have hcell := (HS.out.next ((Below.refl _ _).drew.trans hb)).bb.cell _ (ptL_ptr ps U.en hd)
      have hfree := (HS.out.next ((Below.refl _ _).drew.trans hb)).bb.free D
      have HS2 := Lib.hid (HS.out.step hlt HDe.out HK.out.2 ((Below.refl _ _).drew.trans hb) hs hN)
      have hnew := (((HS.out.next ((Below.refl _ _).drew.trans hb)).bb).set D (.pointer (some ⟨W0.heap.size, 0, none⟩))).cell D (by rw [ptL_set _ _ _ hd, ptL_ptr _ _ hd, if_pos rfl])
      clear HS HK hb hs hN
      refine take1 (i := 11) (v := .pointer (some ⟨b, D, none⟩)) rfl (by kernel_rfl) (by kernel_rfl) (by kernel_rfl) (fun _ _ _ h => h) (Or.inl ⟨by rfl, fun w hSw => ?_⟩) hHeld ?_
      · (go_simp; intro hh; omega)
      try simp only [Act.put, List.setIfInBounds_toArray, List.set_cons_zero, List.set_cons_succ]
      refine wpAnyH_ready (rs := [12]) (by kernel_rfl) (by simp) ?_
      refine cons1 rfl (fun K hK => ?_) AllReadyH.nil
      go_simp
      go_wp2_with fail
      refine hK.out _ _ (trivial) (fun hHeld2 => ?_)
      clear hK K hHeld hcell hfree
      have hHeld := hHeld2
      clear hHeld2
      try simp only [Act.put, List.setIfInBounds_toArray, List.set_cons_zero, List.set_cons_succ]
      refine wpAnyH_done (by kernel_rfl) ?_ _
      refine NoPanic.normal ?_

      have hd' : ((D : Nat) : Int) < 8 := by omega
      generalize (W1.setCell ⟨b, D, none⟩ (.pointer (some ⟨W0.heap.size, 0, none⟩))) = W2 at *
      clear hHeld
      go_wp2_with fail
      go_roundg (10 - (k + 1))
      case measure => omega
      case rel => exact ⟨k + 1, by omega, rfl, by go_num, W0.heap.size, U.nx D, ps', rfl, HS2.out⟩
    · obtain rfl : k = 10 := by omega
      have HS := Lib.hid hS
      have e0 := hS.be.cell 0 rfl
      have e1 := hS.be.cell 1 rfl
      have e2 := hS.be.cell 2 rfl
      have e3 := hS.be.cell 3 rfl
      have k0 := hS.bb.live 8 (by simp [ptL])
      have k1 := hS.bb.live 9 (by simp [ptL])
      have k2 := hS.bb.live 10 (by simp [ptL])
      have k3 := hS.bb.live 11 (by simp [ptL])
      obtain ⟨k0, f0⟩ := k0
      obtain ⟨k1, f1⟩ := k1
      obtain ⟨k2, f2⟩ := k2
      obtain ⟨k3, f3⟩ := k3
      clear hS
      go_wp2_with fail
      go_ret
      exact ⟨_, rfl, HS.out.done.2, HS.out.done.1⟩
end Go.Proofs.YtkhggojghjociaaDoor
