/-
  Going over a map: the contracts of each, of All and of the function that All hands back: every entry comes, by rising ids, or a part of them.
-/
import Derived.RangeFuncNested
import Derived.RangeFuncBound
import Derived.RangeFuncCalls
import Derived.RangeFuncLeaves
import Derived.RangeFuncBox
import Derived.Shelf.Abstract
import Derived.Shelf.RegionOpen
import Derived.WalkKit
import Derived.OwnWalkIn
import Derived.TacticsInMore
import Derived.LoopNIn
import Derived.LoopIn
import Derived.Stop.RegionWithIn
import Derived.Test.YtkhggojghjociaaDoorLast
namespace Go.Proofs.YtkhggojghjociaaDoor
open Go Go.Proofs Go.RowKit Go.Shelf

attribute [local go_sem] Oper.semAt_some

theorem room_of_none {F : Fence} (hd : F.depth = none) (k : Nat) : F.room k := fun d h => by rw [hd] at h; cases h
theorem RoundIn.anyDepth {F : Fence} (hd : F.depth = none) {m m' : Nat} {P : Program} {l : Nat} {f : FuncId} {tmps : Array Value} {assign body : Code} {w : World} {R : Ending → World → Prop}
    (h : RoundIn F m P l f tmps assign body w R) : RoundIn F m' P l f tmps assign body w R := ⟨h.1, fun c cs _ => h.2 c cs (room_of_none hd _)⟩
theorem YieldAt.anyDepth {F : Fence} (hd : F.depth = none) {m : Nat} (m' : Nat) {P : Program} {l : Nat} {args : Array Value} {W : World} {R : Ending → World → Prop} (h : YieldAt F m P l args W R) : YieldAt F m' P l args W R := by
  obtain ⟨fn, tmps, assign, body, hy, hR⟩ := h
  exact ⟨fn, tmps, assign, body, hy, RoundIn.anyDepth hd hR⟩
theorem grownBy_drew (w : World) : w.grownBy w.drew none := ⟨rfl, rfl, rfl, Nat.le_refl _, fun _ _ _ => rfl⟩

/-- 'wpAnyIn_take', 'AllReadyIn.cons', the operation read off the list. -/
theorem takeIn {F : Fence} {n : Nat} {P : Program} {md : Region.Mode} {ops : Array Oper} {Q : Exit → Act → World → Prop} {i : Nat} {oi : Oper} {v : Value} {fuel : Nat} {listed : Array Bool} {a : Act} {w : World} (hro : F.round = none) (hi : ops.toList[i]? = some oi)
    (hs : Region.noSelect ops = true) (hf : Region.free md ops listed i = true) (hr : (Region.ready md ops listed).contains i = true)
    (hQ : ∀ c a w, Q (.panic c) (a.put oi.dst v) w → Q (.panic c) a w) (hy : YieldsFenced P ops oi v a)
    (h : wpAnyIn F n P md ops Q fuel (listed.setIfInBounds i true) (a.put oi.dst v) w) : wpAnyIn F n P md ops Q (fuel + 1) listed a w :=
  wpAnyIn_take hro (by simpa using hi) hs hf hr hQ hy h
theorem consIn {F : Fence} {n : Nat} {P : Program} {md : Region.Mode} {ops : Array Oper} {Q : Exit → Act → World → Prop} {fuel : Nat} {listed : Array Bool} {a : Act} {w : World} {i : Nat} {o : Oper} {rs : List Nat} (ho : ops.toList[i]? = some o)
    (h : ∀ K' : Act → World → Prop, (∀ a w, wpAnyIn F n P md ops Q fuel (listed.setIfInBounds i true) a w → K' a w) → if Region.wanted o (yielded ops a.tmps) = true then Oper.wpIn F n P o a w K' Q else (∀ f, o.about P w a.eval = some f → F.fn f) ∧ K' (a.put o.dst undef) w)
    (hs : AllReadyIn F n P md ops Q fuel listed a w rs) : AllReadyIn F n P md ops Q fuel listed a w (i :: rs) :=
  AllReadyIn.cons (by simpa using ho) h hs

/-- What yield is handed. -/
abbrev encs (x : Nat × En) : Array Value := #[.agg #[.int .i64 (nmC x.1), .int .i64 (nmS x.1)], .agg #[.int .i64 x.2.ac, .int .i64 x.2.an, .int .i32 x.2.ch, .bool x.2.d]]

set_option maxHeartbeats 400000 in
theorem named_in (F : Fence) (n : Nat) (h32 : F.fn 32) (hro : F.round = none) (x : Nat) (w : World) (hx : x < 1073741824) :
    CallsIn F n Tryd.prog 32 #[.int .i64 (x : Int)] w fun e w' => e = .returned (.agg #[.int .i64 (nmC x), .int .i64 (nmS x)]) ∧ w' = w.alloc (.cells #[.int .i64 (nmC x), .int .i64 (nmS x)] 24) := by
  have s1 : IntKind.i64.wrap ((x : Int) / 1024 + 1) = (x : Int) / 1024 + 1 := IntWalk.i64_in _ (by omega)
  have s2 := and1023 (x : Int) (by omega) (by omega)
  have s3 : IntKind.i64.wrap ((x : Int) % 1024 + 1) = (x : Int) % 1024 + 1 := IntWalk.i64_in _ (by omega)
  have e1 : nmC x = (x : Int) / 1024 + 1 := by unfold nmC; omega
  have e2 : nmS x = (x : Int) % 1024 + 1 := by unfold nmS; omega
  rw [e1, e2]
  clear e1 e2
  refine callsIn_of_wp Tryd.func32 rfl h32 ?_ hro
  simp only [Tryd.ntmps32, List.size_toArray, List.length_cons, List.length_nil, Nat.reduceAdd, Nat.reduceSub, Array.replicate_succ, Array.replicate_zero, List.push_toArray, List.append_toArray, List.nil_append, List.cons_append]
  gi_wp2
  exact bodyPost_ret (v := .agg #[.int .i64 ((x : Int) / 1024 + 1), .int .i64 ((x : Int) % 1024 + 1)]) (by simp [results, Tryd.results32, go_sem]) rfl ⟨rfl, rfl⟩

def dOf : Value → Nat
  | .int _ d => d.toNat
  | _ => 0
/-- What each says of what it was wanted for. -/
def EachR (n₀ : Nat) (J Jx : List (Nat × En) → World → Prop) (pre l : List (Nat × En)) (W : World) (e : Ending) (W' : World) : Prop :=
  (e = .returned (.bool true) ∧ J (pre ++ l) W' ∧ Below n₀ W W') ∨ (e = .returned (.bool false) ∧ ∃ q, q <+: l ∧ Jx (pre ++ q) W')

set_option maxRecDepth 100000 in
set_option maxHeartbeats 1600000 in
theorem each_in (F : Fence) (hd : F.depth = none) (h26 : F.fn 26) (h32 : F.fn 32) (hro : F.round = none) (l n₀ N : Nat) (Px : Nat × En → Prop) (J Jx : List (Nat × En) → World → Prop)
    (hJa : ∀ pre W W', J pre W → W.grownBy W' none → J pre W')
    (hY : ∀ m pre x W, Px x → J pre W → pre.length < N → YieldAt F m Tryd.prog l (encs x) W fun e W' =>
      (e = .returned (.bool true) ∧ J (pre ++ [x]) W' ∧ Below n₀ W W') ∨ (e = .returned (.bool false) ∧ Jx (pre ++ [x]) W')) :
    ∀ (m : Nat) (T : Pt) (i n : Nat) (p : Option Addr) (k : Nat) (pre : List (Nat × En)) (W : World), i + m = 10 → IsP n₀ W p T → n₀ ≤ W.heap.size → (k + 1) * 8 ^ m ≤ 1073741824 → J pre W → pre.length + (elsT m k T).length ≤ N → (∀ x ∈ elsT m k T, Px x) →
      CallsIn F n Tryd.prog 26 #[.pointer p, .int .i64 (k : Int), .int .i64 (i : Int), .func (.yield l) #[] #[]] W (EachR n₀ J Jx pre (elsT m k T) W) := by
  intro m
  have hdd : ∀ k : Nat, (F.depth.isSome = true → 1 ≤ k) := fun k h => by rw [hd] at h; cases h
  induction m with
  | zero =>
    intro T i n p k pre W hi hT hn₀ hk hJ hN hP
    obtain rfl : i = 10 := by omega
    rcases hT.cases with ⟨rfl, rfl⟩ | ⟨b, ps, rfl, hb, hB, hnn, -⟩
    · refine callsIn_of_wp Tryd.func26 rfl h26 ?_ hro
      simp only [Tryd.ntmps26, List.size_toArray, List.length_cons, List.length_nil, Nat.reduceAdd, Nat.reduceSub, Array.replicate_succ, Array.replicate_zero, List.push_toArray, List.append_toArray, List.nil_append, List.cons_append]
      gi_wp2
      go_ret
      exact .inl ⟨rfl, by simpa [elsT] using hJ, Below.refl _ _⟩
    · obtain ⟨f, ev, rfl⟩ := Pt.isNil_false hnn
      have hB : Blk W b (ptL ps ev) 63 := hB
      have hkx : k < 1073741824 := by omega
      obtain ⟨o, ho⟩ : ∃ o, o = Obj.cells #[.int .i64 (nmC k), .int .i64 (nmS k)] 24 := ⟨_, rfl⟩
      have hbW : Below n₀ W (W.alloc o).drew := ((Below.refl n₀ W).alloc hn₀ _).drew
      have hJ1 : J pre (W.alloc o).drew := hJa _ _ _ (hJa _ _ _ hJ (World.grownBy_alloc _ o none)) (grownBy_drew _)
      have hy := YieldAt.mono (hY (n - 1) pre (k, ev) _ (hP _ (by simp [elsT])) hJ1 (by simp only [elsT, List.length_cons, List.length_nil] at hN; omega)) (R' := fun e W2 => ∃ r, e = .returned (.bool r) ∧ ((r = true ∧ J (pre ++ [(k, ev)]) W2 ∧ Below n₀ W W2) ∨ (r = false ∧ Jx (pre ++ [(k, ev)]) W2)))
        (fun e W2 h => h.elim (fun ⟨he, hj, hb2⟩ => ⟨true, he, .inl ⟨rfl, hj, hbW.trans hb2⟩⟩) (fun ⟨he, hx⟩ => ⟨false, he, .inr ⟨rfl, hx⟩⟩))
      obtain ⟨fn, tmps, assign, body, hy, hR⟩ := hy
      have HN := Lib.hid (named_in F (n - 1) h32 hro k)
      have k0 := hB.cell 8 rfl
      have k1 := hB.cell 9 rfl
      have k2 := hB.cell 10 rfl
      have k3 := hB.cell 11 rfl
      have hlt := hB.lt
      have hne : b ≠ W.heap.size := by omega
      have HO := Lib.hid ho
      clear hJ1 hbW hJ hY hN hB hnn hk hT ho hP
      refine callsIn_of_wp Tryd.func26 rfl h26 ?_ hro
      simp only [Tryd.ntmps26, List.size_toArray, List.length_cons, List.length_nil, Nat.reduceAdd, Nat.reduceSub, Array.replicate_succ, Array.replicate_zero, List.push_toArray, List.append_toArray, List.nil_append, List.cons_append]
      gi_wp2
      refine wpIn_region_any (by kernel_rfl) ?_
      try (change wpAnyIn _ _ _ _ _ _ _ _ _ (World.drew _))
      refine takeIn (i := 0) (v := .func (.yield l) #[] #[]) hro rfl (by kernel_rfl) (by kernel_rfl) (by kernel_rfl) (fun _ _ _ h => h) ⟨Or.inl ⟨by rfl, fun w => ?_⟩, fun _ => rfl⟩ ?_
      · (go_simp)
      try simp only [Act.put, List.setIfInBounds_toArray, List.set_cons_zero, List.set_cons_succ]
      refine takeIn (i := 1) (v := .int .i64 (k : Int)) hro rfl (by kernel_rfl) (by kernel_rfl) (by kernel_rfl) (fun _ _ _ h => h) ⟨Or.inl ⟨by rfl, fun w => ?_⟩, fun _ => rfl⟩ ?_
      · (go_simp)
      try simp only [Act.put, List.setIfInBounds_toArray, List.set_cons_zero, List.set_cons_succ]
      refine takeIn (i := 3) (v := .pointer (some ⟨b, 0, none⟩)) hro rfl (by kernel_rfl) (by kernel_rfl) (by kernel_rfl) (fun _ _ _ h => h) ⟨Or.inl ⟨by rfl, fun w => ?_⟩, fun _ => rfl⟩ ?_
      · (go_simp)
      try simp only [Act.put, List.setIfInBounds_toArray, List.set_cons_zero, List.set_cons_succ]
      refine takeIn (i := 4) (v := .pointer (some ⟨b, 0, none⟩)) hro rfl (by kernel_rfl) (by kernel_rfl) (by kernel_rfl) (fun _ _ _ h => h) ⟨Or.inl ⟨by rfl, fun w => ?_⟩, fun _ => rfl⟩ ?_
      · (go_simp)
      try simp only [Act.put, List.setIfInBounds_toArray, List.set_cons_zero, List.set_cons_succ]
      refine takeIn (i := 5) (v := .pointer (some ⟨b, 8, none⟩)) hro rfl (by kernel_rfl) (by kernel_rfl) (by kernel_rfl) (fun _ _ _ h => h) ⟨Or.inl ⟨by rfl, fun w => ?_⟩, fun _ => rfl⟩ ?_
      · (go_simp)
      try simp only [Act.put, List.setIfInBounds_toArray, List.set_cons_zero, List.set_cons_succ]
      refine wpAnyIn_ready (rs := [2, 6]) (by kernel_rfl) (by simp) ?_
      refine consIn rfl (fun K hK => ?_) (consIn rfl (fun K hK => ?_) AllReadyIn.nil)
      · go_simp
        gi_wp2_with ((try refine ⟨hdd _, ?_⟩); gi_at_call 32; refine (HN.out _ hkx).mono ?_; rintro e W9 ⟨rfl, hW9⟩; rw [← HO.out] at hW9; subst hW9)
        try simp only [Act.put, List.setIfInBounds_toArray, List.set_cons_zero, List.set_cons_succ]
        refine wpAnyIn_ready (rs := [6]) (by kernel_rfl) (by simp) ?_
        refine consIn rfl (fun K hK => ?_) AllReadyIn.nil
        go_simp
        refine hK _ _ ?_
        clear hK K
        try simp only [Act.put, List.setIfInBounds_toArray, List.set_cons_zero, List.set_cons_succ]
        refine wpAnyIn_ready (rs := [7]) (by kernel_rfl) (by simp) ?_
        refine consIn rfl (fun K hK => ?_) AllReadyIn.nil
        go_simp
        gi_wp2_with ((try refine ⟨hdd _, ?_⟩); refine hR.mono ?_; rintro e W2 ⟨r, rfl, hres⟩)
        try simp only [Act.put, List.setIfInBounds_toArray, List.set_cons_zero, List.set_cons_succ]
        refine takeIn (i := 8) (v := .bool r) hro rfl (by kernel_rfl) (by kernel_rfl) (by kernel_rfl) (fun _ _ _ h => h) ⟨Or.inl ⟨by rfl, fun w => ?_⟩, fun _ => rfl⟩ ?_
        · (go_simp)
        try simp only [Act.put, List.setIfInBounds_toArray, List.set_cons_zero, List.set_cons_succ]
        refine wpAnyIn_done (by kernel_rfl) ?_ _
        gi_wp2
        go_ret
        rcases hres with ⟨rfl, hj, hb2⟩ | ⟨rfl, hx⟩
        · exact .inl ⟨rfl, hj, hb2⟩
        · exact .inr ⟨rfl, [(k, ev)], List.prefix_refl _, hx⟩
      · go_simp
        refine hK _ _ ?_
        clear hK K
        try simp only [Act.put, List.setIfInBounds_toArray, List.set_cons_zero, List.set_cons_succ]
        refine wpAnyIn_ready (rs := [2]) (by kernel_rfl) (by simp) ?_
        refine consIn rfl (fun K hK => ?_) AllReadyIn.nil
        go_simp
        gi_wp2_with ((try refine ⟨hdd _, ?_⟩); gi_at_call 32; refine (HN.out _ hkx).mono ?_; rintro e W9 ⟨rfl, hW9⟩; rw [← HO.out] at hW9; subst hW9)
        try simp only [Act.put, List.setIfInBounds_toArray, List.set_cons_zero, List.set_cons_succ]
        refine wpAnyIn_ready (rs := [7]) (by kernel_rfl) (by simp) ?_
        refine consIn rfl (fun K hK => ?_) AllReadyIn.nil
        go_simp
        gi_wp2_with ((try refine ⟨hdd _, ?_⟩); refine hR.mono ?_; rintro e W2 ⟨r, rfl, hres⟩)
        try simp only [Act.put, List.setIfInBounds_toArray, List.set_cons_zero, List.set_cons_succ]
        refine takeIn (i := 8) (v := .bool r) hro rfl (by kernel_rfl) (by kernel_rfl) (by kernel_rfl) (fun _ _ _ h => h) ⟨Or.inl ⟨by rfl, fun w => ?_⟩, fun _ => rfl⟩ ?_
        · (go_simp)
        try simp only [Act.put, List.setIfInBounds_toArray, List.set_cons_zero, List.set_cons_succ]
        refine wpAnyIn_done (by kernel_rfl) ?_ _
        gi_wp2
        go_ret
        rcases hres with ⟨rfl, hj, hb2⟩ | ⟨rfl, hx⟩
        · exact .inl ⟨rfl, hj, hb2⟩
        · exact .inr ⟨rfl, [(k, ev)], List.prefix_refl _, hx⟩
  | succ m ih =>
    intro T i n p k pre W hi hT hn₀ hk hJ hN hP
    rcases hT.cases with ⟨rfl, rfl⟩ | ⟨b, ps, rfl, hb, hB, hnn, hc⟩
    · refine callsIn_of_wp Tryd.func26 rfl h26 ?_ hro
      simp only [Tryd.ntmps26, List.size_toArray, List.length_cons, List.length_nil, Nat.reduceAdd, Nat.reduceSub, Array.replicate_succ, Array.replicate_zero, List.push_toArray, List.append_toArray, List.nil_append, List.cons_append]
      gi_wp2
      go_ret
      exact .inl ⟨rfl, by simpa [elsT] using hJ, Below.refl _ _⟩
    · have hP8 : 0 < 8 ^ m := Nat.pow_pos (by decide)
      have hk8 : (k * 8 + 8) * 8 ^ m ≤ 1073741824 := by
        have e2 : (k + 1) * 8 ^ (m + 1) = (k * 8 + 8) * 8 ^ m := by rw [Nat.pow_succ, Nat.mul_comm (8 ^ m) 8, ← Nat.mul_assoc, Nat.add_mul, Nat.one_mul]
        omega
      have hkb : k * 8 + 8 ≤ 1073741824 := Nat.le_trans (Nat.le_mul_of_pos_right _ hP8) hk8
      obtain ⟨els, hels⟩ : ∃ els : Nat → List (Nat × En), els = fun d => (List.range d).flatMap fun j => elsT m (k * 8 + j) (T.nx j) := ⟨_, rfl⟩
      have hall : elsT (m + 1) k T = els 8 := by rw [hels, elsT_succ]
      have hnext : ∀ d, els (d + 1) = els d ++ elsT m (k * 8 + d) (T.nx d) := fun d => by rw [hels]; simp [List.range_succ]
      have hpre : ∀ d, d ≤ 8 → els d <+: els 8 := fun d hd => by
        rw [hels]
        refine ⟨(List.range' d (8 - d)).flatMap fun j => elsT m (k * 8 + j) (T.nx j), ?_⟩
        simp only []
        rw [← List.flatMap_append]
        congr 1
        rw [List.range_eq_range', List.range_eq_range']
        have := List.range'_append (s := 0) (m := d) (n := 8 - d) (step := 1)
        rw [show d + (8 - d) = 8 by omega] at this
        simpa using this
      have h0 : els 0 = [] := by rw [hels]; rfl
      rw [hall] at hN hP ⊢
      have IH := Lib.hid (fun (d : Nat) (hd8 : d < 8) (W1 : World) (hb1 : Below n₀ W W1) (hj : J (pre ++ els d) W1) => show CallsIn F (n - 1) Tryd.prog 26 #[.pointer (ps d), .int .i64 ((k : Int) * 8 + d), .int .i64 ((i : Int) + 1), .func (.yield l) #[] #[]] W1 (EachR n₀ J Jx (pre ++ els d) (elsT m (k * 8 + d) (T.nx d)) W1) by
        have h1 : (k * 8 + d + 1) * 8 ^ m ≤ 1073741824 := Nat.le_trans (Nat.mul_le_mul_right _ (by omega)) hk8
        have hl1 : (els (d + 1)).length ≤ (els 8).length := (hpre (d + 1) (by omega)).length_le
        rw [hnext, List.length_append] at hl1
        have := ih (T.nx d) (i + 1) (n - 1) (ps d) (k * 8 + d) (pre ++ els d) W1 (by omega) ((hc d hd8).below hb1) (Nat.le_trans hn₀ hb1.size) h1 hj (by rw [List.length_append]; omega) (fun x hx => hP x ((hpre (d + 1) (by omega)).subset (by rw [hnext]; exact List.mem_append_right _ hx)))
        rwa [show (((k * 8 + d : Nat)) : Int) = (k : Int) * 8 + d by omega, show (((i + 1 : Nat)) : Int) = (i : Int) + 1 by omega] at this)
      have HE := Lib.hid (And.intro hnext (And.intro hpre h0))
      have HB := Lib.hid hB
      have hib : i < 10 := by omega
      have hi10 : ((i : Int) == 10) = false := by simp; omega
      have hJ0 : J (pre ++ els 0) W := by rw [h0]; simpa using hJ
      clear hk8 hP8 hP hall hnext hpre h0 hN hk hc hT hnn hB hJ hJa hY ih hels hn₀ hi
      refine callsIn_of_wp Tryd.func26 rfl h26 ?_ hro
      simp only [Tryd.ntmps26, List.size_toArray, List.length_cons, List.length_nil, Nat.reduceAdd, Nat.reduceSub, Array.replicate_succ, Array.replicate_zero, List.push_toArray, List.append_toArray, List.nil_append, List.cons_append]
      gi_wp2
      gi_loopw [22] (fun v W1 => ∃ d : Nat, d ≤ 8 ∧ v = .int .i64 (d : Int) ∧ J (pre ++ els d) W1 ∧ Below n₀ W W1) (fun v W1 => 8 - dOf v)
      case atStart => exact ⟨0, by omega, rfl, hJ0, Below.refl _ _⟩
      case round =>
        obtain ⟨d, hd8, rfl, hj, hb1⟩ := hrel
        clear hJ0
        by_cases hlt : d < 8
        · have hcell := (HB.out.below hb1 hb).cell _ (ptL_ptr ps T.en hlt)
          have s1 : IntKind.i64.wrap ((k : Int) * 8) = (k : Int) * 8 := IntWalk.i64_in _ (by omega)
          have s2 := or8 ((k : Int) * 8) (d : Int) (by omega) (by omega) (by omega) (by omega) (by omega)
          have s3 : IntKind.i64.wrap ((i : Int) + 1) = (i : Int) + 1 := IntWalk.i64_in _ (by omega)
          have ihd := (IH.out d hlt wr hb1 hj)
          clear hj
          gi_wp2_with ((try refine ⟨hdd _, ?_⟩); gi_at_call 26; refine ihd.mono ?_; clear ihd; rintro e W2 (⟨rfl, hj2, hb2⟩ | ⟨rfl, q, hq, hx⟩))
          · go_roundw
            case rel => exact ⟨d + 1, by omega, by go_num, by rw [HE.out.1, ← List.append_assoc]; exact hj2, hb1.trans hb2⟩
            case measure => simp [dOf]; omega
          · go_ret
            refine .inr ⟨rfl, els d ++ q, ?_, by rw [← List.append_assoc]; exact hx⟩
            refine List.IsPrefix.trans ?_ (HE.out.2.1 (d + 1) (by omega))
            rw [HE.out.1]
            exact (List.prefix_append_right_inj _).2 hq
        · obtain rfl : d = 8 := by omega
          gi_wp2
          go_ret
          exact .inl ⟨rfl, hj, hb1⟩

set_option maxHeartbeats 1000000 in
/-- The function that All hands back. -/
theorem all1_in (F : Fence) (hd : F.depth = none) (n : Nat) (h25 : F.fn 25) (h26 : F.fn 26) (h32 : F.fn 32) (hro : F.round = none) (l Bt n₀ : Nat) (p0 : Option Addr) (T : Pt) (J Jx : List (Nat × En) → World → Prop)
    (hJa : ∀ pre W W', J pre W → W.grownBy W' none → J pre W')
    (hY : ∀ pre x W, x ∈ els T → J pre W → pre.length < (els T).length → YieldAt F (n - 1) Tryd.prog l (encs x) W fun e W' =>
      (e = .returned (.bool true) ∧ J (pre ++ [x]) W' ∧ Below n₀ W W') ∨ (e = .returned (.bool false) ∧ Jx (pre ++ [x]) W'))
    (W : World) (hBt : W.cell? ⟨Bt, 0, none⟩ = some (.pointer p0)) (hT : IsP n₀ W p0 T) (hn₀ : n₀ ≤ W.heap.size) (h0 : J [] W) :
    CallsIn F n Tryd.prog 25 #[.func (.yield l) #[] #[], .pointer (some ⟨Bt, 0, none⟩)] W fun e W' => (∃ v, e = .returned v) ∧
      (J (els T) W' ∨ (∃ pre, pre <+: els T ∧ Jx pre W')) := by
  have hdd : ∀ k : Nat, (F.depth.isSome = true → 1 ≤ k) := fun k h => by rw [hd] at h; cases h
  have hp := each_in F hd h26 h32 hro l n₀ (els T).length (fun x => x ∈ els T) J Jx hJa (fun m pre x W hx hj hl => YieldAt.anyDepth hd m (hY pre x W hx hj hl)) 10 T 0 (n - 1) p0 0 [] W rfl hT hn₀ (by decide) h0 (by simp [els]) (fun x hx => hx)
  refine callsIn_of_wp Tryd.func25 rfl h25 ?_ hro
  simp only [Tryd.ntmps25, List.size_toArray, List.length_cons, List.length_nil, Nat.reduceAdd, Nat.reduceSub, Array.replicate_succ, Array.replicate_zero, List.push_toArray, List.append_toArray, List.nil_append, List.cons_append]
  gi_wp2_with ((try refine ⟨hdd _, ?_⟩); gi_at_call 26; refine hp.mono ?_; clear hp; rintro e W1 (⟨rfl, hJ1, _⟩ | ⟨rfl, q, hq, hx⟩))
  · go_end0
    exact ⟨⟨_, rfl⟩, .inl (by simpa [els] using hJ1)⟩
  · go_end0
    exact ⟨⟨_, rfl⟩, .inr ⟨q, hq, by simpa using hx⟩⟩

set_option maxHeartbeats 1000000 in
/-- All: the map is boxed; the function value captures the box. -/
theorem all_any (p0 : Option Addr) (n : Int) (w : World) :
    Calls Tryd.prog 14 #[.agg #[.pointer p0, .int .i64 n]] w fun e w' => e = .returned (.func (.func 25) #[] #[.pointer (some ⟨w.heap.size, 0, none⟩)]) ∧ w' = w.alloc (.cells #[.pointer p0, .int .i64 n] 28) := by
  go_enter Tryd.func14, Tryd.ntmps14
  go_wp2
  go_ret
  exact ⟨rfl, rfl⟩

/-- The entries of a map, each with its word that it is one. -/
abbrev ElT (T : Pt) := {x : Nat × En // x ∈ els T}
abbrev raw {T : Pt} (l : List (ElT T)) : List (Nat × En) := l.map Subtype.val
/-- What All hands back gives all entries, by rising ids, or a part of them. -/
theorem all_stops (n : Nat) (Bt n₀ : Nat) (p0 : Option Addr) (T : Pt) (w : World) (hBt : Bt < w.heap.size) (hn₀ : n₀ ≤ w.heap.size)
    (hc : w.cell? ⟨Bt, 0, none⟩ = some (.pointer p0)) (hT : IsP n₀ w p0 T) :
    SeqStopsK Fence.wide n Tryd.prog 25 #[.pointer (some ⟨Bt, 0, none⟩)] (fun x : ElT T => encs x.1) (Below n₀) (fun ys => raw ys = els T) (fun pre => raw pre <+: els T) (els T).length w := fun l J Jx W hW hJ _ hY h0 =>
  (all1_in Fence.wide rfl n trivial trivial trivial rfl l Bt n₀ p0 T (fun a W => ∃ a' : List (ElT T), raw a' = a ∧ J a' W) (fun a W => ∃ a' : List (ElT T), raw a' = a ∧ Jx a' W)
    (fun pre W' W'' ⟨a', ha, h⟩ hg => ⟨a', ha, hJ a' W' W'' none h hg (fun r e => by cases e)⟩)
    (fun pre x W' hx ⟨a', ha, h⟩ hl => YieldAt.mono (hY a' ⟨x, hx⟩ W' h (by subst ha; simpa using hl)) fun e W2 h2 => by
      rcases h2 with ⟨he, hj, hb⟩ | ⟨he, hj⟩
      · exact .inl ⟨he, ⟨a' ++ [⟨x, hx⟩], by simp [raw, ← ha], hj⟩, hb⟩
      · exact .inr ⟨he, ⟨a' ++ [⟨x, hx⟩], by simp [raw, ← ha], hj⟩⟩)
    W ((hW.cell (p := ⟨Bt, 0, none⟩) hBt).trans hc) (hT.below (hW.mono hn₀)) (Nat.le_trans hn₀ hW.size) ⟨[], rfl, h0⟩).mono fun e W' h => by
      rcases h with ⟨hv, ⟨a', ha, hj⟩ | ⟨pre, hp, a', ha, hj⟩⟩
      · exact ⟨hv, .inl ⟨a', ha, hj⟩⟩
      · exact ⟨hv, .inr ⟨a', by subst ha; exact hp, hj⟩⟩
end Go.Proofs.YtkhggojghjociaaDoor
