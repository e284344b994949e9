/-
  The contract of the law's Awake of layer 4: it returns true. Nothing that existed has changed.
  The contracts of the document's Put and Get of layer 4: lists by rising ids.
  The contract of the law's Is: a map with the document's entries is the document's, in all that it tells.
-/
import Derived.Deep.DeepCutAuto
import Derived.Maps.AppendAt
import Derived.OwnWalk
import Derived.RangeFuncBox
import Derived.Test.YtlnonnjpcajgjaaGreatDoorLBase
import Derived.Test.YtlnonnjpcajgjaaGreatDoorLMap
import Derived.Test.YtlnonnjpcajgjaaGreatDoorLStr
namespace Go.Proofs.YtlnonnjpcajgjaaGreatDoor
open Go Go.Proofs Go.RowKit Go.Shelf

attribute [local go_sem] Oper.semAt_some

theorem last_els {T : Pt} (hf : Full 10 T) : (els T = [] ∧ lastC T = 0 ∧ lastS T = 0) ∨ ∃ l x, els T = l ++ [x] ∧ lastC T = nmC x.1 ∧ lastS T = nmS x.1 := by
  cases hn : T.isNil with
  | true =>
    obtain rfl := Pt.isNil_true hn
    exact .inl ⟨rfl, rfl, rfl⟩
  | false =>
    obtain ⟨l, e, h⟩ := els_last 10 0 T hf hn
    exact .inr ⟨l, (lastP 10 0 T, e), h, by simp only [lastC, hn]; rfl, by simp only [lastS, hn]; rfl⟩
theorem full_putM {T : Pt} (c s : Int) (e : En) (hf : Full 10 T) : Full 10 (putM T c s e) := by
  unfold putM
  split
  · exact full_put _ _ _ _ hf
  · exact hf
theorem eqlFM (p : Value) (w : World) : (binOp .eql 88 (.func (.func 68) #[] #[p]) .nilFunc).run Tryz.prog w = .ok (.bool false) w := by kernel_rfl

/-- The document's map. -/
def exMA : En := ⟨0, 0, 97, false⟩
def exMB : En := ⟨0, 0, 98, false⟩
def ex1 : Pt := putM .nil 2 1 exMB
def ex2 : Pt := putM ex1 1 3 exMA
theorem els_ex1 : els ex1 = [(1024, exMB)] := by
  unfold ex1 putM
  rw [if_pos (by decide), show placeI 2 1 = 1024 from rfl, els_insL _ _ (by decide)]
  rfl
theorem els_ex2 : els ex2 = [(2, exMA), (1024, exMB)] := by
  unfold ex2 putM
  rw [if_pos (by decide), show placeI 1 3 = 2 from rfl, els_insL _ _ (by decide), els_ex1]
  rfl
theorem cnt_ex1 : cnt ex1 = 1 := by unfold cnt; rw [els_ex1]; rfl
theorem cnt_ex2 : cnt ex2 = 2 := by unfold cnt; rw [els_ex2]; rfl
theorem full_ex2 : Full 10 ex2 := full_putM _ _ _ (full_putM _ _ _ (full_nil 10))
theorem last_ex2 : lastC ex2 = 2 ∧ lastS ex2 = 1 := by
  rcases last_els full_ex2 with ⟨h, _⟩ | ⟨l, x, h, h1, h2⟩
  · rw [els_ex2] at h; cases h
  · have hx : x = (1024, exMB) := by
      have := congrArg List.getLast? (els_ex2.symm.trans h)
      simpa using this.symm
    subst hx
    exact ⟨h1, h2⟩

theorem keeps_of_below {W W' : World} (hb : Below W.heap.size W W') : KeepsOthers W W' := ⟨hb.size, fun k o hk _ => by rw [hb.block k (Array.getElem?_eq_some_iff.1 hk).1]; exact hk⟩
theorem Boxed.nextB {W W' : World} {B : Nat} {t : TypeId} {v : Value} (h : Go.Boxed W B t v) (hb : Below W.heap.size W W') : Go.Boxed W' B t v := (hb.block B h.lt).trans h
/-- The text of the entries that came. -/
def txt4 (x : Nat × En) : ByteArray := if x.1 = 2 then ⟨#[49, 46, 51, 97]⟩ else ⟨#[50, 46, 49, 98]⟩
def sT (l : List (Nat × En)) : ByteArray := l.foldl (fun s x => s ++ txt4 x) ⟨#[]⟩
theorem sT_snoc (l : List (Nat × En)) (x : Nat × En) : sT (l ++ [x]) = sT l ++ txt4 x := by simp [sT]
theorem sT_size : ∀ l : List (Nat × En), (sT l).size = 4 * l.length := by
  have h : ∀ (l : List (Nat × En)) (s : ByteArray), (l.foldl (fun s x => s ++ txt4 x) s).size = s.size + 4 * l.length := by
    intro l
    induction l with
    | nil => intro s; rfl
    | cons x l ih =>
      intro s
      rw [List.foldl_cons, ih, ByteArray.size_append, List.length_cons, show (txt4 x).size = 4 by unfold txt4; split <;> rfl]
      omega
  intro l
  have := h l ⟨#[]⟩
  rw [show (⟨#[]⟩ : ByteArray).size = 0 from rfl, Nat.zero_add] at this
  exact this
theorem nm_exA : nmC 2 = 1 ∧ nmS 2 = 3 := by unfold nmC nmS; omega
theorem nm_exB : nmC 1024 = 2 ∧ nmS 1024 = 1 := by unfold nmC nmS; omega
theorem txtM_13 : txtB 1 3 = ⟨#[49, 46, 51]⟩ := by
  unfold txtB dotB digB
  rw [show (1 : Int).toNat = 1 from rfl, show (3 : Int).toNat = 3 from rfl, Lib.decDigits_one (by omega), Lib.decDigits_one (by omega)]
  rfl
theorem txtM_21 : txtB 2 1 = ⟨#[50, 46, 49]⟩ := by
  unfold txtB dotB digB
  rw [show (2 : Int).toNat = 2 from rfl, show (1 : Int).toNat = 1 from rfl, Lib.decDigits_one (by omega), Lib.decDigits_one (by omega)]
  rfl
/-- What stands in a round of Awake. -/
structure AwR (n₀ : Nat) (W1 : World) (s : ByteArray) (Bi Be : Nat) (c t : Int) (e : En) (W : World) : Prop where
  bs : Go.Boxed W n₀ 9 (.string s)
  bel : Below n₀ W1 W
  bi : Blk W Bi [.int .i64 c, .int .i64 t] 24
  be : Blk W Be (enL e) 78
  tab : Tab W
theorem AwR.next {n₀ : Nat} {W1 : World} {s : ByteArray} {Bi Be : Nat} {c t : Int} {e : En} {W W' : World} (h : AwR n₀ W1 s Bi Be c t e W) (hn : n₀ ≤ W.heap.size) (hb : Below W.heap.size W W') : AwR n₀ W1 s Bi Be c t e W' :=
  ⟨Boxed.nextB h.bs hb, h.bel.trans (hb.mono hn), h.bi.next hb, h.be.next hb, h.tab.next hb⟩
theorem AwR.put {n₀ : Nat} {W1 : World} {s : ByteArray} {Bi Be : Nat} {c t : Int} {e : En} {W : World} (h : AwR n₀ W1 s Bi Be c t e W) (s' : ByteArray) :
    Go.Boxed (W.setCell ⟨n₀, 0, none⟩ (.string s')) n₀ 9 (.string s') ∧ Below n₀ W1 (W.setCell ⟨n₀, 0, none⟩ (.string s')) ∧ Blk (W.setCell ⟨n₀, 0, none⟩ (.string s')) Bi [.int .i64 c, .int .i64 t] 24 ∧ Blk (W.setCell ⟨n₀, 0, none⟩ (.string s')) Be (enL e) 78 := by
  have h0 : W.heap[n₀]? = some (.cells #[.string s] 9 (0, 0)) := h.bs
  have h1 : Bi ≠ n₀ := by rintro rfl; have := h.bi; unfold Blk at this; rw [h0] at this; cases this
  have h2 : Be ≠ n₀ := by rintro rfl; have := h.be; unfold Blk at this; rw [h0] at this; cases this
  exact ⟨h.bs.set _, h.bel.setCell (p := ⟨n₀, 0, none⟩) (Nat.le_refl _) _, h.bi.other _ h1 _, h.be.other _ h2 _⟩
theorem AwR.s {n₀ : Nat} {W1 : World} {s : ByteArray} {Bi Be : Nat} {c t : Int} {e : En} {W : World} (h : AwR n₀ W1 s Bi Be c t e W) :
    W.cell? ⟨Bi, 0, none⟩ = some (.int .i64 c) ∧ W.cell? ⟨Bi, 1, none⟩ = some (.int .i64 t) ∧ W.cell? ⟨Be, 2, none⟩ = some (.int .i32 e.ch) ∧ AwR n₀ W1 s Bi Be c t e W :=
  ⟨h.bi.cell 0 rfl, h.bi.cell 1 rfl, h.be.cell 2 rfl, h⟩

theorem put_ex1 (W : World) : Calls Tryz.prog 33 #[.agg #[.pointer none, .int .i64 0], .agg #[.int .i64 2, .int .i64 1], .agg #[.int .i64 0, .int .i64 0, .int .i32 98, .bool false]] W
    fun r w' => ∃ q, r = .returned (.tuple #[.agg #[.pointer q, .int .i64 1], .bool true]) ∧ IsM w' q ex1 ∧ Below W.heap.size W w' := by
  have := Put_any (p := none) (T := .nil) 2 1 exMB W rfl (by decide)
  rw [show putM .nil 2 1 exMB = ex1 from rfl, cnt_ex1] at this
  exact this
theorem put_ex2 {q : Option Addr} (W : World) (h : IsM W q ex1) : Calls Tryz.prog 33 #[.agg #[.pointer q, .int .i64 1], .agg #[.int .i64 1, .int .i64 3], .agg #[.int .i64 0, .int .i64 0, .int .i32 97, .bool false]] W
    fun r w' => ∃ q, r = .returned (.tuple #[.agg #[.pointer q, .int .i64 2], .bool true]) ∧ IsM w' q ex2 ∧ Below W.heap.size W w' := by
  have := Put_any (p := q) (T := ex1) 1 3 exMA W h (by rw [els_ex1]; decide)
  rw [show putM ex1 1 3 exMA = ex2 from rfl, cnt_ex2, cnt_ex1] at this
  exact this

set_option maxHeartbeats 1600000 in
set_option maxRecDepth 100000 in
theorem awakeD_any (w : World) (ht : Tab w) :
    Calls Tryz.prog 15 #[] w fun e w' => e = .returned (.bool true) ∧ Below w.heap.size w w' := by
  have HTab := Lib.hid ht
  clear ht
  refine (callsIn_wide (n := 5)).1 (callsIn_of_wp_marks Tryz.func15 rfl trivial (wpIn_wide.2 ?_) rfl)
  simp only [Tryz.ntmps15, List.size_toArray, List.length_nil, Nat.reduceSub, Array.replicate_succ, Array.replicate_zero, List.push_toArray, List.append_toArray, List.nil_append, List.cons_append]
  go_wp2_with (go_at_call 33; refine (put_ex1 _).mono ?_; rintro e w1 ⟨q1, rfl, hq1, hb1⟩; refine Hid.out ?_)
  have hb1' : Below w.heap.size w (w1.alloc (.cells #[.pointer q1, .int .i64 1] 31)) := hb1.alloc hb1.size _
  have HA := Lib.hid (And.intro hb1' (And.intro (Blk.start w1 [.pointer q1, .int .i64 1] 31) (hq1.next ((Below.refl _ _).alloc (Nat.le_refl _) (.cells #[.pointer q1, .int .i64 1] 31)))))
  have m0 := HA.out.2.1.cell 0 rfl
  have m1 := HA.out.2.1.cell 1 rfl
  clear hb1' hq1
  refine Lib.hid ?_
  go_wp2_with (go_at_call 33; refine (put_ex2 _ HA.out.2.2).mono ?_; rintro e w2 ⟨q2, rfl, hq2, hb2⟩; refine Hid.out ?_)
  have hB2 := HA.out.2.1.next hb2
  have hset := (hB2.set 0 (.pointer q2)).set 1 (.int .i64 2)
  have hqs := (hq2.set hB2 (by decide) 0 (.pointer q2)).set (hB2.set 0 (.pointer q2)) (by decide) 1 (.int .i64 2)
  have hbs := ((HA.out.1.trans (hb2.mono HA.out.1.size)).setCell (p := ⟨w1.heap.size, 0, none⟩) hb1.size (.pointer q2)).setCell (p := ⟨w1.heap.size, 1, none⟩) hb1.size (.int .i64 2)
  have HB := Lib.hid (And.intro hbs (And.intro hset hqs.is))
  have z0 := hB2.cell 0 rfl
  have z1 := hB2.cell 1 rfl
  have y0 := hB2.free 0
  have y1 := hB2.free 1
  have a0 := fun o => (hset.alloc o).cell 0 rfl
  have a1 := fun o => (hset.alloc o).cell 1 rfl
  have b0 := fun o o' => ((hset.alloc o).alloc o').cell 0 rfl
  have b1 := fun o o' => ((hset.alloc o).alloc o').cell 1 rfl
  have ef := eqlFM
  clear hqs hset hbs hq2 hb1 hB2 hb2 HA m0 m1
  refine Lib.hid ?_
  go_wp2_with (go_at_call 34; refine (allM_any _ _ _).mono ?_; rintro e w' ⟨rfl, rfl⟩)
  have hsz : ((w2.setCell ⟨w1.heap.size, 0, none⟩ (.pointer q2)).setCell ⟨w1.heap.size, 1, none⟩ (.int .i64 2)).heap.size = w2.heap.size := by simp
  clear a0 a1 b0 b1 ef z0 z1 y0 y1
  generalize (w2.setCell ⟨w1.heap.size, 0, none⟩ (.pointer q2)).setCell ⟨w1.heap.size, 1, none⟩ (.int .i64 2) = W1 at *
  have hbk : Go.Boxed (((W1.alloc (.cells #[.string ⟨#[]⟩] 9)).alloc (.cells #[.pointer q2, .int .i64 2] 31)).alloc (.cells #[.pointer q2, .int .i64 2] 31)) w2.heap.size 9 (.string ⟨#[]⟩) := by rw [← hsz]; exact ((Go.Boxed.new W1 _ _).alloc _).alloc _
  have hbt := (Blk.startAt (W := (W1.alloc (.cells #[.string ⟨#[]⟩] 9)).alloc (.cells #[.pointer q2, .int .i64 2] 31)) (b := w2.heap.size + 1 + 1) (vs := [.pointer q2, .int .i64 2]) (t := 31) (by simp [hsz])).cell 0 rfl
  have hb3 : Below w2.heap.size W1 (((W1.alloc (.cells #[.string ⟨#[]⟩] 9)).alloc (.cells #[.pointer q2, .int .i64 2] 31)).alloc (.cells #[.pointer q2, .int .i64 2] 31)) := by rw [← hsz]; exact (((Below.refl _ _).alloc (Nat.le_refl _) _).alloc (by simp) _).alloc (by simp; omega) _
  have hz3 : w2.heap.size + 1 + 1 < (((W1.alloc (.cells #[.string ⟨#[]⟩] 9)).alloc (.cells #[.pointer q2, .int .i64 2] 31)).alloc (.cells #[.pointer q2, .int .i64 2] 31)).heap.size := by simp [hsz]
  generalize ((W1.alloc (.cells #[.string ⟨#[]⟩] 9)).alloc (.cells #[.pointer q2, .int .i64 2] 31)).alloc (.cells #[.pointer q2, .int .i64 2] 31) = W3 at *
  have hT3 : IsP w2.heap.size W3 q2 ex2 := by have := HB.out.2.2; unfold IsM at this; rw [hsz] at this; exact this.below hb3
  have HT3' := Lib.hid (show IsP w2.heap.size W1 q2 ex2 from by have := HB.out.2.2; unfold IsM at this; rwa [hsz] at this)
  have hww : w.heap.size ≤ w2.heap.size := by have := HB.out.1.size; omega
  have hbm : w1.heap.size < w2.heap.size := by have := HB.out.2.1.lt; omega
  have hmx : Tryz.prog.follows .mixedOrders = true := by kernel_rfl
  refine (wpIn_wide (n := 5)).1 ?_
  refine wpIn_rangeFunc_ownH rfl (by omega) (gf := 68) (lb := #[.pointer (some ⟨w2.heap.size + 1 + 1, 0, none⟩)]) rfl trivial (enters_of Tryz.func68 (by kernel_rfl) rfl)
    (allM_stops _ (w2.heap.size + 1 + 1) w2.heap.size q2 ex2 W3 hz3 (by omega) hbt hT3) belowK_t (belowK_b (by omega)) (Below.refl _ _) (fun _ => rfl)
    (fun pre W => Go.Boxed W w2.heap.size 9 (.string (sT (raw pre))) ∧ Below w2.heap.size W1 W)
    (fun _ _ _ => False)
    (OwnFrom.and (Own.from (boxed_own w2.heap.size 9 (fun pre : List (ElT ex2) => .string (sT (raw pre)))) _) (ownFrom_below (by omega) (by omega)))
    (fun _ _ _ _ _ hs _ _ => hs)
    ⟨hbk, hb3⟩
    (fun x a' W => ∃ Bi Be, Blk W Bi [.int .i64 (nmC x.1.1), .int .i64 (nmS x.1.1)] 24 ∧ Blk W Be (enL x.1.2) 78 ∧ a' = { tmps := #[Value.bool false, Value.pointer (some ⟨w1.heap.size, 0, none⟩), Value.bool true, Value.bool true, Value.pointer (some ⟨w2.heap.size, 0, none⟩), .pointer (some ⟨Bi, 0, none⟩), .pointer (some ⟨Be, 0, none⟩), Value.tuple #[Value.agg #[Value.pointer q1, Value.int IntKind.i64 1], Value.bool true], Value.agg #[Value.pointer none, Value.int IntKind.i64 0], Value.agg #[Value.int IntKind.i64 2, Value.int IntKind.i64 1], Value.agg #[Value.int IntKind.i64 0, Value.int IntKind.i64 0, Value.int IntKind.i32 98, Value.bool false], Value.tuple #[Value.agg #[Value.pointer q1, Value.int IntKind.i64 1], Value.bool true], Value.agg #[Value.pointer q1, Value.int IntKind.i64 1], Value.bool true, Value.tuple #[Value.agg #[Value.pointer q2, Value.int IntKind.i64 2], Value.bool true], Value.agg #[Value.pointer q1, Value.int IntKind.i64 1], Value.agg #[Value.int IntKind.i64 1, Value.int IntKind.i64 3], Value.agg #[Value.int IntKind.i64 0, Value.int IntKind.i64 0, Value.int IntKind.i32 97, Value.bool false], Value.tuple #[Value.agg #[Value.pointer q2, Value.int IntKind.i64 2], Value.bool true], Value.agg #[Value.pointer q2, Value.int IntKind.i64 2], Value.bool true, Value.agg #[Value.pointer q2, Value.int IntKind.i64 2], Value.func (Fn.func 68) #[] #[Value.pointer (some ⟨w2.heap.size + 1, 0, none⟩)], Value.bool false, Value.agg #[Value.pointer q2, Value.int IntKind.i64 2], Value.func (Fn.func 68) #[] #[Value.pointer (some ⟨w2.heap.size + 1 + 1, 0, none⟩)], .agg #[.int .i64 (nmC x.1.1), .int .i64 (nmS x.1.1)], .agg #[.int .i64 x.1.2.ac, .int .i64 x.1.2.an, .int .i32 x.1.2.ch, .bool x.1.2.d], undef, undef, undef, undef, undef, undef, undef, undef, undef, undef, undef, undef, undef, undef, undef, undef, undef, undef, undef, undef, undef, undef, undef, undef, undef], defers := [] })
    (fun x a' _ W W' row hs hg hr => by obtain ⟨Bi, Be, hb, hb', he⟩ := hs; exact ⟨Bi, Be, hb.grown hg (fun r e => (hr r e).2), hb'.grown hg (fun r e => (hr r e).2), he⟩)
    ?assign ?body ?done ?stop
  case assign =>
    rintro l' pre x W K ⟨hi1, hi3⟩ hK
    gi_wp2
    refine hK _ _ (((KeepsOthers.alloc _ _).trans (KeepsOthers.alloc _ _)).from _) (((Below.refl _ W).alloc (by have := hi1.lt; omega) _).alloc (by have := hi1.lt; simp; omega) _) ⟨(hi1.alloc _).alloc _, (hi3.alloc (by have := hi1.lt; omega) _).alloc (by have := hi1.lt; simp; omega) _⟩ ⟨W.heap.size, W.heap.size + 1, (Blk.start _ _ _).alloc _, Blk.startAt (by simp), rfl⟩
  case stop =>
    rintro D c pre W _ _ h _
    exact h.elim
  case body =>
    rintro l' pre ⟨v, hv⟩ a' W hl' - ⟨hi1, hi3⟩ ⟨Bi, Be, hbi, hbe, rfl⟩ hlt'
    have hvv := hv
    rw [els_ex2] at hvv
    simp only [List.mem_cons, List.not_mem_nil, or_false] at hvv
    have hn9 : w2.heap.size ≤ W.drew.heap.size := Nat.le_of_lt hi1.lt
    have hpl : (raw pre).length = pre.length := by simp
    rcases hvv with rfl | rfl
    · have hbi : Blk W Bi [.int .i64 1, .int .i64 3] 24 := by have h := hbi; simp only [nm_exA.1, nm_exA.2] at h; exact h
      have hR : AwR w2.heap.size W1 (sT (raw pre)) Bi Be 1 3 exMA W.drew := ⟨hi1, hi3.drew, hbi.drew, hbe.drew, (HTab.out.next (HB.out.1.trans (hi3.mono hww)).drew)⟩
      have HR := Lib.hid hR
      have hraw : raw (pre ++ [⟨(2, exMA), hv⟩]) = raw pre ++ [(2, exMA)] := by simp [raw]
      have hadd : ∀ X : World, (Op.stringOp .add (sT (raw pre)) ⟨#[49, 46, 51, 97]⟩).run Tryz.prog X = .ok (.string (sT (raw pre ++ [(2, exMA)]))) X := fun X => by rw [sT_snoc]; exact run_string_add_sum X _ _ (by rw [sT_size, hpl]; exact Nat.le_trans (Nat.add_le_add_right (Nat.mul_le_mul_left 4 (Nat.le_of_lt hlt')) _) (by rw [els_ex2]; decide))
      have hcell0 := hR.bs.cell
      clear hi1 hi3 hbi hbe hR hlt' hpl
      gi_wp2
      refine region_round (S := (fun X => X.cell? ⟨Bi, 0, none⟩ = some (.int .i64 1) ∧ X.cell? ⟨Bi, 1, none⟩ = some (.int .i64 3) ∧ X.cell? ⟨Be, 2, none⟩ = some (.int .i32 97))) hmx (by kernel_rfl) ((let h := HR.out.s; ⟨h.1, h.2.1, h.2.2.1⟩)) (fun hHeld => ?_)
      refine take1 (i := 1) (v := .agg #[.int .i64 1, .int .i64 3]) rfl (by kernel_rfl) (by kernel_rfl) (by kernel_rfl) (fun _ _ _ h => h) (Or.inl ⟨by rfl, fun w hSw => ?_⟩) hHeld ?_
      · (go_simp)
      try simp only [Act.put, List.setIfInBounds_toArray, List.set_cons_zero, List.set_cons_succ]
      refine take1 (i := 3) (v := .pointer (some ⟨Be, 2, none⟩)) rfl (by kernel_rfl) (by kernel_rfl) (by kernel_rfl) (fun _ _ _ h => h) (Or.inl ⟨by rfl, fun w hSw => ?_⟩) hHeld ?_
      · (go_simp)
      try simp only [Act.put, List.setIfInBounds_toArray, List.set_cons_zero, List.set_cons_succ]
      refine take1 (i := 4) (v := .int .i32 97) rfl (by kernel_rfl) (by kernel_rfl) (by kernel_rfl) (fun _ _ _ h => h) (Or.inl ⟨by rfl, fun w hSw => ?_⟩) hHeld ?_
      · (go_simp)
      try simp only [Act.put, List.setIfInBounds_toArray, List.set_cons_zero, List.set_cons_succ]
      refine take1 (i := 5) (v := .string ⟨#[97]⟩) rfl (by kernel_rfl) (by kernel_rfl) (by kernel_rfl) (fun _ _ _ h => h) (Or.inl ⟨by rfl, fun w hSw => ?_⟩) hHeld ?_
      · (go_simp; rfl)
      try simp only [Act.put, List.setIfInBounds_toArray, List.set_cons_zero, List.set_cons_succ]
      refine wpAnyH_ready (rs := [0, 2]) (by kernel_rfl) (by simp) ?_
      refine cons1 rfl (fun K hK => ?_) (cons1 rfl (fun K hK => ?_) AllReadyH.nil)
      · go_simp
        go_wp2_with fail
        refine hK.out _ _ (hHeld) (fun hHeld2 => ?_)
        clear hK K hHeld hcell0
        have hHeld := hHeld2
        clear hHeld2
        try simp only [Act.put, List.setIfInBounds_toArray, List.set_cons_zero, List.set_cons_succ]
        refine wpAnyH_ready (rs := [2]) (by kernel_rfl) (by simp) ?_
        refine cons1 rfl (fun K hK => ?_) AllReadyH.nil
        go_simp
        refine (string_yes 1 3 _ (by decide) HR.out.tab).mono ?_
        rintro e' X1 ⟨rfl, hb⟩
        rw [txtM_13]
        go_wp2_with fail
        refine hK.out _ _ ((let h := (HR.out.next hn9 hb).s; ⟨h.1, h.2.1, h.2.2.1⟩)) (fun hHeld2 => ?_)
        clear hK K hHeld 
        have hHeld := hHeld2
        clear hHeld2
        try simp only [Act.put, List.setIfInBounds_toArray, List.set_cons_zero, List.set_cons_succ]
        have HX := Lib.hid (HR.out.next hn9 hb)
        have HBB := Lib.hid hb
        have hcell := HX.out.bs.cell
        have hfree := HX.out.bs.frozen
        clear hb HR
        refine take1 (i := 6) (v := .string ⟨#[49, 46, 51, 97]⟩) rfl (by kernel_rfl) (by kernel_rfl) (by kernel_rfl) (fun _ _ _ h => h) (Or.inl ⟨by rfl, fun w hSw => ?_⟩) hHeld ?_
        · (go_simp; rfl)
        try simp only [Act.put, List.setIfInBounds_toArray, List.set_cons_zero, List.set_cons_succ]
        refine take1 (i := 7) (v := .string (sT (raw pre ++ [(2, exMA)]))) rfl (by kernel_rfl) (by kernel_rfl) (by kernel_rfl) (fun _ _ _ h => h) (Or.inl ⟨by rfl, fun w hSw => ?_⟩) hHeld ?_
        · (go_simp)
        try simp only [Act.put, List.setIfInBounds_toArray, List.set_cons_zero, List.set_cons_succ]
        refine wpAnyH_ready (rs := [8]) (by kernel_rfl) (by simp) ?_
        refine cons1 rfl (fun K hK => ?_) AllReadyH.nil
        go_simp
        go_wp2_with fail
        refine hK.out _ _ ((let h := HX.out.put (sT (raw pre ++ [(2, exMA)])); ⟨h.2.2.1.cell 0 rfl, h.2.2.1.cell 1 rfl, h.2.2.2.cell 2 rfl⟩)) (fun hHeld2 => ?_)
        clear hK K hHeld hcell hfree
        have hHeld := hHeld2
        clear hHeld2
        try simp only [Act.put, List.setIfInBounds_toArray, List.set_cons_zero, List.set_cons_succ]
        refine wpAnyH_done (by kernel_rfl) ?_ _
        refine OnlyN.normal ?_
        clear hHeld
        gi_wp2
        have HF := Lib.hid (HX.out.put (sT (raw pre ++ [(2, exMA)])))
        exact ⟨((KeepsOthers.drew _).trans ((keeps_of_below HBB.out).trans (KeepsOthers.setCell _ _ _))).from _, (((Below.refl _ _).drew.trans (HBB.out.mono hn9)).setCell (p := ⟨w2.heap.size, 0, none⟩) (Nat.le_refl _) _), by rw [hraw]; exact HF.out.1, HF.out.2.1⟩
      · go_simp
        refine (string_yes 1 3 _ (by decide) HR.out.tab).mono ?_
        rintro e' X1 ⟨rfl, hb⟩
        rw [txtM_13]
        go_wp2_with fail
        refine hK.out _ _ ((let h := (HR.out.next hn9 hb).s; ⟨h.1, h.2.1, h.2.2.1⟩)) (fun hHeld2 => ?_)
        clear hK K hHeld hcell0
        have hHeld := hHeld2
        clear hHeld2
        try simp only [Act.put, List.setIfInBounds_toArray, List.set_cons_zero, List.set_cons_succ]
        have HX := Lib.hid (HR.out.next hn9 hb)
        have HBB := Lib.hid hb
        have hcell := HX.out.bs.cell
        have hfree := HX.out.bs.frozen
        clear hb HR
        refine take1 (i := 6) (v := .string ⟨#[49, 46, 51, 97]⟩) rfl (by kernel_rfl) (by kernel_rfl) (by kernel_rfl) (fun _ _ _ h => h) (Or.inl ⟨by rfl, fun w hSw => ?_⟩) hHeld ?_
        · (go_simp; rfl)
        try simp only [Act.put, List.setIfInBounds_toArray, List.set_cons_zero, List.set_cons_succ]
        refine wpAnyH_ready (rs := [0]) (by kernel_rfl) (by simp) ?_
        refine cons1 rfl (fun K hK => ?_) AllReadyH.nil
        go_simp
        go_wp2_with fail
        refine hK.out _ _ (hHeld) (fun hHeld2 => ?_)
        clear hK K hHeld 
        have hHeld := hHeld2
        clear hHeld2
        try simp only [Act.put, List.setIfInBounds_toArray, List.set_cons_zero, List.set_cons_succ]
        refine take1 (i := 7) (v := .string (sT (raw pre ++ [(2, exMA)]))) rfl (by kernel_rfl) (by kernel_rfl) (by kernel_rfl) (fun _ _ _ h => h) (Or.inl ⟨by rfl, fun w hSw => ?_⟩) hHeld ?_
        · (go_simp)
        try simp only [Act.put, List.setIfInBounds_toArray, List.set_cons_zero, List.set_cons_succ]
        refine wpAnyH_ready (rs := [8]) (by kernel_rfl) (by simp) ?_
        refine cons1 rfl (fun K hK => ?_) AllReadyH.nil
        go_simp
        go_wp2_with fail
        refine hK.out _ _ ((let h := HX.out.put (sT (raw pre ++ [(2, exMA)])); ⟨h.2.2.1.cell 0 rfl, h.2.2.1.cell 1 rfl, h.2.2.2.cell 2 rfl⟩)) (fun hHeld2 => ?_)
        clear hK K hHeld hcell hfree
        have hHeld := hHeld2
        clear hHeld2
        try simp only [Act.put, List.setIfInBounds_toArray, List.set_cons_zero, List.set_cons_succ]
        refine wpAnyH_done (by kernel_rfl) ?_ _
        refine OnlyN.normal ?_
        clear hHeld
        gi_wp2
        have HF := Lib.hid (HX.out.put (sT (raw pre ++ [(2, exMA)])))
        exact ⟨((KeepsOthers.drew _).trans ((keeps_of_below HBB.out).trans (KeepsOthers.setCell _ _ _))).from _, (((Below.refl _ _).drew.trans (HBB.out.mono hn9)).setCell (p := ⟨w2.heap.size, 0, none⟩) (Nat.le_refl _) _), by rw [hraw]; exact HF.out.1, HF.out.2.1⟩
    · have hbi : Blk W Bi [.int .i64 2, .int .i64 1] 24 := by have h := hbi; simp only [nm_exB.1, nm_exB.2] at h; exact h
      have hR : AwR w2.heap.size W1 (sT (raw pre)) Bi Be 2 1 exMB W.drew := ⟨hi1, hi3.drew, hbi.drew, hbe.drew, (HTab.out.next (HB.out.1.trans (hi3.mono hww)).drew)⟩
      have HR := Lib.hid hR
      have hraw : raw (pre ++ [⟨(1024, exMB), hv⟩]) = raw pre ++ [(1024, exMB)] := by simp [raw]
      have hadd : ∀ X : World, (Op.stringOp .add (sT (raw pre)) ⟨#[50, 46, 49, 98]⟩).run Tryz.prog X = .ok (.string (sT (raw pre ++ [(1024, exMB)]))) X := fun X => by rw [sT_snoc]; exact run_string_add_sum X _ _ (by rw [sT_size, hpl]; exact Nat.le_trans (Nat.add_le_add_right (Nat.mul_le_mul_left 4 (Nat.le_of_lt hlt')) _) (by rw [els_ex2]; decide))
      have hcell0 := hR.bs.cell
      clear hi1 hi3 hbi hbe hR hlt' hpl
      gi_wp2
      refine region_round (S := (fun X => X.cell? ⟨Bi, 0, none⟩ = some (.int .i64 2) ∧ X.cell? ⟨Bi, 1, none⟩ = some (.int .i64 1) ∧ X.cell? ⟨Be, 2, none⟩ = some (.int .i32 98))) hmx (by kernel_rfl) ((let h := HR.out.s; ⟨h.1, h.2.1, h.2.2.1⟩)) (fun hHeld => ?_)
      refine take1 (i := 1) (v := .agg #[.int .i64 2, .int .i64 1]) rfl (by kernel_rfl) (by kernel_rfl) (by kernel_rfl) (fun _ _ _ h => h) (Or.inl ⟨by rfl, fun w hSw => ?_⟩) hHeld ?_
      · (go_simp)
      try simp only [Act.put, List.setIfInBounds_toArray, List.set_cons_zero, List.set_cons_succ]
      refine take1 (i := 3) (v := .pointer (some ⟨Be, 2, none⟩)) rfl (by kernel_rfl) (by kernel_rfl) (by kernel_rfl) (fun _ _ _ h => h) (Or.inl ⟨by rfl, fun w hSw => ?_⟩) hHeld ?_
      · (go_simp)
      try simp only [Act.put, List.setIfInBounds_toArray, List.set_cons_zero, List.set_cons_succ]
      refine take1 (i := 4) (v := .int .i32 98) rfl (by kernel_rfl) (by kernel_rfl) (by kernel_rfl) (fun _ _ _ h => h) (Or.inl ⟨by rfl, fun w hSw => ?_⟩) hHeld ?_
      · (go_simp)
      try simp only [Act.put, List.setIfInBounds_toArray, List.set_cons_zero, List.set_cons_succ]
      refine take1 (i := 5) (v := .string ⟨#[98]⟩) rfl (by kernel_rfl) (by kernel_rfl) (by kernel_rfl) (fun _ _ _ h => h) (Or.inl ⟨by rfl, fun w hSw => ?_⟩) hHeld ?_
      · (go_simp; rfl)
      try simp only [Act.put, List.setIfInBounds_toArray, List.set_cons_zero, List.set_cons_succ]
      refine wpAnyH_ready (rs := [0, 2]) (by kernel_rfl) (by simp) ?_
      refine cons1 rfl (fun K hK => ?_) (cons1 rfl (fun K hK => ?_) AllReadyH.nil)
      · go_simp
        go_wp2_with fail
        refine hK.out _ _ (hHeld) (fun hHeld2 => ?_)
        clear hK K hHeld hcell0
        have hHeld := hHeld2
        clear hHeld2
        try simp only [Act.put, List.setIfInBounds_toArray, List.set_cons_zero, List.set_cons_succ]
        refine wpAnyH_ready (rs := [2]) (by kernel_rfl) (by simp) ?_
        refine cons1 rfl (fun K hK => ?_) AllReadyH.nil
        go_simp
        refine (string_yes 2 1 _ (by decide) HR.out.tab).mono ?_
        rintro e' X1 ⟨rfl, hb⟩
        rw [txtM_21]
        go_wp2_with fail
        refine hK.out _ _ ((let h := (HR.out.next hn9 hb).s; ⟨h.1, h.2.1, h.2.2.1⟩)) (fun hHeld2 => ?_)
        clear hK K hHeld 
        have hHeld := hHeld2
        clear hHeld2
        try simp only [Act.put, List.setIfInBounds_toArray, List.set_cons_zero, List.set_cons_succ]
        have HX := Lib.hid (HR.out.next hn9 hb)
        have HBB := Lib.hid hb
        have hcell := HX.out.bs.cell
        have hfree := HX.out.bs.frozen
        clear hb HR
        refine take1 (i := 6) (v := .string ⟨#[50, 46, 49, 98]⟩) rfl (by kernel_rfl) (by kernel_rfl) (by kernel_rfl) (fun _ _ _ h => h) (Or.inl ⟨by rfl, fun w hSw => ?_⟩) hHeld ?_
        · (go_simp; rfl)
        try simp only [Act.put, List.setIfInBounds_toArray, List.set_cons_zero, List.set_cons_succ]
        refine take1 (i := 7) (v := .string (sT (raw pre ++ [(1024, exMB)]))) rfl (by kernel_rfl) (by kernel_rfl) (by kernel_rfl) (fun _ _ _ h => h) (Or.inl ⟨by rfl, fun w hSw => ?_⟩) hHeld ?_
        · (go_simp)
        try simp only [Act.put, List.setIfInBounds_toArray, List.set_cons_zero, List.set_cons_succ]
        refine wpAnyH_ready (rs := [8]) (by kernel_rfl) (by simp) ?_
        refine cons1 rfl (fun K hK => ?_) AllReadyH.nil
        go_simp
        go_wp2_with fail
        refine hK.out _ _ ((let h := HX.out.put (sT (raw pre ++ [(1024, exMB)])); ⟨h.2.2.1.cell 0 rfl, h.2.2.1.cell 1 rfl, h.2.2.2.cell 2 rfl⟩)) (fun hHeld2 => ?_)
        clear hK K hHeld hcell hfree
        have hHeld := hHeld2
        clear hHeld2
        try simp only [Act.put, List.setIfInBounds_toArray, List.set_cons_zero, List.set_cons_succ]
        refine wpAnyH_done (by kernel_rfl) ?_ _
        refine OnlyN.normal ?_
        clear hHeld
        gi_wp2
        have HF := Lib.hid (HX.out.put (sT (raw pre ++ [(1024, exMB)])))
        exact ⟨((KeepsOthers.drew _).trans ((keeps_of_below HBB.out).trans (KeepsOthers.setCell _ _ _))).from _, (((Below.refl _ _).drew.trans (HBB.out.mono hn9)).setCell (p := ⟨w2.heap.size, 0, none⟩) (Nat.le_refl _) _), by rw [hraw]; exact HF.out.1, HF.out.2.1⟩
      · go_simp
        refine (string_yes 2 1 _ (by decide) HR.out.tab).mono ?_
        rintro e' X1 ⟨rfl, hb⟩
        rw [txtM_21]
        go_wp2_with fail
        refine hK.out _ _ ((let h := (HR.out.next hn9 hb).s; ⟨h.1, h.2.1, h.2.2.1⟩)) (fun hHeld2 => ?_)
        clear hK K hHeld hcell0
        have hHeld := hHeld2
        clear hHeld2
        try simp only [Act.put, List.setIfInBounds_toArray, List.set_cons_zero, List.set_cons_succ]
        have HX := Lib.hid (HR.out.next hn9 hb)
        have HBB := Lib.hid hb
        have hcell := HX.out.bs.cell
        have hfree := HX.out.bs.frozen
        clear hb HR
        refine take1 (i := 6) (v := .string ⟨#[50, 46, 49, 98]⟩) rfl (by kernel_rfl) (by kernel_rfl) (by kernel_rfl) (fun _ _ _ h => h) (Or.inl ⟨by rfl, fun w hSw => ?_⟩) hHeld ?_
        · (go_simp; rfl)
        try simp only [Act.put, List.setIfInBounds_toArray, List.set_cons_zero, List.set_cons_succ]
        refine wpAnyH_ready (rs := [0]) (by kernel_rfl) (by simp) ?_
        refine cons1 rfl (fun K hK => ?_) AllReadyH.nil
        go_simp
        go_wp2_with fail
        refine hK.out _ _ (hHeld) (fun hHeld2 => ?_)
        clear hK K hHeld 
        have hHeld := hHeld2
        clear hHeld2
        try simp only [Act.put, List.setIfInBounds_toArray, List.set_cons_zero, List.set_cons_succ]
        refine take1 (i := 7) (v := .string (sT (raw pre ++ [(1024, exMB)]))) rfl (by kernel_rfl) (by kernel_rfl) (by kernel_rfl) (fun _ _ _ h => h) (Or.inl ⟨by rfl, fun w hSw => ?_⟩) hHeld ?_
        · (go_simp)
        try simp only [Act.put, List.setIfInBounds_toArray, List.set_cons_zero, List.set_cons_succ]
        refine wpAnyH_ready (rs := [8]) (by kernel_rfl) (by simp) ?_
        refine cons1 rfl (fun K hK => ?_) AllReadyH.nil
        go_simp
        go_wp2_with fail
        refine hK.out _ _ ((let h := HX.out.put (sT (raw pre ++ [(1024, exMB)])); ⟨h.2.2.1.cell 0 rfl, h.2.2.1.cell 1 rfl, h.2.2.2.cell 2 rfl⟩)) (fun hHeld2 => ?_)
        clear hK K hHeld hcell hfree
        have hHeld := hHeld2
        clear hHeld2
        try simp only [Act.put, List.setIfInBounds_toArray, List.set_cons_zero, List.set_cons_succ]
        refine wpAnyH_done (by kernel_rfl) ?_ _
        refine OnlyN.normal ?_
        clear hHeld
        gi_wp2
        have HF := Lib.hid (HX.out.put (sT (raw pre ++ [(1024, exMB)])))
        exact ⟨((KeepsOthers.drew _).trans ((keeps_of_below HBB.out).trans (KeepsOthers.setCell _ _ _))).from _, (((Below.refl _ _).drew.trans (HBB.out.mono hn9)).setCell (p := ⟨w2.heap.size, 0, none⟩) (Nat.le_refl _) _), by rw [hraw]; exact HF.out.1, HF.out.2.1⟩
  case done =>
    rintro D ys W hD hys ⟨hi1, hi3⟩ hK1
    have hs2 : sT (raw ys) = ⟨#[49, 46, 51, 97, 50, 46, 49, 98]⟩ := by rw [hys, els_ex2]; rfl
    rw [hs2] at hi1
    have hW := HB.out.1.trans (hi3.mono hww)
    have HS := Lib.hid (And.intro hW (And.intro hi1 (And.intro (HB.out.2.1.below hi3 hbm) (HT3'.out.below hi3))))
    have hD1 := Lib.hid hK1
    clear hi1 hi3 hs2 hW hys hK1
    go_wp2_with (go_at_call 31; refine (awake_any _ (HTab.out.next HS.out.1)).mono ?_; rintro e X1 ⟨rfl, hb⟩; refine Hid.out ?_)
    have HS1 := Lib.hid (And.intro (HS.out.1.trans (hb.mono HS.out.1.size)) (And.intro (Boxed.nextB HS.out.2.1 hb) (And.intro (HS.out.2.2.1.next hb) (And.intro (HS.out.2.2.2.is.next hb) ((hb.block D (Array.getElem?_eq_some_iff.1 hD1.out).1).trans hD1.out)))))
    clear HS hb hD1
    have hs := HS1.out.2.1.cell
    have m0 := HS1.out.2.2.1.cell 0 rfl
    have m1 := HS1.out.2.2.1.cell 1 rfl
    refine Lib.hid ?_
    go_wp2_with (go_at_call 36; refine (Last_any 2 _ HS1.out.2.2.2.1 full_ex2).mono ?_; rintro e X2 ⟨rfl, hb⟩; rw [last_ex2.1, last_ex2.2])
    have hd1 := (hb.block D (Array.getElem?_eq_some_iff.1 HS1.out.2.2.2.2).1).trans HS1.out.2.2.2.2
    have hbe : Below w.heap.size w (X2.putObj D (.deferred none)) := (HS1.out.1.trans (hb.mono HS1.out.1.size)).trans (belowK_b (w := w) (Nat.le_refl _) _ D _ _ (by have := HB.out.1.size; have := hb3.size; omega) hd1 rfl rfl)
    refine ⟨by simp, .inl ⟨_, _, rfl, run_takeDeferred hd1, ?_⟩⟩
    exact ⟨.bool true, by simp [results, Tryz.results15, go_sem], rfl, hbe⟩
end Go.Proofs.YtlnonnjpcajgjaaGreatDoor
namespace Go.Proofs.YtlnonnjpcajgjaaGreatDoor
open Go Go.Proofs Go.RowKit

/-- v is a slice of the entries L. -/
def IsR (W : World) (v : Value) (L : List Re) : Prop :=
  (v = .slice none 0 0 ∧ L = []) ∨ ∃ g cap cur, v = .slice (some ⟨g, 0, none⟩) L.length cap ∧ W.heap[g]? = some (.cells cur 69 (0, 0)) ∧ L.length ≤ cap ∧ cap ≤ maxLen ∧ cur.toList.take (L.length * 6) = L.flatMap reL
theorem IsR.next {W W' : World} {v : Value} {L : List Re} (h : IsR W v L) (hb : Below W.heap.size W W') : IsR W' v L := by
  rcases h with h | ⟨g, cap, cur, rfl, hg, h⟩
  · exact Or.inl h
  · exact Or.inr ⟨g, cap, cur, rfl, by rw [hb.block g (Array.getElem?_eq_some_iff.1 hg).1]; exact hg, h⟩
theorem IsR.form {W : World} {v : Value} {L : List Re} (h : IsR W v L) : ∃ a cap, v = .slice a L.length cap ∧ L.length ≤ cap ∧ cap ≤ 9223372036854775807 := by
  rcases h with ⟨rfl, rfl⟩ | ⟨g, cap, cur, rfl, _, h1, h2, _⟩
  · exact ⟨none, 0, rfl, Nat.le_refl _, by omega⟩
  · exact ⟨_, cap, rfl, h1, by unfold maxLen at h2; omega⟩
theorem re_flat : ∀ (l : List Re) (i j : Nat) (hi : i < l.length), j < 6 → (l.flatMap reL)[i * 6 + j]? = (reL l[i])[j]?
  | [], i, _, hi, _ => absurd hi (by simp)
  | x :: l, 0, j, _, hj => by
    simp only [List.flatMap_cons, Nat.zero_mul, Nat.zero_add, List.getElem_cons_zero]
    rw [List.getElem?_append_left (by simpa [reL] using hj)]
  | x :: l, i + 1, j, hi, hj => by
    have ih := re_flat l i j (by simpa using hi) hj
    simp only [List.flatMap_cons, List.getElem_cons_succ]
    rw [List.getElem?_append_right (by simp [reL]; omega), ← ih]
    congr 1
    simp [reL]
    omega
theorem IsR.cell {W : World} {a : Option Addr} {n cap : Nat} {L : List Re} (h : IsR W (.slice a n cap) L) (i : Nat) (hi : i < L.length) : ∃ g, a = some ⟨g, 0, none⟩ ∧ g < W.heap.size ∧ ∀ j, j < 6 → W.cell? ⟨g, i * 6 + j, none⟩ = (reL L[i])[j]? := by
  rcases h with ⟨_, rfl⟩ | ⟨g, cap', cur, hv, hg, h1, h2, h3⟩
  · cases hi
  · simp only [Value.slice.injEq] at hv
    obtain ⟨rfl, rfl, rfl⟩ := hv
    refine ⟨g, rfl, (Array.getElem?_eq_some_iff.1 hg).1, fun j hj => ?_⟩
    rw [← re_flat L i j hi hj, ← h3, List.getElem?_take_of_lt (by omega)]
    simp [World.cell?, hg]
def reC (O : List Re) : List Value := O.flatMap reL
theorem reC_snoc (O : List Re) (x : Re) : reC (O ++ [x]) = reC O ++ reL x := by simp [reC]
theorem IsR.of {W : World} {b : Nat} {v : Value} {L : List Re} (h : W.ownsRow b 69 6 v L.length (reC L)) : IsR W v L := by
  rcases h.2 with ⟨rfl, h0⟩ | ⟨g, cap, cur, rfl, _, hg, h1, h2, _, h3⟩
  · exact Or.inl ⟨rfl, List.eq_nil_of_length_eq_zero h0⟩
  · exact Or.inr ⟨g, cap, cur, rfl, hg, h1, h2, h3⟩
def zRe : Value := .agg #[.int .i64 0, .int .i64 0, .int .i64 0, .int .i64 0, .int .i32 0, .bool false]
theorem infoRe : (Tryz.prog.info? 69).map (fun i => (i.zero, i.size, i.bytes)) = some (some zRe, 6, 40) := by kernel_rfl
theorem cell_six_new (w : World) (x : Re) (t : TypeId) : ∀ j u, (reL x)[j]? = some u → (w.alloc (.cells ⟨reL x⟩ t)).cell? ((⟨w.heap.size, 0, none⟩ : Addr).add j) = some u := by
  intro j u hj
  have := (Blk.start w (reL x) t).cell j hj
  rw [show (⟨w.heap.size, 0, none⟩ : Addr).add j = ⟨w.heap.size, j, none⟩ by unfold Addr.add; split <;> simp_all]
  exact this
theorem six_one (x : Re) : ∀ u ∈ reL x, u.oneCell' = true := by
  intro u hu
  simp only [reL, List.mem_cons, List.not_mem_nil, or_false] at hu
  rcases hu with rfl | rfl | rfl | rfl | rfl | rfl <;> rfl

theorem rp_step {E x : Re} {l : List Re} {dn ins eq : Bool} (hi : (!dn && !lessB x.c x.s E.c E.s) = ins) (he : decide (x.c = E.c ∧ x.s = E.s) = eq) :
    rp E dn (x :: l) = (if ins = true then [E] else []) ++ ((if eq = true then [] else [x]) ++ rp E (dn || ins) l) := by
  subst hi
  subst he
  simp only [rp, decide_eq_true_eq]
/-- Where the loop of Put stands: what has been put out. -/
structure RpS (w : World) (E : Re) (O : List Re) (v : Value) (W : World) : Prop where
  bel : Below w.heap.size w W
  be : Blk W w.heap.size (reL E) 69
  own : W.ownsRow (w.heap.size + 1) 69 6 v O.length (reC O)
theorem RpS.next {w : World} {E : Re} {O : List Re} {v : Value} {W W' : World} (h : RpS w E O v W) (hb : Below W.heap.size W W') : RpS w E O v W' :=
  ⟨h.bel.trans (hb.mono h.bel.size), h.be.next hb, ownsRow_next h.own hb⟩
/-- Behind an append of an entry: the array of one that is appended lies in a block of its own. -/
theorem RpS.appended {w : World} {E : Re} {O : List Re} {v v' : Value} {W W' : World} {o : Obj} (h : RpS w E O v W) (x : Re) (ho : W'.ownsRow (w.heap.size + 1) 69 6 v' (O.length + 1) (reC O ++ reL x)) (hg : (W.alloc o).grownBy W' v.ownBlock) :
    RpS w E (O ++ [x]) v' W' := by
  have hlt := h.be.lt
  have hs : (W.alloc o).heap.size = W.heap.size + 1 := by simp
  have h1 : Below (w.heap.size + 1) (W.alloc o) W' := Below.of_grown hg (by omega) (own_ge h.own)
  have h0 := h.next ((Below.refl W.heap.size W).alloc (Nat.le_refl _) o)
  exact ⟨h0.bel.trans (h1.mono (by omega)), h0.be.below h1 (by omega), by rw [reC_snoc, List.length_append]; exact ho⟩
theorem RpS.len {w : World} {E : Re} {O : List Re} {v : Value} {W : World} (h : RpS w E O v W) : w.heap.size + 1 ≤ W.heap.size := h.be.lt

set_option maxHeartbeats 6400000 in
set_option maxRecDepth 100000 in
theorem refPut_any (E : Re) (L : List Re) (v0 : Value) (w : World) (hL : IsR w v0 L) (hl : L.length ≤ 1000) :
    Calls Tryz.prog 24 #[v0, .agg #[.int .i64 E.c, .int .i64 E.s, .int .i64 E.e.ac, .int .i64 E.e.an, .int .i32 E.e.ch, .bool E.e.d]] w
      fun r w' => ∃ v, r = .returned (.tuple #[v, .bool (mayB E.c E.s)]) ∧ IsR w' v (if mayB E.c E.s = true then rp E false L else L) ∧ Below w.heap.size w w' := by
  have hb0 := (Below.refl w.heap.size w).alloc (Nat.le_refl _) (.cells #[.int .i64 E.c, .int .i64 E.s, .int .i64 E.e.ac, .int .i64 E.e.an, .int .i32 E.e.ch, .bool E.e.d] 69)
  have H0 := Lib.hid (RpS.mk (E := E) (O := []) (v := .slice none 0 0) hb0 (Blk.start w _ _) (World.ownsRow_nil _ _ _ _))
  have HL := Lib.hid hL
  obtain ⟨a, cap, rfl, hc1, hc2⟩ := hL.form
  clear hL hb0
  by_cases h : mayB E.c E.s = true
  · rw [if_pos h, h]
    go_enter Tryz.func24, Tryz.ntmps24
    go_wp2_with (go_at_call 47; refine (may_any _ _ _).mono ?_; rintro e' w1 ⟨rfl, hb⟩; rw [h]; refine Hid.out ?_)
    have H1 := Lib.hid (H0.out.next hb)
    clear H0 hb
    refine Lib.hid ?_
    go_wp2_with fail
    go_loopg [6, 7, 8] L.length (fun g tv tdn ti wr => ∃ k : Nat, k ≤ L.length ∧ g = L.length - k ∧ ti = .int .i64 (k : Int) ∧ ∃ (O : List Re) (dn : Bool), tdn = .bool dn ∧ O.length ≤ k + dn.toNat ∧ O ++ rp E dn (L.drop k) = rp E false L ∧ RpS w E O tv wr)
    case atStart => exact ⟨0, Nat.zero_le _, rfl, rfl, [], false, rfl, Nat.zero_le _, by simp, H1.out⟩
    case round =>
      obtain ⟨k, hk, rfl, rfl, O, dn, rfl, hO, hrp, hS⟩ := hrel
      clear H1
      have HS := Lib.hid hS
      clear hS
      obtain ⟨i0, hi, hz0, hz1, hz2⟩ := info_parts infoRe
      by_cases hlt : k < L.length
      · rw [List.drop_eq_getElem_cons hlt] at hrp
        have HX := Lib.hid (fun (W : World) (hb : Below w.heap.size w W) => (HL.out.next hb).cell k hlt)
        obtain ⟨g, rfl, hg, -⟩ := HL.out.cell k hlt
        generalize L[k] = x at *
        have HC := Lib.hid (fun (W : World) (hb : Below w.heap.size w W) => show W.cell? ⟨g, k * 6, none⟩ = some (.int .i64 x.c) ∧ W.cell? ⟨g, k * 6 + 1, none⟩ = some (.int .i64 x.s) ∧ W.cell? ⟨g, k * 6 + 2, none⟩ = some (.int .i64 x.e.ac) ∧ W.cell? ⟨g, k * 6 + 3, none⟩ = some (.int .i64 x.e.an) ∧ W.cell? ⟨g, k * 6 + 4, none⟩ = some (.int .i32 x.e.ch) ∧ W.cell? ⟨g, k * 6 + 5, none⟩ = some (.bool x.e.d) from by
          obtain ⟨g', e, -, hj⟩ := HX.out W hb
          cases e
          exact ⟨hj 0 (by omega), hj 1 (by omega), hj 2 (by omega), hj 3 (by omega), hj 4 (by omega), hj 5 (by omega)⟩)
        clear HX
        have HP := Lib.hid hrp
        clear hrp
        go_wp2_with fail
        cases dn with
        | true =>
          have hO : O.length ≤ k + 1 := hO
          refine wp_region_noPanic ?_
          refine wp_region_held_drew (S := (fun W => W.cell? ⟨g, k * 6, none⟩ = some (.int .i64 x.c) ∧ W.cell? ⟨g, k * 6 + 1, none⟩ = some (.int .i64 x.s) ∧ W.cell? ⟨w.heap.size, 0, none⟩ = some (.int .i64 E.c) ∧ W.cell? ⟨w.heap.size, 1, none⟩ = some (.int .i64 E.s) ∧ RpS w E O u6 W)) (by kernel_rfl) ?_ (fun hHeld => ?_)
          · exact (let h := HS.out.next (Below.refl _ _).drew; let c := HC.out _ h.bel; ⟨c.1, c.2.1, h.be.cell 0 rfl, h.be.cell 1 rfl, h⟩)
          clear HS
          refine take1 (i := 0) (v := .bool true) rfl (by kernel_rfl) (by kernel_rfl) (by kernel_rfl) (fun _ _ _ h => h) (Or.inl ⟨by rfl, fun w hSw => ?_⟩) hHeld ?_
          · (go_simp)
          try simp only [Act.put, List.setIfInBounds_toArray, List.set_cons_zero, List.set_cons_succ]
          refine take1 (i := 1) (v := .bool false) rfl (by kernel_rfl) (by kernel_rfl) (by kernel_rfl) (fun _ _ _ h => h) (Or.inl ⟨by rfl, fun w hSw => ?_⟩) hHeld ?_
          · (go_simp)
          try simp only [Act.put, List.setIfInBounds_toArray, List.set_cons_zero, List.set_cons_succ]
          refine take1 (i := 2) (v := .bool false) rfl (by kernel_rfl) (by kernel_rfl) (by kernel_rfl) (fun _ _ _ h => h) (Or.inl ⟨by rfl, fun w hSw => ?_⟩) hHeld ?_
          · (go_simp)
          try simp only [Act.put, List.setIfInBounds_toArray, List.set_cons_zero, List.set_cons_succ]
          refine take1 (i := 3) (v := undef) rfl (by kernel_rfl) (by kernel_rfl) (by kernel_rfl) (fun _ _ _ h => h) (Or.inr ⟨by rfl, rfl⟩) hHeld ?_
          try simp only [Act.put, List.setIfInBounds_toArray, List.set_cons_zero, List.set_cons_succ]
          refine take1 (i := 4) (v := undef) rfl (by kernel_rfl) (by kernel_rfl) (by kernel_rfl) (fun _ _ _ h => h) (Or.inr ⟨by rfl, rfl⟩) hHeld ?_
          try simp only [Act.put, List.setIfInBounds_toArray, List.set_cons_zero, List.set_cons_succ]
          refine take1 (i := 5) (v := undef) rfl (by kernel_rfl) (by kernel_rfl) (by kernel_rfl) (fun _ _ _ h => h) (Or.inr ⟨by rfl, rfl⟩) hHeld ?_
          try simp only [Act.put, List.setIfInBounds_toArray, List.set_cons_zero, List.set_cons_succ]
          refine take1 (i := 6) (v := undef) rfl (by kernel_rfl) (by kernel_rfl) (by kernel_rfl) (fun _ _ _ h => h) (Or.inr ⟨by rfl, rfl⟩) hHeld ?_
          try simp only [Act.put, List.setIfInBounds_toArray, List.set_cons_zero, List.set_cons_succ]
          refine take1 (i := 7) (v := undef) rfl (by kernel_rfl) (by kernel_rfl) (by kernel_rfl) (fun _ _ _ h => h) (Or.inr ⟨by rfl, rfl⟩) hHeld ?_
          try simp only [Act.put, List.setIfInBounds_toArray, List.set_cons_zero, List.set_cons_succ]
          refine take1 (i := 8) (v := undef) rfl (by kernel_rfl) (by kernel_rfl) (by kernel_rfl) (fun _ _ _ h => h) (Or.inr ⟨by rfl, rfl⟩) hHeld ?_
          try simp only [Act.put, List.setIfInBounds_toArray, List.set_cons_zero, List.set_cons_succ]
          refine take1 (i := 9) (v := undef) rfl (by kernel_rfl) (by kernel_rfl) (by kernel_rfl) (fun _ _ _ h => h) (Or.inr ⟨by rfl, rfl⟩) hHeld ?_
          try simp only [Act.put, List.setIfInBounds_toArray, List.set_cons_zero, List.set_cons_succ]
          refine take1 (i := 10) (v := undef) rfl (by kernel_rfl) (by kernel_rfl) (by kernel_rfl) (fun _ _ _ h => h) (Or.inr ⟨by rfl, rfl⟩) hHeld ?_
          try simp only [Act.put, List.setIfInBounds_toArray, List.set_cons_zero, List.set_cons_succ]
          refine take1 (i := 11) (v := undef) rfl (by kernel_rfl) (by kernel_rfl) (by kernel_rfl) (fun _ _ _ h => h) (Or.inr ⟨by rfl, rfl⟩) hHeld ?_
          try simp only [Act.put, List.setIfInBounds_toArray, List.set_cons_zero, List.set_cons_succ]
          refine take1 (i := 12) (v := .bool false) rfl (by kernel_rfl) (by kernel_rfl) (by kernel_rfl) (fun _ _ _ h => h) (Or.inl ⟨by rfl, fun w hSw => ?_⟩) hHeld ?_
          · (go_simp)
          try simp only [Act.put, List.setIfInBounds_toArray, List.set_cons_zero, List.set_cons_succ]
          refine wpAnyH_done (by kernel_rfl) ?_ _
          refine NoPanic.normal ?_
          have HS := Lib.hid hHeld.2.2.2.2
          clear hHeld
          by_cases hc : x.c = E.c
          · by_cases hs : x.s = E.s
            · have hcb : (x.c == E.c) = true := by simpa using hc
              have hsb : (x.s == E.s) = true := by simpa using hs
              have hcs := Lib.hid (And.intro hc hs)
              clear hc hs
              go_wp2_with fail
              refine wp_region_noPanic ?_
              refine wp_region_held_drew (S := (fun W => W.cell? ⟨g, k * 6, none⟩ = some (.int .i64 x.c) ∧ W.cell? ⟨g, k * 6 + 1, none⟩ = some (.int .i64 x.s) ∧ W.cell? ⟨w.heap.size, 0, none⟩ = some (.int .i64 E.c) ∧ W.cell? ⟨w.heap.size, 1, none⟩ = some (.int .i64 E.s) ∧ RpS w E O u6 W)) (by kernel_rfl) ?_ (fun hHeld => ?_)
              · exact (let h := HS.out.next (Below.refl _ _).drew; let c := HC.out _ h.bel; ⟨c.1, c.2.1, h.be.cell 0 rfl, h.be.cell 1 rfl, h⟩)
              clear HS
              refine take1 (i := 0) (v := .slice (some ⟨g, 0, none⟩) L.length cap) rfl (by kernel_rfl) (by kernel_rfl) (by kernel_rfl) (fun _ _ _ h => h) (Or.inl ⟨by rfl, fun w hSw => ?_⟩) hHeld ?_
              · (go_simp)
              try simp only [Act.put, List.setIfInBounds_toArray, List.set_cons_zero, List.set_cons_succ]
              refine take1 (i := 1) (v := .int .i64 (k : Int)) rfl (by kernel_rfl) (by kernel_rfl) (by kernel_rfl) (fun _ _ _ h => h) (Or.inl ⟨by rfl, fun w hSw => ?_⟩) hHeld ?_
              · (go_simp)
              try simp only [Act.put, List.setIfInBounds_toArray, List.set_cons_zero, List.set_cons_succ]
              refine take1 (i := 2) (v := .pointer (some ⟨g, k * 6, none⟩)) rfl (by kernel_rfl) (by kernel_rfl) (by kernel_rfl) (fun _ _ _ h => h) (Or.inl ⟨by rfl, fun w hSw => ?_⟩) hHeld ?_
              · (go_simp)
              try simp only [Act.put, List.setIfInBounds_toArray, List.set_cons_zero, List.set_cons_succ]
              refine take1 (i := 3) (v := .pointer (some ⟨g, k * 6, none⟩)) rfl (by kernel_rfl) (by kernel_rfl) (by kernel_rfl) (fun _ _ _ h => h) (Or.inl ⟨by rfl, fun w hSw => ?_⟩) hHeld ?_
              · (go_simp)
              try simp only [Act.put, List.setIfInBounds_toArray, List.set_cons_zero, List.set_cons_succ]
              refine take1 (i := 4) (v := .agg #[.int .i64 x.c, .int .i64 x.s]) rfl (by kernel_rfl) (by kernel_rfl) (by kernel_rfl) (fun _ _ _ h => h) (Or.inl ⟨by rfl, fun w hSw => ?_⟩) hHeld ?_
              · (go_simp)
              try simp only [Act.put, List.setIfInBounds_toArray, List.set_cons_zero, List.set_cons_succ]
              refine take1 (i := 5) (v := .pointer (some ⟨w.heap.size, 0, none⟩)) rfl (by kernel_rfl) (by kernel_rfl) (by kernel_rfl) (fun _ _ _ h => h) (Or.inl ⟨by rfl, fun w hSw => ?_⟩) hHeld ?_
              · (go_simp)
              try simp only [Act.put, List.setIfInBounds_toArray, List.set_cons_zero, List.set_cons_succ]
              refine take1 (i := 6) (v := .agg #[.int .i64 E.c, .int .i64 E.s]) rfl (by kernel_rfl) (by kernel_rfl) (by kernel_rfl) (fun _ _ _ h => h) (Or.inl ⟨by rfl, fun w hSw => ?_⟩) hHeld ?_
              · (go_simp)
              try simp only [Act.put, List.setIfInBounds_toArray, List.set_cons_zero, List.set_cons_succ]
              refine take1 (i := 7) (v := .bool false) rfl (by kernel_rfl) (by kernel_rfl) (by kernel_rfl) (fun _ _ _ h => h) (Or.inl ⟨by rfl, fun w hSw => ?_⟩) hHeld ?_
              · (go_simp)
              try simp only [Act.put, List.setIfInBounds_toArray, List.set_cons_zero, List.set_cons_succ]
              refine wpAnyH_done (by kernel_rfl) ?_ _
              refine NoPanic.normal ?_
              have HS := Lib.hid hHeld.2.2.2.2
              clear hHeld
              go_wp2_with fail
              have hcs := hcs.out
              go_roundg (L.length - (k + 1))
              case measure => omega
              case rel => exact ⟨k + 1, by omega, rfl, by go_num, O, true, rfl, by (first | omega | (simp only [Bool.toNat_true, List.length_append, List.length_cons, List.length_nil]; omega)), by rw [← HP.out, rp_step (ins := false) (eq := true) (by rfl) (decide_eq_true hcs)]; simp, HS.out⟩
            · have hcb : (x.c == E.c) = true := by simpa using hc
              have hsb : (x.s == E.s) = false := by simpa using hs
              have hcs := Lib.hid (show ¬ (x.c = E.c ∧ x.s = E.s) from fun h => hs h.2)
              clear hc hs
              go_wp2_with fail
              refine wp_region_noPanic ?_
              refine wp_region_held_drew (S := (fun W => W.cell? ⟨g, k * 6, none⟩ = some (.int .i64 x.c) ∧ W.cell? ⟨g, k * 6 + 1, none⟩ = some (.int .i64 x.s) ∧ W.cell? ⟨w.heap.size, 0, none⟩ = some (.int .i64 E.c) ∧ W.cell? ⟨w.heap.size, 1, none⟩ = some (.int .i64 E.s) ∧ RpS w E O u6 W)) (by kernel_rfl) ?_ (fun hHeld => ?_)
              · exact (let h := HS.out.next (Below.refl _ _).drew; let c := HC.out _ h.bel; ⟨c.1, c.2.1, h.be.cell 0 rfl, h.be.cell 1 rfl, h⟩)
              clear HS
              refine take1 (i := 0) (v := .slice (some ⟨g, 0, none⟩) L.length cap) rfl (by kernel_rfl) (by kernel_rfl) (by kernel_rfl) (fun _ _ _ h => h) (Or.inl ⟨by rfl, fun w hSw => ?_⟩) hHeld ?_
              · (go_simp)
              try simp only [Act.put, List.setIfInBounds_toArray, List.set_cons_zero, List.set_cons_succ]
              refine take1 (i := 1) (v := .int .i64 (k : Int)) rfl (by kernel_rfl) (by kernel_rfl) (by kernel_rfl) (fun _ _ _ h => h) (Or.inl ⟨by rfl, fun w hSw => ?_⟩) hHeld ?_
              · (go_simp)
              try simp only [Act.put, List.setIfInBounds_toArray, List.set_cons_zero, List.set_cons_succ]
              refine take1 (i := 2) (v := .pointer (some ⟨g, k * 6, none⟩)) rfl (by kernel_rfl) (by kernel_rfl) (by kernel_rfl) (fun _ _ _ h => h) (Or.inl ⟨by rfl, fun w hSw => ?_⟩) hHeld ?_
              · (go_simp)
              try simp only [Act.put, List.setIfInBounds_toArray, List.set_cons_zero, List.set_cons_succ]
              refine take1 (i := 3) (v := .pointer (some ⟨g, k * 6, none⟩)) rfl (by kernel_rfl) (by kernel_rfl) (by kernel_rfl) (fun _ _ _ h => h) (Or.inl ⟨by rfl, fun w hSw => ?_⟩) hHeld ?_
              · (go_simp)
              try simp only [Act.put, List.setIfInBounds_toArray, List.set_cons_zero, List.set_cons_succ]
              refine take1 (i := 4) (v := .agg #[.int .i64 x.c, .int .i64 x.s]) rfl (by kernel_rfl) (by kernel_rfl) (by kernel_rfl) (fun _ _ _ h => h) (Or.inl ⟨by rfl, fun w hSw => ?_⟩) hHeld ?_
              · (go_simp)
              try simp only [Act.put, List.setIfInBounds_toArray, List.set_cons_zero, List.set_cons_succ]
              refine take1 (i := 5) (v := .pointer (some ⟨w.heap.size, 0, none⟩)) rfl (by kernel_rfl) (by kernel_rfl) (by kernel_rfl) (fun _ _ _ h => h) (Or.inl ⟨by rfl, fun w hSw => ?_⟩) hHeld ?_
              · (go_simp)
              try simp only [Act.put, List.setIfInBounds_toArray, List.set_cons_zero, List.set_cons_succ]
              refine take1 (i := 6) (v := .agg #[.int .i64 E.c, .int .i64 E.s]) rfl (by kernel_rfl) (by kernel_rfl) (by kernel_rfl) (fun _ _ _ h => h) (Or.inl ⟨by rfl, fun w hSw => ?_⟩) hHeld ?_
              · (go_simp)
              try simp only [Act.put, List.setIfInBounds_toArray, List.set_cons_zero, List.set_cons_succ]
              refine take1 (i := 7) (v := .bool true) rfl (by kernel_rfl) (by kernel_rfl) (by kernel_rfl) (fun _ _ _ h => h) (Or.inl ⟨by rfl, fun w hSw => ?_⟩) hHeld ?_
              · (go_simp)
              try simp only [Act.put, List.setIfInBounds_toArray, List.set_cons_zero, List.set_cons_succ]
              refine wpAnyH_done (by kernel_rfl) ?_ _
              refine NoPanic.normal ?_
              have HS := Lib.hid hHeld.2.2.2.2
              clear hHeld
              obtain ⟨x0, x1, x2, x3, x4, x5⟩ := HC.out _ HS.out.bel
              go_wp2_with (at_builtin; refine wpList_append_own _ rfl _ _ 65 rfl (w.heap.size + 1) 69 i0 zRe 6 40 Tryz.underlying65 hi hz0 hz1 hz2 rfl (by decide) _ _ _ rfl (HS.out.own.alloc _) ⟨_, 0, none⟩ 1 1 (reL x) rfl rfl (cell_six_new _ _ _) (six_one x) (by unfold maxLen; omega) (by omega) (by have hlen := HS.out.len; (try simp only [drew_size] at hlen); simp; omega) ?_; intro v' W' hown' hgrow _; refine Hid.out ?_)
              have HS2 := Lib.hid (HS.out.appended x hown' hgrow)
              clear HS hown' hgrow
              have HS := HS2
              clear HS2
              refine Lib.hid ?_
              clear x0 x1 x2 x3 x4 x5
              go_wp2_with fail
              have hcs := hcs.out
              go_roundg (L.length - (k + 1))
              case measure => omega
              case rel => exact ⟨k + 1, by omega, rfl, by go_num, (O ++ [x]), true, rfl, by (first | omega | (simp only [Bool.toNat_true, List.length_append, List.length_cons, List.length_nil]; omega)), by rw [← HP.out, rp_step (ins := false) (eq := false) (by rfl) (decide_eq_false hcs)]; simp, HS.out⟩
          · have hcb : (x.c == E.c) = false := by simpa using hc
            have hcs := Lib.hid (show ¬ (x.c = E.c ∧ x.s = E.s) from fun h => hc h.1)
            clear hc
            go_wp2_with fail
            refine wp_region_noPanic ?_
            refine wp_region_held_drew (S := (fun W => W.cell? ⟨g, k * 6, none⟩ = some (.int .i64 x.c) ∧ W.cell? ⟨g, k * 6 + 1, none⟩ = some (.int .i64 x.s) ∧ W.cell? ⟨w.heap.size, 0, none⟩ = some (.int .i64 E.c) ∧ W.cell? ⟨w.heap.size, 1, none⟩ = some (.int .i64 E.s) ∧ RpS w E O u6 W)) (by kernel_rfl) ?_ (fun hHeld => ?_)
            · exact (let h := HS.out.next (Below.refl _ _).drew; let c := HC.out _ h.bel; ⟨c.1, c.2.1, h.be.cell 0 rfl, h.be.cell 1 rfl, h⟩)
            clear HS
            refine take1 (i := 0) (v := .slice (some ⟨g, 0, none⟩) L.length cap) rfl (by kernel_rfl) (by kernel_rfl) (by kernel_rfl) (fun _ _ _ h => h) (Or.inl ⟨by rfl, fun w hSw => ?_⟩) hHeld ?_
            · (go_simp)
            try simp only [Act.put, List.setIfInBounds_toArray, List.set_cons_zero, List.set_cons_succ]
            refine take1 (i := 1) (v := .int .i64 (k : Int)) rfl (by kernel_rfl) (by kernel_rfl) (by kernel_rfl) (fun _ _ _ h => h) (Or.inl ⟨by rfl, fun w hSw => ?_⟩) hHeld ?_
            · (go_simp)
            try simp only [Act.put, List.setIfInBounds_toArray, List.set_cons_zero, List.set_cons_succ]
            refine take1 (i := 2) (v := .pointer (some ⟨g, k * 6, none⟩)) rfl (by kernel_rfl) (by kernel_rfl) (by kernel_rfl) (fun _ _ _ h => h) (Or.inl ⟨by rfl, fun w hSw => ?_⟩) hHeld ?_
            · (go_simp)
            try simp only [Act.put, List.setIfInBounds_toArray, List.set_cons_zero, List.set_cons_succ]
            refine take1 (i := 3) (v := .pointer (some ⟨g, k * 6, none⟩)) rfl (by kernel_rfl) (by kernel_rfl) (by kernel_rfl) (fun _ _ _ h => h) (Or.inl ⟨by rfl, fun w hSw => ?_⟩) hHeld ?_
            · (go_simp)
            try simp only [Act.put, List.setIfInBounds_toArray, List.set_cons_zero, List.set_cons_succ]
            refine take1 (i := 4) (v := .agg #[.int .i64 x.c, .int .i64 x.s]) rfl (by kernel_rfl) (by kernel_rfl) (by kernel_rfl) (fun _ _ _ h => h) (Or.inl ⟨by rfl, fun w hSw => ?_⟩) hHeld ?_
            · (go_simp)
            try simp only [Act.put, List.setIfInBounds_toArray, List.set_cons_zero, List.set_cons_succ]
            refine take1 (i := 5) (v := .pointer (some ⟨w.heap.size, 0, none⟩)) rfl (by kernel_rfl) (by kernel_rfl) (by kernel_rfl) (fun _ _ _ h => h) (Or.inl ⟨by rfl, fun w hSw => ?_⟩) hHeld ?_
            · (go_simp)
            try simp only [Act.put, List.setIfInBounds_toArray, List.set_cons_zero, List.set_cons_succ]
            refine take1 (i := 6) (v := .agg #[.int .i64 E.c, .int .i64 E.s]) rfl (by kernel_rfl) (by kernel_rfl) (by kernel_rfl) (fun _ _ _ h => h) (Or.inl ⟨by rfl, fun w hSw => ?_⟩) hHeld ?_
            · (go_simp)
            try simp only [Act.put, List.setIfInBounds_toArray, List.set_cons_zero, List.set_cons_succ]
            refine take1 (i := 7) (v := .bool true) rfl (by kernel_rfl) (by kernel_rfl) (by kernel_rfl) (fun _ _ _ h => h) (Or.inl ⟨by rfl, fun w hSw => ?_⟩) hHeld ?_
            · (go_simp)
            try simp only [Act.put, List.setIfInBounds_toArray, List.set_cons_zero, List.set_cons_succ]
            refine wpAnyH_done (by kernel_rfl) ?_ _
            refine NoPanic.normal ?_
            have HS := Lib.hid hHeld.2.2.2.2
            clear hHeld
            obtain ⟨x0, x1, x2, x3, x4, x5⟩ := HC.out _ HS.out.bel
            go_wp2_with (at_builtin; refine wpList_append_own _ rfl _ _ 65 rfl (w.heap.size + 1) 69 i0 zRe 6 40 Tryz.underlying65 hi hz0 hz1 hz2 rfl (by decide) _ _ _ rfl (HS.out.own.alloc _) ⟨_, 0, none⟩ 1 1 (reL x) rfl rfl (cell_six_new _ _ _) (six_one x) (by unfold maxLen; omega) (by omega) (by have hlen := HS.out.len; (try simp only [drew_size] at hlen); simp; omega) ?_; intro v' W' hown' hgrow _; refine Hid.out ?_)
            have HS2 := Lib.hid (HS.out.appended x hown' hgrow)
            clear HS hown' hgrow
            have HS := HS2
            clear HS2
            refine Lib.hid ?_
            clear x0 x1 x2 x3 x4 x5
            go_wp2_with fail
            have hcs := hcs.out
            go_roundg (L.length - (k + 1))
            case measure => omega
            case rel => exact ⟨k + 1, by omega, rfl, by go_num, (O ++ [x]), true, rfl, by (first | omega | (simp only [Bool.toNat_true, List.length_append, List.length_cons, List.length_nil]; omega)), by rw [← HP.out, rp_step (ins := false) (eq := false) (by rfl) (decide_eq_false hcs)]; simp, HS.out⟩
        | false =>
          have hO : O.length ≤ k := hO
          cases hless : lessB x.c x.s E.c E.s with
          | true =>
            refine wp_region_noPanic ?_
            refine wp_region_held_drew (S := (fun W => W.cell? ⟨g, k * 6, none⟩ = some (.int .i64 x.c) ∧ W.cell? ⟨g, k * 6 + 1, none⟩ = some (.int .i64 x.s) ∧ W.cell? ⟨w.heap.size, 0, none⟩ = some (.int .i64 E.c) ∧ W.cell? ⟨w.heap.size, 1, none⟩ = some (.int .i64 E.s) ∧ RpS w E O u6 W)) (by kernel_rfl) ?_ (fun hHeld => ?_)
            · exact (let h := HS.out.next (Below.refl _ _).drew; let c := HC.out _ h.bel; ⟨c.1, c.2.1, h.be.cell 0 rfl, h.be.cell 1 rfl, h⟩)
            clear HS
            refine take1 (i := 0) (v := .bool false) rfl (by kernel_rfl) (by kernel_rfl) (by kernel_rfl) (fun _ _ _ h => h) (Or.inl ⟨by rfl, fun w hSw => ?_⟩) hHeld ?_
            · (go_simp)
            try simp only [Act.put, List.setIfInBounds_toArray, List.set_cons_zero, List.set_cons_succ]
            refine take1 (i := 1) (v := .bool true) rfl (by kernel_rfl) (by kernel_rfl) (by kernel_rfl) (fun _ _ _ h => h) (Or.inl ⟨by rfl, fun w hSw => ?_⟩) hHeld ?_
            · (go_simp)
            try simp only [Act.put, List.setIfInBounds_toArray, List.set_cons_zero, List.set_cons_succ]
            refine take1 (i := 2) (v := .bool true) rfl (by kernel_rfl) (by kernel_rfl) (by kernel_rfl) (fun _ _ _ h => h) (Or.inl ⟨by rfl, fun w hSw => ?_⟩) hHeld ?_
            · (go_simp)
            try simp only [Act.put, List.setIfInBounds_toArray, List.set_cons_zero, List.set_cons_succ]
            refine take1 (i := 3) (v := .slice (some ⟨g, 0, none⟩) L.length cap) rfl (by kernel_rfl) (by kernel_rfl) (by kernel_rfl) (fun _ _ _ h => h) (Or.inl ⟨by rfl, fun w hSw => ?_⟩) hHeld ?_
            · (go_simp)
            try simp only [Act.put, List.setIfInBounds_toArray, List.set_cons_zero, List.set_cons_succ]
            refine take1 (i := 4) (v := .int .i64 (k : Int)) rfl (by kernel_rfl) (by kernel_rfl) (by kernel_rfl) (fun _ _ _ h => h) (Or.inl ⟨by rfl, fun w hSw => ?_⟩) hHeld ?_
            · (go_simp)
            try simp only [Act.put, List.setIfInBounds_toArray, List.set_cons_zero, List.set_cons_succ]
            refine take1 (i := 5) (v := .pointer (some ⟨g, k * 6, none⟩)) rfl (by kernel_rfl) (by kernel_rfl) (by kernel_rfl) (fun _ _ _ h => h) (Or.inl ⟨by rfl, fun w hSw => ?_⟩) hHeld ?_
            · (go_simp)
            try simp only [Act.put, List.setIfInBounds_toArray, List.set_cons_zero, List.set_cons_succ]
            refine take1 (i := 6) (v := .pointer (some ⟨g, k * 6, none⟩)) rfl (by kernel_rfl) (by kernel_rfl) (by kernel_rfl) (fun _ _ _ h => h) (Or.inl ⟨by rfl, fun w hSw => ?_⟩) hHeld ?_
            · (go_simp)
            try simp only [Act.put, List.setIfInBounds_toArray, List.set_cons_zero, List.set_cons_succ]
            refine take1 (i := 7) (v := .agg #[.int .i64 x.c, .int .i64 x.s]) rfl (by kernel_rfl) (by kernel_rfl) (by kernel_rfl) (fun _ _ _ h => h) (Or.inl ⟨by rfl, fun w hSw => ?_⟩) hHeld ?_
            · (go_simp)
            try simp only [Act.put, List.setIfInBounds_toArray, List.set_cons_zero, List.set_cons_succ]
            refine take1 (i := 8) (v := .pointer (some ⟨w.heap.size, 0, none⟩)) rfl (by kernel_rfl) (by kernel_rfl) (by kernel_rfl) (fun _ _ _ h => h) (Or.inl ⟨by rfl, fun w hSw => ?_⟩) hHeld ?_
            · (go_simp)
            try simp only [Act.put, List.setIfInBounds_toArray, List.set_cons_zero, List.set_cons_succ]
            refine take1 (i := 9) (v := .agg #[.int .i64 E.c, .int .i64 E.s]) rfl (by kernel_rfl) (by kernel_rfl) (by kernel_rfl) (fun _ _ _ h => h) (Or.inl ⟨by rfl, fun w hSw => ?_⟩) hHeld ?_
            · (go_simp)
            try simp only [Act.put, List.setIfInBounds_toArray, List.set_cons_zero, List.set_cons_succ]
            refine wpAnyH_ready (rs := [10]) (by kernel_rfl) (by simp) ?_
            refine cons1 rfl (fun K hK => ?_) AllReadyH.nil
            go_simp
            refine (refLess_any _ _ _ _ _).mono ?_
            rintro e' u1 ⟨rfl, hb⟩
            rw [hless]
            go_wp2_with fail
            refine hK.out _ _ ((let h := hHeld.2.2.2.2.next hb; let c := HC.out _ h.bel; ⟨c.1, c.2.1, h.be.cell 0 rfl, h.be.cell 1 rfl, h⟩)) (fun hHeld2 => ?_)
            clear hK K hHeld hb
            have hHeld := hHeld2
            clear hHeld2
            try simp only [Act.put, List.setIfInBounds_toArray, List.set_cons_zero, List.set_cons_succ]
            refine take1 (i := 11) (v := .bool false) rfl (by kernel_rfl) (by kernel_rfl) (by kernel_rfl) (fun _ _ _ h => h) (Or.inl ⟨by rfl, fun w hSw => ?_⟩) hHeld ?_
            · (go_simp)
            try simp only [Act.put, List.setIfInBounds_toArray, List.set_cons_zero, List.set_cons_succ]
            refine take1 (i := 12) (v := .bool false) rfl (by kernel_rfl) (by kernel_rfl) (by kernel_rfl) (fun _ _ _ h => h) (Or.inl ⟨by rfl, fun w hSw => ?_⟩) hHeld ?_
            · (go_simp)
            try simp only [Act.put, List.setIfInBounds_toArray, List.set_cons_zero, List.set_cons_succ]
            refine wpAnyH_done (by kernel_rfl) ?_ _
            refine NoPanic.normal ?_
            have HS := Lib.hid hHeld.2.2.2.2
            clear hHeld
            by_cases hc : x.c = E.c
            · by_cases hs : x.s = E.s
              · have hcb : (x.c == E.c) = true := by simpa using hc
                have hsb : (x.s == E.s) = true := by simpa using hs
                have hcs := Lib.hid (And.intro hc hs)
                clear hc hs
                go_wp2_with fail
                refine wp_region_noPanic ?_
                refine wp_region_held_drew (S := (fun W => W.cell? ⟨g, k * 6, none⟩ = some (.int .i64 x.c) ∧ W.cell? ⟨g, k * 6 + 1, none⟩ = some (.int .i64 x.s) ∧ W.cell? ⟨w.heap.size, 0, none⟩ = some (.int .i64 E.c) ∧ W.cell? ⟨w.heap.size, 1, none⟩ = some (.int .i64 E.s) ∧ RpS w E O u6 W)) (by kernel_rfl) ?_ (fun hHeld => ?_)
                · exact (let h := HS.out.next (Below.refl _ _).drew; let c := HC.out _ h.bel; ⟨c.1, c.2.1, h.be.cell 0 rfl, h.be.cell 1 rfl, h⟩)
                clear HS
                refine take1 (i := 0) (v := .slice (some ⟨g, 0, none⟩) L.length cap) rfl (by kernel_rfl) (by kernel_rfl) (by kernel_rfl) (fun _ _ _ h => h) (Or.inl ⟨by rfl, fun w hSw => ?_⟩) hHeld ?_
                · (go_simp)
                try simp only [Act.put, List.setIfInBounds_toArray, List.set_cons_zero, List.set_cons_succ]
                refine take1 (i := 1) (v := .int .i64 (k : Int)) rfl (by kernel_rfl) (by kernel_rfl) (by kernel_rfl) (fun _ _ _ h => h) (Or.inl ⟨by rfl, fun w hSw => ?_⟩) hHeld ?_
                · (go_simp)
                try simp only [Act.put, List.setIfInBounds_toArray, List.set_cons_zero, List.set_cons_succ]
                refine take1 (i := 2) (v := .pointer (some ⟨g, k * 6, none⟩)) rfl (by kernel_rfl) (by kernel_rfl) (by kernel_rfl) (fun _ _ _ h => h) (Or.inl ⟨by rfl, fun w hSw => ?_⟩) hHeld ?_
                · (go_simp)
                try simp only [Act.put, List.setIfInBounds_toArray, List.set_cons_zero, List.set_cons_succ]
                refine take1 (i := 3) (v := .pointer (some ⟨g, k * 6, none⟩)) rfl (by kernel_rfl) (by kernel_rfl) (by kernel_rfl) (fun _ _ _ h => h) (Or.inl ⟨by rfl, fun w hSw => ?_⟩) hHeld ?_
                · (go_simp)
                try simp only [Act.put, List.setIfInBounds_toArray, List.set_cons_zero, List.set_cons_succ]
                refine take1 (i := 4) (v := .agg #[.int .i64 x.c, .int .i64 x.s]) rfl (by kernel_rfl) (by kernel_rfl) (by kernel_rfl) (fun _ _ _ h => h) (Or.inl ⟨by rfl, fun w hSw => ?_⟩) hHeld ?_
                · (go_simp)
                try simp only [Act.put, List.setIfInBounds_toArray, List.set_cons_zero, List.set_cons_succ]
                refine take1 (i := 5) (v := .pointer (some ⟨w.heap.size, 0, none⟩)) rfl (by kernel_rfl) (by kernel_rfl) (by kernel_rfl) (fun _ _ _ h => h) (Or.inl ⟨by rfl, fun w hSw => ?_⟩) hHeld ?_
                · (go_simp)
                try simp only [Act.put, List.setIfInBounds_toArray, List.set_cons_zero, List.set_cons_succ]
                refine take1 (i := 6) (v := .agg #[.int .i64 E.c, .int .i64 E.s]) rfl (by kernel_rfl) (by kernel_rfl) (by kernel_rfl) (fun _ _ _ h => h) (Or.inl ⟨by rfl, fun w hSw => ?_⟩) hHeld ?_
                · (go_simp)
                try simp only [Act.put, List.setIfInBounds_toArray, List.set_cons_zero, List.set_cons_succ]
                refine take1 (i := 7) (v := .bool false) rfl (by kernel_rfl) (by kernel_rfl) (by kernel_rfl) (fun _ _ _ h => h) (Or.inl ⟨by rfl, fun w hSw => ?_⟩) hHeld ?_
                · (go_simp)
                try simp only [Act.put, List.setIfInBounds_toArray, List.set_cons_zero, List.set_cons_succ]
                refine wpAnyH_done (by kernel_rfl) ?_ _
                refine NoPanic.normal ?_
                have HS := Lib.hid hHeld.2.2.2.2
                clear hHeld
                go_wp2_with fail
                have hcs := hcs.out
                go_roundg (L.length - (k + 1))
                case measure => omega
                case rel => exact ⟨k + 1, by omega, rfl, by go_num, O, false, rfl, by (first | omega | (simp only [Bool.toNat_false, List.length_append, List.length_cons, List.length_nil]; omega)), by rw [← HP.out, rp_step (ins := false) (eq := true) (by rw [hless]; rfl) (decide_eq_true hcs)]; simp, HS.out⟩
              · have hcb : (x.c == E.c) = true := by simpa using hc
                have hsb : (x.s == E.s) = false := by simpa using hs
                have hcs := Lib.hid (show ¬ (x.c = E.c ∧ x.s = E.s) from fun h => hs h.2)
                clear hc hs
                go_wp2_with fail
                refine wp_region_noPanic ?_
                refine wp_region_held_drew (S := (fun W => W.cell? ⟨g, k * 6, none⟩ = some (.int .i64 x.c) ∧ W.cell? ⟨g, k * 6 + 1, none⟩ = some (.int .i64 x.s) ∧ W.cell? ⟨w.heap.size, 0, none⟩ = some (.int .i64 E.c) ∧ W.cell? ⟨w.heap.size, 1, none⟩ = some (.int .i64 E.s) ∧ RpS w E O u6 W)) (by kernel_rfl) ?_ (fun hHeld => ?_)
                · exact (let h := HS.out.next (Below.refl _ _).drew; let c := HC.out _ h.bel; ⟨c.1, c.2.1, h.be.cell 0 rfl, h.be.cell 1 rfl, h⟩)
                clear HS
                refine take1 (i := 0) (v := .slice (some ⟨g, 0, none⟩) L.length cap) rfl (by kernel_rfl) (by kernel_rfl) (by kernel_rfl) (fun _ _ _ h => h) (Or.inl ⟨by rfl, fun w hSw => ?_⟩) hHeld ?_
                · (go_simp)
                try simp only [Act.put, List.setIfInBounds_toArray, List.set_cons_zero, List.set_cons_succ]
                refine take1 (i := 1) (v := .int .i64 (k : Int)) rfl (by kernel_rfl) (by kernel_rfl) (by kernel_rfl) (fun _ _ _ h => h) (Or.inl ⟨by rfl, fun w hSw => ?_⟩) hHeld ?_
                · (go_simp)
                try simp only [Act.put, List.setIfInBounds_toArray, List.set_cons_zero, List.set_cons_succ]
                refine take1 (i := 2) (v := .pointer (some ⟨g, k * 6, none⟩)) rfl (by kernel_rfl) (by kernel_rfl) (by kernel_rfl) (fun _ _ _ h => h) (Or.inl ⟨by rfl, fun w hSw => ?_⟩) hHeld ?_
                · (go_simp)
                try simp only [Act.put, List.setIfInBounds_toArray, List.set_cons_zero, List.set_cons_succ]
                refine take1 (i := 3) (v := .pointer (some ⟨g, k * 6, none⟩)) rfl (by kernel_rfl) (by kernel_rfl) (by kernel_rfl) (fun _ _ _ h => h) (Or.inl ⟨by rfl, fun w hSw => ?_⟩) hHeld ?_
                · (go_simp)
                try simp only [Act.put, List.setIfInBounds_toArray, List.set_cons_zero, List.set_cons_succ]
                refine take1 (i := 4) (v := .agg #[.int .i64 x.c, .int .i64 x.s]) rfl (by kernel_rfl) (by kernel_rfl) (by kernel_rfl) (fun _ _ _ h => h) (Or.inl ⟨by rfl, fun w hSw => ?_⟩) hHeld ?_
                · (go_simp)
                try simp only [Act.put, List.setIfInBounds_toArray, List.set_cons_zero, List.set_cons_succ]
                refine take1 (i := 5) (v := .pointer (some ⟨w.heap.size, 0, none⟩)) rfl (by kernel_rfl) (by kernel_rfl) (by kernel_rfl) (fun _ _ _ h => h) (Or.inl ⟨by rfl, fun w hSw => ?_⟩) hHeld ?_
                · (go_simp)
                try simp only [Act.put, List.setIfInBounds_toArray, List.set_cons_zero, List.set_cons_succ]
                refine take1 (i := 6) (v := .agg #[.int .i64 E.c, .int .i64 E.s]) rfl (by kernel_rfl) (by kernel_rfl) (by kernel_rfl) (fun _ _ _ h => h) (Or.inl ⟨by rfl, fun w hSw => ?_⟩) hHeld ?_
                · (go_simp)
                try simp only [Act.put, List.setIfInBounds_toArray, List.set_cons_zero, List.set_cons_succ]
                refine take1 (i := 7) (v := .bool true) rfl (by kernel_rfl) (by kernel_rfl) (by kernel_rfl) (fun _ _ _ h => h) (Or.inl ⟨by rfl, fun w hSw => ?_⟩) hHeld ?_
                · (go_simp)
                try simp only [Act.put, List.setIfInBounds_toArray, List.set_cons_zero, List.set_cons_succ]
                refine wpAnyH_done (by kernel_rfl) ?_ _
                refine NoPanic.normal ?_
                have HS := Lib.hid hHeld.2.2.2.2
                clear hHeld
                obtain ⟨x0, x1, x2, x3, x4, x5⟩ := HC.out _ HS.out.bel
                go_wp2_with (at_builtin; refine wpList_append_own _ rfl _ _ 65 rfl (w.heap.size + 1) 69 i0 zRe 6 40 Tryz.underlying65 hi hz0 hz1 hz2 rfl (by decide) _ _ _ rfl (HS.out.own.alloc _) ⟨_, 0, none⟩ 1 1 (reL x) rfl rfl (cell_six_new _ _ _) (six_one x) (by unfold maxLen; omega) (by omega) (by have hlen := HS.out.len; (try simp only [drew_size] at hlen); simp; omega) ?_; intro v' W' hown' hgrow _; refine Hid.out ?_)
                have HS2 := Lib.hid (HS.out.appended x hown' hgrow)
                clear HS hown' hgrow
                have HS := HS2
                clear HS2
                refine Lib.hid ?_
                clear x0 x1 x2 x3 x4 x5
                go_wp2_with fail
                have hcs := hcs.out
                go_roundg (L.length - (k + 1))
                case measure => omega
                case rel => exact ⟨k + 1, by omega, rfl, by go_num, (O ++ [x]), false, rfl, by (first | omega | (simp only [Bool.toNat_false, List.length_append, List.length_cons, List.length_nil]; omega)), by rw [← HP.out, rp_step (ins := false) (eq := false) (by rw [hless]; rfl) (decide_eq_false hcs)]; simp, HS.out⟩
            · have hcb : (x.c == E.c) = false := by simpa using hc
              have hcs := Lib.hid (show ¬ (x.c = E.c ∧ x.s = E.s) from fun h => hc h.1)
              clear hc
              go_wp2_with fail
              refine wp_region_noPanic ?_
              refine wp_region_held_drew (S := (fun W => W.cell? ⟨g, k * 6, none⟩ = some (.int .i64 x.c) ∧ W.cell? ⟨g, k * 6 + 1, none⟩ = some (.int .i64 x.s) ∧ W.cell? ⟨w.heap.size, 0, none⟩ = some (.int .i64 E.c) ∧ W.cell? ⟨w.heap.size, 1, none⟩ = some (.int .i64 E.s) ∧ RpS w E O u6 W)) (by kernel_rfl) ?_ (fun hHeld => ?_)
              · exact (let h := HS.out.next (Below.refl _ _).drew; let c := HC.out _ h.bel; ⟨c.1, c.2.1, h.be.cell 0 rfl, h.be.cell 1 rfl, h⟩)
              clear HS
              refine take1 (i := 0) (v := .slice (some ⟨g, 0, none⟩) L.length cap) rfl (by kernel_rfl) (by kernel_rfl) (by kernel_rfl) (fun _ _ _ h => h) (Or.inl ⟨by rfl, fun w hSw => ?_⟩) hHeld ?_
              · (go_simp)
              try simp only [Act.put, List.setIfInBounds_toArray, List.set_cons_zero, List.set_cons_succ]
              refine take1 (i := 1) (v := .int .i64 (k : Int)) rfl (by kernel_rfl) (by kernel_rfl) (by kernel_rfl) (fun _ _ _ h => h) (Or.inl ⟨by rfl, fun w hSw => ?_⟩) hHeld ?_
              · (go_simp)
              try simp only [Act.put, List.setIfInBounds_toArray, List.set_cons_zero, List.set_cons_succ]
              refine take1 (i := 2) (v := .pointer (some ⟨g, k * 6, none⟩)) rfl (by kernel_rfl) (by kernel_rfl) (by kernel_rfl) (fun _ _ _ h => h) (Or.inl ⟨by rfl, fun w hSw => ?_⟩) hHeld ?_
              · (go_simp)
              try simp only [Act.put, List.setIfInBounds_toArray, List.set_cons_zero, List.set_cons_succ]
              refine take1 (i := 3) (v := .pointer (some ⟨g, k * 6, none⟩)) rfl (by kernel_rfl) (by kernel_rfl) (by kernel_rfl) (fun _ _ _ h => h) (Or.inl ⟨by rfl, fun w hSw => ?_⟩) hHeld ?_
              · (go_simp)
              try simp only [Act.put, List.setIfInBounds_toArray, List.set_cons_zero, List.set_cons_succ]
              refine take1 (i := 4) (v := .agg #[.int .i64 x.c, .int .i64 x.s]) rfl (by kernel_rfl) (by kernel_rfl) (by kernel_rfl) (fun _ _ _ h => h) (Or.inl ⟨by rfl, fun w hSw => ?_⟩) hHeld ?_
              · (go_simp)
              try simp only [Act.put, List.setIfInBounds_toArray, List.set_cons_zero, List.set_cons_succ]
              refine take1 (i := 5) (v := .pointer (some ⟨w.heap.size, 0, none⟩)) rfl (by kernel_rfl) (by kernel_rfl) (by kernel_rfl) (fun _ _ _ h => h) (Or.inl ⟨by rfl, fun w hSw => ?_⟩) hHeld ?_
              · (go_simp)
              try simp only [Act.put, List.setIfInBounds_toArray, List.set_cons_zero, List.set_cons_succ]
              refine take1 (i := 6) (v := .agg #[.int .i64 E.c, .int .i64 E.s]) rfl (by kernel_rfl) (by kernel_rfl) (by kernel_rfl) (fun _ _ _ h => h) (Or.inl ⟨by rfl, fun w hSw => ?_⟩) hHeld ?_
              · (go_simp)
              try simp only [Act.put, List.setIfInBounds_toArray, List.set_cons_zero, List.set_cons_succ]
              refine take1 (i := 7) (v := .bool true) rfl (by kernel_rfl) (by kernel_rfl) (by kernel_rfl) (fun _ _ _ h => h) (Or.inl ⟨by rfl, fun w hSw => ?_⟩) hHeld ?_
              · (go_simp)
              try simp only [Act.put, List.setIfInBounds_toArray, List.set_cons_zero, List.set_cons_succ]
              refine wpAnyH_done (by kernel_rfl) ?_ _
              refine NoPanic.normal ?_
              have HS := Lib.hid hHeld.2.2.2.2
              clear hHeld
              obtain ⟨x0, x1, x2, x3, x4, x5⟩ := HC.out _ HS.out.bel
              go_wp2_with (at_builtin; refine wpList_append_own _ rfl _ _ 65 rfl (w.heap.size + 1) 69 i0 zRe 6 40 Tryz.underlying65 hi hz0 hz1 hz2 rfl (by decide) _ _ _ rfl (HS.out.own.alloc _) ⟨_, 0, none⟩ 1 1 (reL x) rfl rfl (cell_six_new _ _ _) (six_one x) (by unfold maxLen; omega) (by omega) (by have hlen := HS.out.len; (try simp only [drew_size] at hlen); simp; omega) ?_; intro v' W' hown' hgrow _; refine Hid.out ?_)
              have HS2 := Lib.hid (HS.out.appended x hown' hgrow)
              clear HS hown' hgrow
              have HS := HS2
              clear HS2
              refine Lib.hid ?_
              clear x0 x1 x2 x3 x4 x5
              go_wp2_with fail
              have hcs := hcs.out
              go_roundg (L.length - (k + 1))
              case measure => omega
              case rel => exact ⟨k + 1, by omega, rfl, by go_num, (O ++ [x]), false, rfl, by (first | omega | (simp only [Bool.toNat_false, List.length_append, List.length_cons, List.length_nil]; omega)), by rw [← HP.out, rp_step (ins := false) (eq := false) (by rw [hless]; rfl) (decide_eq_false hcs)]; simp, HS.out⟩
          | false =>
            refine wp_region_noPanic ?_
            refine wp_region_held_drew (S := (fun W => W.cell? ⟨g, k * 6, none⟩ = some (.int .i64 x.c) ∧ W.cell? ⟨g, k * 6 + 1, none⟩ = some (.int .i64 x.s) ∧ W.cell? ⟨w.heap.size, 0, none⟩ = some (.int .i64 E.c) ∧ W.cell? ⟨w.heap.size, 1, none⟩ = some (.int .i64 E.s) ∧ RpS w E O u6 W)) (by kernel_rfl) ?_ (fun hHeld => ?_)
            · exact (let h := HS.out.next (Below.refl _ _).drew; let c := HC.out _ h.bel; ⟨c.1, c.2.1, h.be.cell 0 rfl, h.be.cell 1 rfl, h⟩)
            clear HS
            refine take1 (i := 0) (v := .bool false) rfl (by kernel_rfl) (by kernel_rfl) (by kernel_rfl) (fun _ _ _ h => h) (Or.inl ⟨by rfl, fun w hSw => ?_⟩) hHeld ?_
            · (go_simp)
            try simp only [Act.put, List.setIfInBounds_toArray, List.set_cons_zero, List.set_cons_succ]
            refine take1 (i := 1) (v := .bool true) rfl (by kernel_rfl) (by kernel_rfl) (by kernel_rfl) (fun _ _ _ h => h) (Or.inl ⟨by rfl, fun w hSw => ?_⟩) hHeld ?_
            · (go_simp)
            try simp only [Act.put, List.setIfInBounds_toArray, List.set_cons_zero, List.set_cons_succ]
            refine take1 (i := 2) (v := .bool true) rfl (by kernel_rfl) (by kernel_rfl) (by kernel_rfl) (fun _ _ _ h => h) (Or.inl ⟨by rfl, fun w hSw => ?_⟩) hHeld ?_
            · (go_simp)
            try simp only [Act.put, List.setIfInBounds_toArray, List.set_cons_zero, List.set_cons_succ]
            refine take1 (i := 3) (v := .slice (some ⟨g, 0, none⟩) L.length cap) rfl (by kernel_rfl) (by kernel_rfl) (by kernel_rfl) (fun _ _ _ h => h) (Or.inl ⟨by rfl, fun w hSw => ?_⟩) hHeld ?_
            · (go_simp)
            try simp only [Act.put, List.setIfInBounds_toArray, List.set_cons_zero, List.set_cons_succ]
            refine take1 (i := 4) (v := .int .i64 (k : Int)) rfl (by kernel_rfl) (by kernel_rfl) (by kernel_rfl) (fun _ _ _ h => h) (Or.inl ⟨by rfl, fun w hSw => ?_⟩) hHeld ?_
            · (go_simp)
            try simp only [Act.put, List.setIfInBounds_toArray, List.set_cons_zero, List.set_cons_succ]
            refine take1 (i := 5) (v := .pointer (some ⟨g, k * 6, none⟩)) rfl (by kernel_rfl) (by kernel_rfl) (by kernel_rfl) (fun _ _ _ h => h) (Or.inl ⟨by rfl, fun w hSw => ?_⟩) hHeld ?_
            · (go_simp)
            try simp only [Act.put, List.setIfInBounds_toArray, List.set_cons_zero, List.set_cons_succ]
            refine take1 (i := 6) (v := .pointer (some ⟨g, k * 6, none⟩)) rfl (by kernel_rfl) (by kernel_rfl) (by kernel_rfl) (fun _ _ _ h => h) (Or.inl ⟨by rfl, fun w hSw => ?_⟩) hHeld ?_
            · (go_simp)
            try simp only [Act.put, List.setIfInBounds_toArray, List.set_cons_zero, List.set_cons_succ]
            refine take1 (i := 7) (v := .agg #[.int .i64 x.c, .int .i64 x.s]) rfl (by kernel_rfl) (by kernel_rfl) (by kernel_rfl) (fun _ _ _ h => h) (Or.inl ⟨by rfl, fun w hSw => ?_⟩) hHeld ?_
            · (go_simp)
            try simp only [Act.put, List.setIfInBounds_toArray, List.set_cons_zero, List.set_cons_succ]
            refine take1 (i := 8) (v := .pointer (some ⟨w.heap.size, 0, none⟩)) rfl (by kernel_rfl) (by kernel_rfl) (by kernel_rfl) (fun _ _ _ h => h) (Or.inl ⟨by rfl, fun w hSw => ?_⟩) hHeld ?_
            · (go_simp)
            try simp only [Act.put, List.setIfInBounds_toArray, List.set_cons_zero, List.set_cons_succ]
            refine take1 (i := 9) (v := .agg #[.int .i64 E.c, .int .i64 E.s]) rfl (by kernel_rfl) (by kernel_rfl) (by kernel_rfl) (fun _ _ _ h => h) (Or.inl ⟨by rfl, fun w hSw => ?_⟩) hHeld ?_
            · (go_simp)
            try simp only [Act.put, List.setIfInBounds_toArray, List.set_cons_zero, List.set_cons_succ]
            refine wpAnyH_ready (rs := [10]) (by kernel_rfl) (by simp) ?_
            refine cons1 rfl (fun K hK => ?_) AllReadyH.nil
            go_simp
            refine (refLess_any _ _ _ _ _).mono ?_
            rintro e' u1 ⟨rfl, hb⟩
            rw [hless]
            go_wp2_with fail
            refine hK.out _ _ ((let h := hHeld.2.2.2.2.next hb; let c := HC.out _ h.bel; ⟨c.1, c.2.1, h.be.cell 0 rfl, h.be.cell 1 rfl, h⟩)) (fun hHeld2 => ?_)
            clear hK K hHeld hb
            have hHeld := hHeld2
            clear hHeld2
            try simp only [Act.put, List.setIfInBounds_toArray, List.set_cons_zero, List.set_cons_succ]
            refine take1 (i := 11) (v := .bool true) rfl (by kernel_rfl) (by kernel_rfl) (by kernel_rfl) (fun _ _ _ h => h) (Or.inl ⟨by rfl, fun w hSw => ?_⟩) hHeld ?_
            · (go_simp)
            try simp only [Act.put, List.setIfInBounds_toArray, List.set_cons_zero, List.set_cons_succ]
            refine take1 (i := 12) (v := .bool true) rfl (by kernel_rfl) (by kernel_rfl) (by kernel_rfl) (fun _ _ _ h => h) (Or.inl ⟨by rfl, fun w hSw => ?_⟩) hHeld ?_
            · (go_simp)
            try simp only [Act.put, List.setIfInBounds_toArray, List.set_cons_zero, List.set_cons_succ]
            refine wpAnyH_done (by kernel_rfl) ?_ _
            refine NoPanic.normal ?_
            have HS := Lib.hid hHeld.2.2.2.2
            clear hHeld
            have e0 := HS.out.be.cell 0 rfl
            have e1 := HS.out.be.cell 1 rfl
            have e2 := HS.out.be.cell 2 rfl
            have e3 := HS.out.be.cell 3 rfl
            have e4 := HS.out.be.cell 4 rfl
            have e5 := HS.out.be.cell 5 rfl
            go_wp2_with (at_builtin; refine wpList_append_own _ rfl _ _ 65 rfl (w.heap.size + 1) 69 i0 zRe 6 40 Tryz.underlying65 hi hz0 hz1 hz2 rfl (by decide) _ _ _ rfl (HS.out.own.alloc _) ⟨_, 0, none⟩ 1 1 (reL E) rfl rfl (cell_six_new _ _ _) (six_one E) (by unfold maxLen; omega) (by omega) (by have hlen := HS.out.len; (try simp only [drew_size] at hlen); simp; omega) ?_; intro v' W' hown' hgrow _; refine Hid.out ?_)
            have HS2 := Lib.hid (HS.out.appended E hown' hgrow)
            clear HS hown' hgrow
            have HS := HS2
            clear HS2
            refine Lib.hid ?_
            clear e0 e1 e2 e3 e4 e5
            have hO2 : (O ++ [E]).length ≤ k + 1 := by simp; omega
            by_cases hc : x.c = E.c
            · by_cases hs : x.s = E.s
              · have hcb : (x.c == E.c) = true := by simpa using hc
                have hsb : (x.s == E.s) = true := by simpa using hs
                have hcs := Lib.hid (And.intro hc hs)
                clear hc hs
                go_wp2_with fail
                refine wp_region_noPanic ?_
                refine wp_region_held_drew (S := (fun W => W.cell? ⟨g, k * 6, none⟩ = some (.int .i64 x.c) ∧ W.cell? ⟨g, k * 6 + 1, none⟩ = some (.int .i64 x.s) ∧ W.cell? ⟨w.heap.size, 0, none⟩ = some (.int .i64 E.c) ∧ W.cell? ⟨w.heap.size, 1, none⟩ = some (.int .i64 E.s) ∧ RpS w E (O ++ [E]) v' W)) (by kernel_rfl) ?_ (fun hHeld => ?_)
                · exact (let h := HS.out.next (Below.refl _ _).drew; let c := HC.out _ h.bel; ⟨c.1, c.2.1, h.be.cell 0 rfl, h.be.cell 1 rfl, h⟩)
                clear HS
                refine take1 (i := 0) (v := .slice (some ⟨g, 0, none⟩) L.length cap) rfl (by kernel_rfl) (by kernel_rfl) (by kernel_rfl) (fun _ _ _ h => h) (Or.inl ⟨by rfl, fun w hSw => ?_⟩) hHeld ?_
                · (go_simp)
                try simp only [Act.put, List.setIfInBounds_toArray, List.set_cons_zero, List.set_cons_succ]
                refine take1 (i := 1) (v := .int .i64 (k : Int)) rfl (by kernel_rfl) (by kernel_rfl) (by kernel_rfl) (fun _ _ _ h => h) (Or.inl ⟨by rfl, fun w hSw => ?_⟩) hHeld ?_
                · (go_simp)
                try simp only [Act.put, List.setIfInBounds_toArray, List.set_cons_zero, List.set_cons_succ]
                refine take1 (i := 2) (v := .pointer (some ⟨g, k * 6, none⟩)) rfl (by kernel_rfl) (by kernel_rfl) (by kernel_rfl) (fun _ _ _ h => h) (Or.inl ⟨by rfl, fun w hSw => ?_⟩) hHeld ?_
                · (go_simp)
                try simp only [Act.put, List.setIfInBounds_toArray, List.set_cons_zero, List.set_cons_succ]
                refine take1 (i := 3) (v := .pointer (some ⟨g, k * 6, none⟩)) rfl (by kernel_rfl) (by kernel_rfl) (by kernel_rfl) (fun _ _ _ h => h) (Or.inl ⟨by rfl, fun w hSw => ?_⟩) hHeld ?_
                · (go_simp)
                try simp only [Act.put, List.setIfInBounds_toArray, List.set_cons_zero, List.set_cons_succ]
                refine take1 (i := 4) (v := .agg #[.int .i64 x.c, .int .i64 x.s]) rfl (by kernel_rfl) (by kernel_rfl) (by kernel_rfl) (fun _ _ _ h => h) (Or.inl ⟨by rfl, fun w hSw => ?_⟩) hHeld ?_
                · (go_simp)
                try simp only [Act.put, List.setIfInBounds_toArray, List.set_cons_zero, List.set_cons_succ]
                refine take1 (i := 5) (v := .pointer (some ⟨w.heap.size, 0, none⟩)) rfl (by kernel_rfl) (by kernel_rfl) (by kernel_rfl) (fun _ _ _ h => h) (Or.inl ⟨by rfl, fun w hSw => ?_⟩) hHeld ?_
                · (go_simp)
                try simp only [Act.put, List.setIfInBounds_toArray, List.set_cons_zero, List.set_cons_succ]
                refine take1 (i := 6) (v := .agg #[.int .i64 E.c, .int .i64 E.s]) rfl (by kernel_rfl) (by kernel_rfl) (by kernel_rfl) (fun _ _ _ h => h) (Or.inl ⟨by rfl, fun w hSw => ?_⟩) hHeld ?_
                · (go_simp)
                try simp only [Act.put, List.setIfInBounds_toArray, List.set_cons_zero, List.set_cons_succ]
                refine take1 (i := 7) (v := .bool false) rfl (by kernel_rfl) (by kernel_rfl) (by kernel_rfl) (fun _ _ _ h => h) (Or.inl ⟨by rfl, fun w hSw => ?_⟩) hHeld ?_
                · (go_simp)
                try simp only [Act.put, List.setIfInBounds_toArray, List.set_cons_zero, List.set_cons_succ]
                refine wpAnyH_done (by kernel_rfl) ?_ _
                refine NoPanic.normal ?_
                have HS := Lib.hid hHeld.2.2.2.2
                clear hHeld
                go_wp2_with fail
                have hcs := hcs.out
                go_roundg (L.length - (k + 1))
                case measure => omega
                case rel => exact ⟨k + 1, by omega, rfl, by go_num, (O ++ [E]), true, rfl, by (first | omega | (simp only [Bool.toNat_true, List.length_append, List.length_cons, List.length_nil]; omega)), by rw [← HP.out, rp_step (ins := true) (eq := true) (by rw [hless]; rfl) (decide_eq_true hcs)]; simp, HS.out⟩
              · have hcb : (x.c == E.c) = true := by simpa using hc
                have hsb : (x.s == E.s) = false := by simpa using hs
                have hcs := Lib.hid (show ¬ (x.c = E.c ∧ x.s = E.s) from fun h => hs h.2)
                clear hc hs
                go_wp2_with fail
                refine wp_region_noPanic ?_
                refine wp_region_held_drew (S := (fun W => W.cell? ⟨g, k * 6, none⟩ = some (.int .i64 x.c) ∧ W.cell? ⟨g, k * 6 + 1, none⟩ = some (.int .i64 x.s) ∧ W.cell? ⟨w.heap.size, 0, none⟩ = some (.int .i64 E.c) ∧ W.cell? ⟨w.heap.size, 1, none⟩ = some (.int .i64 E.s) ∧ RpS w E (O ++ [E]) v' W)) (by kernel_rfl) ?_ (fun hHeld => ?_)
                · exact (let h := HS.out.next (Below.refl _ _).drew; let c := HC.out _ h.bel; ⟨c.1, c.2.1, h.be.cell 0 rfl, h.be.cell 1 rfl, h⟩)
                clear HS
                refine take1 (i := 0) (v := .slice (some ⟨g, 0, none⟩) L.length cap) rfl (by kernel_rfl) (by kernel_rfl) (by kernel_rfl) (fun _ _ _ h => h) (Or.inl ⟨by rfl, fun w hSw => ?_⟩) hHeld ?_
                · (go_simp)
                try simp only [Act.put, List.setIfInBounds_toArray, List.set_cons_zero, List.set_cons_succ]
                refine take1 (i := 1) (v := .int .i64 (k : Int)) rfl (by kernel_rfl) (by kernel_rfl) (by kernel_rfl) (fun _ _ _ h => h) (Or.inl ⟨by rfl, fun w hSw => ?_⟩) hHeld ?_
                · (go_simp)
                try simp only [Act.put, List.setIfInBounds_toArray, List.set_cons_zero, List.set_cons_succ]
                refine take1 (i := 2) (v := .pointer (some ⟨g, k * 6, none⟩)) rfl (by kernel_rfl) (by kernel_rfl) (by kernel_rfl) (fun _ _ _ h => h) (Or.inl ⟨by rfl, fun w hSw => ?_⟩) hHeld ?_
                · (go_simp)
                try simp only [Act.put, List.setIfInBounds_toArray, List.set_cons_zero, List.set_cons_succ]
                refine take1 (i := 3) (v := .pointer (some ⟨g, k * 6, none⟩)) rfl (by kernel_rfl) (by kernel_rfl) (by kernel_rfl) (fun _ _ _ h => h) (Or.inl ⟨by rfl, fun w hSw => ?_⟩) hHeld ?_
                · (go_simp)
                try simp only [Act.put, List.setIfInBounds_toArray, List.set_cons_zero, List.set_cons_succ]
                refine take1 (i := 4) (v := .agg #[.int .i64 x.c, .int .i64 x.s]) rfl (by kernel_rfl) (by kernel_rfl) (by kernel_rfl) (fun _ _ _ h => h) (Or.inl ⟨by rfl, fun w hSw => ?_⟩) hHeld ?_
                · (go_simp)
                try simp only [Act.put, List.setIfInBounds_toArray, List.set_cons_zero, List.set_cons_succ]
                refine take1 (i := 5) (v := .pointer (some ⟨w.heap.size, 0, none⟩)) rfl (by kernel_rfl) (by kernel_rfl) (by kernel_rfl) (fun _ _ _ h => h) (Or.inl ⟨by rfl, fun w hSw => ?_⟩) hHeld ?_
                · (go_simp)
                try simp only [Act.put, List.setIfInBounds_toArray, List.set_cons_zero, List.set_cons_succ]
                refine take1 (i := 6) (v := .agg #[.int .i64 E.c, .int .i64 E.s]) rfl (by kernel_rfl) (by kernel_rfl) (by kernel_rfl) (fun _ _ _ h => h) (Or.inl ⟨by rfl, fun w hSw => ?_⟩) hHeld ?_
                · (go_simp)
                try simp only [Act.put, List.setIfInBounds_toArray, List.set_cons_zero, List.set_cons_succ]
                refine take1 (i := 7) (v := .bool true) rfl (by kernel_rfl) (by kernel_rfl) (by kernel_rfl) (fun _ _ _ h => h) (Or.inl ⟨by rfl, fun w hSw => ?_⟩) hHeld ?_
                · (go_simp)
                try simp only [Act.put, List.setIfInBounds_toArray, List.set_cons_zero, List.set_cons_succ]
                refine wpAnyH_done (by kernel_rfl) ?_ _
                refine NoPanic.normal ?_
                have HS := Lib.hid hHeld.2.2.2.2
                clear hHeld
                obtain ⟨x0, x1, x2, x3, x4, x5⟩ := HC.out _ HS.out.bel
                go_wp2_with (at_builtin; refine wpList_append_own _ rfl _ _ 65 rfl (w.heap.size + 1) 69 i0 zRe 6 40 Tryz.underlying65 hi hz0 hz1 hz2 rfl (by decide) _ _ _ rfl (HS.out.own.alloc _) ⟨_, 0, none⟩ 1 1 (reL x) rfl rfl (cell_six_new _ _ _) (six_one x) (by unfold maxLen; omega) (by omega) (by have hlen := HS.out.len; (try simp only [drew_size] at hlen); simp; omega) ?_; intro v' W' hown' hgrow _; refine Hid.out ?_)
                have HS2 := Lib.hid (HS.out.appended x hown' hgrow)
                clear HS hown' hgrow
                have HS := HS2
                clear HS2
                refine Lib.hid ?_
                clear x0 x1 x2 x3 x4 x5
                go_wp2_with fail
                have hcs := hcs.out
                go_roundg (L.length - (k + 1))
                case measure => omega
                case rel => exact ⟨k + 1, by omega, rfl, by go_num, ((O ++ [E]) ++ [x]), true, rfl, by (first | omega | (simp only [Bool.toNat_true, List.length_append, List.length_cons, List.length_nil]; omega)), by rw [← HP.out, rp_step (ins := true) (eq := false) (by rw [hless]; rfl) (decide_eq_false hcs)]; simp, HS.out⟩
            · have hcb : (x.c == E.c) = false := by simpa using hc
              have hcs := Lib.hid (show ¬ (x.c = E.c ∧ x.s = E.s) from fun h => hc h.1)
              clear hc
              go_wp2_with fail
              refine wp_region_noPanic ?_
              refine wp_region_held_drew (S := (fun W => W.cell? ⟨g, k * 6, none⟩ = some (.int .i64 x.c) ∧ W.cell? ⟨g, k * 6 + 1, none⟩ = some (.int .i64 x.s) ∧ W.cell? ⟨w.heap.size, 0, none⟩ = some (.int .i64 E.c) ∧ W.cell? ⟨w.heap.size, 1, none⟩ = some (.int .i64 E.s) ∧ RpS w E (O ++ [E]) v' W)) (by kernel_rfl) ?_ (fun hHeld => ?_)
              · exact (let h := HS.out.next (Below.refl _ _).drew; let c := HC.out _ h.bel; ⟨c.1, c.2.1, h.be.cell 0 rfl, h.be.cell 1 rfl, h⟩)
              clear HS
              refine take1 (i := 0) (v := .slice (some ⟨g, 0, none⟩) L.length cap) rfl (by kernel_rfl) (by kernel_rfl) (by kernel_rfl) (fun _ _ _ h => h) (Or.inl ⟨by rfl, fun w hSw => ?_⟩) hHeld ?_
              · (go_simp)
              try simp only [Act.put, List.setIfInBounds_toArray, List.set_cons_zero, List.set_cons_succ]
              refine take1 (i := 1) (v := .int .i64 (k : Int)) rfl (by kernel_rfl) (by kernel_rfl) (by kernel_rfl) (fun _ _ _ h => h) (Or.inl ⟨by rfl, fun w hSw => ?_⟩) hHeld ?_
              · (go_simp)
              try simp only [Act.put, List.setIfInBounds_toArray, List.set_cons_zero, List.set_cons_succ]
              refine take1 (i := 2) (v := .pointer (some ⟨g, k * 6, none⟩)) rfl (by kernel_rfl) (by kernel_rfl) (by kernel_rfl) (fun _ _ _ h => h) (Or.inl ⟨by rfl, fun w hSw => ?_⟩) hHeld ?_
              · (go_simp)
              try simp only [Act.put, List.setIfInBounds_toArray, List.set_cons_zero, List.set_cons_succ]
              refine take1 (i := 3) (v := .pointer (some ⟨g, k * 6, none⟩)) rfl (by kernel_rfl) (by kernel_rfl) (by kernel_rfl) (fun _ _ _ h => h) (Or.inl ⟨by rfl, fun w hSw => ?_⟩) hHeld ?_
              · (go_simp)
              try simp only [Act.put, List.setIfInBounds_toArray, List.set_cons_zero, List.set_cons_succ]
              refine take1 (i := 4) (v := .agg #[.int .i64 x.c, .int .i64 x.s]) rfl (by kernel_rfl) (by kernel_rfl) (by kernel_rfl) (fun _ _ _ h => h) (Or.inl ⟨by rfl, fun w hSw => ?_⟩) hHeld ?_
              · (go_simp)
              try simp only [Act.put, List.setIfInBounds_toArray, List.set_cons_zero, List.set_cons_succ]
              refine take1 (i := 5) (v := .pointer (some ⟨w.heap.size, 0, none⟩)) rfl (by kernel_rfl) (by kernel_rfl) (by kernel_rfl) (fun _ _ _ h => h) (Or.inl ⟨by rfl, fun w hSw => ?_⟩) hHeld ?_
              · (go_simp)
              try simp only [Act.put, List.setIfInBounds_toArray, List.set_cons_zero, List.set_cons_succ]
              refine take1 (i := 6) (v := .agg #[.int .i64 E.c, .int .i64 E.s]) rfl (by kernel_rfl) (by kernel_rfl) (by kernel_rfl) (fun _ _ _ h => h) (Or.inl ⟨by rfl, fun w hSw => ?_⟩) hHeld ?_
              · (go_simp)
              try simp only [Act.put, List.setIfInBounds_toArray, List.set_cons_zero, List.set_cons_succ]
              refine take1 (i := 7) (v := .bool true) rfl (by kernel_rfl) (by kernel_rfl) (by kernel_rfl) (fun _ _ _ h => h) (Or.inl ⟨by rfl, fun w hSw => ?_⟩) hHeld ?_
              · (go_simp)
              try simp only [Act.put, List.setIfInBounds_toArray, List.set_cons_zero, List.set_cons_succ]
              refine wpAnyH_done (by kernel_rfl) ?_ _
              refine NoPanic.normal ?_
              have HS := Lib.hid hHeld.2.2.2.2
              clear hHeld
              obtain ⟨x0, x1, x2, x3, x4, x5⟩ := HC.out _ HS.out.bel
              go_wp2_with (at_builtin; refine wpList_append_own _ rfl _ _ 65 rfl (w.heap.size + 1) 69 i0 zRe 6 40 Tryz.underlying65 hi hz0 hz1 hz2 rfl (by decide) _ _ _ rfl (HS.out.own.alloc _) ⟨_, 0, none⟩ 1 1 (reL x) rfl rfl (cell_six_new _ _ _) (six_one x) (by unfold maxLen; omega) (by omega) (by have hlen := HS.out.len; (try simp only [drew_size] at hlen); simp; omega) ?_; intro v' W' hown' hgrow _; refine Hid.out ?_)
              have HS2 := Lib.hid (HS.out.appended x hown' hgrow)
              clear HS hown' hgrow
              have HS := HS2
              clear HS2
              refine Lib.hid ?_
              clear x0 x1 x2 x3 x4 x5
              go_wp2_with fail
              have hcs := hcs.out
              go_roundg (L.length - (k + 1))
              case measure => omega
              case rel => exact ⟨k + 1, by omega, rfl, by go_num, ((O ++ [E]) ++ [x]), true, rfl, by (first | omega | (simp only [Bool.toNat_true, List.length_append, List.length_cons, List.length_nil]; omega)), by rw [← HP.out, rp_step (ins := true) (eq := false) (by rw [hless]; rfl) (decide_eq_false hcs)]; simp, HS.out⟩
      · obtain rfl : k = L.length := by omega
        rw [List.drop_length] at hrp
        have HP := Lib.hid hrp
        clear hrp
        cases dn with
        | true =>
          have hO : O.length ≤ L.length + 1 := hO
          go_wp2_with fail
          exact bodyPost_ret (v := .tuple #[u6, .bool true]) (by simp [results, Tryz.results24, go_sem]) rfl ⟨u6, rfl, IsR.of (by have := HP.out; rw [show rp E true [] = [] from rfl, List.append_nil] at this; rw [← this]; exact HS.out.own), HS.out.bel⟩
        | false =>
          have hO : O.length ≤ L.length := hO
          have e0 := HS.out.be.cell 0 rfl
          have e1 := HS.out.be.cell 1 rfl
          have e2 := HS.out.be.cell 2 rfl
          have e3 := HS.out.be.cell 3 rfl
          have e4 := HS.out.be.cell 4 rfl
          have e5 := HS.out.be.cell 5 rfl
          go_wp2_with (at_builtin; refine wpList_append_own _ rfl _ _ 65 rfl (w.heap.size + 1) 69 i0 zRe 6 40 Tryz.underlying65 hi hz0 hz1 hz2 rfl (by decide) _ _ _ rfl (HS.out.own.alloc _) ⟨_, 0, none⟩ 1 1 (reL E) rfl rfl (cell_six_new _ _ _) (six_one E) (by unfold maxLen; omega) (by omega) (by have hlen := HS.out.len; (try simp only [drew_size] at hlen); simp; omega) ?_; intro v' W' hown' hgrow _; refine Hid.out ?_)
          have HS2 := Lib.hid (HS.out.appended E hown' hgrow)
          clear HS hown' hgrow
          have HS := HS2
          clear HS2
          refine Lib.hid ?_
          clear e0 e1 e2 e3 e4 e5
          go_wp2_with fail
          exact bodyPost_ret (v := .tuple #[v', .bool true]) (by simp [results, Tryz.results24, go_sem]) rfl ⟨v', rfl, IsR.of (by have := HP.out; rw [show rp E false [] = [E] from rfl] at this; rw [← this]; exact HS.out.own), HS.out.bel⟩
  · have h' : mayB E.c E.s = false := by simpa using h
    rw [if_neg h, h']
    go_enter Tryz.func24, Tryz.ntmps24
    go_wp2_with (go_at_call 47; refine (may_any _ _ _).mono ?_; rintro e' w1 ⟨rfl, hb⟩; rw [h']; refine Hid.out ?_)
    have H1 := Lib.hid (H0.out.next hb)
    clear H0 hb
    refine Lib.hid ?_
    go_wp2_with fail
    exact bodyPost_ret (v := .tuple #[.slice a L.length cap, .bool false]) (by simp [results, Tryz.results24, go_sem]) rfl ⟨_, rfl, HL.out.next H1.out.bel, H1.out.bel⟩

/-- What Get answers. -/
def IdxAt (c s : Int) (L : List Re) (r : Int) : Prop := (r = -1 ∧ ∀ x ∈ L, ¬ (x.c = c ∧ x.s = s)) ∨ ∃ (i : Nat) (hi : i < L.length), r = (i : Int) ∧ L[i].c = c ∧ L[i].s = s
end Go.Proofs.YtlnonnjpcajgjaaGreatDoor
namespace Go.Proofs.YtlnonnjpcajgjaaGreatDoor
open Go Go.Proofs Go.RowKit Go.Shelf

attribute [local go_sem] Oper.semAt_some

/-- All places are ids' that may be. -/
def Good (T : Pt) : Prop := ∀ x ∈ els T, mayB (nmC x.1) (nmS x.1) = true
theorem insL_mem {at_ : Nat} {e : En} : ∀ {l : List (Nat × En)} {x : Nat × En}, x ∈ insL at_ e l → x = (at_, e) ∨ x ∈ l
  | [], x, h => .inl (List.mem_singleton.1 h)
  | y :: l, x, h => by
    simp only [insL] at h
    split at h
    · rcases List.mem_cons.1 h with rfl | h
      · exact .inr (by simp)
      · rcases insL_mem h with h | h
        · exact .inl h
        · exact .inr (List.mem_cons_of_mem _ h)
    · split at h
      · rcases List.mem_cons.1 h with rfl | h
        · exact .inl rfl
        · exact .inr (List.mem_cons_of_mem _ h)
      · rcases List.mem_cons.1 h with rfl | h
        · exact .inl rfl
        · exact .inr h
theorem good_nil : Good .nil := fun x hx => by cases hx
theorem good_putM {T : Pt} (c s : Int) (e : En) (h : Good T) : Good (putM T c s e) := by
  unfold putM
  split
  · rename_i hm
    intro x hx
    rw [els_insL T e (place_lt hm)] at hx
    rcases insL_mem hx with rfl | hx
    · rw [(place_nm hm).1, (place_nm hm).2]; exact hm
    · exact h x hx
  · exact h
theorem place_of_nm (x : Nat) : placeI (nmC x) (nmS x) = x := by unfold placeI nmC nmS; omega
theorem getM_of {T : Pt} (hg : Good T) {x : Nat × En} (hx : x ∈ els T) : getM T (nmC x.1) (nmS x.1) = some x.2 := by
  unfold getM
  rw [if_pos (hg x hx), place_of_nm, getT_getL T (els_lt hx), getL_mem (els_rising T) hx]
/-- The document's list of a map. -/
def reT (T : Pt) : List Re := (els T).map toRe
theorem reT_len (T : Pt) : (reT T).length = (els T).length := by simp [reT]
theorem Re.same {x y : Re} (h1 : x.c = y.c) (h2 : x.s = y.s) (h3 : x.e.ac = y.e.ac) (h4 : x.e.an = y.e.an) (h5 : x.e.ch = y.e.ch) (h6 : x.e.d = y.e.d) : x = y := by
  obtain ⟨c, s, ⟨p, q, r, t⟩⟩ := x
  obtain ⟨c', s', ⟨p', q', r', t'⟩⟩ := y
  cases h1; cases h2; cases h3; cases h4; cases h5; cases h6; rfl
theorem toRe_inj {x y : Nat × En} (h : toRe x = toRe y) : x = y := by
  have h1 : nmC x.1 = nmC y.1 := congrArg Re.c h
  have h2 : nmS x.1 = nmS y.1 := congrArg Re.s h
  have h3 : x.2 = y.2 := congrArg Re.e h
  exact Prod.ext (nm_inj h1 h2) h3
/-- The boxes of Is ahead of its range. -/
structure IsB (w : World) (p : Option Addr) (n : Int) (v : Value) (T : Pt) (W : World) : Prop where
  bel : Below w.heap.size w W
  bm : Blk W w.heap.size [.pointer p, .int .i64 n] 31
  bl : Blk W (w.heap.size + 1) [v] 65
  br : ∃ u, Blk W (w.heap.size + 1 + 1) [u] 4
  tr : IsM W p T
  ls : IsR W v (reT T)
theorem IsB.next {w : World} {p : Option Addr} {n : Int} {v : Value} {T : Pt} {W W' : World} (h : IsB w p n v T W) (hb : Below W.heap.size W W') : IsB w p n v T W' :=
  ⟨h.bel.trans (hb.mono h.bel.size), h.bm.next hb, h.bl.next hb, let ⟨u, hu⟩ := h.br; ⟨u, hu.next hb⟩, h.tr.next hb, h.ls.next hb⟩
theorem IsB.start {w : World} {p : Option Addr} {n : Int} {v : Value} {T : Pt} (h1 : IsM w p T) (h2 : IsR w v (reT T)) : IsB w p n v T (((w.alloc (.cells #[.pointer p, .int .i64 n] 31)).alloc (.cells #[v] 65)).alloc (.cells #[.bool false] 4)) := by
  have hb : Below w.heap.size w (((w.alloc (.cells #[.pointer p, .int .i64 n] 31)).alloc (.cells #[v] 65)).alloc (.cells #[.bool false] 4)) := (((Below.refl _ _).alloc (Nat.le_refl _) _).alloc (by simp) _).alloc (by simp; omega) _
  exact ⟨hb, ((Blk.start w _ _).alloc _).alloc _, (Blk.startAt (by simp)).alloc _, ⟨_, Blk.startAt (by simp)⟩, h1.next hb, h2.next hb⟩

theorem toRe_same {v : Nat × En} {y : Re} (h1 : nmC v.1 = y.c) (h2 : nmS v.1 = y.s) (h3 : v.2.ac = y.e.ac) (h4 : v.2.an = y.e.an) (h5 : v.2.ch = y.e.ch) (h6 : v.2.d = y.e.d) : toRe v = y := Re.same h1 h2 h3 h4 h5 h6
theorem Blk.ne {W : World} {b c : Nat} {vs us : List Value} {t u : TypeId} (h : Blk W b vs t) (k : Blk W c us u) (hne : t ≠ u) : b ≠ c := by
  rintro rfl
  unfold Blk at h k
  rw [h] at k
  cases k
  exact hne rfl
theorem IsR.set {W : World} {b : Nat} {vs : List Value} {t : TypeId} (hB : Blk W b vs t) (ht : t ≠ 69) (i : Nat) (u : Value) {v : Value} {L : List Re} (h : IsR W v L) : IsR (W.setCell ⟨b, i, none⟩ u) v L := by
  rcases h with h | ⟨g, cap, cur, rfl, hg, h⟩
  · exact .inl h
  · refine .inr ⟨g, cap, cur, rfl, ?_, h⟩
    rw [Below.heap_setCell _ _ _ _ (by
      rintro rfl
      unfold Blk at hB
      rw [hB] at hg
      cases hg
      exact ht rfl)]
    exact hg
theorem get_here {p : Option Addr} {T : Pt} (n : Int) (w : World) (hT : IsM w p T) (hg : Good T) {x : Nat × En} (hx : x ∈ els T) :
    Calls Tryz.prog 28 #[.agg #[.pointer p, .int .i64 n], .agg #[.int .i64 (nmC x.1), .int .i64 (nmS x.1)]] w
      fun e w' => e = .returned (.tuple #[.agg #[.int .i64 x.2.ac, .int .i64 x.2.an, .int .i32 x.2.ch, .bool x.2.d], .bool true]) ∧ Below w.heap.size w w' := by
  have := get_any n (nmC x.1) (nmS x.1) w hT
  rw [getM_of hg hx] at this
  exact this
theorem Blk.putObj {W : World} {b D : Nat} {vs : List Value} {t : TypeId} (h : Blk W b vs t) (hne : b ≠ D) (o : Obj) : Blk (W.putObj D o) b vs t := (World.putObj_heap_other hne).trans h
/-- The cells of the document's entry at a place of a slice. -/
def YC (X : World) (g k : Nat) (y : Re) : Prop :=
  X.cell? ⟨g, k * 6, none⟩ = some (.int .i64 y.c) ∧ X.cell? ⟨g, k * 6 + 1, none⟩ = some (.int .i64 y.s) ∧ X.cell? ⟨g, k * 6 + 2, none⟩ = some (.int .i64 y.e.ac) ∧ X.cell? ⟨g, k * 6 + 3, none⟩ = some (.int .i64 y.e.an) ∧ X.cell? ⟨g, k * 6 + 4, none⟩ = some (.int .i32 y.e.ch) ∧ X.cell? ⟨g, k * 6 + 5, none⟩ = some (.bool y.e.d)
theorem yc_of {X : World} {g n cap : Nat} {L : List Re} (h : IsR X (.slice (some ⟨g, 0, none⟩) n cap) L) {k : Nat} (hk : k < L.length) : YC X g k L[k] := by
  obtain ⟨g', e, -, hj⟩ := h.cell k hk
  cases e
  exact ⟨hj 0 (by omega), hj 1 (by omega), hj 2 (by omega), hj 3 (by omega), hj 4 (by omega), hj 5 (by omega)⟩
/-- A round of Is. -/
structure RdS (w : World) (p : Option Addr) (n : Int) (v : Value) (T : Pt) (k : Nat) (Bi Be Bx : Nat) (x : Nat × En) (X : World) : Prop where
  base : IsB w p n v T X
  bn : Go.Boxed X (w.heap.size + 1 + 1 + 1) 3 (.int .i64 (k : Int))
  bi : Blk X Bi [.int .i64 (nmC x.1), .int .i64 (nmS x.1)] 24
  be : Blk X Be (enL x.2) 78
  bx : Blk X Bx (enL x.2) 78
theorem RdS.next {w : World} {p : Option Addr} {n : Int} {v : Value} {T : Pt} {k : Nat} {Bi Be Bx : Nat} {x : Nat × En} {X X' : World} (h : RdS w p n v T k Bi Be Bx x X) (hb : Below X.heap.size X X') : RdS w p n v T k Bi Be Bx x X' :=
  ⟨h.base.next hb, Boxed.nextB h.bn hb, h.bi.next hb, h.be.next hb, h.bx.next hb⟩
def SRd (w : World) (p : Option Addr) (n : Int) (v : Value) (T : Pt) (k : Nat) (Bi Be Bx g : Nat) (x : Nat × En) (y : Re) (X : World) : Prop :=
  X.cell? ⟨w.heap.size + 1 + 1 + 1, 0, none⟩ = some (.int .i64 (k : Int)) ∧ X.cell? ⟨w.heap.size + 1, 0, none⟩ = some v ∧
  X.cell? ⟨Bi, 0, none⟩ = some (.int .i64 (nmC x.1)) ∧ X.cell? ⟨Bi, 1, none⟩ = some (.int .i64 (nmS x.1)) ∧
  X.cell? ⟨Be, 0, none⟩ = some (.int .i64 x.2.ac) ∧ X.cell? ⟨Be, 1, none⟩ = some (.int .i64 x.2.an) ∧ X.cell? ⟨Be, 2, none⟩ = some (.int .i32 x.2.ch) ∧ X.cell? ⟨Be, 3, none⟩ = some (.bool x.2.d) ∧
  X.cell? ⟨Bx, 0, none⟩ = some (.int .i64 x.2.ac) ∧ X.cell? ⟨Bx, 1, none⟩ = some (.int .i64 x.2.an) ∧ X.cell? ⟨Bx, 2, none⟩ = some (.int .i32 x.2.ch) ∧ X.cell? ⟨Bx, 3, none⟩ = some (.bool x.2.d) ∧
  X.cell? ⟨g, k * 6, none⟩ = some (.int .i64 y.c) ∧ X.cell? ⟨g, k * 6 + 1, none⟩ = some (.int .i64 y.s) ∧ X.cell? ⟨g, k * 6 + 2, none⟩ = some (.int .i64 y.e.ac) ∧ X.cell? ⟨g, k * 6 + 3, none⟩ = some (.int .i64 y.e.an) ∧ X.cell? ⟨g, k * 6 + 4, none⟩ = some (.int .i32 y.e.ch) ∧ X.cell? ⟨g, k * 6 + 5, none⟩ = some (.bool y.e.d) ∧
  RdS w p n v T k Bi Be Bx x X
theorem RdS.s {w : World} {p : Option Addr} {n : Int} {v : Value} {T : Pt} {k : Nat} {Bi Be Bx g : Nat} {x : Nat × En} {y : Re} {X : World} (h : RdS w p n v T k Bi Be Bx x X) (c : YC X g k y) : SRd w p n v T k Bi Be Bx g x y X :=
  ⟨h.bn.cell, h.base.bl.cell 0 rfl, h.bi.cell 0 rfl, h.bi.cell 1 rfl, h.be.cell 0 rfl, h.be.cell 1 rfl, h.be.cell 2 rfl, h.be.cell 3 rfl, h.bx.cell 0 rfl, h.bx.cell 1 rfl, h.bx.cell 2 rfl, h.bx.cell 3 rfl, c.1, c.2.1, c.2.2.1, c.2.2.2.1, c.2.2.2.2.1, c.2.2.2.2.2, h⟩
theorem SRd.rd {w : World} {p : Option Addr} {n : Int} {v : Value} {T : Pt} {k : Nat} {Bi Be Bx g : Nat} {x : Nat × En} {y : Re} {X : World} (h : SRd w p n v T k Bi Be Bx g x y X) : RdS w p n v T k Bi Be Bx x X := h.2.2.2.2.2.2.2.2.2.2.2.2.2.2.2.2.2.2
/-- What stands behind the range of Is. -/
structure IsF (w : World) (p : Option Addr) (n : Int) (v : Value) (T : Pt) (D Bz : Nat) (X : World) : Prop where
  base : IsB w p n v T X
  bn : Go.Boxed X (w.heap.size + 1 + 1 + 1) 3 (.int .i64 n)
  bz : Blk X Bz [.int .i64 (lastC T), .int .i64 (lastS T)] 24
  dk : X.heap[D]? = some (.deferred (some []))
theorem IsF.next {w : World} {p : Option Addr} {n : Int} {v : Value} {T : Pt} {D Bz : Nat} {X X' : World} (h : IsF w p n v T D Bz X) (hb : Below X.heap.size X X') : IsF w p n v T D Bz X' :=
  ⟨h.base.next hb, Boxed.nextB h.bn hb, h.bz.next hb, (hb.block D (Array.getElem?_eq_some_iff.1 h.dk).1).trans h.dk⟩
theorem IsF.s {w : World} {p : Option Addr} {n : Int} {v : Value} {T : Pt} {D Bz : Nat} {X : World} (h : IsF w p n v T D Bz X) :
    X.cell? ⟨w.heap.size + 1 + 1 + 1, 0, none⟩ = some (.int .i64 n) ∧ X.cell? ⟨w.heap.size + 1, 0, none⟩ = some v ∧ X.cell? ⟨w.heap.size, 0, none⟩ = some (.pointer p) ∧ X.cell? ⟨w.heap.size, 1, none⟩ = some (.int .i64 n) ∧ X.cell? ⟨Bz, 0, none⟩ = some (.int .i64 (lastC T)) ∧ X.cell? ⟨Bz, 1, none⟩ = some (.int .i64 (lastS T)) ∧ IsF w p n v T D Bz X :=
  ⟨h.bn.cell, h.base.bl.cell 0 rfl, h.base.bm.cell 0 rfl, h.base.bm.cell 1 rfl, h.bz.cell 0 rfl, h.bz.cell 1 rfl, h⟩

theorem IsF.put {w : World} {p : Option Addr} {n : Int} {v : Value} {T : Pt} {D Bz : Nat} {X : World} (h : IsF w p n v T D Bz X) (z : Bool) :
    IsF w p n v T D Bz (X.setCell ⟨w.heap.size + 1 + 1, 0, none⟩ (.bool z)) ∧ Blk (X.setCell ⟨w.heap.size + 1 + 1, 0, none⟩ (.bool z)) (w.heap.size + 1 + 1) [.bool z] 4 := by
  obtain ⟨u, hu⟩ := h.base.br
  have n0 : w.heap.size ≠ w.heap.size + 1 + 1 := by omega
  have n1 : w.heap.size + 1 ≠ w.heap.size + 1 + 1 := by omega
  have hD : D ≠ w.heap.size + 1 + 1 := by rintro rfl; have := h.dk; unfold Blk at hu; rw [hu] at this; cases this
  refine ⟨⟨⟨h.base.bel.setCell (p := ⟨w.heap.size + 1 + 1, 0, none⟩) (by show w.heap.size ≤ w.heap.size + 1 + 1; omega) _, h.base.bm.other _ n0 _, h.base.bl.other _ n1 _, ⟨_, hu.set 0 _⟩, ?_, h.base.ls.set hu (by decide) 0 _⟩, h.bn.other (by omega) _, h.bz.other _ (h.bz.ne hu (by decide)) _, (Below.heap_setCell _ _ _ _ hD).trans h.dk⟩, hu.set 0 _⟩
  have := IsP.set hu (by decide) 0 (.bool z) h.base.tr
  unfold IsM
  simpa using this

set_option maxHeartbeats 6400000 in
set_option maxRecDepth 100000 in
theorem is_any {p : Option Addr} {T : Pt} (v0 : Value) (w : World) (hT : IsM w p T) (hf : Full 10 T) (hg : Good T) (hL : IsR w v0 (reT T)) (hn : (els T).length ≤ 1000) :
    Calls Tryz.prog 26 #[.agg #[.pointer p, .int .i64 (cnt T)], v0] w fun e w' => e = .returned (.bool true) ∧ Below w.heap.size w w' := by
  obtain ⟨a, cap, rfl, hc1, hc2⟩ := hL.form
  rw [reT_len] at hc1 hL ⊢
  have H0 := Lib.hid (IsB.start (n := cnt T) hT hL)
  have hcn : cnt T = ((els T).length : Int) := rfl
  rw [hcn] at H0 ⊢
  clear hT hL hcn
  have HF := Lib.hid hf
  have HG := Lib.hid hg
  clear hf hg
  refine (callsIn_wide (n := 5)).1 (callsIn_of_wp_marks Tryz.func26 rfl trivial (wpIn_wide.2 ?_) rfl)
  simp only [Tryz.ntmps26, List.size_toArray, List.length_cons, List.length_nil, Nat.reduceAdd, Nat.reduceSub, Array.replicate_succ, Array.replicate_zero, List.push_toArray, List.append_toArray, List.nil_append, List.cons_append]
  have ef := eqlFM
  go_wp2_with (go_at_call 34; refine (allM_any _ _ _).mono ?_; rintro e w' ⟨rfl, rfl⟩)
  have hsz : (((w.alloc (.cells #[.pointer p, .int .i64 ((els T).length : Int)] 31)).alloc (.cells #[.slice a (els T).length cap] 65)).alloc (.cells #[.bool false] 4)).heap.size = w.heap.size + 1 + 1 + 1 := by simp
  clear ef
  generalize ((w.alloc (.cells #[.pointer p, .int .i64 ((els T).length : Int)] 31)).alloc (.cells #[.slice a (els T).length cap] 65)).alloc (.cells #[.bool false] 4) = W1 at *
  have hbk : Go.Boxed (((W1.alloc (.cells #[.int .i64 0] 3)).alloc (.cells #[.pointer p, .int .i64 ((els T).length : Int)] 31)).alloc (.cells #[.pointer p, .int .i64 ((els T).length : Int)] 31)) (w.heap.size + 1 + 1 + 1) 3 (.int .i64 0) := by rw [← hsz]; exact ((Go.Boxed.new W1 _ _).alloc _).alloc _
  have hbt := (Blk.startAt (W := (W1.alloc (.cells #[.int .i64 0] 3)).alloc (.cells #[.pointer p, .int .i64 ((els T).length : Int)] 31)) (b := w.heap.size + 1 + 1 + 1 + 1 + 1) (vs := [.pointer p, .int .i64 ((els T).length : Int)]) (t := 31) (by simp [hsz])).cell 0 rfl
  have hb3 : Below (w.heap.size + 1 + 1 + 1) W1 (((W1.alloc (.cells #[.int .i64 0] 3)).alloc (.cells #[.pointer p, .int .i64 ((els T).length : Int)] 31)).alloc (.cells #[.pointer p, .int .i64 ((els T).length : Int)] 31)) := by rw [← hsz]; exact (((Below.refl _ _).alloc (Nat.le_refl _) _).alloc (by simp) _).alloc (by simp; omega) _
  have hz3 : w.heap.size + 1 + 1 + 1 + 1 + 1 < (((W1.alloc (.cells #[.int .i64 0] 3)).alloc (.cells #[.pointer p, .int .i64 ((els T).length : Int)] 31)).alloc (.cells #[.pointer p, .int .i64 ((els T).length : Int)] 31)).heap.size := by simp [hsz]
  generalize ((W1.alloc (.cells #[.int .i64 0] 3)).alloc (.cells #[.pointer p, .int .i64 ((els T).length : Int)] 31)).alloc (.cells #[.pointer p, .int .i64 ((els T).length : Int)] 31) = W3 at *
  have hT3 : IsP (w.heap.size + 1 + 1 + 1) W3 p T := by have := H0.out.tr; unfold IsM at this; rw [hsz] at this; exact this.below hb3
  have hmx : Tryz.prog.follows .mixedOrders = true := by kernel_rfl
  refine (wpIn_wide (n := 5)).1 ?_
  refine wpIn_rangeFunc_ownH rfl (by omega) (gf := 68) (lb := #[.pointer (some ⟨w.heap.size + 1 + 1 + 1 + 1 + 1, 0, none⟩)]) rfl trivial (enters_of Tryz.func68 (by kernel_rfl) rfl)
    (allM_stops _ (w.heap.size + 1 + 1 + 1 + 1 + 1) (w.heap.size + 1 + 1 + 1) p T W3 hz3 (by omega) hbt hT3) belowK_t (belowK_b (by omega)) (Below.refl _ _) (fun _ => rfl)
    (fun pre W => Go.Boxed W (w.heap.size + 1 + 1 + 1) 3 (.int .i64 (pre.length : Int)) ∧ Below (w.heap.size + 1 + 1 + 1) W1 W)
    (fun _ xs _ => ¬ raw xs <+: els T)
    (OwnFrom.and (Own.from (boxed_own (w.heap.size + 1 + 1 + 1) 3 (fun pre : List (ElT T) => .int .i64 (pre.length : Int))) _) (ownFrom_below (by omega) (by omega)))
    (fun _ _ _ _ _ hs _ _ => hs)
    ⟨hbk, hb3⟩
    (fun x a' W => ∃ Bi Be, Blk W Bi [.int .i64 (nmC x.1.1), .int .i64 (nmS x.1.1)] 24 ∧ Blk W Be (enL x.1.2) 78 ∧ a' = { tmps := #[Value.agg #[Value.pointer p, Value.int IntKind.i64 ((els T).length : Int)], Value.slice a (els T).length cap, Value.pointer (some ⟨w.heap.size, 0, none⟩), Value.pointer (some ⟨w.heap.size + 1, 0, none⟩), Value.pointer (some ⟨w.heap.size + 1 + 1, 0, none⟩), Value.pointer (some ⟨w.heap.size + 1 + 1 + 1, 0, none⟩), .pointer (some ⟨Bi, 0, none⟩), .pointer (some ⟨Be, 0, none⟩), undef, undef, undef, Value.agg #[Value.pointer p, Value.int IntKind.i64 ((els T).length : Int)], Value.func (Fn.func 68) #[] #[Value.pointer (some ⟨w.heap.size + 1 + 1 + 1 + 1, 0, none⟩)], Value.bool false, Value.agg #[Value.pointer p, Value.int IntKind.i64 ((els T).length : Int)], Value.func (Fn.func 68) #[] #[Value.pointer (some ⟨w.heap.size + 1 + 1 + 1 + 1 + 1, 0, none⟩)], .agg #[.int .i64 (nmC x.1.1), .int .i64 (nmS x.1.1)], .agg #[.int .i64 x.1.2.ac, .int .i64 x.1.2.an, .int .i32 x.1.2.ch, .bool x.1.2.d], undef, undef, undef, undef, undef, undef, undef, undef, undef, undef, undef, undef, undef, undef, undef, undef, undef, undef, undef, undef, undef, undef, undef, undef, undef, undef, undef, undef, undef, undef, undef, undef, undef, undef, undef, undef, undef, undef, undef, undef, undef, undef, undef, undef, undef, undef, undef, undef, undef, undef, undef, undef, undef, undef, undef, undef, undef, undef], defers := [] })
    (fun x a' _ W W' row hs hg hr => by obtain ⟨Bi, Be, hb, hb', he⟩ := hs; exact ⟨Bi, Be, hb.grown hg (fun r e => (hr r e).2), hb'.grown hg (fun r e => (hr r e).2), he⟩)
    ?assign ?body ?done ?stop
  case assign =>
    rintro l' pre x W K ⟨hi1, hi3⟩ hK
    gi_wp2
    refine hK _ _ (((KeepsOthers.alloc _ _).trans (KeepsOthers.alloc _ _)).from _) (((Below.refl _ W).alloc (by have := hi1.lt; omega) _).alloc (by have := hi1.lt; simp; omega) _) ⟨(hi1.alloc _).alloc _, (hi3.alloc (by have := hi1.lt; omega) _).alloc (by have := hi1.lt; simp; omega) _⟩ ⟨W.heap.size, W.heap.size + 1, (Blk.start _ _ _).alloc _, Blk.startAt (by simp), rfl⟩
  case stop =>
    rintro D c pre W _ hp h _
    exact absurd hp h
  case body =>
    rintro l' pre ⟨v, hv⟩ a' W hl' - ⟨hi1, hi3⟩ ⟨Bi, Be, hbi, hbe, rfl⟩ hlt'
    have hbi : Blk W Bi [.int .i64 (nmC v.1), .int .i64 (nmS v.1)] 24 := hbi
    have hbe : Blk W Be (enL v.2) 78 := hbe
    have hsn : (((pre ++ [(⟨v, hv⟩ : ElT T)]).length : Nat) : Int) = (pre.length : Int) + 1 := by simp
    have hrw : raw (pre ++ [(⟨v, hv⟩ : ElT T)]) = raw pre ++ [v] := by simp [raw]
    have hrl : (raw pre).length = pre.length := by simp
    have hnb := hi1.lt
    have hi3' : Below W1.heap.size W1 W := by rw [hsz]; exact hi3
    have hB := H0.out.next hi3'
    have m0 := hB.bm.cell 0 rfl
    have m1 := hB.bm.cell 1 rfl
    have i0 := hbi.cell 0 rfl
    have i1 := hbi.cell 1 rfl
    have hkL : pre.length < (reT T).length := by rw [reT_len]; exact hlt'
    obtain ⟨g, rfl, -, -⟩ := hB.ls.cell pre.length hkL
    have HC := Lib.hid (fun (X : World) (h : IsR X (.slice (some ⟨g, 0, none⟩) (els T).length cap) (reT T)) => yc_of h hkL)
    have HNP := Lib.hid (fun (hne : (reT T)[pre.length] ≠ toRe v) => show ¬ raw (pre ++ [(⟨v, hv⟩ : ElT T)]) <+: els T from fun h => hne (by
      rw [hrw] at h
      obtain ⟨t, ht⟩ := h
      have h1 : (raw pre ++ [v] ++ t)[pre.length]? = some v := by rw [List.getElem?_append_left (by simp), List.getElem?_append_right (by simp)]; simp
      rw [ht, List.getElem?_eq_getElem hlt'] at h1
      have h2 := Option.some.inj h1
      simp [reT, h2]))
    clear hrw hrl
    generalize hk9 : pre.length = k at *
    generalize (reT T)[k] = y at *
    have hkN : (k : Int) < ((els T).length : Int) := by omega
    have HBW := Lib.hid (And.intro hB (And.intro hi1 (And.intro hbi hbe)))
    have HGE := Lib.hid (fun (n : Nat) X (h : IsM X p T) => CallsIn.inRound (n := n) l' (callsIn_wide.2 (get_here ((els T).length : Int) X h HG.out hv)))
    have hdep : ∀ k : Nat, ((Fence.wide.inRound l').depth.isSome = true → 1 ≤ k) := fun k h => by cases h
    clear hi1 hB hbi hbe hlt'
    gi_wp2_with ((try refine ⟨hdep _, ?_⟩); (try refine ⟨trivial, ?_⟩); gi_at_call 28; refine (HGE.out _ _ HBW.out.1.tr).mono ?_; rintro e X1 ⟨rfl, hb⟩)
    have hBZ : Below W.heap.size W (X1.alloc (.cells #[.int .i64 v.2.ac, .int .i64 v.2.an, .int .i32 v.2.ch, .bool v.2.d] 78)) := hb.alloc hb.size _
    have HBZ := Lib.hid hBZ
    have HR := Lib.hid (show RdS w p ((els T).length : Int) (.slice (some ⟨g, 0, none⟩) (els T).length cap) T k Bi Be X1.heap.size v (X1.alloc (.cells #[.int .i64 v.2.ac, .int .i64 v.2.an, .int .i32 v.2.ch, .bool v.2.d] 78)) from
      ⟨HBW.out.1.next hBZ, Boxed.nextB HBW.out.2.1 hBZ, HBW.out.2.2.1.next hBZ, HBW.out.2.2.2.next hBZ, Blk.start _ _ _⟩)
    clear hb hBZ HBW m0 m1 i0 i1 HGE
    generalize (X1.alloc (.cells #[.int .i64 v.2.ac, .int .i64 v.2.an, .int .i32 v.2.ch, .bool v.2.d] 78)) = X2 at *
    generalize X1.heap.size = Bx at *
    by_cases hE : y = toRe v
    · subst hE
      refine region_round (S := (fun X => X.cell? ⟨w.heap.size + 1 + 1 + 1, 0, none⟩ = some (.int .i64 (k : Int)) ∧ X.cell? ⟨w.heap.size + 1, 0, none⟩ = some (.slice (some ⟨g, 0, none⟩) (els T).length cap) ∧ X.cell? ⟨Bi, 0, none⟩ = some (.int .i64 (nmC v.1)) ∧ X.cell? ⟨Bi, 1, none⟩ = some (.int .i64 (nmS v.1)) ∧ X.cell? ⟨Be, 0, none⟩ = some (.int .i64 v.2.ac) ∧ X.cell? ⟨Be, 1, none⟩ = some (.int .i64 v.2.an) ∧ X.cell? ⟨Be, 2, none⟩ = some (.int .i32 v.2.ch) ∧ X.cell? ⟨Be, 3, none⟩ = some (.bool v.2.d) ∧ X.cell? ⟨Bx, 0, none⟩ = some (.int .i64 v.2.ac) ∧ X.cell? ⟨Bx, 1, none⟩ = some (.int .i64 v.2.an) ∧ X.cell? ⟨Bx, 2, none⟩ = some (.int .i32 v.2.ch) ∧ X.cell? ⟨Bx, 3, none⟩ = some (.bool v.2.d) ∧ X.cell? ⟨g, k * 6, none⟩ = some (.int .i64 (nmC v.1)) ∧ X.cell? ⟨g, k * 6 + 1, none⟩ = some (.int .i64 (nmS v.1)) ∧ X.cell? ⟨g, k * 6 + 2, none⟩ = some (.int .i64 (v.2.ac)) ∧ X.cell? ⟨g, k * 6 + 3, none⟩ = some (.int .i64 (v.2.an)) ∧ X.cell? ⟨g, k * 6 + 4, none⟩ = some (.int .i32 v.2.ch) ∧ X.cell? ⟨g, k * 6 + 5, none⟩ = some (.bool v.2.d) ∧ RdS w p ((els T).length : Int) (.slice (some ⟨g, 0, none⟩) (els T).length cap) T k Bi Be Bx v X)) hmx (by kernel_rfl) (((HR.out.next (Below.refl _ _).drew).s (HC.out _ (HR.out.next (Below.refl _ _).drew).base.ls))) (fun hHeld => ?_)
      refine take1 (i := 0) (v := .int .i64 (k : Int)) rfl (by kernel_rfl) (by kernel_rfl) (by kernel_rfl) (fun _ _ _ h => h) (Or.inl ⟨by rfl, fun w hSw => ?_⟩) hHeld ?_
      · (go_simp)
      try simp only [Act.put, List.setIfInBounds_toArray, List.set_cons_zero, List.set_cons_succ]
      refine take1 (i := 1) (v := .slice (some ⟨g, 0, none⟩) (els T).length cap) rfl (by kernel_rfl) (by kernel_rfl) (by kernel_rfl) (fun _ _ _ h => h) (Or.inl ⟨by rfl, fun w hSw => ?_⟩) hHeld ?_
      · (go_simp)
      try simp only [Act.put, List.setIfInBounds_toArray, List.set_cons_zero, List.set_cons_succ]
      refine take1 (i := 2) (v := .int .i64 ((els T).length : Int)) rfl (by kernel_rfl) (by kernel_rfl) (by kernel_rfl) (fun _ _ _ h => h) (Or.inl ⟨by rfl, fun w hSw => ?_⟩) hHeld ?_
      · (go_simp)
      try simp only [Act.put, List.setIfInBounds_toArray, List.set_cons_zero, List.set_cons_succ]
      refine take1 (i := 3) (v := .bool false) rfl (by kernel_rfl) (by kernel_rfl) (by kernel_rfl) (fun _ _ _ h => h) (Or.inl ⟨by rfl, fun w hSw => ?_⟩) hHeld ?_
      · (go_simp; omega)
      try simp only [Act.put, List.setIfInBounds_toArray, List.set_cons_zero, List.set_cons_succ]
      refine take1 (i := 4) (v := .bool false) rfl (by kernel_rfl) (by kernel_rfl) (by kernel_rfl) (fun _ _ _ h => h) (Or.inl ⟨by rfl, fun w hSw => ?_⟩) hHeld ?_
      · (go_simp)
      try simp only [Act.put, List.setIfInBounds_toArray, List.set_cons_zero, List.set_cons_succ]
      refine take1 (i := 5) (v := .agg #[.int .i64 (nmC v.1), .int .i64 (nmS v.1)]) rfl (by kernel_rfl) (by kernel_rfl) (by kernel_rfl) (fun _ _ _ h => h) (Or.inl ⟨by rfl, fun w hSw => ?_⟩) hHeld ?_
      · (go_simp)
      try simp only [Act.put, List.setIfInBounds_toArray, List.set_cons_zero, List.set_cons_succ]
      refine take1 (i := 6) (v := .agg #[.int .i64 v.2.ac, .int .i64 v.2.an, .int .i32 v.2.ch, .bool v.2.d]) rfl (by kernel_rfl) (by kernel_rfl) (by kernel_rfl) (fun _ _ _ h => h) (Or.inl ⟨by rfl, fun w hSw => ?_⟩) hHeld ?_
      · (go_simp)
      try simp only [Act.put, List.setIfInBounds_toArray, List.set_cons_zero, List.set_cons_succ]
      refine take1 (i := 8) (v := .slice (some ⟨g, 0, none⟩) (els T).length cap) rfl (by kernel_rfl) (by kernel_rfl) (by kernel_rfl) (fun _ _ _ h => h) (Or.inl ⟨by rfl, fun w hSw => ?_⟩) hHeld ?_
      · (go_simp)
      try simp only [Act.put, List.setIfInBounds_toArray, List.set_cons_zero, List.set_cons_succ]
      refine take1 (i := 9) (v := .int .i64 (k : Int)) rfl (by kernel_rfl) (by kernel_rfl) (by kernel_rfl) (fun _ _ _ h => h) (Or.inl ⟨by rfl, fun w hSw => ?_⟩) hHeld ?_
      · (go_simp)
      try simp only [Act.put, List.setIfInBounds_toArray, List.set_cons_zero, List.set_cons_succ]
      refine take1 (i := 10) (v := .pointer (some ⟨g, k * 6, none⟩)) rfl (by kernel_rfl) (by kernel_rfl) (by kernel_rfl) (fun _ _ _ h => h) (Or.inl ⟨by rfl, fun w hSw => ?_⟩) hHeld ?_
      · (go_simp)
      try simp only [Act.put, List.setIfInBounds_toArray, List.set_cons_zero, List.set_cons_succ]
      refine take1 (i := 11) (v := .agg #[.int .i64 (nmC v.1), .int .i64 (nmS v.1), .int .i64 (v.2.ac), .int .i64 (v.2.an), .int .i32 v.2.ch, .bool v.2.d]) rfl (by kernel_rfl) (by kernel_rfl) (by kernel_rfl) (fun _ _ _ h => h) (Or.inl ⟨by rfl, fun w hSw => ?_⟩) hHeld ?_
      · (go_simp)
      try simp only [Act.put, List.setIfInBounds_toArray, List.set_cons_zero, List.set_cons_succ]
      refine wpAnyH_ready (rs := [7]) (by kernel_rfl) (by simp) ?_
      refine cons1 rfl (fun K hK => ?_) AllReadyH.nil
      go_simp
      refine (of4_any _ _ v.2 _).mono ?_
      unfold reV
      rintro e' u1 ⟨rfl, hb⟩
      go_wp2_with fail
      refine hK.out _ _ ((let h := hHeld.2.2.2.2.2.2.2.2.2.2.2.2.2.2.2.2.2.2.next hb; h.s (HC.out _ h.base.ls))) (fun hHeld2 => ?_)
      clear hK K hHeld 
      have hHeld := hHeld2
      clear hHeld2
      try simp only [Act.put, List.setIfInBounds_toArray, List.set_cons_zero, List.set_cons_succ]
      have HBB := Lib.hid (show Below X2.heap.size X2 u1 from (Below.refl X2.heap.size X2).drew.trans hb)
      clear hb
      refine take1 (i := 12) (v := .bool false) rfl (by kernel_rfl) (by kernel_rfl) (by kernel_rfl) (fun _ _ _ h => h) (Or.inl ⟨by rfl, fun w hSw => ?_⟩) hHeld ?_
      · (go_simp)
      try simp only [Act.put, List.setIfInBounds_toArray, List.set_cons_zero, List.set_cons_succ]
      refine take1 (i := 13) (v := .bool false) rfl (by kernel_rfl) (by kernel_rfl) (by kernel_rfl) (fun _ _ _ h => h) (Or.inl ⟨by rfl, fun w hSw => ?_⟩) hHeld ?_
      · (go_simp)
      try simp only [Act.put, List.setIfInBounds_toArray, List.set_cons_zero, List.set_cons_succ]
      refine take1 (i := 14) (v := .bool false) rfl (by kernel_rfl) (by kernel_rfl) (by kernel_rfl) (fun _ _ _ h => h) (Or.inl ⟨by rfl, fun w hSw => ?_⟩) hHeld ?_
      · (go_simp)
      try simp only [Act.put, List.setIfInBounds_toArray, List.set_cons_zero, List.set_cons_succ]
      refine take1 (i := 15) (v := .bool true) rfl (by kernel_rfl) (by kernel_rfl) (by kernel_rfl) (fun _ _ _ h => h) (Or.inl ⟨by rfl, fun w hSw => ?_⟩) hHeld ?_
      · (go_simp)
      try simp only [Act.put, List.setIfInBounds_toArray, List.set_cons_zero, List.set_cons_succ]
      refine take1 (i := 16) (v := .bool false) rfl (by kernel_rfl) (by kernel_rfl) (by kernel_rfl) (fun _ _ _ h => h) (Or.inl ⟨by rfl, fun w hSw => ?_⟩) hHeld ?_
      · (go_simp)
      try simp only [Act.put, List.setIfInBounds_toArray, List.set_cons_zero, List.set_cons_succ]
      refine take1 (i := 17) (v := .bool false) rfl (by kernel_rfl) (by kernel_rfl) (by kernel_rfl) (fun _ _ _ h => h) (Or.inl ⟨by rfl, fun w hSw => ?_⟩) hHeld ?_
      · (go_simp)
      try simp only [Act.put, List.setIfInBounds_toArray, List.set_cons_zero, List.set_cons_succ]
      refine take1 (i := 18) (v := .bool false) rfl (by kernel_rfl) (by kernel_rfl) (by kernel_rfl) (fun _ _ _ h => h) (Or.inl ⟨by rfl, fun w hSw => ?_⟩) hHeld ?_
      · (go_simp)
      try simp only [Act.put, List.setIfInBounds_toArray, List.set_cons_zero, List.set_cons_succ]
      refine take1 (i := 19) (v := .agg #[.int .i64 v.2.ac, .int .i64 v.2.an, .int .i32 v.2.ch, .bool v.2.d]) rfl (by kernel_rfl) (by kernel_rfl) (by kernel_rfl) (fun _ _ _ h => h) (Or.inl ⟨by rfl, fun w hSw => ?_⟩) hHeld ?_
      · (go_simp)
      try simp only [Act.put, List.setIfInBounds_toArray, List.set_cons_zero, List.set_cons_succ]
      refine take1 (i := 20) (v := .agg #[.int .i64 v.2.ac, .int .i64 v.2.an, .int .i32 v.2.ch, .bool v.2.d]) rfl (by kernel_rfl) (by kernel_rfl) (by kernel_rfl) (fun _ _ _ h => h) (Or.inl ⟨by rfl, fun w hSw => ?_⟩) hHeld ?_
      · (go_simp)
      try simp only [Act.put, List.setIfInBounds_toArray, List.set_cons_zero, List.set_cons_succ]
      refine take1 (i := 21) (v := .bool false) rfl (by kernel_rfl) (by kernel_rfl) (by kernel_rfl) (fun _ _ _ h => h) (Or.inl ⟨by rfl, fun w hSw => ?_⟩) hHeld ?_
      · (go_simp)
      try simp only [Act.put, List.setIfInBounds_toArray, List.set_cons_zero, List.set_cons_succ]
      refine take1 (i := 22) (v := .bool false) rfl (by kernel_rfl) (by kernel_rfl) (by kernel_rfl) (fun _ _ _ h => h) (Or.inl ⟨by rfl, fun w hSw => ?_⟩) hHeld ?_
      · (go_simp)
      try simp only [Act.put, List.setIfInBounds_toArray, List.set_cons_zero, List.set_cons_succ]
      refine wpAnyH_done (by kernel_rfl) ?_ _
      refine OnlyN.normal ?_
      have HZ := Lib.hid hHeld.2.2.2.2.2.2.2.2.2.2.2.2.2.2.2.2.2.2
      clear hHeld
      have hcn := HZ.out.bn.cell
      have hfn := HZ.out.bn.frozen
      have s1 : IntKind.i64.wrap ((k : Int) + 1) = (k : Int) + 1 := IntWalk.i64_in _ (by omega)
      gi_wp2
      have hbz := HZ.out.bn.set (.int .i64 ((k : Int) + 1))
      have hle : w.heap.size + 1 + 1 + 1 ≤ W.heap.size := Nat.le_of_lt hnb
      exact ⟨((keeps_of_below (HBZ.out.trans (HBB.out.mono (by have := HBZ.out.size; exact this)))).trans (KeepsOthers.setCell _ _ _)).from _, ((HBZ.out.mono hle).trans (HBB.out.mono (Nat.le_trans hle HBZ.out.size))).setCell (p := ⟨w.heap.size + 1 + 1 + 1, 0, none⟩) (Nat.le_refl _) _, by rw [hsn]; exact hbz, (hi3.trans ((HBZ.out.mono hle).trans (HBB.out.mono (Nat.le_trans hle HBZ.out.size)))).setCell (p := ⟨w.heap.size + 1 + 1 + 1, 0, none⟩) (Nat.le_refl _) _⟩
    · have HNE := Lib.hid (show ¬ toRe v = y from fun h => hE h.symm)
      have HNPE := Lib.hid (HNP.out hE)
      refine region_round (S := (fun X => X.cell? ⟨w.heap.size + 1 + 1 + 1, 0, none⟩ = some (.int .i64 (k : Int)) ∧ X.cell? ⟨w.heap.size + 1, 0, none⟩ = some (.slice (some ⟨g, 0, none⟩) (els T).length cap) ∧ X.cell? ⟨Bi, 0, none⟩ = some (.int .i64 (nmC v.1)) ∧ X.cell? ⟨Bi, 1, none⟩ = some (.int .i64 (nmS v.1)) ∧ X.cell? ⟨Be, 0, none⟩ = some (.int .i64 v.2.ac) ∧ X.cell? ⟨Be, 1, none⟩ = some (.int .i64 v.2.an) ∧ X.cell? ⟨Be, 2, none⟩ = some (.int .i32 v.2.ch) ∧ X.cell? ⟨Be, 3, none⟩ = some (.bool v.2.d) ∧ X.cell? ⟨Bx, 0, none⟩ = some (.int .i64 v.2.ac) ∧ X.cell? ⟨Bx, 1, none⟩ = some (.int .i64 v.2.an) ∧ X.cell? ⟨Bx, 2, none⟩ = some (.int .i32 v.2.ch) ∧ X.cell? ⟨Bx, 3, none⟩ = some (.bool v.2.d) ∧ X.cell? ⟨g, k * 6, none⟩ = some (.int .i64 y.c) ∧ X.cell? ⟨g, k * 6 + 1, none⟩ = some (.int .i64 y.s) ∧ X.cell? ⟨g, k * 6 + 2, none⟩ = some (.int .i64 y.e.ac) ∧ X.cell? ⟨g, k * 6 + 3, none⟩ = some (.int .i64 y.e.an) ∧ X.cell? ⟨g, k * 6 + 4, none⟩ = some (.int .i32 y.e.ch) ∧ X.cell? ⟨g, k * 6 + 5, none⟩ = some (.bool y.e.d) ∧ RdS w p ((els T).length : Int) (.slice (some ⟨g, 0, none⟩) (els T).length cap) T k Bi Be Bx v X)) hmx (by kernel_rfl) (((HR.out.next (Below.refl _ _).drew).s (HC.out _ (HR.out.next (Below.refl _ _).drew).base.ls))) (fun hHeld => ?_)
      refine take1 (i := 0) (v := .int .i64 (k : Int)) rfl (by kernel_rfl) (by kernel_rfl) (by kernel_rfl) (fun _ _ _ h => h) (Or.inl ⟨by rfl, fun w hSw => ?_⟩) hHeld ?_
      · (go_simp)
      try simp only [Act.put, List.setIfInBounds_toArray, List.set_cons_zero, List.set_cons_succ]
      refine take1 (i := 1) (v := .slice (some ⟨g, 0, none⟩) (els T).length cap) rfl (by kernel_rfl) (by kernel_rfl) (by kernel_rfl) (fun _ _ _ h => h) (Or.inl ⟨by rfl, fun w hSw => ?_⟩) hHeld ?_
      · (go_simp)
      try simp only [Act.put, List.setIfInBounds_toArray, List.set_cons_zero, List.set_cons_succ]
      refine take1 (i := 2) (v := .int .i64 ((els T).length : Int)) rfl (by kernel_rfl) (by kernel_rfl) (by kernel_rfl) (fun _ _ _ h => h) (Or.inl ⟨by rfl, fun w hSw => ?_⟩) hHeld ?_
      · (go_simp)
      try simp only [Act.put, List.setIfInBounds_toArray, List.set_cons_zero, List.set_cons_succ]
      refine take1 (i := 3) (v := .bool false) rfl (by kernel_rfl) (by kernel_rfl) (by kernel_rfl) (fun _ _ _ h => h) (Or.inl ⟨by rfl, fun w hSw => ?_⟩) hHeld ?_
      · (go_simp; omega)
      try simp only [Act.put, List.setIfInBounds_toArray, List.set_cons_zero, List.set_cons_succ]
      refine take1 (i := 4) (v := .bool false) rfl (by kernel_rfl) (by kernel_rfl) (by kernel_rfl) (fun _ _ _ h => h) (Or.inl ⟨by rfl, fun w hSw => ?_⟩) hHeld ?_
      · (go_simp)
      try simp only [Act.put, List.setIfInBounds_toArray, List.set_cons_zero, List.set_cons_succ]
      refine take1 (i := 5) (v := .agg #[.int .i64 (nmC v.1), .int .i64 (nmS v.1)]) rfl (by kernel_rfl) (by kernel_rfl) (by kernel_rfl) (fun _ _ _ h => h) (Or.inl ⟨by rfl, fun w hSw => ?_⟩) hHeld ?_
      · (go_simp)
      try simp only [Act.put, List.setIfInBounds_toArray, List.set_cons_zero, List.set_cons_succ]
      refine take1 (i := 6) (v := .agg #[.int .i64 v.2.ac, .int .i64 v.2.an, .int .i32 v.2.ch, .bool v.2.d]) rfl (by kernel_rfl) (by kernel_rfl) (by kernel_rfl) (fun _ _ _ h => h) (Or.inl ⟨by rfl, fun w hSw => ?_⟩) hHeld ?_
      · (go_simp)
      try simp only [Act.put, List.setIfInBounds_toArray, List.set_cons_zero, List.set_cons_succ]
      refine take1 (i := 8) (v := .slice (some ⟨g, 0, none⟩) (els T).length cap) rfl (by kernel_rfl) (by kernel_rfl) (by kernel_rfl) (fun _ _ _ h => h) (Or.inl ⟨by rfl, fun w hSw => ?_⟩) hHeld ?_
      · (go_simp)
      try simp only [Act.put, List.setIfInBounds_toArray, List.set_cons_zero, List.set_cons_succ]
      refine take1 (i := 9) (v := .int .i64 (k : Int)) rfl (by kernel_rfl) (by kernel_rfl) (by kernel_rfl) (fun _ _ _ h => h) (Or.inl ⟨by rfl, fun w hSw => ?_⟩) hHeld ?_
      · (go_simp)
      try simp only [Act.put, List.setIfInBounds_toArray, List.set_cons_zero, List.set_cons_succ]
      refine take1 (i := 10) (v := .pointer (some ⟨g, k * 6, none⟩)) rfl (by kernel_rfl) (by kernel_rfl) (by kernel_rfl) (fun _ _ _ h => h) (Or.inl ⟨by rfl, fun w hSw => ?_⟩) hHeld ?_
      · (go_simp)
      try simp only [Act.put, List.setIfInBounds_toArray, List.set_cons_zero, List.set_cons_succ]
      refine take1 (i := 11) (v := .agg #[.int .i64 y.c, .int .i64 y.s, .int .i64 y.e.ac, .int .i64 y.e.an, .int .i32 y.e.ch, .bool y.e.d]) rfl (by kernel_rfl) (by kernel_rfl) (by kernel_rfl) (fun _ _ _ h => h) (Or.inl ⟨by rfl, fun w hSw => ?_⟩) hHeld ?_
      · (go_simp)
      try simp only [Act.put, List.setIfInBounds_toArray, List.set_cons_zero, List.set_cons_succ]
      refine wpAnyH_ready (rs := [7]) (by kernel_rfl) (by simp) ?_
      refine cons1 rfl (fun K hK => ?_) AllReadyH.nil
      go_simp
      refine (of4_any _ _ v.2 _).mono ?_
      unfold reV
      rintro e' u1 ⟨rfl, hb⟩
      go_wp2_with fail
      refine hK.out _ _ ((let h := hHeld.2.2.2.2.2.2.2.2.2.2.2.2.2.2.2.2.2.2.next hb; h.s (HC.out _ h.base.ls))) (fun hHeld2 => ?_)
      clear hK K hHeld 
      have hHeld := hHeld2
      clear hHeld2
      try simp only [Act.put, List.setIfInBounds_toArray, List.set_cons_zero, List.set_cons_succ]
      have HBB := Lib.hid (show Below X2.heap.size X2 u1 from (Below.refl X2.heap.size X2).drew.trans hb)
      clear hb
      refine take1 (i := 12) (v := .bool true) rfl (by kernel_rfl) (by kernel_rfl) (by kernel_rfl) (fun _ _ _ h => h) (Or.inl ⟨by rfl, fun w hSw => ?_⟩) hHeld ?_
      · (go_simp; intro h1 h2 h3 h4 h5 h6; exact HNE.out (toRe_same h1 h2 h3 h4 h5 h6))
      try simp only [Act.put, List.setIfInBounds_toArray, List.set_cons_zero, List.set_cons_succ]
      refine take1 (i := 13) (v := .bool true) rfl (by kernel_rfl) (by kernel_rfl) (by kernel_rfl) (fun _ _ _ h => h) (Or.inl ⟨by rfl, fun w hSw => ?_⟩) hHeld ?_
      · (go_simp)
      try simp only [Act.put, List.setIfInBounds_toArray, List.set_cons_zero, List.set_cons_succ]
      refine take1 (i := 14) (v := .bool true) rfl (by kernel_rfl) (by kernel_rfl) (by kernel_rfl) (fun _ _ _ h => h) (Or.inl ⟨by rfl, fun w hSw => ?_⟩) hHeld ?_
      · (go_simp)
      try simp only [Act.put, List.setIfInBounds_toArray, List.set_cons_zero, List.set_cons_succ]
      refine take1 (i := 15) (v := undef) rfl (by kernel_rfl) (by kernel_rfl) (by kernel_rfl) (fun _ _ _ h => h) (Or.inr ⟨by rfl, rfl⟩) hHeld ?_
      try simp only [Act.put, List.setIfInBounds_toArray, List.set_cons_zero, List.set_cons_succ]
      refine take1 (i := 16) (v := undef) rfl (by kernel_rfl) (by kernel_rfl) (by kernel_rfl) (fun _ _ _ h => h) (Or.inr ⟨by rfl, rfl⟩) hHeld ?_
      try simp only [Act.put, List.setIfInBounds_toArray, List.set_cons_zero, List.set_cons_succ]
      refine take1 (i := 17) (v := .bool true) rfl (by kernel_rfl) (by kernel_rfl) (by kernel_rfl) (fun _ _ _ h => h) (Or.inl ⟨by rfl, fun w hSw => ?_⟩) hHeld ?_
      · (go_simp)
      try simp only [Act.put, List.setIfInBounds_toArray, List.set_cons_zero, List.set_cons_succ]
      refine take1 (i := 18) (v := .bool true) rfl (by kernel_rfl) (by kernel_rfl) (by kernel_rfl) (fun _ _ _ h => h) (Or.inl ⟨by rfl, fun w hSw => ?_⟩) hHeld ?_
      · (go_simp)
      try simp only [Act.put, List.setIfInBounds_toArray, List.set_cons_zero, List.set_cons_succ]
      refine take1 (i := 19) (v := undef) rfl (by kernel_rfl) (by kernel_rfl) (by kernel_rfl) (fun _ _ _ h => h) (Or.inr ⟨by rfl, rfl⟩) hHeld ?_
      try simp only [Act.put, List.setIfInBounds_toArray, List.set_cons_zero, List.set_cons_succ]
      refine take1 (i := 20) (v := undef) rfl (by kernel_rfl) (by kernel_rfl) (by kernel_rfl) (fun _ _ _ h => h) (Or.inr ⟨by rfl, rfl⟩) hHeld ?_
      try simp only [Act.put, List.setIfInBounds_toArray, List.set_cons_zero, List.set_cons_succ]
      refine take1 (i := 21) (v := undef) rfl (by kernel_rfl) (by kernel_rfl) (by kernel_rfl) (fun _ _ _ h => h) (Or.inr ⟨by rfl, rfl⟩) hHeld ?_
      try simp only [Act.put, List.setIfInBounds_toArray, List.set_cons_zero, List.set_cons_succ]
      refine take1 (i := 22) (v := .bool true) rfl (by kernel_rfl) (by kernel_rfl) (by kernel_rfl) (fun _ _ _ h => h) (Or.inl ⟨by rfl, fun w hSw => ?_⟩) hHeld ?_
      · (go_simp)
      try simp only [Act.put, List.setIfInBounds_toArray, List.set_cons_zero, List.set_cons_succ]
      refine wpAnyH_done (by kernel_rfl) ?_ _
      refine OnlyN.normal ?_
      have HZ := Lib.hid hHeld.2.2.2.2.2.2.2.2.2.2.2.2.2.2.2.2.2.2
      clear hHeld
      obtain ⟨u, hu⟩ := HZ.out.base.br
      have hcr := hu.cell 0 rfl
      have hfr := hu.free 0
      clear hu
      gi_wp2
      exact ⟨((keeps_of_below (HBZ.out.trans (HBB.out.mono (by have := HBZ.out.size; exact this)))).trans (KeepsOthers.setCell _ _ _)).from _, HNPE.out⟩
  case done =>
    rintro D ys W hD hys ⟨hi1, hi3⟩ hK1
    have hz4 : w.heap.size + 1 + 1 + 1 + 1 + 1 < W3.heap.size := hz3
    have hi3' : Below W1.heap.size W1 W := by rw [hsz]; exact hi3
    have hB := H0.out.next hi3'
    have hlen : ys.length = (els T).length := by rw [← hys]; simp
    rw [hlen] at hi1
    have HB := Lib.hid (And.intro hB (And.intro hi1 hK1))
    have hl1 := fun o => (hB.bl.alloc o).cell 0 rfl
    have HLS := Lib.hid hB.ls
    clear hi1 hB hlen hys hi3' hK1 hi3 hbk hbt hb3 hz3 hT3
    generalize hN : (els T).length = N at *
    rcases last_els HF.out with ⟨h0, hc, hs⟩ | ⟨l, x, hl, hc, hs⟩
    · rw [h0] at hN
      obtain rfl : N = 0 := hN.symm
      have HCS := Lib.hid (And.intro hc hs)
      clear hc hs h0
      go_wp2_with fail
      obtain ⟨Bz, hBz⟩ : ∃ Bz, Bz = W.heap.size := ⟨_, rfl⟩
      have hba : Below W.heap.size W (W.alloc (.cells #[.int .i64 0, .int .i64 0] 24)) := (Below.refl _ _).alloc (Nat.le_refl _) _
      have HZ := Lib.hid (show IsF w p ((0 : Nat) : Int) (.slice a 0 cap) T D Bz (W.alloc (.cells #[.int .i64 0, .int .i64 0] 24)) from
        ⟨HB.out.1.next hba, Boxed.nextB HB.out.2.1 hba, by rw [HCS.out.1, HCS.out.2, hBz]; exact Blk.start _ _ _, (hba.block D (Array.getElem?_eq_some_iff.1 HB.out.2.2).1).trans HB.out.2.2⟩)
      rw [← hBz]
      clear HB hba hl1 hBz
      generalize (W.alloc (.cells #[.int .i64 0, .int .i64 0] 24)) = W9 at *
      refine wp_region_noPanic ?_
      refine wp_region_held_drew (S := (fun X => X.cell? ⟨w.heap.size + 1 + 1 + 1, 0, none⟩ = some (.int .i64 ((0 : Nat) : Int)) ∧ X.cell? ⟨w.heap.size + 1, 0, none⟩ = some (.slice a 0 cap) ∧ X.cell? ⟨w.heap.size, 0, none⟩ = some (.pointer p) ∧ X.cell? ⟨w.heap.size, 1, none⟩ = some (.int .i64 ((0 : Nat) : Int)) ∧ X.cell? ⟨Bz, 0, none⟩ = some (.int .i64 (lastC T)) ∧ X.cell? ⟨Bz, 1, none⟩ = some (.int .i64 (lastS T)) ∧ IsF w p ((0 : Nat) : Int) (.slice a 0 cap) T D Bz X)) (by kernel_rfl) ?_ (fun hHeld => ?_)
      · exact (HZ.out.next (Below.refl _ _).drew).s
      clear HZ
      refine take1 (i := 0) (v := .int .i64 ((0 : Nat) : Int)) rfl (by kernel_rfl) (by kernel_rfl) (by kernel_rfl) (fun _ _ _ h => h) (Or.inl ⟨by rfl, fun w hSw => ?_⟩) hHeld ?_
      · (go_simp)
      try simp only [Act.put, List.setIfInBounds_toArray, List.set_cons_zero, List.set_cons_succ]
      refine take1 (i := 1) (v := .slice a 0 cap) rfl (by kernel_rfl) (by kernel_rfl) (by kernel_rfl) (fun _ _ _ h => h) (Or.inl ⟨by rfl, fun w hSw => ?_⟩) hHeld ?_
      · (go_simp)
      try simp only [Act.put, List.setIfInBounds_toArray, List.set_cons_zero, List.set_cons_succ]
      refine take1 (i := 2) (v := .int .i64 ((0 : Nat) : Int)) rfl (by kernel_rfl) (by kernel_rfl) (by kernel_rfl) (fun _ _ _ h => h) (Or.inl ⟨by rfl, fun w hSw => ?_⟩) hHeld ?_
      · (go_simp)
      try simp only [Act.put, List.setIfInBounds_toArray, List.set_cons_zero, List.set_cons_succ]
      refine take1 (i := 3) (v := .bool true) rfl (by kernel_rfl) (by kernel_rfl) (by kernel_rfl) (fun _ _ _ h => h) (Or.inl ⟨by rfl, fun w hSw => ?_⟩) hHeld ?_
      · (go_simp)
      try simp only [Act.put, List.setIfInBounds_toArray, List.set_cons_zero, List.set_cons_succ]
      refine take1 (i := 4) (v := .bool true) rfl (by kernel_rfl) (by kernel_rfl) (by kernel_rfl) (fun _ _ _ h => h) (Or.inl ⟨by rfl, fun w hSw => ?_⟩) hHeld ?_
      · (go_simp)
      try simp only [Act.put, List.setIfInBounds_toArray, List.set_cons_zero, List.set_cons_succ]
      refine take1 (i := 5) (v := .agg #[.pointer p, .int .i64 ((0 : Nat) : Int)]) rfl (by kernel_rfl) (by kernel_rfl) (by kernel_rfl) (fun _ _ _ h => h) (Or.inl ⟨by rfl, fun w hSw => ?_⟩) hHeld ?_
      · (go_simp)
      try simp only [Act.put, List.setIfInBounds_toArray, List.set_cons_zero, List.set_cons_succ]
      refine take1 (i := 7) (v := .int .i64 ((0 : Nat) : Int)) rfl (by kernel_rfl) (by kernel_rfl) (by kernel_rfl) (fun _ _ _ h => h) (Or.inl ⟨by rfl, fun w hSw => ?_⟩) hHeld ?_
      · (go_simp)
      try simp only [Act.put, List.setIfInBounds_toArray, List.set_cons_zero, List.set_cons_succ]
      refine wpAnyH_ready (rs := [6]) (by kernel_rfl) (by simp) ?_
      refine cons1 rfl (fun K hK => ?_) AllReadyH.nil
      go_simp
      refine (lenM_any _ _ _).mono ?_
      rintro e' u1 ⟨rfl, hb⟩
      go_wp2_with fail
      refine hK.out _ _ ((hHeld.2.2.2.2.2.2.next hb).s) (fun hHeld2 => ?_)
      clear hK K hHeld hb
      have hHeld := hHeld2
      clear hHeld2
      try simp only [Act.put, List.setIfInBounds_toArray, List.set_cons_zero, List.set_cons_succ]
      refine take1 (i := 8) (v := .bool true) rfl (by kernel_rfl) (by kernel_rfl) (by kernel_rfl) (fun _ _ _ h => h) (Or.inl ⟨by rfl, fun w hSw => ?_⟩) hHeld ?_
      · (go_simp)
      try simp only [Act.put, List.setIfInBounds_toArray, List.set_cons_zero, List.set_cons_succ]
      refine take1 (i := 9) (v := .bool true) rfl (by kernel_rfl) (by kernel_rfl) (by kernel_rfl) (fun _ _ _ h => h) (Or.inl ⟨by rfl, fun w hSw => ?_⟩) hHeld ?_
      · (go_simp)
      try simp only [Act.put, List.setIfInBounds_toArray, List.set_cons_zero, List.set_cons_succ]
      refine take1 (i := 10) (v := .bool true) rfl (by kernel_rfl) (by kernel_rfl) (by kernel_rfl) (fun _ _ _ h => h) (Or.inl ⟨by rfl, fun w hSw => ?_⟩) hHeld ?_
      · (go_simp)
      try simp only [Act.put, List.setIfInBounds_toArray, List.set_cons_zero, List.set_cons_succ]
      refine take1 (i := 11) (v := .agg #[.pointer p, .int .i64 ((0 : Nat) : Int)]) rfl (by kernel_rfl) (by kernel_rfl) (by kernel_rfl) (fun _ _ _ h => h) (Or.inl ⟨by rfl, fun w hSw => ?_⟩) hHeld ?_
      · (go_simp)
      try simp only [Act.put, List.setIfInBounds_toArray, List.set_cons_zero, List.set_cons_succ]
      refine take1 (i := 13) (v := .agg #[.int .i64 (lastC T), .int .i64 (lastS T)]) rfl (by kernel_rfl) (by kernel_rfl) (by kernel_rfl) (fun _ _ _ h => h) (Or.inl ⟨by rfl, fun w hSw => ?_⟩) hHeld ?_
      · (go_simp)
      try simp only [Act.put, List.setIfInBounds_toArray, List.set_cons_zero, List.set_cons_succ]
      refine wpAnyH_ready (rs := [12]) (by kernel_rfl) (by simp) ?_
      refine cons1 rfl (fun K hK => ?_) AllReadyH.nil
      go_simp
      refine (Last_any _ _ hHeld.2.2.2.2.2.2.base.tr HF.out).mono ?_
      rintro e' u2 ⟨rfl, hb⟩
      go_wp2_with fail
      refine hK.out _ _ ((hHeld.2.2.2.2.2.2.next hb).s) (fun hHeld2 => ?_)
      clear hK K hHeld hb
      have hHeld := hHeld2
      clear hHeld2
      try simp only [Act.put, List.setIfInBounds_toArray, List.set_cons_zero, List.set_cons_succ]
      obtain ⟨z, hz⟩ := hHeld.2.2.2.2.2.2.base.br
      have hcz := hz.cell 0 rfl
      have hfz := hz.free 0
      clear hz
      refine take1 (i := 14) (v := .bool true) rfl (by kernel_rfl) (by kernel_rfl) (by kernel_rfl) (fun _ _ _ h => h) (Or.inl ⟨by rfl, fun w hSw => ?_⟩) hHeld ?_
      · (go_simp)
      try simp only [Act.put, List.setIfInBounds_toArray, List.set_cons_zero, List.set_cons_succ]
      refine take1 (i := 15) (v := .bool true) rfl (by kernel_rfl) (by kernel_rfl) (by kernel_rfl) (fun _ _ _ h => h) (Or.inl ⟨by rfl, fun w hSw => ?_⟩) hHeld ?_
      · (go_simp)
      try simp only [Act.put, List.setIfInBounds_toArray, List.set_cons_zero, List.set_cons_succ]
      refine wpAnyH_ready (rs := [16]) (by kernel_rfl) (by simp) ?_
      refine cons1 rfl (fun K hK => ?_) AllReadyH.nil
      go_simp
      have HPZ := Lib.hid (hHeld.2.2.2.2.2.2.put true)
      go_wp2_with fail
      refine hK.out _ _ ((HPZ.out.1).s) (fun hHeld2 => ?_)
      clear hK K hHeld hcz hfz
      have hHeld := hHeld2
      clear hHeld2
      try simp only [Act.put, List.setIfInBounds_toArray, List.set_cons_zero, List.set_cons_succ]
      refine wpAnyH_done (by kernel_rfl) ?_ _
      refine NoPanic.normal ?_
      clear hHeld
      have hd1 := HPZ.out.1.dk
      have hres := (HPZ.out.2.putObj (D := D) (by have := hD; have := hz4; omega) (.deferred none)).cell 0 rfl
      have hbe := HPZ.out.1.base.bel.trans (belowK_b (w := w) (Nat.le_refl _) _ D _ (.deferred none) (by have := hD; have := hz4; omega) hd1 rfl rfl)
      have HRES := Lib.hid (And.intro hres hbe)
      clear hres hbe
      go_wp2_with fail
      refine ⟨by simp, .inl ⟨_, _, rfl, run_takeDeferred hd1, ?_⟩⟩
      exact ⟨.bool true, by have := HRES.out.1; simp [results, Tryz.results26, go_sem, this], rfl, HRES.out.2⟩
    · have hM : N = l.length + 1 := by rw [← hN, hl]; simp
      have hLx : ∃ g, a = some ⟨g, 0, none⟩ ∧ g < W.heap.size ∧ YC W g l.length (toRe x) := by
        have hk : l.length < (reT T).length := by rw [reT_len, hl]; simp
        obtain ⟨g, e, hgl, -⟩ := HLS.out.cell l.length hk
        subst e
        have := yc_of HLS.out hk
        have hx : (reT T)[l.length] = toRe x := by simp [reT, hl]
        rw [hx] at this
        exact ⟨g, rfl, hgl, this⟩
      obtain ⟨g, rfl, hgl, hY⟩ := hLx
      generalize l.length = M at *
      subst hM
      have y0 := fun o => ((Below.refl W.heap.size W).alloc (Nat.le_refl _) o).cell (p := ⟨g, M * 6, none⟩) hgl |>.trans hY.1
      have y1 := fun o => ((Below.refl W.heap.size W).alloc (Nat.le_refl _) o).cell (p := ⟨g, M * 6 + 1, none⟩) hgl |>.trans hY.2.1
      have HCS := Lib.hid (And.intro hc hs)
      have s1 : IntKind.i64.wrap (((M + 1 : Nat) : Int) - 1) = (M : Int) := by rw [IntWalk.i64_in _ (by omega)]; omega
      have HGL := Lib.hid hgl
      clear hc hs hl hY hgl
      go_wp2_with fail
      clear y0 y1 s1
      obtain ⟨Bz, hBz⟩ : ∃ Bz, Bz = W.heap.size := ⟨_, rfl⟩
      have hba : Below W.heap.size W (W.alloc (.cells #[.int .i64 (toRe x).c, .int .i64 (toRe x).s] 24)) := (Below.refl _ _).alloc (Nat.le_refl _) _
      have HZ := Lib.hid (show IsF w p ((M + 1 : Nat) : Int) (.slice (some ⟨g, 0, none⟩) (M + 1) cap) T D Bz (W.alloc (.cells #[.int .i64 (toRe x).c, .int .i64 (toRe x).s] 24)) from
        ⟨HB.out.1.next hba, Boxed.nextB HB.out.2.1 hba, by rw [HCS.out.1, HCS.out.2, hBz]; exact Blk.start _ _ _, (hba.block D (Array.getElem?_eq_some_iff.1 HB.out.2.2).1).trans HB.out.2.2⟩)
      rw [← hBz]
      clear HB hba hl1 hBz HLS
      generalize (W.alloc (.cells #[.int .i64 (toRe x).c, .int .i64 (toRe x).s] 24)) = W9 at *
      generalize hN9 : M + 1 = N at *
      refine wp_region_noPanic ?_
      refine wp_region_held_drew (S := (fun X => X.cell? ⟨w.heap.size + 1 + 1 + 1, 0, none⟩ = some (.int .i64 (N : Int)) ∧ X.cell? ⟨w.heap.size + 1, 0, none⟩ = some (.slice (some ⟨g, 0, none⟩) N cap) ∧ X.cell? ⟨w.heap.size, 0, none⟩ = some (.pointer p) ∧ X.cell? ⟨w.heap.size, 1, none⟩ = some (.int .i64 (N : Int)) ∧ X.cell? ⟨Bz, 0, none⟩ = some (.int .i64 (lastC T)) ∧ X.cell? ⟨Bz, 1, none⟩ = some (.int .i64 (lastS T)) ∧ IsF w p (N : Int) (.slice (some ⟨g, 0, none⟩) N cap) T D Bz X)) (by kernel_rfl) ?_ (fun hHeld => ?_)
      · exact (HZ.out.next (Below.refl _ _).drew).s
      clear HZ
      refine take1 (i := 0) (v := .int .i64 (N : Int)) rfl (by kernel_rfl) (by kernel_rfl) (by kernel_rfl) (fun _ _ _ h => h) (Or.inl ⟨by rfl, fun w hSw => ?_⟩) hHeld ?_
      · (go_simp)
      try simp only [Act.put, List.setIfInBounds_toArray, List.set_cons_zero, List.set_cons_succ]
      refine take1 (i := 1) (v := .slice (some ⟨g, 0, none⟩) N cap) rfl (by kernel_rfl) (by kernel_rfl) (by kernel_rfl) (fun _ _ _ h => h) (Or.inl ⟨by rfl, fun w hSw => ?_⟩) hHeld ?_
      · (go_simp)
      try simp only [Act.put, List.setIfInBounds_toArray, List.set_cons_zero, List.set_cons_succ]
      refine take1 (i := 2) (v := .int .i64 (N : Int)) rfl (by kernel_rfl) (by kernel_rfl) (by kernel_rfl) (fun _ _ _ h => h) (Or.inl ⟨by rfl, fun w hSw => ?_⟩) hHeld ?_
      · (go_simp)
      try simp only [Act.put, List.setIfInBounds_toArray, List.set_cons_zero, List.set_cons_succ]
      refine take1 (i := 3) (v := .bool true) rfl (by kernel_rfl) (by kernel_rfl) (by kernel_rfl) (fun _ _ _ h => h) (Or.inl ⟨by rfl, fun w hSw => ?_⟩) hHeld ?_
      · (go_simp)
      try simp only [Act.put, List.setIfInBounds_toArray, List.set_cons_zero, List.set_cons_succ]
      refine take1 (i := 4) (v := .bool true) rfl (by kernel_rfl) (by kernel_rfl) (by kernel_rfl) (fun _ _ _ h => h) (Or.inl ⟨by rfl, fun w hSw => ?_⟩) hHeld ?_
      · (go_simp)
      try simp only [Act.put, List.setIfInBounds_toArray, List.set_cons_zero, List.set_cons_succ]
      refine take1 (i := 5) (v := .agg #[.pointer p, .int .i64 (N : Int)]) rfl (by kernel_rfl) (by kernel_rfl) (by kernel_rfl) (fun _ _ _ h => h) (Or.inl ⟨by rfl, fun w hSw => ?_⟩) hHeld ?_
      · (go_simp)
      try simp only [Act.put, List.setIfInBounds_toArray, List.set_cons_zero, List.set_cons_succ]
      refine take1 (i := 7) (v := .int .i64 (N : Int)) rfl (by kernel_rfl) (by kernel_rfl) (by kernel_rfl) (fun _ _ _ h => h) (Or.inl ⟨by rfl, fun w hSw => ?_⟩) hHeld ?_
      · (go_simp)
      try simp only [Act.put, List.setIfInBounds_toArray, List.set_cons_zero, List.set_cons_succ]
      refine wpAnyH_ready (rs := [6]) (by kernel_rfl) (by simp) ?_
      refine cons1 rfl (fun K hK => ?_) AllReadyH.nil
      go_simp
      refine (lenM_any _ _ _).mono ?_
      rintro e' u1 ⟨rfl, hb⟩
      go_wp2_with fail
      refine hK.out _ _ ((hHeld.2.2.2.2.2.2.next hb).s) (fun hHeld2 => ?_)
      clear hK K hHeld hb
      have hHeld := hHeld2
      clear hHeld2
      try simp only [Act.put, List.setIfInBounds_toArray, List.set_cons_zero, List.set_cons_succ]
      refine take1 (i := 8) (v := .bool true) rfl (by kernel_rfl) (by kernel_rfl) (by kernel_rfl) (fun _ _ _ h => h) (Or.inl ⟨by rfl, fun w hSw => ?_⟩) hHeld ?_
      · (go_simp)
      try simp only [Act.put, List.setIfInBounds_toArray, List.set_cons_zero, List.set_cons_succ]
      refine take1 (i := 9) (v := .bool true) rfl (by kernel_rfl) (by kernel_rfl) (by kernel_rfl) (fun _ _ _ h => h) (Or.inl ⟨by rfl, fun w hSw => ?_⟩) hHeld ?_
      · (go_simp)
      try simp only [Act.put, List.setIfInBounds_toArray, List.set_cons_zero, List.set_cons_succ]
      refine take1 (i := 10) (v := .bool true) rfl (by kernel_rfl) (by kernel_rfl) (by kernel_rfl) (fun _ _ _ h => h) (Or.inl ⟨by rfl, fun w hSw => ?_⟩) hHeld ?_
      · (go_simp)
      try simp only [Act.put, List.setIfInBounds_toArray, List.set_cons_zero, List.set_cons_succ]
      refine take1 (i := 11) (v := .agg #[.pointer p, .int .i64 (N : Int)]) rfl (by kernel_rfl) (by kernel_rfl) (by kernel_rfl) (fun _ _ _ h => h) (Or.inl ⟨by rfl, fun w hSw => ?_⟩) hHeld ?_
      · (go_simp)
      try simp only [Act.put, List.setIfInBounds_toArray, List.set_cons_zero, List.set_cons_succ]
      refine take1 (i := 13) (v := .agg #[.int .i64 (lastC T), .int .i64 (lastS T)]) rfl (by kernel_rfl) (by kernel_rfl) (by kernel_rfl) (fun _ _ _ h => h) (Or.inl ⟨by rfl, fun w hSw => ?_⟩) hHeld ?_
      · (go_simp)
      try simp only [Act.put, List.setIfInBounds_toArray, List.set_cons_zero, List.set_cons_succ]
      refine wpAnyH_ready (rs := [12]) (by kernel_rfl) (by simp) ?_
      refine cons1 rfl (fun K hK => ?_) AllReadyH.nil
      go_simp
      refine (Last_any _ _ hHeld.2.2.2.2.2.2.base.tr HF.out).mono ?_
      rintro e' u2 ⟨rfl, hb⟩
      go_wp2_with fail
      refine hK.out _ _ ((hHeld.2.2.2.2.2.2.next hb).s) (fun hHeld2 => ?_)
      clear hK K hHeld hb
      have hHeld := hHeld2
      clear hHeld2
      try simp only [Act.put, List.setIfInBounds_toArray, List.set_cons_zero, List.set_cons_succ]
      obtain ⟨z, hz⟩ := hHeld.2.2.2.2.2.2.base.br
      have hcz := hz.cell 0 rfl
      have hfz := hz.free 0
      clear hz
      refine take1 (i := 14) (v := .bool true) rfl (by kernel_rfl) (by kernel_rfl) (by kernel_rfl) (fun _ _ _ h => h) (Or.inl ⟨by rfl, fun w hSw => ?_⟩) hHeld ?_
      · (go_simp)
      try simp only [Act.put, List.setIfInBounds_toArray, List.set_cons_zero, List.set_cons_succ]
      refine take1 (i := 15) (v := .bool true) rfl (by kernel_rfl) (by kernel_rfl) (by kernel_rfl) (fun _ _ _ h => h) (Or.inl ⟨by rfl, fun w hSw => ?_⟩) hHeld ?_
      · (go_simp)
      try simp only [Act.put, List.setIfInBounds_toArray, List.set_cons_zero, List.set_cons_succ]
      refine wpAnyH_ready (rs := [16]) (by kernel_rfl) (by simp) ?_
      refine cons1 rfl (fun K hK => ?_) AllReadyH.nil
      go_simp
      have HPZ := Lib.hid (hHeld.2.2.2.2.2.2.put true)
      go_wp2_with fail
      refine hK.out _ _ ((HPZ.out.1).s) (fun hHeld2 => ?_)
      clear hK K hHeld hcz hfz
      have hHeld := hHeld2
      clear hHeld2
      try simp only [Act.put, List.setIfInBounds_toArray, List.set_cons_zero, List.set_cons_succ]
      refine wpAnyH_done (by kernel_rfl) ?_ _
      refine NoPanic.normal ?_
      clear hHeld
      have hd1 := HPZ.out.1.dk
      have hres := (HPZ.out.2.putObj (D := D) (by have := hD; have := hz4; omega) (.deferred none)).cell 0 rfl
      have hbe := HPZ.out.1.base.bel.trans (belowK_b (w := w) (Nat.le_refl _) _ D _ (.deferred none) (by have := hD; have := hz4; omega) hd1 rfl rfl)
      have HRES := Lib.hid (And.intro hres hbe)
      clear hres hbe
      go_wp2_with fail
      refine ⟨by simp, .inl ⟨_, _, rfl, run_takeDeferred hd1, ?_⟩⟩
      exact ⟨.bool true, by have := HRES.out.1; simp [results, Tryz.results26, go_sem, this], rfl, HRES.out.2⟩
end Go.Proofs.YtlnonnjpcajgjaaGreatDoor
