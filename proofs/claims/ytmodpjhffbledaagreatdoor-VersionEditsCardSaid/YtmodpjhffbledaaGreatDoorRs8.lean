import Derived.Test.YtmodpjhffbledaaGreatDoorRn8
import Derived.Test.YtmodpjhffbledaaGreatDoorLBase
import Derived.Test.YtmodpjhffbledaaGreatDoorLRef
namespace Go.Proofs.YtmodpjhffbledaaGreatDoor
open Go Go.Proofs Go.RowKit
def rn1 (r : Int) : List Value := [.int .i32 r]
theorem rn1_len (r : Int) : (rn1 r).length = 1 := rfl
def IsRn (W : World) (v : Value) (T : List Int) : Prop := Sl 21 1 rn1 W v T
theorem IsRn.next {W W' : World} {v : Value} {T : List Int} (h : IsRn W v T) (hb : Below W.heap.size W W') : IsRn W' v T := Sl.next h hb
theorem rn_flat : ∀ T : List Int, T.flatMap rn1 = T.map (Value.int .i32)
 | [] => rfl
 | r :: T => by rw [List.flatMap_cons, rn_flat T]; rfl
theorem flat_le : ∀ T : List Int, T.length ≤ (T.flatMap Lib.encodeRune).length
 | [] => Nat.le_refl _
 | r :: T => by
  have := flat_le T;have := (enc_len r).1;rw [List.flatMap_cons, List.length_append, List.length_cons]; omega
theorem runes_at (T : List Int) (hT : ∀ r ∈ T, ChrB r) (hl : T.length ≤ 20000) (W : World) :
  ∃ cp W', (convert 9 71 (.string ⟨(T.flatMap Lib.encodeRune).toArray⟩)).run Tryz.prog W = .ok (.slice (some ⟨W.heap.size, 0, none⟩) T.length cp) W' ∧ IsRn W' (.slice (some ⟨W.heap.size, 0, none⟩) T.length cp) T ∧ Below W.heap.size W W' := by
 obtain ⟨s, hs⟩ : ∃ s : ByteArray, s = ⟨(T.flatMap Lib.encodeRune).toArray⟩ := ⟨_, rfl⟩
 have hsz : T.length ≤ s.size := by rw [hs]; show T.length ≤ (T.flatMap Lib.encodeRune).toArray.size; simpa using flat_le T
 have hR : Conv.runesFrom s s.size 0 #[] = (T.map (Value.int .i32)).toArray := by
  have h := runes_back T hT [] s.size #[] hsz;rw [List.nil_append, ← hs] at h
  simpa using h
 have hn : (Conv.runesFrom s s.size 0 #[]).size = T.length := by rw [hR]; simp
 have hc := run_runes_of_string (P := Tryz.prog) W 9 71 21 s Tryz.underlying9 Tryz.underlying71 Tryz.underlying21 (by rw [hn]; omega);rw [hn, hR] at hc;rw [← hs];refine ⟨_, _, hc, ?_, bD.alloc (Nat.le_refl _) _⟩;have hge := grownCap_ge W T.length 0 21;have hle := grownCap_le_maxLen W T.length 0 21 (by unfold maxLen; omega);generalize grownCap W T.length 0 21 = cp at *
 refine .inr ⟨W.heap.size, cp, (T.map (Value.int .i32)).toArray ++ Array.replicate (cp - T.length) (.int .i32 0), rfl, ?_, hge, hle, ?_⟩
 ·rw [show ((T.map (Value.int .i32)).toArray ++ Array.replicate (cp - T.length) (Value.int .i32 0) : Array Value) = ⟨(T.map (Value.int .i32)) ++ List.replicate (cp - T.length) (.int .i32 0)⟩ from by apply Array.ext'; simp]
  exact Blk.start W.drew ((T.map (Value.int .i32)) ++ List.replicate (cp - T.length) (.int .i32 0)) 21
 ·rw [rn_flat]
  simp
theorem str_head {T : List Int} (hT : ∀ r ∈ T, ChrB r) {a : Option Addr} {cap : Nat} (W : World) (h : IsRn W (.slice a T.length cap) T) {k : Nat} (hk : k ≤ T.length) :
  (convert 71 9 (.slice a k cap)).run Tryz.prog W = .ok (.string ⟨((T.take k).flatMap Lib.encodeRune).toArray⟩) W := by
 have hv : ∀ r ∈ T.take k, ChrB r := fun r hr => hT r (List.mem_of_mem_take hr)
 rcases h with ⟨hs, rfl⟩ | ⟨g, cp, cur, hs, hg, h1, h2, h3⟩
 ·cases hs
  rw [run_convert_runes_nil (P := Tryz.prog) W 71 9 21 k 0 Tryz.underlying71 Tryz.underlying21 Tryz.underlying9];simp
  rfl
 ·cases hs
  have hcell : ∀ j, j < T.length → W.cell? ((⟨g, 0, none⟩ : Addr).add j) = some (.int .i32 (T.getD j 0)) := fun j hj => by
   obtain ⟨g', e, _, hc⟩ := Sl.cell rn1_len (show Sl 21 1 rn1 W (.slice (some ⟨g, 0, none⟩) T.length cap) T from .inr ⟨g, cap, cur, rfl, hg, h1, h2, h3⟩) j hj
   cases e
   have := hc 0 (by omega);rw [Lib.add_plain, Nat.zero_add];rw [Nat.mul_one, Nat.add_zero] at this;rw [this, List.getD_eq_getElem?_getD, List.getElem?_eq_getElem hj];rfl
  rw [run_convert_runes (P := Tryz.prog) W 71 9 21 ⟨g, 0, none⟩ k cap T hk Tryz.underlying71 Tryz.underlying21 Tryz.underlying9 hcell, bytes_of hv]
theorem str_tail {T : List Int} (hT : ∀ r ∈ T, ChrB r) {a : Option Addr} {cap : Nat} (W : World) (h : IsRn W (.slice a T.length cap) T) {k : Nat} (hk : k ≤ T.length) :
  (convert 71 9 (.slice (tailA a k cap 1) (T.length - k) (cap - k))).run Tryz.prog W = .ok (.string ⟨((T.drop k).flatMap Lib.encodeRune).toArray⟩) W := by
 have hv : ∀ r ∈ T.drop k, ChrB r := fun r hr => hT r (List.mem_of_mem_drop hr)
 have hlen : (T.drop k).length = T.length - k := List.length_drop;rcases h with ⟨hs, rfl⟩ | ⟨g, cp, cur, hs, hg, h1, h2, h3⟩
 ·cases hs
  have : tailA none k 0 1 = none := by unfold tailA; split <;> rfl
  rw [this, run_convert_runes_nil (P := Tryz.prog) W 71 9 21 _ _ Tryz.underlying71 Tryz.underlying21 Tryz.underlying9];simp
  rfl
 ·cases hs
  obtain ⟨ad, had, hcell⟩ : ∃ ad : Addr, tailA (some ⟨g, 0, none⟩) k cap 1 = some ad ∧ ∀ j, j < (T.drop k).length → W.cell? (ad.add j) = some (.int .i32 ((T.drop k).getD j 0)) := by
   obtain ⟨ad, e, hn⟩ := tail_news rn1_len (show Sl 21 1 rn1 W (.slice (some ⟨g, 0, none⟩) T.length cap) T from .inr ⟨g, cap, cur, rfl, hg, h1, h2, h3⟩) k hk;refine ⟨ad, e, fun j hj => ?_⟩;have := hn W (Below.refl _ _) j (.int .i32 ((T.drop k).getD j 0));refine this ?_;rw [rn_flat, List.getElem?_map, List.getD_eq_getElem?_getD, List.getElem?_eq_getElem hj];rfl
  rw [had, ← hlen, run_convert_runes (P := Tryz.prog) W 71 9 21 ad (T.drop k).length (cap - k) (T.drop k) (Nat.le_refl _) Tryz.underlying71 Tryz.underlying21 Tryz.underlying9 hcell, List.take_length, bytes_of hv]
end Go.Proofs.YtmodpjhffbledaaGreatDoor
