/-
  The contract of find: the part behind all digits of a place, if an entry lies there.
-/
import Derived.Test.YtkhggojghjociaaDoorPtH
import Derived.Deep.LoopGhost
namespace Go.Proofs.YtkhggojghjociaaDoor
open Go Go.Proofs Go.RowKit

/-- What find hands back. -/
def FoundAt (w : World) (q : Option Addr) (r : Option En) : Prop :=
  (q = none ∧ r = none) ∨ ∃ b ps v, q = some ⟨b, 0, none⟩ ∧ Blk w b (ptL ps v) 63 ∧ r = some v
theorem FoundAt.next {w w' : World} {q : Option Addr} {r : Option En} (h : FoundAt w q r) (hb : Below w.heap.size w w') : FoundAt w' q r := by
  rcases h with h | ⟨b, ps, v, hq, hB, hr⟩
  · exact .inl h
  · exact .inr ⟨b, ps, v, hq, hB.next hb, hr⟩
theorem getT_step {k : Nat} (hk : k < 10) (U : Pt) (x : Nat) : getT (10 - (k + 1)) (U.nx (x / 8 ^ (9 - k) % 8)) x = getT (10 - k) U x := by
  have : 10 - k = (10 - (k + 1)) + 1 := by omega
  rw [this]
  simp only [getT]
  rw [show 10 - (k + 1) = 9 - k by omega]

set_option maxHeartbeats 1600000 in
theorem find_any {n : Nat} {p : Option Addr} {T : Pt} (x : Nat) (w : World) (h : IsP n w p T) (hx : x < 1073741824) :
    Calls Tryd.prog 24 #[.pointer p, .int .i64 (x : Int)] w fun e w' => (∃ q, e = .returned (.pointer q) ∧ FoundAt w q (getT 10 T x)) ∧ Below w.heap.size w w' := by
  go_enter Tryd.func24, Tryd.ntmps24
  go_wp2
  go_loopg [0, 6] 10 (fun g tp ti wr => ∃ k : Nat, k ≤ 10 ∧ g = 10 - k ∧ ti = .int .i64 (k : Int) ∧ ∃ q U, tp = .pointer q ∧ IsP n w q U ∧ getT (10 - k) U x = getT 10 T x ∧ Below w.heap.size w wr)
  case atStart => exact ⟨0, by omega, rfl, rfl, p, T, rfl, h, rfl, Below.refl _ _⟩
  case round =>
    obtain ⟨k, hk, rfl, rfl, q, U, rfl, hU, hg, hb⟩ := hrel
    by_cases hlt : k < 10
    · rcases hU.cases with ⟨rfl, rfl⟩ | ⟨b, ps, rfl, hbn, hB, hnn, hc⟩
      · go_wp2
        go_ret
        exact ⟨⟨none, rfl, .inl ⟨rfl, by rw [← hg, getT_nil]⟩⟩, hb⟩
      · have HG := Lib.hid (And.intro (getT_step hlt U x) (And.intro hg (And.intro hb (hc _ (Nat.mod_lt (x / 8 ^ (9 - k)) (by decide : 0 < 8))))))
        have hd : x / 8 ^ (9 - k) % 8 < 8 := Nat.mod_lt _ (by decide)
        have hcell := (hB.next hb).cell _ (ptL_ptr ps U.en hd)
        have HD := Lib.hid (digit_any x k)
        clear hc hU hg hb hnn hB
        generalize x / 8 ^ (9 - k) % 8 = D at *
        go_wp2_with fail
        go_quiet ((go_at_call 34; exact Calls.quiet_of_same (HD.out _ hx hlt)))
        go_wp2
        go_roundg (10 - (k + 1))
        case measure => omega
        case rel => exact ⟨k + 1, by omega, rfl, by go_num, _, _, rfl, HG.out.2.2.2, HG.out.1.trans HG.out.2.1, Below.trans HG.out.2.2.1 (below_drewN (Below.refl _ _) _)⟩
    · obtain rfl : k = 10 := by omega
      go_wp2
      go_ret
      refine ⟨⟨q, rfl, ?_⟩, hb⟩
      rcases hU.cases with ⟨rfl, rfl⟩ | ⟨b, ps, rfl, hbn, hB, hnn, hc⟩
      · exact .inl ⟨rfl, by rw [← hg]; rfl⟩
      · obtain ⟨f, e, rfl⟩ := Pt.isNil_false hnn
        exact .inr ⟨b, ps, e, rfl, hB, by rw [← hg]; rfl⟩
end Go.Proofs.YtkhggojghjociaaDoor
