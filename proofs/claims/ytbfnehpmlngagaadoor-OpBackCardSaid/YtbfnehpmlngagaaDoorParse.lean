/-
  The contracts of areDigits, Number, the library's Cut at a point, and Parse of package id, at the texts that String writes: what is written is read as it was.
-/
import Derived.Test.YtbfnehpmlngagaaDoorAwake
import Derived.Deep.LoopGhost
import Derived.Test.YtbfnehpmlngagaaDoorDec
import Derived.Test.YtbfnehpmlngagaaDoorShelf
import Derived.WalkSpells
import Derived.Lib.Strings
import Derived.Deep.RegionWith
namespace Go.Proofs.YtbfnehpmlngagaaDoor
open Go Go.Proofs Go.RowKit

/-- A string of one to seven digits, the first not 0. -/
structure IsDec (s : ByteArray) : Prop where
  pos : 1 ≤ s.size
  few : s.size ≤ 7
  digit : ∀ i (h : i < s.size), 48 ≤ s[i].toNat ∧ s[i].toNat ≤ 57
  head : s[0].toNat ≠ 48

theorem isDec_dig {c : Int} (h0 : 1 ≤ c) (h1 : c ≤ 1048576) : IsDec (digB c) := by
  have hs : (digB c).size = (Lib.decDigits c.toNat).length := by show (Lib.decDigits c.toNat).toArray.size = _; simp
  have hp := dec_pos c.toNat
  have hg : ∀ i (h : i < (digB c).size), (digB c)[i] = (Lib.decDigits c.toNat)[i]'(by omega) := fun i h => rfl
  refine ⟨by omega, by rw [hs]; exact dec_seven _ (by omega), fun i h => ?_, ?_⟩
  · rw [hg i h]
    exact dec_digit _ _ (List.getElem_mem _)
  · rw [hg 0 (by omega)]
    exact dec_head _ (by omega) hp

set_option maxHeartbeats 800000 in
theorem areDigits_yes (s : ByteArray) (w : World) (h : IsDec s) :
    Calls Tryd.prog 43 #[.string s] w fun e w' => e = .returned (.bool true) ∧ w = w' := by
  have h1 := h.pos
  have h2 := h.few
  have hE : ¬ s.toList = [] := by
    intro e
    have : s.toList.length = 0 := by rw [e]; rfl
    rw [ByteArray.toList_eq] at this
    have h3 : s.data.size = 0 := by simpa using this
    have : s.size = s.data.size := rfl
    omega
  have hE2 : s.toList.isEmpty = false := by simpa using hE
  have h0 : ((s[0].toNat : Int) == 48) = false := by
    have := h.head
    simp
    omega
  have HD := Lib.hid h
  clear h
  by_cases hl : 1 < s.size
  all_goals
    go_enter Tryd.func43, Tryd.ntmps43
    go_wp2
    go_loopg [18] s.size (fun g i wr => w = wr ∧ ∃ k : Nat, k ≤ s.size ∧ g = s.size - k ∧ i = .int .i64 k)
    case atStart => exact ⟨rfl, 0, Nat.zero_le _, rfl, rfl⟩
    case round =>
      obtain ⟨rfl, k, hk, rfl, rfl⟩ := hrel
      by_cases hlt : k < s.size
      · have hb := HD.out.digit k hlt
        have hb1 := hb.1
        have hb2 := hb.2
        clear hb
        go_wp2
        go_roundg (s.size - (k + 1))
        case measure => omega
        case rel => exact ⟨rfl, k + 1, by omega, rfl, by go_num⟩
      · go_wp2
        go_ret
        exact ⟨rfl, rfl⟩

theorem take_byte (s : ByteArray) (k : Nat) (h : k < s.size) : s.data.toList.take (k + 1) = s.data.toList.take k ++ [s[k]] := by
  rw [List.take_succ_eq_append_getElem (by simpa using h)]; rfl
theorem IsDec.all {s : ByteArray} (h : IsDec s) : ∀ b ∈ s.data.toList, 48 ≤ b.toNat ∧ b.toNat ≤ 57 := by
  intro b hb
  obtain ⟨i, hi, rfl⟩ := List.getElem_of_mem hb
  have hi' : i < s.size := by simpa using hi
  exact h.digit i hi'
theorem IsDec.part {s : ByteArray} (h : IsDec s) (k : Nat) : valL (s.data.toList.take k) < 10000000 := by
  refine valL_small _ (fun b hb => h.all b (List.mem_of_mem_take hb)) ?_
  have h1 : (s.data.toList.take k).length ≤ s.data.toList.length := by rw [List.length_take]; omega
  have h2 : s.data.toList.length = s.size := by simp
  have := h.few
  omega
theorem IsDec.step {s : ByteArray} (h : IsDec s) (k : Nat) (hk : k < s.size) : ((valL (s.data.toList.take k) : Nat) : Int) * 10 + ((s[k].toNat : Int) - 48) = ((valL (s.data.toList.take (k + 1)) : Nat) : Int) := by
  rw [take_byte s k hk, valL_snoc]
  have := (h.digit k hk).1
  omega
theorem ret_pair {a b : Int} (h : a = b) : Ending.returned (.tuple #[.int .i64 a, .bool true]) = .returned (.tuple #[.int .i64 b, .bool true]) := by rw [h]

set_option maxHeartbeats 800000 in
theorem number_yes (s : ByteArray) (most : Int) (w : World) (h : IsDec s) (hv : ((valL s.data.toList : Nat) : Int) ≤ most) :
    Calls Tryd.prog 44 #[.string s, .int .i64 most] w fun e w' => e = .returned (.tuple #[.int .i64 (valL s.data.toList : Nat), .bool true]) ∧ w = w' := by
  have h1 := h.pos
  have h2 := h.few
  have HD := Lib.hid h
  have HV := Lib.hid hv
  clear h hv
  go_enter Tryd.func44, Tryd.ntmps44
  go_wp2_with (go_at_call 43; refine (areDigits_yes _ _ HD.out).mono ?_; rintro e w' ⟨rfl, rfl⟩)
  go_loopg [6, 18] s.size (fun g n i wr => w = wr ∧ ∃ k : Nat, k ≤ s.size ∧ g = s.size - k ∧ i = .int .i64 k ∧ n = .int .i64 (valL (s.data.toList.take k) : Nat))
  case atStart => exact ⟨rfl, 0, Nat.zero_le _, rfl, rfl, rfl⟩
  case round =>
    obtain ⟨rfl, k, hk, rfl, rfl, rfl⟩ := hrel
    have hp := HD.out.part k
    by_cases hlt : k < s.size
    · have hb := HD.out.digit k hlt
      have hb1 := hb.1
      have hb2 := hb.2
      have HS := Lib.hid (HD.out.step k hlt)
      clear hb
      generalize hz : valL (s.data.toList.take k) = z at *
      have HZ := Lib.hid hz
      clear hz
      go_wp2
      go_roundg (s.size - (k + 1))
      case measure => omega
      case rel => exact ⟨rfl, k + 1, by omega, rfl, by go_num, congrArg (Value.int .i64) HS.out⟩
    · have e : s.data.toList.take k = s.data.toList := List.take_of_length_le (by simp; have : s.size = s.data.size := rfl; omega)
      rw [e] at hp ⊢
      have hv := HV.out
      clear e HV
      go_wp2
      go_ret2
      exact ⟨rfl, rfl⟩

set_option maxHeartbeats 800000 in
theorem cutIn (S : ByteArray) (sep : UInt8) (n : Nat) (w : World) (hi : Lib.indexByte S.data.toList sep = (n : Int)) (hn : n + 1 ≤ S.size) (hmax : S.size ≤ 100) :
    Calls Tryd.prog 51 #[.string S, .string ⟨#[sep]⟩] w
      fun e w' => e = .returned (.tuple #[.string (S.extract 0 n), .string (S.extract (n + 1) S.size), .bool true]) ∧ Below w.heap.size w w' := by
  have HI := Lib.hid hi
  have c1 : (0 : Int) ≤ ↑n := by omega
  have c2 : (↑n : Int) ≤ ↑S.size := by omega
  have c3 : (0 : Int) ≤ ↑n + 1 := by omega
  have c4 : (↑n + 1 : Int) ≤ ↑S.size := by omega
  clear hi
  go_enter Tryd.func51, Tryd.ntmps51
  go_wp2_with (go_at_call 55; refine (Tryd.stringslite_Index_one _ _ _).mono ?_; rintro e w' ⟨rfl, rfl⟩; rw [HI.out])
  go_quiet (fail)
  go_wp2
  go_ret3
  refine ⟨rfl, below_drewN (Below.refl _ _) _⟩

set_option maxHeartbeats 800000 in
theorem cut_any (S : ByteArray) (sep : UInt8) (n : Nat) (w : World) (hi : Lib.indexByte S.data.toList sep = (n : Int)) (hn : n + 1 ≤ S.size) (hmax : S.size ≤ 100) :
    Calls Tryd.prog 41 #[.string S, .string ⟨#[sep]⟩] w
      fun e w' => e = .returned (.tuple #[.string (S.extract 0 n), .string (S.extract (n + 1) S.size), .bool true]) ∧ Below w.heap.size w w' := by
  have HI := Lib.hid hi
  clear hi
  go_enter Tryd.func41, Tryd.ntmps41
  go_wp2_with (go_at_call 51; refine (cutIn S sep n _ HI.out hn hmax).mono ?_; rintro e w' ⟨rfl, hb⟩)
  go_ret3
  exact ⟨rfl, hb⟩

theorem txtB_list (c s : Int) : (txtB c s).data.toList = Lib.decDigits c.toNat ++ 46 :: Lib.decDigits s.toNat := by
  unfold txtB dotB digB
  simp [ByteArray.data_append]
theorem txtB_size (c s : Int) : (txtB c s).size = (Lib.decDigits c.toNat).length + 1 + (Lib.decDigits s.toNat).length := by
  have h : (txtB c s).size = (txtB c s).data.toList.length := by simp
  rw [h, txtB_list]
  simp
  omega
theorem txtB_left (c s : Int) : (txtB c s).extract 0 (Lib.decDigits c.toNat).length = digB c := by
  apply ByteArray.ext
  apply Array.toList_inj.1
  rw [Lib.extract_data, txtB_list]
  simp [digB]
theorem txtB_right (c s : Int) : (txtB c s).extract ((Lib.decDigits c.toNat).length + 1) (txtB c s).size = digB s := by
  apply ByteArray.ext
  apply Array.toList_inj.1
  rw [Lib.extract_data, txtB_list, txtB_size]
  have e : (Lib.decDigits c.toNat ++ 46 :: Lib.decDigits s.toNat).drop ((Lib.decDigits c.toNat).length + 1) = Lib.decDigits s.toNat := by
    rw [← List.drop_drop, List.drop_left]; rfl
  rw [e, List.take_of_length_le (by omega)]
  simp [digB]
theorem digB_val {c : Int} (h : 0 ≤ c) : ((valL (digB c).data.toList : Nat) : Int) = c := by
  have e : (digB c).data.toList = Lib.decDigits c.toNat := by simp [digB]
  rw [e, dec_val]
  omega

theorem cut_txt (c s : Int) (w : World) (h1 : c ≤ 1048576) (h2 : s ≤ 1048576) :
    Calls Tryd.prog 41 #[.string (txtB c s), .string ⟨#[46]⟩] w
      fun e w' => e = .returned (.tuple #[.string (digB c), .string (digB s), .bool true]) ∧ Below w.heap.size w w' := by
  have l1 := dec_seven c.toNat (by omega)
  have l2 := dec_seven s.toNat (by omega)
  have h := cut_any (txtB c s) 46 (Lib.decDigits c.toNat).length w (by rw [txtB_list]; exact index_dot _ _ (dec_digit _)) (by rw [txtB_size]; omega) (by rw [txtB_size]; omega)
  rw [txtB_left, txtB_right] at h
  exact h
theorem number_dig (c most : Int) (w : World) (h0 : 1 ≤ c) (h1 : c ≤ 1048576) (hm : c ≤ most) :
    Calls Tryd.prog 44 #[.string (digB c), .int .i64 most] w fun e w' => e = .returned (.tuple #[.int .i64 c, .bool true]) ∧ w = w' := by
  have h := number_yes (digB c) most w (isDec_dig h0 h1) (by rw [digB_val (by omega)]; exact hm)
  rw [digB_val (by omega)] at h
  exact h
theorem txtB_ne (c s : Int) : ¬ (txtB c s).toList = [45] := by
  rw [ByteArray.toList_eq, txtB_list]
  intro h
  have := congrArg List.length h
  have hp := dec_pos c.toNat
  simp at this
  omega

set_option maxHeartbeats 1600000 in
theorem parse_txt (c s : Int) (w : World) (h : mayB c s = true) :
    Calls Tryd.prog 34 #[.string (txtB c s)] w
      fun e w' => e = .returned (.tuple #[.agg #[.int .i64 c, .int .i64 s], .int .i64 0]) ∧ Below w.heap.size w w' := by
  have hm : 1 ≤ c ∧ c ≤ 1048576 ∧ 1 ≤ s ∧ s ≤ 1000 := by simpa [mayB] using h
  obtain ⟨h1, h2, h3, h4⟩ := hm
  have hne : ((txtB c s).toList == [45]) = false := by simpa using txtB_ne c s
  have hne2 := txtB_ne c s
  have HM := Lib.hid h
  have HT := Lib.hid (Two.start w 24 0 0)
  clear h
  go_enter Tryd.func34, Tryd.ntmps34
  go_wp2_with (go_at_call 41; refine (cut_txt c s _ (by omega) (by omega)).mono ?_; rintro e w1 ⟨rfl, hb1⟩; refine Hid.out ?_)
  have hR := HT.out.next hb1
  have hB : Below w.heap.size w w1 := ((Below.refl _ _).alloc (Nat.le_refl _) _).trans (hb1.mono (by simp))
  have HR := Lib.hid hR
  clear HT hb1 hR
  refine Lib.hid ?_
  go_wp2_with (first
    | (go_at_call 43; refine (areDigits_yes _ _ ?_).mono ?_; (first | exact isDec_dig h1 h2 | exact isDec_dig h3 (by omega)); rintro e w' ⟨rfl, rfl⟩)
    | (go_at_call_of 44 (Value.string (digB c)); refine (number_dig c _ _ h1 h2 ?_).mono ?_; (omega); rintro e w' ⟨rfl, rfl⟩)
    | (go_at_call 44; refine (number_dig s _ _ h3 ?_ ?_).mono ?_; (omega); (omega); rintro e w' ⟨rfl, rfl⟩)
    | (go_at_call 15; refine (check_yes _ _ _ HM.out).mono ?_; rintro e w2 ⟨rfl, hb2⟩; refine Hid.out ?_))
  have hX : Two w2 w1.heap.size 24 c s := (Two.start _ _ _ _).next hb2
  have hQ : Two w2 w.heap.size 24 0 0 := (HR.out.alloc _).next hb2
  have hbel : Below w.heap.size w w2 := (hB.alloc hB.size _).trans (hb2.mono (by have := hB.size; simp; omega))
  have ca := hX.c0
  have cb := hX.c1
  have cc := hQ.c0
  have cd := hQ.c1
  have fa := hQ.f0
  have fb := hQ.f1
  have HB := Lib.hid hbel
  clear hX hQ hbel hb2 HR hB
  refine Lib.hid ?_
  go_wp2
  exact bodyPost_ret (v := .tuple #[.agg #[.int .i64 c, .int .i64 s], .int .i64 0]) (by simp [results, Tryd.results34, go_sem, cc, cd]) rfl ⟨rfl, (HB.out.setCell (Nat.le_refl _) _).setCell (Nat.le_refl _) _⟩
end Go.Proofs.YtbfnehpmlngagaaDoor
