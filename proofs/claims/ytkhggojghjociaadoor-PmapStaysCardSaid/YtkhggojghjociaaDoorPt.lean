/-
  Maps of ids as plain tries of ten digits: what a put, a look-up, the greatest place and the entries in order are; that a put puts into the list of entries, kept by rising places; the document's put on such lists. Plain lemmas.
-/
import Derived.Test.YtkhggojghjociaaDoorLeaf
namespace Go.Proofs.YtkhggojghjociaaDoor
open Go Go.Proofs Go.RowKit

/-- An entry. -/
structure En where
  ac : Int
  an : Int
  ch : Int
  d : Bool
deriving DecidableEq
def En.zero : En := ⟨0, 0, 0, false⟩
/-- A plain trie. -/
inductive Pt where
  | nil
  | part (nx : Nat → Pt) (e : En)
def Pt.nx : Pt → Nat → Pt
  | .nil, _ => .nil
  | .part f _, d => f d
def Pt.en : Pt → En
  | .nil => .zero
  | .part _ e => e
def Pt.isNil : Pt → Bool
  | .nil => true
  | .part _ _ => false
theorem Pt.isNil_true {T : Pt} (h : T.isNil = true) : T = .nil := by cases T with | nil => rfl | part => cases h
theorem Pt.isNil_false {T : Pt} (h : T.isNil = false) : ∃ f e, T = .part f e := by cases T with | nil => cases h | part f e => exact ⟨f, e, rfl⟩
def getT : Nat → Pt → Nat → Option En
  | 0, .nil, _ => none
  | 0, .part _ e, _ => some e
  | i + 1, T, at_ => getT i (T.nx (at_ / 8 ^ i % 8)) at_
def putT : Nat → Pt → Nat → En → Pt
  | 0, T, _, e => .part T.nx e
  | i + 1, T, at_, e => .part (fun d => if d = at_ / 8 ^ i % 8 then putT i (T.nx d) at_ e else T.nx d) T.en
/-- The entries behind a part whose place begins with k, i digits ahead of the end. -/
def elsT : Nat → Nat → Pt → List (Nat × En)
  | 0, k, T => match T with | .nil => [] | .part _ e => [(k, e)]
  | i + 1, k, T => match T with | .nil => [] | .part nx _ => (List.range 8).flatMap fun d => elsT i (k * 8 + d) (nx d)
theorem put_nx (i : Nat) (T : Pt) (at_ : Nat) (e : En) (d : Nat) : (putT (i + 1) T at_ e).nx d = if d = at_ / 8 ^ i % 8 then putT i (T.nx d) at_ e else T.nx d := rfl
theorem elsT_nil : ∀ (i k : Nat), elsT i k .nil = []
  | 0, _ => rfl
  | _ + 1, _ => rfl
theorem elsT_succ (i k : Nat) (T : Pt) : elsT (i + 1) k T = (List.range 8).flatMap fun d => elsT i (k * 8 + d) (T.nx d) := by
  cases T with
  | nil => simp [elsT, Pt.nx, elsT_nil]
  | part f e => rfl
theorem getT_nil : ∀ (i at_ : Nat), getT i .nil at_ = none
  | 0, _ => rfl
  | i + 1, at_ => getT_nil i at_

theorem els_bound : ∀ (i k : Nat) (T : Pt) (x : Nat × En), x ∈ elsT i k T → k * 8 ^ i ≤ x.1 ∧ x.1 < (k + 1) * 8 ^ i
  | 0, k, .nil, x, h => by cases h
  | 0, k, .part _ e, x, h => by simp only [elsT, List.mem_singleton] at h; subst h; simp
  | i + 1, k, T, x, h => by
    rw [elsT_succ] at h
    simp only [List.mem_flatMap, List.mem_range] at h
    obtain ⟨d, hd, hx⟩ := h
    obtain ⟨h1, h2⟩ := els_bound i _ _ x hx
    rw [Nat.pow_succ]
    generalize 8 ^ i = P at *
    have e1 : k * (P * 8) = (k * 8) * P := by rw [Nat.mul_comm P 8, Nat.mul_assoc]
    have e2 : (k + 1) * (P * 8) = (k * 8 + 8) * P := by rw [Nat.mul_comm P 8, ← Nat.mul_assoc, Nat.add_mul, Nat.one_mul]
    rw [e1, e2]
    have m1 : (k * 8) * P ≤ (k * 8 + d) * P := Nat.mul_le_mul_right _ (by omega)
    have m2 : (k * 8 + d + 1) * P ≤ (k * 8 + 8) * P := Nat.mul_le_mul_right _ (by omega)
    omega

/-- A range's parts round one of its numbers. -/
theorem range_split {α : Type} (f : Nat → List α) (D n : Nat) (h : D < n) : (List.range n).flatMap f = (List.range D).flatMap f ++ (f D ++ (List.range' (D + 1) (n - D - 1)).flatMap f) := by
  have e : List.range n = List.range D ++ D :: List.range' (D + 1) (n - D - 1) := by
    rw [List.range_eq_range', List.range_eq_range']
    have := List.range'_append (s := 0) (m := D) (n := n - D) (step := 1)
    rw [show D + (n - D) = n by omega] at this
    rw [← this]
    congr 1
    rw [show n - D = (n - D - 1) + 1 by omega, List.range'_succ]
    simp
  rw [e, List.flatMap_append, List.flatMap_cons]

def insL (at_ : Nat) (e : En) : List (Nat × En) → List (Nat × En)
  | [] => [(at_, e)]
  | x :: l => if x.1 < at_ then x :: insL at_ e l else if x.1 = at_ then (at_, e) :: l else (at_, e) :: x :: l
def getL (at_ : Nat) : List (Nat × En) → Option En
  | [] => none
  | x :: l => if x.1 = at_ then some x.2 else getL at_ l
theorem insL_left {at_ : Nat} {e : En} : ∀ (A L : List (Nat × En)), (∀ x ∈ A, x.1 < at_) → insL at_ e (A ++ L) = A ++ insL at_ e L
  | [], _, _ => rfl
  | x :: A, L, h => by
    have h1 := h x (by simp)
    simp only [List.cons_append, insL, if_pos h1]
    rw [insL_left A L fun y hy => h y (by simp [hy])]
theorem insL_right {at_ : Nat} {e : En} : ∀ (M B : List (Nat × En)), (∀ x ∈ B, at_ < x.1) → insL at_ e (M ++ B) = insL at_ e M ++ B
  | [], [], _ => rfl
  | [], y :: B, h => by
    have h1 := h y (by simp)
    simp only [List.nil_append, insL]
    rw [if_neg (by omega), if_neg (by omega)]
    rfl
  | x :: M, B, h => by
    simp only [List.cons_append, insL]
    rw [insL_right M B h]
    split
    · rfl
    · split <;> rfl
theorem getL_left {at_ : Nat} : ∀ (A L : List (Nat × En)), (∀ x ∈ A, x.1 ≠ at_) → getL at_ (A ++ L) = getL at_ L
  | [], _, _ => rfl
  | x :: A, L, h => by
    simp only [List.cons_append, getL]
    rw [if_neg (h x (by simp)), getL_left A L fun y hy => h y (by simp [hy])]
theorem getL_none {at_ : Nat} : ∀ (B : List (Nat × En)), (∀ x ∈ B, x.1 ≠ at_) → getL at_ B = none
  | [], _ => rfl
  | x :: B, h => by
    simp only [getL]
    rw [if_neg (h x (by simp)), getL_none B fun y hy => h y (by simp [hy])]
theorem getL_right {at_ : Nat} : ∀ (M B : List (Nat × En)), (∀ x ∈ B, x.1 ≠ at_) → getL at_ (M ++ B) = getL at_ M
  | [], B, h => getL_none B h
  | x :: M, B, h => by
    simp only [List.cons_append, getL]
    rw [getL_right M B h]

/-- The key of a place, i digits ahead of the end. -/
theorem key_succ (i k at_ : Nat) : k * 8 ^ (i + 1) + at_ % 8 ^ (i + 1) = (k * 8 + at_ / 8 ^ i % 8) * 8 ^ i + at_ % 8 ^ i := by
  have h : at_ % 8 ^ (i + 1) = at_ % 8 ^ i + 8 ^ i * (at_ / 8 ^ i % 8) := by rw [Nat.pow_succ, Nat.mod_mul]
  rw [h, Nat.pow_succ, Nat.add_mul]
  have e1 : k * (8 ^ i * 8) = k * 8 * 8 ^ i := by rw [Nat.mul_comm (8 ^ i) 8, Nat.mul_assoc]
  have e2 : 8 ^ i * (at_ / 8 ^ i % 8) = at_ / 8 ^ i % 8 * 8 ^ i := Nat.mul_comm _ _
  omega

theorem below_key {i k D m : Nat} {x : Nat × En} {f : Nat → Pt} (hx : x ∈ (List.range D).flatMap fun d => elsT i (k * 8 + d) (f d)) : x.1 < (k * 8 + D) * 8 ^ i + m := by
  simp only [List.mem_flatMap, List.mem_range] at hx
  obtain ⟨d, hd, hx⟩ := hx
  have h := (els_bound i _ _ x hx).2
  have : (k * 8 + d + 1) * 8 ^ i ≤ (k * 8 + D) * 8 ^ i := Nat.mul_le_mul_right _ (by omega)
  omega
theorem above_key {i k D m n : Nat} {x : Nat × En} {f : Nat → Pt} (hm : m < 8 ^ i) (hx : x ∈ (List.range' (D + 1) n).flatMap fun d => elsT i (k * 8 + d) (f d)) : (k * 8 + D) * 8 ^ i + m < x.1 := by
  simp only [List.mem_flatMap, List.mem_range'_1] at hx
  obtain ⟨d, hd, hx⟩ := hx
  have h := (els_bound i _ _ x hx).1
  have : (k * 8 + D + 1) * 8 ^ i ≤ (k * 8 + d) * 8 ^ i := Nat.mul_le_mul_right _ (by omega)
  rw [Nat.add_mul (k * 8 + D) 1, Nat.one_mul] at this
  omega
theorem flat_same {α : Type} (f g : Nat → List α) (l : List Nat) (h : ∀ d ∈ l, f d = g d) : l.flatMap f = l.flatMap g := by
  induction l with
  | nil => rfl
  | cons d l ih => simp only [List.flatMap_cons, h d (by simp), ih fun x hx => h x (by simp [hx])]

theorem els_put (at_ : Nat) (e : En) : ∀ (i k : Nat) (T : Pt), elsT i k (putT i T at_ e) = insL (k * 8 ^ i + at_ % 8 ^ i) e (elsT i k T)
  | 0, k, .nil => by simp [elsT, putT, insL, Nat.mod_one]
  | 0, k, .part f e' => by simp [elsT, putT, insL, Nat.mod_one]
  | i + 1, k, T => by
    have hD : at_ / 8 ^ i % 8 < 8 := Nat.mod_lt _ (by decide)
    have hm : at_ % 8 ^ i < 8 ^ i := Nat.mod_lt _ (Nat.pow_pos (by decide))
    rw [elsT_succ, elsT_succ, key_succ, range_split _ _ 8 hD, range_split (fun d => elsT i (k * 8 + d) (T.nx d)) _ 8 hD]
    rw [insL_left _ _ fun x hx => below_key hx, insL_right _ _ fun x hx => above_key hm hx]
    simp only [put_nx]
    rw [flat_same _ (fun d => elsT i (k * 8 + d) (T.nx d)) (List.range _) fun d hd => by
      have := List.mem_range.1 hd
      rw [if_neg (by omega)]]
    rw [flat_same _ (fun d => elsT i (k * 8 + d) (T.nx d)) (List.range' _ _) fun d hd => by
      have := List.mem_range'_1.1 hd
      rw [if_neg (by omega)]]
    rw [if_pos trivial, els_put at_ e i]
theorem getT_els (at_ : Nat) : ∀ (i k : Nat) (T : Pt), getT i T at_ = getL (k * 8 ^ i + at_ % 8 ^ i) (elsT i k T)
  | 0, k, .nil => rfl
  | 0, k, .part f e' => by simp [elsT, getT, getL, Nat.mod_one]
  | i + 1, k, T => by
    have hD : at_ / 8 ^ i % 8 < 8 := Nat.mod_lt _ (by decide)
    have hm : at_ % 8 ^ i < 8 ^ i := Nat.mod_lt _ (Nat.pow_pos (by decide))
    rw [elsT_succ, key_succ, range_split _ _ 8 hD]
    rw [getL_left _ _ fun x hx => Nat.ne_of_lt (below_key hx), getL_right _ _ fun x hx => Nat.ne_of_gt (above_key hm hx)]
    rw [getT, getT_els at_ i]

/-- By rising places. -/
def Ris (l : List (Nat × En)) : Prop := l.Pairwise fun x y => x.1 < y.1
theorem ris_flat (i k : Nat) (f : Nat → Pt) (h : ∀ k T, Ris (elsT i k T)) : ∀ (n s : Nat), Ris ((List.range' s n).flatMap fun d => elsT i (k * 8 + d) (f d))
  | 0, _ => List.Pairwise.nil
  | n + 1, s => by
    rw [List.range'_succ, List.flatMap_cons]
    refine List.pairwise_append.2 ⟨h _ _, ris_flat i k f h n (s + 1), fun x hx y hy => ?_⟩
    have h1 := (els_bound i _ _ x hx).2
    simp only [List.mem_flatMap, List.mem_range'_1] at hy
    obtain ⟨d, hd, hy⟩ := hy
    have h2 := (els_bound i _ _ y hy).1
    have : (k * 8 + s + 1) * 8 ^ i ≤ (k * 8 + d) * 8 ^ i := Nat.mul_le_mul_right _ (by omega)
    omega
theorem els_ris : ∀ (i k : Nat) (T : Pt), Ris (elsT i k T)
  | 0, k, .nil => List.Pairwise.nil
  | 0, k, .part _ _ => by simp [Ris, elsT]
  | i + 1, k, T => by
    rw [elsT_succ, List.range_eq_range']
    exact ris_flat i k _ (fun k T => els_ris i k T) 8 0

/-- Parts are made on the way to an entry alone. -/
def Full : Nat → Pt → Prop
  | 0, _ => True
  | i + 1, T => (∀ d, d < 8 → Full i (T.nx d)) ∧ (T = .nil ∨ ∃ d, d < 8 ∧ (T.nx d).isNil = false)
theorem full_nil : ∀ i : Nat, Full i .nil
  | 0 => trivial
  | i + 1 => ⟨fun _ _ => full_nil i, .inl rfl⟩
theorem put_notNil (at_ : Nat) (e : En) : ∀ (i : Nat) (T : Pt), (putT i T at_ e).isNil = false
  | 0, _ => rfl
  | _ + 1, _ => rfl
theorem full_put (at_ : Nat) (e : En) : ∀ (i : Nat) (T : Pt), Full i T → Full i (putT i T at_ e)
  | 0, _, _ => trivial
  | i + 1, T, h => by
    refine ⟨fun d hd => ?_, .inr ⟨at_ / 8 ^ i % 8, Nat.mod_lt _ (by decide), ?_⟩⟩
    · rw [put_nx]
      split
      · exact full_put at_ e i _ (h.1 d hd)
      · exact h.1 d hd
    · rw [put_nx, if_pos rfl]
      exact put_notNil _ _ _ _
/-- The greatest digit up to d that leads on; 0, if none does. -/
def lastD (f : Nat → Pt) : Nat → Nat
  | 0 => 0
  | d + 1 => if (f (d + 1)).isNil = true then lastD f d else d + 1
theorem lastD_le (f : Nat → Pt) : ∀ n : Nat, lastD f n ≤ n
  | 0 => Nat.le_refl _
  | n + 1 => by simp only [lastD]; split; exact Nat.le_succ_of_le (lastD_le f n); exact Nat.le_refl _
theorem lastD_spec (f : Nat → Pt) : ∀ (n : Nat), (∃ d, d ≤ n ∧ (f d).isNil = false) → (f (lastD f n)).isNil = false ∧ ∀ d, lastD f n < d → d ≤ n → f d = .nil
  | 0, ⟨d, hd, h⟩ => by
    obtain rfl : d = 0 := by omega
    exact ⟨h, fun d h1 h2 => by simp only [lastD] at h1; omega⟩
  | n + 1, ⟨d, hd, h⟩ => by
    simp only [lastD]
    by_cases hn : (f (n + 1)).isNil = true
    · rw [if_pos hn]
      have hne : d ≠ n + 1 := by rintro rfl; rw [h] at hn; cases hn
      obtain ⟨h1, h2⟩ := lastD_spec f n ⟨d, by omega, h⟩
      refine ⟨h1, fun d' ha hb => ?_⟩
      by_cases hd' : d' = n + 1
      · subst hd'; exact Pt.isNil_true hn
      · exact h2 d' ha (by omega)
    · rw [if_neg hn]
      exact ⟨by simpa using hn, fun d' ha hb => by omega⟩
def lastP : Nat → Nat → Pt → Nat
  | 0, k, _ => k
  | i + 1, k, T => lastP i (k * 8 + lastD T.nx 7) (T.nx (lastD T.nx 7))
theorem els_last : ∀ (i k : Nat) (T : Pt), Full i T → T.isNil = false → ∃ l e, elsT i k T = l ++ [(lastP i k T, e)]
  | 0, k, .nil, _, h => by cases h
  | 0, k, .part _ e, _, _ => ⟨[], e, rfl⟩
  | i + 1, k, T, hf, h => by
    have hex : ∃ d, d ≤ 7 ∧ (T.nx d).isNil = false := by
      rcases hf.2 with rfl | ⟨d, hd, hh⟩
      · cases h
      · exact ⟨d, by omega, hh⟩
    obtain ⟨h1, h2⟩ := lastD_spec T.nx 7 hex
    have hle := lastD_le T.nx 7
    obtain ⟨l, e, he⟩ := els_last i (k * 8 + lastD T.nx 7) (T.nx (lastD T.nx 7)) (hf.1 _ (by omega)) h1
    rw [elsT_succ, range_split _ (lastD T.nx 7) 8 (by omega), he]
    rw [flat_same _ (fun _ => []) (List.range' _ _) fun d hd => by
      have := List.mem_range'_1.1 hd
      rw [h2 d (by omega) (by omega), elsT_nil]]
    refine ⟨(List.range (lastD T.nx 7)).flatMap (fun d => elsT i (k * 8 + d) (T.nx d)) ++ l, e, ?_⟩
    have hz : ∀ m : List Nat, m.flatMap (fun _ => ([] : List (Nat × En))) = [] := fun m => by induction m with | nil => rfl | cons _ _ ih => simp
    rw [hz]
    simp [lastP]
theorem lastP_lt : ∀ (i k : Nat) (T : Pt), lastP i k T < (k + 1) * 8 ^ i
  | 0, k, _ => by simp [lastP]
  | i + 1, k, T => by
    have := lastP_lt i (k * 8 + lastD T.nx 7) (T.nx (lastD T.nx 7))
    have hle := lastD_le T.nx 7
    have hm : (k * 8 + lastD T.nx 7 + 1) * 8 ^ i ≤ (k * 8 + 8) * 8 ^ i := Nat.mul_le_mul_right _ (by omega)
    have e2 : (k + 1) * 8 ^ (i + 1) = (k * 8 + 8) * 8 ^ i := by rw [Nat.pow_succ, Nat.mul_comm (8 ^ i) 8, ← Nat.mul_assoc, Nat.add_mul, Nat.one_mul]
    simp only [lastP]
    omega

/-- The entries of a whole map. -/
def els (T : Pt) : List (Nat × En) := elsT 10 0 T
theorem els_nil : els .nil = [] := rfl
theorem els_insL (T : Pt) {at_ : Nat} (e : En) (h : at_ < 1073741824) : els (putT 10 T at_ e) = insL at_ e (els T) := by
  have := els_put at_ e 10 0 T
  rw [show 0 * 8 ^ 10 + at_ % 8 ^ 10 = at_ by rw [Nat.zero_mul, Nat.zero_add]; exact Nat.mod_eq_of_lt h] at this
  exact this
theorem getT_getL (T : Pt) {at_ : Nat} (h : at_ < 1073741824) : getT 10 T at_ = getL at_ (els T) := by
  have := getT_els at_ 10 0 T
  rw [show 0 * 8 ^ 10 + at_ % 8 ^ 10 = at_ by rw [Nat.zero_mul, Nat.zero_add]; exact Nat.mod_eq_of_lt h] at this
  exact this
theorem els_lt {T : Pt} {x : Nat × En} (h : x ∈ els T) : x.1 < 1073741824 := by have := (els_bound 10 0 T x h).2; simpa using this
theorem els_rising (T : Pt) : Ris (els T) := els_ris 10 0 T
theorem getL_mem {l : List (Nat × En)} (h : Ris l) {x : Nat × En} (hx : x ∈ l) : getL x.1 l = some x.2 := by
  induction l with
  | nil => cases hx
  | cons y l ih =>
    simp only [getL]
    obtain ⟨h1, h2⟩ := List.pairwise_cons.1 h
    rcases List.mem_cons.1 hx with rfl | hx
    · rw [if_pos rfl]
    · have := h1 x hx
      rw [if_neg (by omega), ih h2 hx]
theorem getL_gt {at_ : Nat} {l : List (Nat × En)} (h : ∀ x ∈ l, at_ < x.1) : getL at_ l = none := getL_none l fun x hx => Nat.ne_of_gt (h x hx)
theorem insL_length {at_ : Nat} {e : En} : ∀ {l : List (Nat × En)}, Ris l → (insL at_ e l).length = l.length + if (getL at_ l).isSome = true then 0 else 1
  | [], _ => rfl
  | x :: l, h => by
    obtain ⟨h1, h2⟩ := List.pairwise_cons.1 h
    simp only [insL]
    by_cases c1 : x.1 < at_
    · have hg : getL at_ (x :: l) = getL at_ l := by simp only [getL]; rw [if_neg (by omega)]
      rw [if_pos c1, hg, List.length_cons, List.length_cons, insL_length h2]; omega
    · rw [if_neg c1]
      by_cases c2 : x.1 = at_
      · have hg : getL at_ (x :: l) = some x.2 := by simp only [getL]; rw [if_pos c2]
        rw [if_pos c2, hg]; rfl
      · have hg : getL at_ (x :: l) = none := by simp only [getL]; rw [if_neg c2]; exact getL_gt fun y hy => by have := h1 y hy; omega
        rw [if_neg c2, hg]; rfl

/-- The place of an id that may be, and the id of a place. -/
def placeI (c s : Int) : Nat := ((c - 1) * 1024 + (s - 1)).toNat
def nmC (x : Nat) : Int := (x / 1024 : Nat) + 1
def nmS (x : Nat) : Int := (x % 1024 : Nat) + 1
theorem place_lt {c s : Int} (h : mayB c s = true) : placeI c s < 1073741824 := by
  simp only [mayB, decide_eq_true_eq] at h; unfold placeI; omega
theorem place_nm {c s : Int} (h : mayB c s = true) : nmC (placeI c s) = c ∧ nmS (placeI c s) = s := by
  simp only [mayB, decide_eq_true_eq] at h; unfold placeI nmC nmS; omega
theorem nm_less (x y : Nat) : lessB (nmC x) (nmS x) (nmC y) (nmS y) = decide (x < y) := by
  unfold lessB nmC nmS
  have : ((((x / 1024 : Nat) : Int) + 1 < ((y / 1024 : Nat) : Int) + 1) ∨ (((x / 1024 : Nat) : Int) + 1 = ((y / 1024 : Nat) : Int) + 1 ∧ ((x % 1024 : Nat) : Int) + 1 < ((y % 1024 : Nat) : Int) + 1)) ↔ x < y := by omega
  simp only [this]
theorem nm_inj {x y : Nat} (h1 : nmC x = nmC y) (h2 : nmS x = nmS y) : x = y := by unfold nmC nmS at *; omega

/-- An entry as the document has it. -/
structure Re where
  c : Int
  s : Int
  e : En
deriving DecidableEq
def toRe (x : Nat × En) : Re := ⟨nmC x.1, nmS x.1, x.2⟩
/-- The document's put: behind what has been gone over; dn: the entry stands already. -/
def rp (E : Re) : Bool → List Re → List Re
  | dn, [] => if dn = true then [] else [E]
  | dn, x :: l =>
    let ins := !dn && !lessB x.c x.s E.c E.s
    (if ins = true then [E] else []) ++ ((if x.c = E.c ∧ x.s = E.s then [] else [x]) ++ rp E (dn || ins) l)
theorem rp_true {E : Re} : ∀ (l : List Re), (∀ x ∈ l, ¬ (x.c = E.c ∧ x.s = E.s)) → rp E true l = l
  | [], _ => rfl
  | x :: l, h => by
    simp only [rp, Bool.not_true, Bool.false_and, Bool.true_or, Bool.false_eq_true, if_false, List.nil_append]
    rw [if_neg (h x (by simp)), rp_true l fun y hy => h y (by simp [hy])]
    rfl
theorem rp_insL (at_ : Nat) (e : En) : ∀ {l : List (Nat × En)}, Ris l → rp (toRe (at_, e)) false (l.map toRe) = (insL at_ e l).map toRe
  | [], _ => rfl
  | x :: l, h => by
    obtain ⟨h1, h2⟩ := List.pairwise_cons.1 h
    simp only [List.map_cons, rp, insL]
    rw [show lessB (toRe x).c (toRe x).s (toRe (at_, e)).c (toRe (at_, e)).s = decide (x.1 < at_) from nm_less _ _]
    by_cases c1 : x.1 < at_
    · have hne : ¬ ((toRe x).c = (toRe (at_, e)).c ∧ (toRe x).s = (toRe (at_, e)).s) := fun ⟨a, b⟩ => by have := nm_inj a b; simp only at this; omega
      rw [if_pos c1, if_neg hne]
      simp only [c1, decide_true, Bool.not_true, Bool.and_false, Bool.false_eq_true, if_false, Bool.or_false, List.nil_append]
      rw [rp_insL at_ e h2]
      rfl
    · rw [if_neg c1]
      have hgt : ∀ y ∈ l.map toRe, ¬ (y.c = (toRe (at_, e)).c ∧ y.s = (toRe (at_, e)).s) := by
        intro y hy ⟨a, b⟩
        obtain ⟨z, hz, rfl⟩ := List.mem_map.1 hy
        have := nm_inj a b
        have h3 := h1 z hz
        simp only at this
        omega
      simp only [c1, decide_false, Bool.not_false, Bool.and_true, if_true, Bool.false_or]
      rw [rp_true _ hgt]
      by_cases c2 : x.1 = at_
      · have he : (toRe x).c = (toRe (at_, e)).c ∧ (toRe x).s = (toRe (at_, e)).s := by rw [← c2]; exact ⟨rfl, rfl⟩
        rw [if_pos c2, if_pos he]
        rfl
      · have hne : ¬ ((toRe x).c = (toRe (at_, e)).c ∧ (toRe x).s = (toRe (at_, e)).s) := fun ⟨a, b⟩ => c2 (nm_inj a b)
        rw [if_neg c2, if_neg hne]
        rfl
end Go.Proofs.YtkhggojghjociaaDoor
