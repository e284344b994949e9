import Derived.Test.YtkmcoineknbgcaaGreatDoorFt
import Derived.Laws.IdiomStrings
set_option maxRecDepth 100000
set_option maxHeartbeats 12800000
namespace Go.Proofs.YtkmcoineknbgcaaGreatDoor
open Go Go.Proofs Go.RowKit
theorem dg_text {d k:Nat} {T:Nat→Int} {L:List UInt8} {w wr:World} (h:DsIs d T k w wr) (hL:L.length=k) (hT:∀ j (hj:j<L.length),T j=((L[j]).toNat:Int)):∀ j (hj:j<L.length),wr.cell? ((⟨d,0,none⟩:Addr).add j)=some (.int .u8 ((L[j]).toNat:Int)):=by
 intro j hj
 obtain ⟨vs,hl,hB,hv⟩:=h.blk;have h1:=hB.cell j (hv j (by omega));rw [Lib.add_plain,Nat.zero_add,h1,hT j hj]
theorem dgI_at (x j:Nat) (hj:j<(Lib.decDigits x).length):dgI x j=(((Lib.decDigits x)[j]).toNat:Int):=by
 unfold dgI
 rw [List.getD_eq_getElem?_getD,List.getElem?_eq_getElem hj];rfl
theorem ftoa_any (n:Int) (h0:n≠0) (hn:Small n) (d:Nat) (w:World) (hp:Pows w) (ht:Tab w) (hB:Blk w d (List.replicate 24 (.int .u8 0)) 5):
  Calls Tryz.prog 128 #[.slice (some ⟨d,0,none⟩) 0 24,.float .f64 (fl n),.int .u8 102,.int .i64 0] w
   fun e w'=>e=.returned (.slice (some ⟨d,0,none⟩) (Lib.itoa n).length 24)∧Off d w w'∧∀ j (hj:j<(Lib.itoa n).length),w'.cell? ((⟨d,0,none⟩:Addr).add j)=some (.int .u8 (((Lib.itoa n)[j]).toNat:Int)):=by
 obtain ⟨E,K,hF,hb⟩:=fl_bits h0 hn;have lo:=hF.lo;rw [hb];by_cases hneg:n<0
 ·rw [if_pos hneg]
  have hi:Lib.itoa n=45::Lib.decDigits n.natAbs:=by unfold Lib.itoa; rw [if_pos hneg]
  have hlen:(Lib.itoa n).length=Lib.nDigits n.natAbs+1:=by rw [hi,List.length_cons,Lib.decDigits_length]
  refine (ftoa_neg hF d _ _ _ _ (K - 4503599627370496) _ _ _ rfl rfl rfl rfl (by omega) rfl rfl rfl w hp ht hB).mono ?_
  rintro e w' ⟨rfl,hI⟩
  refine ⟨by rw [hlen],hI.off,dg_text hI hlen ?_⟩;intro j hj
  simp only [hi]
  cases j with
  | zero=>rfl
  | succ j=>simp only [List.getElem_cons_succ]; exact dgI_at _ _ _
 ·rw [if_neg hneg]
  have e1:n.toNat=n.natAbs:=by omega
  have hi:Lib.itoa n=Lib.decDigits n.natAbs:=by unfold Lib.itoa; rw [if_neg hneg,e1]
  have hlen:(Lib.itoa n).length=Lib.nDigits n.natAbs:=by rw [hi,Lib.decDigits_length]
  refine (ftoa_pos hF d _ _ _ _ (K - 4503599627370496) _ _ _ rfl rfl rfl rfl (by omega) rfl rfl rfl w hp ht hB).mono ?_
  rintro e w' ⟨rfl,hI⟩
  refine ⟨by rw [hlen],hI.off,dg_text hI hlen ?_⟩;intro j hj
  simp only [hi]
  exact dgI_at _ _ _
theorem iff_any (n:Int) (h0:n≠0) (hn:Small n) (w:World) (hp:Pows w) (ht:Tab w):
  Calls Tryz.prog 113 #[.float .f64 (fl n),.int .u8 102,.int .i64 0,.int .i64 64] w fun e w'=>e=.returned (.string ⟨(Lib.itoa n).toArray⟩)∧Below w.heap.size w w':=by
 have HP:=Lh hp;have HT:=Lh ht;have hmk:∀ W:World,(Instr.makeSlice 84 (.int .i64 0) (.int .i64 24)).run Tryz.prog W=.ok (.slice (some ⟨W.heap.size,0,none⟩) 0 24) (W.alloc (.cells ⟨List.replicate 24 (.int .u8 0)⟩ 5)):=fun _=>by kernel_rfl
 obtain ⟨F,hF⟩:∃ F:Nat,F=fl n:=⟨_,rfl⟩
 have FA:=Lh (fun d W a0 a1 a2=>ftoa_any n h0 hn d W a0 a1 a2);rw [←hF] at FA ⊢;have hB:=Blk.start w (List.replicate 24 (.int .u8 0)) 5;have hA:Below w.heap.size w (w.alloc (.cells ⟨List.replicate 24 (.int .u8 0)⟩ 5)):=bA;have HA:=Lh (And.intro hA hB);obtain ⟨L,hL⟩:∃ L:List UInt8,L=Lib.itoa n:=⟨_,rfl⟩
 rw [←hL] at FA ⊢;generalize hw1:w.alloc (.cells ⟨List.replicate 24 (.int .u8 0)⟩ 5)=wA at HA;have hmk1:(Instr.makeSlice 84 (.int .i64 0) (.int .i64 24)).run Tryz.prog w=.ok (.slice (some ⟨w.heap.size,0,none⟩) 0 24) wA:=by rw [hmk,hw1]
 clear hp ht hF hB hA hL hmk hw1 h0 hn;have hmx:(max 4 24:Int)=24:=by decide
 go_enter Tryz.func113,Tryz.ntmps113
 go_wp2_with (go_at_call 128; refine (FA.out _ _ (HP.out.next HA.out.1) (HT.out.next HA.out.1) HA.out.2).mono ?_; rintro e w1 ⟨rfl,ho,hr⟩; refine Hid.out ?_)
 have hB1:Below w.heap.size w w1:=ho.below w.heap.size w (Nat.le_refl _) HA.out.1.size HA.out.1;have hcv:(convert 84 9 (.slice (some ⟨w.heap.size,0,none⟩) L.length 24)).run Tryz.prog w1=.ok (.string ⟨L.toArray⟩) w1:=
  run_convert_bytes_back (P:=Tryz.prog) w1 84 9 5 ⟨w.heap.size,0,none⟩ 24 L Tryz.underlying84 Tryz.underlying5 Tryz.underlying9 hr
 have HB:=Lh hB1;clear hB1 ho hr;refine Lh ?_
 go_wp2
 go_ret
 exact ⟨rfl,HB.out⟩
theorem ff_any (n:Int) (h0:n≠0) (hn:Small n) (w:World) (hp:Pows w) (ht:Tab w):
  Calls Tryz.prog 99 #[.float .f64 (fl n),.int .u8 102,.int .i64 0,.int .i64 64] w fun e w'=>e=.returned (.string ⟨(Lib.itoa n).toArray⟩)∧Below w.heap.size w w':=by
 go_enter Tryz.func99,Tryz.ntmps99
 go_wp2_with (go_at_call 113; refine (iff_any n h0 hn _ hp ht).mono ?_; rintro e w1 ⟨rfl,hb1⟩)
 go_ret
 exact ⟨rfl,hb1⟩
theorem tdig_any (n:Int) (hn:Small n) (w:World) (hp:Pows w) (ht:Tab w):
  Calls Tryz.prog 80 #[.float .f64 (fl n)] w fun e w'=>e=.returned (.string ⟨(Lib.itoa n).toArray⟩)∧Below w.heap.size w w':=by
 have hz:fl 0=0:=by decide +kernel
 have hq:=fl_eqB hn (show Small 0 by unfold Small; decide);rw [hz] at hq;by_cases h0:n=0
 ·subst h0
  rw [hz] at hq ⊢;have h9:(FloatKind.f64.format.order 0 0==some Ordering.eq)=true:=by decide +kernel
  have h8:Lib.itoa 0=[48]:=by decide +kernel
  rw [h8];clear hq
  go_enter Tryz.func80,Tryz.ntmps80
  go_wp2
  go_ret
  exact ⟨rfl,Below.refl _ _⟩
 ·have h9:(FloatKind.f64.format.order (fl n) 0==some Ordering.eq)=false:=by
   have:(Ieee.double.order (fl n) 0==some Ordering.eq)=false:=by rw [hq]; simpa using h0
   exact this
  clear hq;obtain ⟨F,hF⟩:∃ F:Nat,F=fl n:=⟨_,rfl⟩
  have FA:=Lh (fun W a0 a1=>ff_any n h0 hn W a0 a1);rw [←hF] at FA h9 ⊢;have HP:=Lh (And.intro hp ht);clear hp ht hF
  go_enter Tryz.func80,Tryz.ntmps80
  go_wp2_with (go_at_call 99; refine (FA.out _ HP.out.1 HP.out.2).mono ?_; rintro e w1 ⟨rfl,hb1⟩)
  go_ret
  exact ⟨rfl,hb1⟩
end Go.Proofs.YtkmcoineknbgcaaGreatDoor
