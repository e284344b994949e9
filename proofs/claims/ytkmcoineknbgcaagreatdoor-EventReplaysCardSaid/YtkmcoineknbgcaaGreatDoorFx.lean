import Derived.Test.YtkmcoineknbgcaaGreatDoorIeee
import Derived.Lib.ItoaNum
namespace Go.Proofs.YtkmcoineknbgcaaGreatDoor
open Go Ieee
structure Fw (x E K:Nat):Prop where
 hE:E≤52
 eK:K=x * 2 ^ (52-E)
 lo:4503599627370496≤K
 hi:K<9007199254740992
 xlo:2 ^ E≤x
 xhi:x<2 ^ (E+1)
theorem Fw.of {x:Nat} (h0:x≠0) (h:x<2 ^ 53):Fw x x.log2 (x <<< (52-x.log2)):=
 ⟨log2_le h0 h,Nat.shiftLeft_eq _ _,by simpa using kept_lo h0 h,by simpa using kept_hi h0 h,Nat.log2_self_le h0,Nat.lt_log2_self⟩
theorem fl_bits {n:Int} (h0:n≠0) (h:Small n):∃ E K,Fw n.natAbs E K∧fl n=(if n<0 then 9223372036854775808 else 0)+(E+1022) * 4503599627370496+K:=by
 have hn:n.natAbs≠0:=by omega
 refine ⟨_,_,Fw.of hn h,?_⟩;have hw:=nearest_shift (decide (n<0)) hn h 0;rw [Nat.shiftLeft_zero] at hw;rw [fl_eq];have h00:(-((0:Nat):Int))=0:=rfl;rw [h00] at hw;rw [hw];unfold Format.word
 rw [signWeight_eq];by_cases hneg:n<0
 ·simp [hneg]; omega
 ·simp [hneg]
theorem Fw.pos {x E K:Nat} (h:Fw x E K):1≤x:=by
 have:=h.xlo; have:=Nat.two_pow_pos E; omega
theorem Fw.lt {x E K:Nat} (h:Fw x E K):x<9007199254740992:=by
 have h1:=h.xhi;have h2:2 ^ (E+1)≤2 ^ 53:=Nat.pow_le_pow_right (by decide) (by have:=h.hE; omega);omega
theorem Fw.four {x E K:Nat} (h:Fw x E K):K * 1024=4 * x * 2 ^ (60-E):=by
 rw [h.eK,show 60-E=(52-E)+8 by have:=h.hE; omega,Nat.pow_add];generalize 2 ^ (52-E)=q;rw [show (2:Nat) ^ 8=256 from rfl,show 4 * x * (q * 256)=x * q * (4 * 256) by ac_rfl]
theorem Fw.forty {x E K:Nat} (h:Fw x E K):K * 1280=40 * x * 2 ^ (57-E):=by
 rw [h.eK,show 57-E=(52-E)+5 by have:=h.hE; omega,Nat.pow_add];generalize 2 ^ (52-E)=q;rw [show (2:Nat) ^ 5=32 from rfl,show 40 * x * (q * 32)=x * q * (40 * 32) by ac_rfl]
theorem l10_step (E:Nat):Lib.l10 (E+1)=Lib.l10 E∨Lib.l10 (E+1)=Lib.l10 E+1:=by
 unfold Lib.l10; omega
theorem l10_le {E:Nat} (h:E≤53):Lib.l10 E≤15:=by
 unfold Lib.l10; omega
theorem Fw.ten {x E K:Nat} (h:Fw x E K):x<10 ^ (Lib.l10 (E+1)+1):=by
 have h1:=(Lib.l10_tab ⟨E+1,by have:=h.hE; omega⟩ (by simp)).1;have h2:=h.xhi;simp only at h1
 omega
end Go.Proofs.YtkmcoineknbgcaaGreatDoor
