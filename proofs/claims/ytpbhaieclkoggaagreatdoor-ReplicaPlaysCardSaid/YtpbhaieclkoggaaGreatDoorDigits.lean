import Derived.Test.YtpbhaieclkoggaaGreatDoorLBase
import Derived.Lib.ItoaNum
import Derived.Lib.ItoaLen
import Derived.Laws.IdiomStrings
set_option maxRecDepth 100000
set_option maxHeartbeats 12800000
namespace Go.Proofs.YtpbhaieclkoggaaGreatDoor
open Go Go.Proofs Go.RowKit
def digU (m:Nat):UInt8:=UInt8.ofNat (48+m % 10)
def DigInv (u g m:Nat) (suf:List UInt8):Prop:=
 ((suf=[]∧m=u)∨(suf≠[]∧Lib.decDigits u=(if m=0 then [] else Lib.decDigits m)++suf))∧g=m+(if suf=[] then 1 else 0)∧m≤u∧suf.length+g≤u+1
theorem DigInv.start (u:Nat):DigInv u (u+1) u []:=⟨.inl ⟨rfl,rfl⟩,by simp,Nat.le_refl _,by simp⟩
theorem DigInv.next {u g m:Nat} {suf:List UInt8} (h:DigInv u g m suf) (hm:m≠0∨suf=[]):
  DigInv u (m / 10) (m / 10) (digU m::suf)∧m / 10<g:=by
 obtain ⟨h1,h2,h3,h4⟩:=h;have hlt:m / 10<g:=by
  by_cases e:suf=[]
  ·rw [if_pos e] at h2; omega
  ·rw [if_neg e] at h2
   have:m≠0:=by rcases hm with h | h; exact h; exact absurd h e
   omega
 refine ⟨⟨.inr ⟨by simp,?_⟩,by simp,by omega,by simp only [List.length_cons]; omega⟩,hlt⟩;have key:Lib.decDigits m=(if m / 10=0 then [] else Lib.decDigits (m / 10))++[digU m]:=by
  by_cases h10:m<10
  ·rw [Lib.decDigits_one h10,if_pos (by omega),digU,Nat.mod_eq_of_lt h10]; rfl
  ·rw [Lib.decDigits,dif_neg h10,if_neg (by omega)]; rfl
 rcases h1 with ⟨rfl,rfl⟩ | ⟨hs,h1⟩
 ·rw [key]
 ·have hm0:m≠0:=by rcases hm with h | h; exact h; exact absurd h hs
  rw [h1,if_neg hm0,key,List.append_assoc]; rfl
theorem DigInv.stop {u g:Nat} {suf:List UInt8} (h:DigInv u g 0 suf) (hs:suf≠[]):Lib.decDigits u=suf:=by
 obtain ⟨h1,_,_,_⟩:=h;rcases h1 with ⟨h,_⟩ | ⟨_,h⟩
 ·exact absurd h hs
 ·simpa using h
theorem DigInv.len {u g m:Nat} {suf:List UInt8} (h:DigInv u g m suf) (hu:u<4611686018427387904):suf.length≤20:=by
 rcases h.1 with ⟨rfl,_⟩ | ⟨_,h1⟩
 ·simp
 ·have h2:=congrArg List.length h1
  rw [List.length_append,Lib.decDigits_length] at h2;have:=Lib.nDigits_le20 u (by omega);omega
theorem ret_str {a b:List UInt8} (h:a=b):Ending.returned (.string ⟨a.toArray⟩)=.returned (.string ⟨b.toArray⟩):=by rw [h]
theorem digit_nat (m:Nat):((digU m).toNat:Int)=48+(m:Int) % 10:=by
 unfold digU
 rw [UInt8.toNat_ofNat'];omega
theorem conv_digit (m:Nat) (wr:World):
  (convert 144 9 (.slice (some ⟨wr.heap.size,0,none⟩) 1 1)).run Tryz.prog (wr.alloc (.cells #[.int .u8 (48+(m:Int) % 10)] 5)) =
   .ok (.string ⟨#[digU m]⟩) (wr.alloc (.cells #[.int .u8 (48+(m:Int) % 10)] 5)):=by
 have h:=run_convert_bytes_back (P:=Tryz.prog) (wr.alloc (.cells #[.int .u8 (48+(m:Int) % 10)] 5)) 144 9 5 ⟨wr.heap.size,0,none⟩ 1 [digU m]
  Tryz.underlying144 Tryz.underlying5 Tryz.underlying9 (fun j hj=>by
   have hj0:j=0:=by simpa using hj
   subst hj0;simp only [List.getElem_cons_zero,digit_nat]
   simp [Addr.add,go_sem])
 exact h
theorem str_cons (c:UInt8) (l:List UInt8):(⟨#[c]⟩:ByteArray)++⟨l.toArray⟩=⟨(c::l).toArray⟩:=by
 apply ByteArray.ext
 simp [ByteArray.data_append]
theorem digits_all (u:Nat) (hu:u<4611686018427387904) (w:World):
  Calls Tryz.prog 76 #[u] w
   fun e w'=>e=.returned (.string ⟨(Lib.decDigits u).toArray⟩)∧Below w.heap.size w w':=by
 have HU:=Lh hu;clear hu
 go_enter Tryz.func76,Tryz.ntmps76
 go_wp2
 go_loopg [0,3] (u+1) (fun g n s wr=>∃ (m:Nat) (suf:List UInt8),n=.int .i64 m∧s=.string ⟨suf.toArray⟩∧DigInv u g m suf∧Below w.heap.size w wr)
 case atStart=>exact ⟨u,[],rfl,rfl,DigInv.start u,Below.refl _ _⟩
 case round=>
  obtain ⟨m,suf,rfl,rfl,hI,hB⟩:=hrel;have hlen:suf.length≤20:=hI.len HU.out;have hmi:(m:Int)≤4611686018427387904:=by have:=hI.2.2.1; have:=HU.out; omega
  by_cases hm:1≤m
  ·have hN:=hI.next (.inl (by omega))
   have HN:=Lh hN;have HI:=Lh hI;have hcv:=conv_digit m wr;clear hN hI
   go_wp2
   go_roundg (m / 10)
   case measure=>exact HN.out.2
   case rel=>exact ⟨m / 10,digU m::suf,by go_num,congrArg Value.string (str_cons _ _),HN.out.1,hB.alloc hB.size _⟩
  ·obtain rfl:m=0:=by omega
   cases suf with
   | nil=>
    have hN:=hI.next (.inr rfl);have HN:=Lh hN;have hcv:=conv_digit 0 wr;rw [show (48+((0:Nat):Int) % 10)=48 from rfl] at hcv;clear hN hI
    go_wp2
    go_roundg 0
    case measure=>exact HN.out.2
    case rel=>exact ⟨0,[digU 0],rfl,rfl,HN.out.1,hB.alloc hB.size _⟩
   | cons x l=>
    have hs:=Lh (hI.stop (by simp));clear hI
    go_wp2
    go_ret
    exact ⟨ret_str hs.out.symm,hB⟩
theorem digits_any (u:Nat) (hu:u≤1048576) (w:World):
  Calls Tryz.prog 76 #[u] w
   fun e w'=>e=.returned (.string ⟨(Lib.decDigits u).toArray⟩)∧Below w.heap.size w w':=digits_all u (by omega) w
end Go.Proofs.YtpbhaieclkoggaaGreatDoor
