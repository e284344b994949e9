import Derived.Test.YtkmcoineknbgcaaGreatDoorFd
import Derived.RegionTactic
import Derived.ChangeAlike
set_option maxRecDepth 100000
set_option maxHeartbeats 12800000
namespace Go.Proofs.YtkmcoineknbgcaaGreatDoor
open Go Go.Proofs Go.RowKit
structure DsIs (d:Nat) (T:Nat→Int) (k:Nat) (w wr:World):Prop where
 off:Off d w wr
 blk:∃ vs:List Value,vs.length=24∧Blk wr d vs 5∧∀ j,j<k→vs[j]? = some (.int .u8 (T j))
theorem DsIs.step {d:Nat} {T:Nat→Int} {k:Nat} {w wr:World} (h:DsIs d T k w wr) (hk:k<24) (o:Obj):DsIs d T (k+1) w ((wr.setCell ⟨d,k,none⟩ (.int .u8 (T k))).alloc o):=by
 obtain ⟨vs,hl,hB,hj⟩:=h.blk;refine ⟨(h.off.trans (Off.store d k wr _)).trans (.of ((Below.refl _ _).alloc (Nat.le_refl _) o)),vs.set k (.int .u8 (T k)),by simpa using hl,(hB.set k _).alloc o,fun j hjk=>?_⟩;by_cases e:j=k
 ·subst e
  rw [List.getElem?_set_self (by omega)]
 ·rw [List.getElem?_set_ne (by omega)]
  exact hj j (by omega)
theorem DsIs.live {d:Nat} {T:Nat→Int} {k:Nat} {w wr:World} (h:DsIs d T k w wr) (hk:k<24):∃ v,wr.cell? ⟨d,k,none⟩=some v∧wr.frozen? ⟨d,k,none⟩=false∧d<wr.heap.size:=by
 obtain ⟨vs,hl,hB,hj⟩:=h.blk;exact ⟨_,hB.cell k (List.getElem?_eq_getElem (by omega)),hB.free k,hB.lt⟩
def sgI (x j:Nat):Int:=if j=0 then 45 else dgI x (j - 1)
theorem efg_pos (d b x N z:Nat) (hdb:d≠b) (w0 w:World) (hNx:N=Lib.nDigits x) (hN:N≤20) (hD:DgIs b x z w0 w) (hb:b<w.heap.size) (hB:Blk w d (List.replicate 24 (.int .u8 0)) 5):
  Calls Tryz.prog 142 #[.slice (some ⟨d,0,none⟩) 0 24,.bool false,.slice (some ⟨b,0,none⟩) 24 24,.int .i64 (N:Int),.int .i64 (z:Int),.int .i64 0,.int .u8 102,.bool false] w
   fun e w'=>e=.returned (.slice (some ⟨d,0,none⟩) N 24)∧DsIs d (dgI x) N w w':=by
 have hz:z≤N:=by rw [hNx]; exact hD.le
 have hN1:1≤N:=by rw [hNx]; exact Lib.nDigits_pos x
 obtain ⟨T,hT⟩:∃ T:Nat→Int,T=dgI x:=⟨_,rfl⟩
 rw [←hT];have hc:∀ j,j<N→w.cell? ⟨b,j,none⟩=some (.int .u8 (T j)):=by rw [hT,hNx]; exact hD.cell
 have h48:∀ j,z≤j→j<N→T j=48:=by rw [hT,hNx]; exact hD.zero
 have hI:DsIs d T 0 w w:=⟨.of (Below.refl _ _),_,by simp,hB,fun j hj=>by omega⟩
 have HH:=Lh (And.intro hc (And.intro h48 (And.intro hb hI)));have hmn:min (z:Int) (N:Int)=(z:Int):=by omega
 have hzi:(z:Int)≤24:=by omega
 have hni:¬ ((N:Int)≤0):=by omega
 have hni':(0:Int)<(N:Int):=by omega
 clear hc h48 hb hI hB hD hT hNx
 go_enter Tryz.func142,Tryz.ntmps142
 go_wp2
 go_loopg [0,25,191] z (fun g td tc ti wr=>∃ k:Nat,k≤z∧g=z-k∧ti=.int .i64 (k:Int)∧td=.slice (some ⟨d,0,none⟩) k 24∧Hid (DsIs d T k w wr))
 case atStart=>exact ⟨0,by omega,rfl,rfl,rfl,Lh HH.out.2.2.2⟩
 case round=>
  obtain ⟨k,hk,hg,rfl,rfl,hI⟩:=hrel;have HG:=Lh hg;clear hg;obtain ⟨v,c0,f0,hd⟩:=hI.out.live (by omega);by_cases hkz:k<z
  ·have hcs:wr.cell? ⟨b,k,none⟩=some (.int .u8 (T k)):=by rw [hI.out.off.cell ⟨b,k,none⟩ HH.out.2.2.1 (Ne.symm hdb)]; exact HH.out.1 k (by omega)
   have s1:IntKind.i64.wrap ((k:Int)+1)=((k+1:Nat):Int):=by rw [IntWalk.i64_in _ (by omega)]; omega
   have hk24:k+1≤24:=by omega
   go_wp2
   go_roundg (z-(k+1))
   case measure=>have:=HG.out; omega
   case rel=>exact ⟨k+1,by omega,rfl,by go_num,rfl,Lh (hI.out.step (by omega) _)⟩
  ·obtain rfl:k=z:=by omega
   obtain ⟨r,hr⟩:∃ r:Nat,k+r=N:=⟨N-k,by omega⟩
   have s2:IntKind.i64.wrap ((N:Int)-(k:Int))=(r:Int):=by rw [IntWalk.i64_in _ (by omega)]; omega
   have HR:=Lh hr;clear hr hkz
   go_wp2
   go_loopg [0,203] r (fun g td ti wr=>∃ q:Nat,q≤r∧g=r-q∧ti=.int .i64 (q:Int)∧td=.slice (some ⟨d,0,none⟩) (k+q) 24∧Hid (DsIs d T (k+q) w wr))
   case atStart=>exact ⟨0,by omega,rfl,rfl,rfl,hI⟩
   case round=>
    obtain ⟨q,hq,hg2,rfl,rfl,hI2⟩:=hrel;have HG2:=Lh hg2;have hkq:k+q≤20:=by have:=HR.out; omega
    clear hg2 hI;obtain ⟨v,c1,f1,hd1⟩:=hI2.out.live (show k+q<24 by omega);by_cases hqr:q<r
    ·have h4:T (k+q)=48:=HH.out.2.1 (k+q) (by omega) (by have:=HR.out; omega)
     have H4:=Lh h4;have s1:IntKind.i64.wrap ((q:Int)+1)=((q+1:Nat):Int):=by rw [IntWalk.i64_in _ (by omega)]; omega
     have hk24:k+q+1≤24:=by omega
     clear h4
     go_wp2
     go_roundg (r-(q+1))
     case measure=>have:=HG2.out; omega
     case rel=>exact ⟨q+1,by omega,rfl,by go_num,rfl,Lh (by have h:=hI2.out.step (by omega) (.cells #[.int .u8 48] 5); rw [H4.out] at h; exact h)⟩
    ·obtain rfl:q=r:=by omega
     have hN':=HR.out;have HN':=Lh hN';clear hN'
     go_wp2
     go_ret
     exact ⟨by rw [HN'.out]; rfl,by rw [←HN'.out]; exact hI2.out⟩
theorem efg_neg (d b x N z:Nat) (hdb:d≠b) (w0 w:World) (hNx:N=Lib.nDigits x) (hN:N≤20) (hD:DgIs b x z w0 w) (hb:b<w.heap.size) (hB:Blk w d (List.replicate 24 (.int .u8 0)) 5):
  Calls Tryz.prog 142 #[.slice (some ⟨d,0,none⟩) 0 24,.bool true,.slice (some ⟨b,0,none⟩) 24 24,.int .i64 (N:Int),.int .i64 (z:Int),.int .i64 0,.int .u8 102,.bool false] w
   fun e w'=>e=.returned (.slice (some ⟨d,0,none⟩) (N+1) 24)∧DsIs d (sgI x) (N+1) w w':=by
 have hz:z≤N:=by rw [hNx]; exact hD.le
 have hN1:1≤N:=by rw [hNx]; exact Lib.nDigits_pos x
 obtain ⟨T,hT⟩:∃ T:Nat→Int,T=sgI x:=⟨_,rfl⟩
 rw [←hT];have hc:∀ j,j<N→w.cell? ⟨b,j,none⟩=some (.int .u8 (T (j+1))):=by rw [hT,hNx]; exact hD.cell
 have h48:∀ j,z≤j→j<N→T (j+1)=48:=by rw [hT,hNx]; exact hD.zero
 have hT0:T 0=45:=by rw [hT]; rfl
 have hI:DsIs d T 0 w w:=⟨.of (Below.refl _ _),_,by simp,hB,fun j hj=>by omega⟩
 obtain ⟨v0,c00,f00,hd0⟩:=hI.live (by omega);have h1:=hI.step (by omega) (.cells #[.int .u8 45] 5);rw [hT0] at h1;have HH:=Lh (And.intro hc (And.intro h48 (And.intro hb h1)));have hmn:min (z:Int) (N:Int)=(z:Int):=by omega
 have hzi:(z:Int)≤24:=by omega
 have hni:¬ ((N:Int)≤0):=by omega
 have hni':(0:Int)<(N:Int):=by omega
 clear hc h48 hb hI hB hD hT hNx hT0 h1
 go_enter Tryz.func142,Tryz.ntmps142
 go_wp2
 go_loopg [0,25,191] z (fun g td tc ti wr=>∃ k:Nat,k≤z∧g=z-k∧ti=.int .i64 (k:Int)∧td=.slice (some ⟨d,0,none⟩) (k+1) 24∧Hid (DsIs d T (k+1) w wr))
 case atStart=>exact ⟨0,by omega,rfl,rfl,rfl,Lh HH.out.2.2.2⟩
 case round=>
  obtain ⟨k,hk,hg,rfl,rfl,hI⟩:=hrel;have HG:=Lh hg;clear hg;obtain ⟨v,c0,f0,hd⟩:=hI.out.live (by omega);by_cases hkz:k<z
  ·have hcs:wr.cell? ⟨b,k,none⟩=some (.int .u8 (T (k+1))):=by rw [hI.out.off.cell ⟨b,k,none⟩ HH.out.2.2.1 (Ne.symm hdb)]; exact HH.out.1 k (by omega)
   have s1:IntKind.i64.wrap ((k:Int)+1)=((k+1:Nat):Int):=by rw [IntWalk.i64_in _ (by omega)]; omega
   have hk24:k+1+1≤24:=by omega
   go_wp2
   go_roundg (z-(k+1))
   case measure=>have:=HG.out; omega
   case rel=>exact ⟨k+1,by omega,rfl,by go_num,rfl,Lh (hI.out.step (by omega) _)⟩
  ·obtain rfl:k=z:=by omega
   obtain ⟨r,hr⟩:∃ r:Nat,k+r=N:=⟨N-k,by omega⟩
   have s2:IntKind.i64.wrap ((N:Int)-(k:Int))=(r:Int):=by rw [IntWalk.i64_in _ (by omega)]; omega
   have HR:=Lh hr;clear hr hkz
   go_wp2
   go_loopg [0,203] r (fun g td ti wr=>∃ q:Nat,q≤r∧g=r-q∧ti=.int .i64 (q:Int)∧td=.slice (some ⟨d,0,none⟩) (k+q+1) 24∧Hid (DsIs d T (k+q+1) w wr))
   case atStart=>exact ⟨0,by omega,rfl,rfl,rfl,hI⟩
   case round=>
    obtain ⟨q,hq,hg2,rfl,rfl,hI2⟩:=hrel;have HG2:=Lh hg2;have hkq:k+q≤20:=by have:=HR.out; omega
    clear hg2 hI;obtain ⟨v,c1,f1,hd1⟩:=hI2.out.live (show k+q+1<24 by omega);by_cases hqr:q<r
    ·have h4:T (k+q+1)=48:=HH.out.2.1 (k+q) (by omega) (by have:=HR.out; omega)
     have H4:=Lh h4;have s1:IntKind.i64.wrap ((q:Int)+1)=((q+1:Nat):Int):=by rw [IntWalk.i64_in _ (by omega)]; omega
     have hk24:k+q+1+1≤24:=by omega
     clear h4
     go_wp2
     go_roundg (r-(q+1))
     case measure=>have:=HG2.out; omega
     case rel=>exact ⟨q+1,by omega,rfl,by go_num,rfl,Lh (by have h:=hI2.out.step (by omega) (.cells #[.int .u8 48] 5); rw [H4.out] at h; exact h)⟩
    ·obtain rfl:q=r:=by omega
     have hN':=HR.out;have HN':=Lh hN';clear hN'
     go_wp2
     go_ret
     exact ⟨by rw [HN'.out]; rfl,by rw [←HN'.out]; exact hI2.out⟩
end Go.Proofs.YtkmcoineknbgcaaGreatDoor
