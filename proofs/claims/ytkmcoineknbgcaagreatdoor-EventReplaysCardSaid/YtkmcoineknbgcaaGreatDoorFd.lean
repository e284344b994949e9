import Derived.Test.YtkmcoineknbgcaaGreatDoorFw
import Derived.Lib.ItoaMem
set_option maxHeartbeats 12800000
namespace Go.Proofs.YtkmcoineknbgcaaGreatDoor
open Go Go.Proofs Go.RowKit
def dgI (x j:Nat):Int:=(((Lib.decDigits x).getD j 0).toNat:Int)
theorem below_putRow (w:World) (b off:Nat) (d:Array UInt8):Below b w (Go.Sort.putRow (fun (b:UInt8)=>Value.int .u8 (b.toNat:Int)) w b off d):=
 ⟨rfl,rfl,rfl,by simp,fun k hk=>by
  unfold Go.Sort.putRow Go.Sort.mapBlock
  simp only [Array.getElem?_modify]
  rw [if_neg (by omega)]⟩
theorem zero_holds {w:World} {b N:Nat} {t:TypeId} (hN:N≤24) (hB:Blk w b (List.replicate 24 (.int .u8 0)) t):Go.Sort.Holds (fun (b:UInt8)=>Value.int .u8 (b.toNat:Int)) w b 0 (Array.replicate N (0:UInt8)):=by
 intro j hj
 rw [Array.size_replicate] at hj;have h1:=hB.cell j (v:=.int .u8 0) (by rw [List.getElem?_replicate,if_pos (by omega)]);have h2:=hB.free j;rw [getElem!_pos _ j (by simpa using hj)];simp only [Nat.zero_add]
 exact ⟨by rw [h1]; simp,h2⟩
structure DgIs (b x z:Nat) (w w':World):Prop where
 le:z≤Lib.nDigits x
 bel:Below b w w'
 cell:∀ j,j<Lib.nDigits x→w'.cell? ⟨b,j,none⟩=some (.int .u8 (dgI x j))
 zero:∀ j,z≤j→j<Lib.nDigits x→dgI x j=48
theorem digs_any (b x N:Nat) (hx:x<9007199254740992) (hNx:N=Lib.nDigits x) (w:World) {t:TypeId} (hB:Blk w b (List.replicate 24 (.int .u8 0)) t):
  Calls Tryz.prog 144 #[.slice (some ⟨b,0,none⟩) 24 24,.int .u64 (x:Int),.int .i64 0,.int .i64 (N:Int)] w fun e w'=>∃ z:Nat,e=.returned (.tuple #[.int .i64 (N:Int),.int .i64 (z:Int)])∧DgIs b x z w w':=by
 have hN20:N≤20:=by rw [hNx]; exact Lib.nDigits_le20 x (by omega)
 have hN1:1≤N:=by rw [hNx]; exact Lib.nDigits_pos x
 have hH:=zero_holds (N:=N) (by omega) hB;have hfmt:=Tryz.internal_strconv_formatBase10 b 0 24 x (Array.replicate N 0) w hH (by rw [Array.size_replicate,hNx]; exact Lib.lt_pow_nDigits x) (by omega) (by rw [Array.size_replicate]; omega);rw [Array.size_replicate] at hfmt;have HF:=Lh hfmt;have HH:=Lh hH;have hs1:(N:Int)≤24:=by omega
 have hNh:=Lh hNx;clear hfmt hH hB hNx
 go_enter Tryz.func144,Tryz.ntmps144
 go_wp2_with (go_at_call 125; refine HF.out.mono ?_; rintro e w' ⟨rfl,hq⟩; replace hq:=Lh hq; refine Hid.out ?_)
 rename World=>W1
 obtain ⟨n,v',dk,hw,hI⟩:=hq.out;have hcell:∀ j,j<N→W1.cell? ⟨b,j,none⟩=some (.int .u8 (dgI x j)):=by
  intro j hj
  have hl:j<(Lib.decDigits x).length:=by rw [Lib.decDigits_length,←hNh.out]; exact hj
  have h5:=Go.Sort.cell?_putRow (fun (b:UInt8)=>Value.int .u8 (b.toNat:Int)) w b 0 _ dk HH.out (by rw [hI.size,Array.size_replicate]) j (by rw [hI.size]; exact hj);have h6:(Lib.decDigits x)[j]=dk[j]! := Lib.row_is_numeral (hNh.out▸hI) j hl;rw [hw,World.cell?_drewN];simp only [Nat.zero_add] at h5
  rw [h5,←h6];unfold dgI
  rw [List.getD_eq_getElem?_getD,List.getElem?_eq_getElem hl];rfl
 have hbel:Below b w W1:=by rw [hw]; exact below_drewN (below_putRow w b 0 dk) n
 obtain ⟨G,hG⟩:∃ G:Nat→Int,∀ j,G j=dgI x j:=⟨_,fun _=>rfl⟩
 have hc:∀ j,j<N→W1.cell? ⟨b,j,none⟩=some (.int .u8 (G j)):=fun j hj=>by rw [hG]; exact hcell j hj
 have HB:=Lh (And.intro hbel (And.intro hcell hG));clear hw hI hcell hbel hG hq;refine Lh ?_
 go_wp2
 go_loopg [3] N (fun g tn wr=>∃ m:Nat,m≤N∧g=m∧tn=.int .i64 (m:Int)∧Hid (∀ j,m≤j→j<N→G j=48)∧wr=W1)
 case atStart=>exact ⟨N,by omega,rfl,rfl,Lh (fun j h1 h2=>by omega),rfl⟩
 case round=>
  obtain ⟨m,hm,rfl,rfl,hz,rfl⟩:=hrel
  match gk,hm,hz with
  | 0,hm,hz=>
   go_wp2
   go_ret2
   exact ⟨0,rfl,by omega,HB.out.1,fun j hj=>HB.out.2.1 j (hNh.out▸hj),fun j h1 h2=>by rw [←HB.out.2.2]; exact hz.out j h1 (hNh.out▸h2)⟩
  | m+1,hm,hz=>
   have hcm:=hc m (by omega);have s1:IntKind.i64.wrap (((m+1:Nat):Int) - 1)=(m:Int):=by rw [IntWalk.i64_in _ (by omega)]; omega
   by_cases h48:G m=48
   ·rw [h48] at hcm
    have HG:=Lh h48;clear h48
    go_wp2
    go_roundg m
    case measure=>omega
    case rel=>exact ⟨m,by omega,rfl,by go_num,Lh (fun j h1 h2=>(Nat.eq_or_lt_of_le h1).elim (fun e=>e▸HG.out) (fun e=>hz.out j e h2)),rfl⟩
   ·have hne:(G m==48)=false:=by simpa using h48
    clear h48
    go_wp2
    go_ret2
    exact ⟨m+1,by go_num,by have:=hNh.out; omega,HB.out.1,fun j hj=>HB.out.2.1 j (hNh.out▸hj),fun j h1 h2=>by rw [←HB.out.2.2]; exact hz.out j h1 (hNh.out▸h2)⟩
end Go.Proofs.YtkmcoineknbgcaaGreatDoor
