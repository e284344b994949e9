import Derived.Test.YtkmcoineknbgcaaGreatDoorLBase
import Derived.Test.YtkmcoineknbgcaaGreatDoorShelf
import Derived.Test.YtkmcoineknbgcaaGreatDoorLStr
import Derived.Test.YtkmcoineknbgcaaGreatDoorFx
import Derived.WalkLawsBesides
import Derived.Outline
import Derived.Deep.DeepCutAuto
import Derived.Lib.Hide
import Derived.IntWalk
set_option maxHeartbeats 12800000
namespace Go.Proofs.YtkmcoineknbgcaaGreatDoor
open Go Go.Proofs Go.RowKit
theorem wrapsU (n:Int) (h₀:0≤n) (h₁:n<2 ^ 62):IntKind.u64.wrap n=n:=IntWalk.u64_in _ (by omega)
theorem andU1 (x:Int) (h₀:0≤x) (h₁:x<4611686018427387904):bits .and .u64 x 1=x % 2:=bits_mask .u64 62 (by decide) wrapsU 1 (by decide) x h₀ h₁
theorem wrapsI (n:Int) (h₀:0≤n) (h₁:n<2 ^ 62):IntKind.i64.wrap n=n:=IntWalk.i64_in _ (by omega)
theorem andI63 (x:Int) (h₀:0≤x) (h₁:x<4611686018427387904):bits .and .i64 x 63=x % 64:=bits_mask .i64 62 (by decide) wrapsI 6 (by decide) x h₀ h₁
theorem b2u (b:Bool) (w:World):Calls Tryz.prog 174 #[.bool b] w fun e w'=>e=.returned (.int .u64 (if b then 1 else 0))∧w'=w:=by
 cases b
 all_goals
  go_enter Tryz.func174,Tryz.ntmps174
  go_wp2
  go_ret
  exact ⟨rfl,rfl⟩
theorem b2r (b:Bool) (w:World):Calls Tryz.prog 175 #[.bool b] w fun e w'=>e=.returned (.int .u64 (if b then 1 else 0))∧w'=w:=by
 cases b
 all_goals
  go_enter Tryz.func175,Tryz.ntmps175
  go_wp2
  go_ret
  exact ⟨rfl,rfl⟩
theorem round_any (x:Nat) (hx:x<9007199254740992) (w:World):Calls Tryz.prog 164 #[.int .u64 ((4 * x:Nat):Int)] w fun e w'=>e=.returned (.int .u64 (x:Int))∧w'=w:=by
 obtain ⟨u,hu⟩:∃ u:Nat,u=4 * x:=⟨_,rfl⟩
 rw [←hu];have s1:(u:Int) / 4=(x:Int):=by omega
 have s2:=andU1 (x:Int) (by omega) (by omega);have s3:((u:Int)+1+(x:Int) % 2) / 4=(x:Int):=by omega
 have s4:IntKind.u64.wrap ((u:Int)+1)=(u:Int)+1:=IntWalk.u64_in _ (by omega);have s5:IntKind.u64.wrap ((u:Int)+1+(x:Int) % 2)=(u:Int)+1+(x:Int) % 2:=IntWalk.u64_in _ (by omega);have hu':=Lh hu;clear hu
 go_enter Tryz.func164,Tryz.ntmps164
 go_wp2
 go_ret
 exact ⟨rfl,rfl⟩
theorem unmin_any (y:Nat) (h1:1≤y) (hy:y<4611686018427387904) (w:World):Calls Tryz.prog 165 #[.int .u64 (y:Int)] w fun e w'=>e=.returned (.int .u64 ((4 * y - 2:Nat):Int))∧w'=w:=by
 have s1:IntKind.u64.wrap ((y:Int) * 4)=(y:Int) * 4:=IntWalk.u64_in _ (by omega);have s2:IntKind.u64.wrap ((y:Int) * 4 - 2)=(y:Int) * 4 - 2:=IntWalk.u64_in _ (by omega);have s3:((4 * y - 2:Nat):Int)=(y:Int) * 4 - 2:=by omega
 rw [s3]
 go_enter Tryz.func165,Tryz.ntmps165
 go_wp2
 go_ret
 exact ⟨rfl,rfl⟩
theorem div_any (x:Nat) (hx:x<9007199254740992) (w:World):Calls Tryz.prog 166 #[.int .u64 ((40 * x:Nat):Int),.int .u64 10] w fun e w'=>e=.returned (.int .u64 ((4 * x:Nat):Int))∧∃ n,w'=w.drewN n:=by
 obtain ⟨u,hu⟩:∃ u:Nat,u=40 * x:=⟨_,rfl⟩
 obtain ⟨v,hv⟩:∃ v:Nat,v=4 * x:=⟨_,rfl⟩
 rw [←hu,←hv];have s1:(u:Int) / 10=(v:Int):=by omega
 have s1':(u:Int).tdiv 10=(v:Int):=by rw [Int.tdiv_eq_ediv_of_nonneg (by omega)]; exact s1
 have s2:bits .and .u64 (u:Int) 1=0:=by rw [andU1 _ (by omega) (by omega)]; omega
 have s3:bits .or .u64 (v:Int) 0=(v:Int):=bits_join .u64 62 (by decide) wrapsU 0 (v:Int) 0 (by omega) (by omega) (by omega) (by omega) (by omega) (by omega);have s4:(u:Int) % 10=0:=by omega
 have s4':(u:Int).tmod 10=0:=by rw [Int.tmod_eq_emod_of_nonneg (by omega)]; exact s4
 have s5:IntKind.u64.wrap (v:Int)=(v:Int):=IntWalk.u64_in _ (by omega);have hu':=Lh hu;have hv':=Lh hv;clear hu hv
 go_enter Tryz.func166,Tryz.ntmps166
 go_wp2
 go_quiet ((go_at_call 175; exact Calls.quiet_of_same (b2r _ _)))
 go_wp2
 go_ret
 exact ⟨rfl,_,rfl⟩
theorem log2_0 (w:World):Calls Tryz.prog 159 #[.int .i64 0] w fun e w'=>e=.returned (.int .i64 0)∧w'=w:=by
 go_enter Tryz.func159,Tryz.ntmps159
 go_wp2
 go_ret
 exact ⟨rfl,rfl⟩
theorem log2_1 (w:World):Calls Tryz.prog 159 #[.int .i64 1] w fun e w'=>e=.returned (.int .i64 3)∧w'=w:=by
 go_enter Tryz.func159,Tryz.ntmps159
 go_wp2
 go_ret
 exact ⟨rfl,rfl⟩
structure Pows (w:World):Prop where
 a0:w.cell? ⟨5,696,none⟩=some (.int .u64 9223372036854775808)
 a1:w.cell? ⟨5,697,none⟩=some (.int .u64 0)
 b0:w.cell? ⟨5,698,none⟩=some (.int .u64 11529215046068469760)
 b1:w.cell? ⟨5,699,none⟩=some (.int .u64 0)
 opt:w.cell? ⟨2,0,none⟩=some (.bool true)
theorem Pows.lt {w:World} (h:Pows w):5<w.heap.size∧2<w.heap.size:=⟨World.block_lt_of_cell? _ _ h.a0,World.block_lt_of_cell? _ _ h.opt⟩
theorem Pows.next {w w':World} (h:Pows w) (hb:Below w.heap.size w w'):Pows w' where
 a0:=(hb.cell (p:=⟨_,696,none⟩) h.lt.1).trans h.a0
 a1:=(hb.cell (p:=⟨_,697,none⟩) h.lt.1).trans h.a1
 b0:=(hb.cell (p:=⟨_,698,none⟩) h.lt.1).trans h.b0
 b1:=(hb.cell (p:=⟨_,699,none⟩) h.lt.1).trans h.b1
 opt:=(hb.cell (p:=⟨_,0,none⟩) h.lt.2).trans h.opt
theorem uscale_any (b H S m u hi:Nat) (w:World) (h0:w.cell? ⟨b,0,none⟩=some (.int .u64 (H:Int))) (h1:w.cell? ⟨b,1,none⟩=some (.int .u64 0)) (h2:w.cell? ⟨b,2,none⟩=some (.int .i64 (S:Int)))
  (hS:S<64) (hm:m<18446744073709551616) (hH:H<18446744073709551616) (hu:u<4611686018427387904) (e1:hi=u * 2 ^ S) (e2:m * H=hi * 18446744073709551616):
  Calls Tryz.prog 160 #[.int .u64 (m:Int),.pointer (some ⟨b,0,none⟩)] w fun e w'=>e=.returned (.int .u64 (u:Int))∧∃ n,w'=w.drewN n:=by
 have b1:bits .and .i64 (S:Int) 63=(S:Int):=by rw [andI63 _ (by omega) (by omega)]; omega
 have b2:bits .or .u64 (u:Int) 0=(u:Int):=bits_join .u64 62 (by decide) wrapsU 0 (u:Int) 0 (by omega) (by omega) (by omega) (by omega) (by omega) (by omega);have b3:IntKind.u64.wrap (u:Int)=(u:Int):=IntWalk.u64_in _ (by omega);have hlt:hi<18446744073709551616:=by
  have h9:m * H<18446744073709551616 * 18446744073709551616:=Nat.mul_lt_mul'' hm hH;omega
 have b4:IntKind.u64.wrap (hi:Int)=(hi:Int):=IntWalk.u64_in _ (by omega);have d1:(hi:Int) / 2 ^ S=(u:Int):=by
  have h9:hi / 2 ^ S=u:=by rw [e1]; exact Nat.mul_div_cancel _ (Nat.two_pow_pos S)
  rw [←h9]; simp
 have d2:(u:Int) * 2 ^ S=(hi:Int):=by rw [e1]; simp
 have m1:=Tryz.bits_Mul64 m H hm hH w;have m2:=Tryz.bits_Mul64 m 0 hm (by decide) w;have e3:m * H / 18446744073709551616=hi:=by rw [e2]; exact Nat.mul_div_cancel _ (by decide)
 have e4:m * H % 18446744073709551616=0:=by rw [e2]; exact Nat.mul_mod_left _ _
 rw [e3,e4] at m1;have M1:Hid (Calls Tryz.prog 173 #[.int .u64 (m:Int),.int .u64 (H:Int)] w fun e w'=>e=.returned (.tuple #[.int .u64 (hi:Int),.int .u64 0])∧w'=w):=Lh (by simpa using m1);have M2:Hid (Calls Tryz.prog 173 #[.int .u64 (m:Int),.int .u64 0] w fun e w'=>e=.returned (.tuple #[.int .u64 0,.int .u64 0])∧w'=w):=Lh (by simpa using m2);clear m1 m2 e1 e2 e3 e4
 go_enter Tryz.func160,Tryz.ntmps160
 go_wp2_with (go_at_call 173; refine M1.out.mono ?_; rintro e w' ⟨rfl,rfl⟩; refine Hid.out ?_)
 refine Lh ?_;go_wp2_with (first | (go_at_call 173; refine M2.out.mono ?_; rintro e w' ⟨rfl,rfl⟩) | (go_at_call 174; refine (b2u _ _).mono ?_; rintro e w' ⟨rfl,rfl⟩))
 go_quiet ((go_at_call 174; exact Calls.quiet_of_same (b2u _ _)))
 go_wp2
 go_ret
 exact ⟨rfl,_,rfl⟩
abbrev sclr (H s:Int):Obj:=.cells #[.int .u64 H,.int .u64 0,.int .i64 s] 218
theorem prescale_at0 (e:Int) (he : -100≤e) (he':e≤100) (w:World) (hp:Pows w):
  Calls Tryz.prog 158 #[.pointer (some ⟨w.heap.size,0,none⟩),.int .i64 e,.int .i64 0,.int .i64 0] (w.alloc (.cells #[.int .u64 0,.int .u64 0,.int .i64 0] 218)) fun x w'=>x=.returned (.tuple #[])∧w'=w.alloc (sclr 9223372036854775808 (-(e+3))):=by
 have hl:=hp.lt.1;have c0:∀ o,(w.alloc o).cell? ⟨5,696,none⟩=some (.int .u64 9223372036854775808):=fun o=>(((Below.refl _ _).alloc (Nat.le_refl _) o).cell (p:=⟨_,696,none⟩) hl).trans hp.a0
 have c1:∀ o,(w.alloc o).cell? ⟨5,697,none⟩=some (.int .u64 0):=fun o=>(((Below.refl _ _).alloc (Nat.le_refl _) o).cell (p:=⟨_,697,none⟩) hl).trans hp.a1
 have s0:IntKind.i64.wrap e=e:=IntWalk.i64_in _ (by omega);have s1:IntKind.i64.wrap (e+3)=e+3:=IntWalk.i64_in _ (by omega);have s2:IntKind.i64.wrap (-(e+3)) = -(e+3):=IntWalk.i64_in _ (by omega);clear hp
 go_enter Tryz.func158,Tryz.ntmps158
 go_wp2
 go_end0
 exact ⟨rfl,rfl⟩
theorem prescale_at1 (e:Int) (he : -100≤e) (he':e≤100) (w:World) (hp:Pows w):
  Calls Tryz.prog 158 #[.pointer (some ⟨w.heap.size,0,none⟩),.int .i64 e,.int .i64 1,.int .i64 3] (w.alloc (.cells #[.int .u64 0,.int .u64 0,.int .i64 0] 218)) fun x w'=>x=.returned (.tuple #[])∧w'=w.alloc (sclr 11529215046068469760 (-(e+3+3))):=by
 have hl:=hp.lt.1;have c0:∀ o,(w.alloc o).cell? ⟨5,698,none⟩=some (.int .u64 11529215046068469760):=fun o=>(((Below.refl _ _).alloc (Nat.le_refl _) o).cell (p:=⟨_,698,none⟩) hl).trans hp.b0
 have c1:∀ o,(w.alloc o).cell? ⟨5,699,none⟩=some (.int .u64 0):=fun o=>(((Below.refl _ _).alloc (Nat.le_refl _) o).cell (p:=⟨_,699,none⟩) hl).trans hp.b1
 have s0:IntKind.i64.wrap (e+3)=e+3:=IntWalk.i64_in _ (by omega);have s1:IntKind.i64.wrap (e+3+3)=e+3+3:=IntWalk.i64_in _ (by omega);have s2:IntKind.i64.wrap (-(e+3+3)) = -(e+3+3):=IntWalk.i64_in _ (by omega);clear hp
 go_enter Tryz.func158,Tryz.ntmps158
 go_wp2
 go_end0
 exact ⟨rfl,rfl⟩
end Go.Proofs.YtkmcoineknbgcaaGreatDoor
