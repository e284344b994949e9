import Derived.Test.YtemicfjmidohfaaGreatDoorIeee
import Derived.Lib.ItoaNum
import Derived.Test.YtemicfjmidohfaaGreatDoorLStr
import Derived.WalkLawsBesides
import Derived.Outline
import Derived.Deep.DeepCutAuto
import Derived.RegionTactic
import Derived.ChangeAlike
namespace Go.Proofs.YtemicfjmidohfaaGreatDoor
open Go Ieee
structure Fw (x E K:Nat):Prop where
 hE:E≤52
 eK:K=x * 2 ^ (52-E)
 lo:4503599627370496≤K
 hi:K<9007199254740992
 xlo:2 ^ E≤x
 xhi:x<2 ^ (E+1)
theorem Fw.of {x:Nat} (h0:x≠0) (h:x<2 ^ 53):Fw x x.log2 (x <<< (52-x.log2)):=
 ⟨log2_le h0 h,Nat.shiftLeft_eq _ _,by simpa using kept_lo h0 h,by simpa using kept_hi h0 h,Nat.log2_self_le h0,Nat.lt_log2_self⟩
theorem fl_bits {n:Int} (h0:n≠0) (h:Small n):∃ E K,Fw n.natAbs E K∧fl n=(if n<0 then 9223372036854775808 else 0)+(E+1022) * 4503599627370496+K:=by
 have hn:n.natAbs≠0:=by omega
 refine ⟨_,_,Fw.of hn h,?_⟩;have hw:=nearest_shift (decide (n<0)) hn h 0;rw [Nat.shiftLeft_zero] at hw;rw [fl_eq];have h00:(-((0:Nat):Int))=0:=rfl;rw [h00] at hw;rw [hw];unfold Format.word
 rw [signWeight_eq];by_cases hneg:n<0
 ·simp [hneg]; omega
 ·simp [hneg]
theorem Fw.pos {x E K:Nat} (h:Fw x E K):1≤x:=by
 have:=h.xlo; have:=Nat.two_pow_pos E; omega
theorem Fw.lt {x E K:Nat} (h:Fw x E K):x<9007199254740992:=by
 have h1:=h.xhi;have h2:2 ^ (E+1)≤2 ^ 53:=Nat.pow_le_pow_right (by decide) (by have:=h.hE; omega);omega
theorem Fw.four {x E K:Nat} (h:Fw x E K):K * 1024=4 * x * 2 ^ (60-E):=by
 rw [h.eK,show 60-E=(52-E)+8 by have:=h.hE; omega,Nat.pow_add];generalize 2 ^ (52-E)=q;rw [show (2:Nat) ^ 8=256 from rfl,show 4 * x * (q * 256)=x * q * (4 * 256) by ac_rfl]
theorem Fw.forty {x E K:Nat} (h:Fw x E K):K * 1280=40 * x * 2 ^ (57-E):=by
 rw [h.eK,show 57-E=(52-E)+5 by have:=h.hE; omega,Nat.pow_add];generalize 2 ^ (52-E)=q;rw [show (2:Nat) ^ 5=32 from rfl,show 40 * x * (q * 32)=x * q * (40 * 32) by ac_rfl]
theorem l10_step (E:Nat):Lib.l10 (E+1)=Lib.l10 E∨Lib.l10 (E+1)=Lib.l10 E+1:=by
 unfold Lib.l10; omega
theorem l10_le {E:Nat} (h:E≤53):Lib.l10 E≤15:=by
 unfold Lib.l10; omega
theorem Fw.ten {x E K:Nat} (h:Fw x E K):x<10 ^ (Lib.l10 (E+1)+1):=by
 have h1:=(Lib.l10_tab ⟨E+1,by have:=h.hE; omega⟩ (by simp)).1;have h2:=h.xhi;simp only at h1
 omega
end Go.Proofs.YtemicfjmidohfaaGreatDoor
set_option maxHeartbeats 12800000
namespace Go.Proofs.YtemicfjmidohfaaGreatDoor
open Go Go.Proofs Go.RowKit
theorem wrapsU (n:Int) (h₀:0≤n) (h₁:n<2 ^ 62):IntKind.u64.wrap n=n:=IntWalk.u64_in _ (by omega)
theorem andU1 (x:Int) (h₀:0≤x) (h₁:x<4611686018427387904):bits .and .u64 x 1=x % 2:=bits_mask .u64 62 (by decide) wrapsU 1 (by decide) x h₀ h₁
theorem wrapsI (n:Int) (h₀:0≤n) (h₁:n<2 ^ 62):IntKind.i64.wrap n=n:=IntWalk.i64_in _ (by omega)
theorem andI63 (x:Int) (h₀:0≤x) (h₁:x<4611686018427387904):bits .and .i64 x 63=x % 64:=bits_mask .i64 62 (by decide) wrapsI 6 (by decide) x h₀ h₁
theorem b2u (b:Bool) (w:World):Calls Tryz.prog 333 #[.bool b] w fun e w'=>e=.returned (.int .u64 (if b then 1 else 0))∧w'=w:=by
 cases b
 all_goals
  go_enter Tryz.func333,Tryz.ntmps333
  go_wp2
  go_ret
  exact ⟨rfl,rfl⟩
theorem b2r (b:Bool) (w:World):Calls Tryz.prog 334 #[.bool b] w fun e w'=>e=.returned (.int .u64 (if b then 1 else 0))∧w'=w:=by
 cases b
 all_goals
  go_enter Tryz.func334,Tryz.ntmps334
  go_wp2
  go_ret
  exact ⟨rfl,rfl⟩
theorem round_any (x:Nat) (hx:x<9007199254740992) (w:World):Calls Tryz.prog 320 #[.int .u64 ((4 * x:Nat):Int)] w fun e w'=>e=.returned (.int .u64 (x:Int))∧w'=w:=by
 obtain ⟨u,hu⟩:∃ u:Nat,u=4 * x:=⟨_,rfl⟩
 rw [←hu];have s1:(u:Int) / 4=(x:Int):=by omega
 have s2:=andU1 (x:Int) (by omega) (by omega);have s3:((u:Int)+1+(x:Int) % 2) / 4=(x:Int):=by omega
 have s4:IntKind.u64.wrap ((u:Int)+1)=(u:Int)+1:=IntWalk.u64_in _ (by omega);have s5:IntKind.u64.wrap ((u:Int)+1+(x:Int) % 2)=(u:Int)+1+(x:Int) % 2:=IntWalk.u64_in _ (by omega);have hu':=Lh hu;clear hu
 go_enter Tryz.func320,Tryz.ntmps320
 go_wp2
 go_ret
 exact ⟨rfl,rfl⟩
theorem unmin_any (y:Nat) (h1:1≤y) (hy:y<4611686018427387904) (w:World):Calls Tryz.prog 321 #[.int .u64 (y:Int)] w fun e w'=>e=.returned (.int .u64 ((4 * y - 2:Nat):Int))∧w'=w:=by
 have s1:IntKind.u64.wrap ((y:Int) * 4)=(y:Int) * 4:=IntWalk.u64_in _ (by omega);have s2:IntKind.u64.wrap ((y:Int) * 4 - 2)=(y:Int) * 4 - 2:=IntWalk.u64_in _ (by omega);have s3:((4 * y - 2:Nat):Int)=(y:Int) * 4 - 2:=by omega
 rw [s3]
 go_enter Tryz.func321,Tryz.ntmps321
 go_wp2
 go_ret
 exact ⟨rfl,rfl⟩
theorem div_any (x:Nat) (hx:x<9007199254740992) (w:World):Calls Tryz.prog 322 #[.int .u64 ((40 * x:Nat):Int),.int .u64 10] w fun e w'=>e=.returned (.int .u64 ((4 * x:Nat):Int))∧∃ n,w'=w.drewN n:=by
 obtain ⟨u,hu⟩:∃ u:Nat,u=40 * x:=⟨_,rfl⟩
 obtain ⟨v,hv⟩:∃ v:Nat,v=4 * x:=⟨_,rfl⟩
 rw [←hu,←hv];have s1:(u:Int) / 10=(v:Int):=by omega
 have s1':(u:Int).tdiv 10=(v:Int):=by rw [Int.tdiv_eq_ediv_of_nonneg (by omega)]; exact s1
 have s2:bits .and .u64 (u:Int) 1=0:=by rw [andU1 _ (by omega) (by omega)]; omega
 have s3:bits .or .u64 (v:Int) 0=(v:Int):=bits_join .u64 62 (by decide) wrapsU 0 (v:Int) 0 (by omega) (by omega) (by omega) (by omega) (by omega) (by omega);have s4:(u:Int) % 10=0:=by omega
 have s4':(u:Int).tmod 10=0:=by rw [Int.tmod_eq_emod_of_nonneg (by omega)]; exact s4
 have s5:IntKind.u64.wrap (v:Int)=(v:Int):=IntWalk.u64_in _ (by omega);have hu':=Lh hu;have hv':=Lh hv;clear hu hv
 go_enter Tryz.func322,Tryz.ntmps322
 go_wp2
 go_quiet ((go_at_call 334; exact Calls.quiet_of_same (b2r _ _)))
 go_wp2
 go_ret
 exact ⟨rfl,_,rfl⟩
theorem log2_0 (w:World):Calls Tryz.prog 315 #[.int .i64 0] w fun e w'=>e=.returned (.int .i64 0)∧w'=w:=by
 go_enter Tryz.func315,Tryz.ntmps315
 go_wp2
 go_ret
 exact ⟨rfl,rfl⟩
theorem log2_1 (w:World):Calls Tryz.prog 315 #[.int .i64 1] w fun e w'=>e=.returned (.int .i64 3)∧w'=w:=by
 go_enter Tryz.func315,Tryz.ntmps315
 go_wp2
 go_ret
 exact ⟨rfl,rfl⟩
structure Pows (w:World):Prop where
 a0:w.cell? ⟨6,696,none⟩=some (.int .u64 9223372036854775808)
 a1:w.cell? ⟨6,697,none⟩=some (.int .u64 0)
 b0:w.cell? ⟨6,698,none⟩=some (.int .u64 11529215046068469760)
 b1:w.cell? ⟨6,699,none⟩=some (.int .u64 0)
 opt:w.cell? ⟨3,0,none⟩=some (.bool true)
theorem Pows.lt {w:World} (h:Pows w):6<w.heap.size∧3<w.heap.size:=⟨World.block_lt_of_cell? _ _ h.a0,World.block_lt_of_cell? _ _ h.opt⟩
theorem Pows.next {w w':World} (h:Pows w) (hb:Below w.heap.size w w'):Pows w' where
 a0:=(hb.cell (p:=⟨_,696,none⟩) h.lt.1).trans h.a0
 a1:=(hb.cell (p:=⟨_,697,none⟩) h.lt.1).trans h.a1
 b0:=(hb.cell (p:=⟨_,698,none⟩) h.lt.1).trans h.b0
 b1:=(hb.cell (p:=⟨_,699,none⟩) h.lt.1).trans h.b1
 opt:=(hb.cell (p:=⟨_,0,none⟩) h.lt.2).trans h.opt
theorem uscale_any (b H S m u hi:Nat) (w:World) (h0:w.cell? ⟨b,0,none⟩=some (.int .u64 (H:Int))) (h1:w.cell? ⟨b,1,none⟩=some (.int .u64 0)) (h2:w.cell? ⟨b,2,none⟩=some (.int .i64 (S:Int)))
  (hS:S<64) (hm:m<18446744073709551616) (hH:H<18446744073709551616) (hu:u<4611686018427387904) (e1:hi=u * 2 ^ S) (e2:m * H=hi * 18446744073709551616):
  Calls Tryz.prog 316 #[.int .u64 (m:Int),.pointer (some ⟨b,0,none⟩)] w fun e w'=>e=.returned (.int .u64 (u:Int))∧∃ n,w'=w.drewN n:=by
 have b1:bits .and .i64 (S:Int) 63=(S:Int):=by rw [andI63 _ (by omega) (by omega)]; omega
 have b2:bits .or .u64 (u:Int) 0=(u:Int):=bits_join .u64 62 (by decide) wrapsU 0 (u:Int) 0 (by omega) (by omega) (by omega) (by omega) (by omega) (by omega);have b3:IntKind.u64.wrap (u:Int)=(u:Int):=IntWalk.u64_in _ (by omega);have hlt:hi<18446744073709551616:=by
  have h9:m * H<18446744073709551616 * 18446744073709551616:=Nat.mul_lt_mul'' hm hH;omega
 have b4:IntKind.u64.wrap (hi:Int)=(hi:Int):=IntWalk.u64_in _ (by omega);have d1:(hi:Int) / 2 ^ S=(u:Int):=by
  have h9:hi / 2 ^ S=u:=by rw [e1]; exact Nat.mul_div_cancel _ (Nat.two_pow_pos S)
  rw [←h9]; simp
 have d2:(u:Int) * 2 ^ S=(hi:Int):=by rw [e1]; simp
 have m1:=Tryz.bits_Mul64 m H hm hH w;have m2:=Tryz.bits_Mul64 m 0 hm (by decide) w;have e3:m * H / 18446744073709551616=hi:=by rw [e2]; exact Nat.mul_div_cancel _ (by decide)
 have e4:m * H % 18446744073709551616=0:=by rw [e2]; exact Nat.mul_mod_left _ _
 rw [e3,e4] at m1;have M1:Hid (Calls Tryz.prog 332 #[.int .u64 (m:Int),.int .u64 (H:Int)] w fun e w'=>e=.returned (.tuple #[.int .u64 (hi:Int),.int .u64 0])∧w'=w):=Lh (by simpa using m1);have M2:Hid (Calls Tryz.prog 332 #[.int .u64 (m:Int),.int .u64 0] w fun e w'=>e=.returned (.tuple #[.int .u64 0,.int .u64 0])∧w'=w):=Lh (by simpa using m2);clear m1 m2 e1 e2 e3 e4
 go_enter Tryz.func316,Tryz.ntmps316
 go_wp2_with fail;refine M1.out.mono ?_;rintro e w' ⟨rfl,rfl⟩
 go_wp2_with (first | (go_at_call 332; refine M2.out.mono ?_; rintro e w' ⟨rfl,rfl⟩) | (go_at_call 333; refine (b2u _ _).mono ?_; rintro e w' ⟨rfl,rfl⟩))
 go_quiet ((go_at_call 333; exact Calls.quiet_of_same (b2u _ _)))
 go_wp2
 go_ret
 exact ⟨rfl,_,rfl⟩
abbrev sclr (H s:Int):Obj:=.cells #[.int .u64 H,.int .u64 0,s] 433
theorem prescale_at0 (e:Int) (he : -100≤e) (he':e≤100) (w:World) (hp:Pows w):
  Calls Tryz.prog 314 #[.pointer (some ⟨w.heap.size,0,none⟩),e,.int .i64 0,.int .i64 0] (w.alloc (.cells #[.int .u64 0,.int .u64 0,.int .i64 0] 433)) fun x w'=>x=.returned (.tuple #[])∧w'=w.alloc (sclr 9223372036854775808 (-(e+3))):=by
 have hl:=hp.lt.1;have c0:∀ o,(w.alloc o).cell? ⟨6,696,none⟩=some (.int .u64 9223372036854775808):=fun o=>(((Below.refl _ _).alloc (Nat.le_refl _) o).cell (p:=⟨_,696,none⟩) hl).trans hp.a0
 have c1:∀ o,(w.alloc o).cell? ⟨6,697,none⟩=some (.int .u64 0):=fun o=>(((Below.refl _ _).alloc (Nat.le_refl _) o).cell (p:=⟨_,697,none⟩) hl).trans hp.a1
 have s0:IntKind.i64.wrap e=e:=IntWalk.i64_in _ (by omega);have s1:IntKind.i64.wrap (e+3)=e+3:=IntWalk.i64_in _ (by omega);have s2:IntKind.i64.wrap (-(e+3)) = -(e+3):=IntWalk.i64_in _ (by omega);clear hp
 go_enter Tryz.func314,Tryz.ntmps314
 go_wp2
 go_end0
 exact ⟨rfl,rfl⟩
theorem prescale_at1 (e:Int) (he : -100≤e) (he':e≤100) (w:World) (hp:Pows w):
  Calls Tryz.prog 314 #[.pointer (some ⟨w.heap.size,0,none⟩),e,.int .i64 1,.int .i64 3] (w.alloc (.cells #[.int .u64 0,.int .u64 0,.int .i64 0] 433)) fun x w'=>x=.returned (.tuple #[])∧w'=w.alloc (sclr 11529215046068469760 (-(e+3+3))):=by
 have hl:=hp.lt.1;have c0:∀ o,(w.alloc o).cell? ⟨6,698,none⟩=some (.int .u64 11529215046068469760):=fun o=>(((Below.refl _ _).alloc (Nat.le_refl _) o).cell (p:=⟨_,698,none⟩) hl).trans hp.b0
 have c1:∀ o,(w.alloc o).cell? ⟨6,699,none⟩=some (.int .u64 0):=fun o=>(((Below.refl _ _).alloc (Nat.le_refl _) o).cell (p:=⟨_,699,none⟩) hl).trans hp.b1
 have s0:IntKind.i64.wrap (e+3)=e+3:=IntWalk.i64_in _ (by omega);have s1:IntKind.i64.wrap (e+3+3)=e+3+3:=IntWalk.i64_in _ (by omega);have s2:IntKind.i64.wrap (-(e+3+3)) = -(e+3+3):=IntWalk.i64_in _ (by omega);clear hp
 go_enter Tryz.func314,Tryz.ntmps314
 go_wp2
 go_end0
 exact ⟨rfl,rfl⟩
end Go.Proofs.YtemicfjmidohfaaGreatDoor
set_option maxHeartbeats 12800000
namespace Go.Proofs.YtemicfjmidohfaaGreatDoor
open Go Go.Proofs Go.RowKit
theorem ten_at {w:World} (ht:Tab w) (N:Nat) (hN:N<20) (P:Nat) (hP:P=10 ^ N) (o:Obj) (k:Nat):((w.alloc o).drewN k).cell? ⟨1,N,none⟩=some (.int .u64 (P:Int)):=by
 have hl:=ht.lt;have hT:=Lib.TabIs.cell ht gTab N (by rw [Lib.pow10Tab_length]; exact hN);rw [Lib.pow10Tab_at N hN] at hT;rw [hP];exact ((below_drewN ((Below.refl w.heap.size w).alloc (Nat.le_refl _) o) k).cell (p:=⟨_,N,none⟩) hl).trans hT
theorem fwf_at0 {x E K:Nat} (h:Fw x E K) (D N M U V P:Nat) (ei:Int) (hei:ei=(E:Int) - 63) (hD:D=Lib.l10 E) (hND:N=D+1) (hM:M=K * 2048) (hU:U=4 * x) (hV:V=4 * P - 2) (hP:P=10 ^ N) (hUV:U<V) (hN:N≤17)
  (w:World) (hp:Pows w) (ht:Tab w):
  Calls Tryz.prog 299 #[.int .u64 (M:Int),ei,.int .i64 (N:Int),.int .i64 0,.int .u8 102] w (Rt (.tuple #[.int .u64 (x:Int),.int .i64 0]) w):=by
 have hE:=h.hE;have hx:=h.lt;have hK:=h.hi;have L1:=Lh (fun W=>Tryz.internal_strconv_log10Pow2 E (by omega) W);rw [←hD] at L1;have hPl:1≤P∧P≤100000000000000000:=by
  rw [hP]; exact ⟨Nat.one_le_pow _ _ (by decide),by have:=Nat.pow_le_pow_right (n:=10) (by decide) hN; omega⟩
 have UM:=Lh (fun W=>unmin_any P hPl.1 (by omega) W);rw [←hV] at UM;have RD:=Lh (fun W=>round_any x hx W);rw [←hU] at RD;have US:=Lh (fun (b:Nat) (W:World) a0 a1 a2=>uscale_any b 9223372036854775808 (60-E) M U (K * 1024) W a0 a1 a2 (by omega) (by omega) (by decide) (by omega) (by rw [hU]; exact h.four) (by rw [hM]; omega));have ct:=ten_at ht N (by omega) P hP;have HP:=Lh hp;have HT:=Lh ht;have q1:IntKind.i64.wrap (ei+63)=(E:Int):=by rw [hei]; rw [IntWalk.i64_in _ (by omega)]; omega
 have q2:IntKind.i64.wrap ((N:Int) - 1)=(D:Int):=by rw [hND]; rw [IntWalk.i64_in _ (by omega)]; omega
 have q3:IntKind.i64.wrap ((D:Int)-(D:Int))=0:=by simp; decide
 have q4:¬ ((V:Int)≤(U:Int)):=by omega
 have q5:(N:Int)<20:=by omega
 have q6 : -100≤ei∧ei≤100:=by omega
 have q7:((60-E:Nat):Int) = -(ei+3):=by omega
 have hxs:=Lh (And.intro hx hK);clear hp ht hei hD hND hM hU hV hP hUV hN hPl hE hx hK h
 go_enter Tryz.func299,Tryz.ntmps299
 go_wp2_with (first
  | (go_at_call 262; refine (L1.out _).mono ?_; rintro e w' ⟨rfl,rfl⟩)
  | (go_at_call 315; refine (log2_0 _).mono ?_; rintro e w' ⟨rfl,rfl⟩)
  | (go_at_call 314; refine (prescale_at0 _ q6.1 q6.2 _ HP.out).mono ?_; rintro e w' ⟨rfl,rfl⟩)
  | (go_at_call 316; refine (US.out _ _ (by simp [go_sem]) (by simp [go_sem]) (by simp [go_sem]; omega)).mono ?_; rintro e w' ⟨rfl,k,rfl⟩)
  | (go_at_call 321; refine (UM.out _).mono ?_; rintro e w' ⟨rfl,rfl⟩))
 refine wp_loop_rounds 1 ?_;rw [rounds_succ];go_wp2_with (go_at_call 320; refine (RD.out _).mono ?_; rintro e w' ⟨rfl,rfl⟩)
 go_ret2
 exact ⟨rfl,below_drewN (bA) _⟩
theorem fwf_at1a {x E K:Nat} (h:Fw x E K) (D N M U Y V P:Nat) (ei:Int) (hei:ei=(E:Int) - 63) (hD:D=Lib.l10 E) (hND:N=D+2) (hM:M=K * 2048) (hU:U=40 * x) (hY:Y=4 * x) (hV:V=4 * P - 2) (hP:P=10 ^ N) (hUV:V≤U) (hN:N≤17)
  (w:World) (hp:Pows w) (ht:Tab w):
  Calls Tryz.prog 299 #[.int .u64 (M:Int),ei,.int .i64 (N:Int),.int .i64 0,.int .u8 102] w (Rt (.tuple #[.int .u64 (x:Int),.int .i64 0]) w):=by
 have hE:=h.hE;have hx:=h.lt;have hK:=h.hi;have L1:=Lh (fun W=>Tryz.internal_strconv_log10Pow2 E (by omega) W);rw [←hD] at L1;have hPl:1≤P∧P≤100000000000000000:=by
  rw [hP]; exact ⟨Nat.one_le_pow _ _ (by decide),by have:=Nat.pow_le_pow_right (n:=10) (by decide) hN; omega⟩
 have UM:=Lh (fun W=>unmin_any P hPl.1 (by omega) W);rw [←hV] at UM;have RD:=Lh (fun W=>round_any x hx W);rw [←hY] at RD;have DV:=Lh (fun W=>div_any x hx W);rw [←hU,←hY] at DV;have US:=Lh (fun (b:Nat) (W:World) a0 a1 a2=>uscale_any b 11529215046068469760 (57-E) M U (K * 1280) W a0 a1 a2 (by omega) (by omega) (by decide) (by omega) (by rw [hU]; exact h.forty) (by rw [hM]; omega));have ct:=ten_at ht N (by omega) P hP;have HP:=Lh hp;have HT:=Lh ht;have q1:IntKind.i64.wrap (ei+63)=(E:Int):=by rw [hei]; rw [IntWalk.i64_in _ (by omega)]; omega
 have q2:IntKind.i64.wrap ((N:Int) - 1)=((D+1:Nat):Int):=by rw [hND]; rw [IntWalk.i64_in _ (by omega)]; omega
 have q3:IntKind.i64.wrap (((D+1:Nat):Int)-(D:Int))=1:=by rw [IntWalk.i64_in _ (by omega)]; omega
 have q4:(V:Int)≤(U:Int):=by omega
 have q5:(N:Int)<20:=by omega
 have q6 : -100≤ei∧ei≤100:=by omega
 have q7:((57-E:Nat):Int) = -(ei+3+3):=by omega
 obtain ⟨D1,hD1⟩:∃ n:Nat,n=D+1:=⟨_,rfl⟩
 rw [←hD1] at q2 q3;have hxs:=Lh (And.intro hx hK);clear hp ht hei hD hND hM hU hY hV hP hUV hN hPl hE hx hK h hD1
 go_enter Tryz.func299,Tryz.ntmps299
 go_wp2_with (first
  | (go_at_call 262; refine (L1.out _).mono ?_; rintro e w' ⟨rfl,rfl⟩)
  | (go_at_call 315; refine (log2_1 _).mono ?_; rintro e w' ⟨rfl,rfl⟩)
  | (go_at_call 314; refine (prescale_at1 _ q6.1 q6.2 _ HP.out).mono ?_; rintro e w' ⟨rfl,rfl⟩)
  | (go_at_call 316; refine (US.out _ _ (by simp [go_sem]) (by simp [go_sem]) (by simp [go_sem]; omega)).mono ?_; rintro e w' ⟨rfl,k,rfl⟩)
  | (go_at_call 321; refine (UM.out _).mono ?_; rintro e w' ⟨rfl,rfl⟩)
  | (go_at_call 322; refine (DV.out _).mono ?_; rintro e w' ⟨rfl,k2,rfl⟩))
 refine wp_loop_rounds 1 ?_;rw [rounds_succ];go_wp2_with (go_at_call 320; refine (RD.out _).mono ?_; rintro e w' ⟨rfl,rfl⟩)
 go_ret2
 exact ⟨rfl,below_drewN (bA) _⟩
theorem fwf_at1b {x E K:Nat} (h:Fw x E K) (D N M U Y V P:Nat) (ei:Int) (hei:ei=(E:Int) - 63) (hD:D=Lib.l10 E) (hND:N=D+2) (hM:M=K * 2048) (hU:U=40 * x) (hY:Y=4 * x) (hV:V=4 * P - 2) (hP:P=10 ^ N) (hUV:U<V) (hN:N≤17)
  (w:World) (hp:Pows w) (ht:Tab w):
  Calls Tryz.prog 299 #[.int .u64 (M:Int),ei,.int .i64 (N:Int),.int .i64 0,.int .u8 102] w (Rt (.tuple #[.int .u64 (x:Int),.int .i64 0]) w):=by
 have hE:=h.hE;have hx:=h.lt;have hK:=h.hi;have L1:=Lh (fun W=>Tryz.internal_strconv_log10Pow2 E (by omega) W);rw [←hD] at L1;have hPl:1≤P∧P≤100000000000000000:=by
  rw [hP]; exact ⟨Nat.one_le_pow _ _ (by decide),by have:=Nat.pow_le_pow_right (n:=10) (by decide) hN; omega⟩
 have UM:=Lh (fun W=>unmin_any P hPl.1 (by omega) W);rw [←hV] at UM;have RD:=Lh (fun W=>round_any x hx W);rw [←hY] at RD;have DV:=Lh (fun W=>div_any x hx W);rw [←hU,←hY] at DV;have US:=Lh (fun (b:Nat) (W:World) a0 a1 a2=>uscale_any b 11529215046068469760 (57-E) M U (K * 1280) W a0 a1 a2 (by omega) (by omega) (by decide) (by omega) (by rw [hU]; exact h.forty) (by rw [hM]; omega));have ct:=ten_at ht N (by omega) P hP;have HP:=Lh hp;have HT:=Lh ht;have q1:IntKind.i64.wrap (ei+63)=(E:Int):=by rw [hei]; rw [IntWalk.i64_in _ (by omega)]; omega
 have q2:IntKind.i64.wrap ((N:Int) - 1)=((D+1:Nat):Int):=by rw [hND]; rw [IntWalk.i64_in _ (by omega)]; omega
 have q3:IntKind.i64.wrap (((D+1:Nat):Int)-(D:Int))=1:=by rw [IntWalk.i64_in _ (by omega)]; omega
 have q4:¬ ((V:Int)≤(U:Int)):=by omega
 have q5:(N:Int)<20:=by omega
 have q6 : -100≤ei∧ei≤100:=by omega
 have q7:((57-E:Nat):Int) = -(ei+3+3):=by omega
 obtain ⟨D1,hD1⟩:∃ n:Nat,n=D+1:=⟨_,rfl⟩
 rw [←hD1] at q2 q3;have hxs:=Lh (And.intro hx hK);clear hp ht hei hD hND hM hU hY hV hP hUV hN hPl hE hx hK h hD1
 go_enter Tryz.func299,Tryz.ntmps299
 go_wp2_with (first
  | (go_at_call 262; refine (L1.out _).mono ?_; rintro e w' ⟨rfl,rfl⟩)
  | (go_at_call 315; refine (log2_1 _).mono ?_; rintro e w' ⟨rfl,rfl⟩)
  | (go_at_call 314; refine (prescale_at1 _ q6.1 q6.2 _ HP.out).mono ?_; rintro e w' ⟨rfl,rfl⟩)
  | (go_at_call 316; refine (US.out _ _ (by simp [go_sem]) (by simp [go_sem]) (by simp [go_sem]; omega)).mono ?_; rintro e w' ⟨rfl,k,rfl⟩)
  | (go_at_call 321; refine (UM.out _).mono ?_; rintro e w' ⟨rfl,rfl⟩))
 refine wp_loop_rounds 2 ?_;rw [rounds_succ];go_wp2_with (go_at_call 322; refine (DV.out _).mono ?_; rintro e w' ⟨rfl,k2,rfl⟩)
 rw [rounds_succ];go_wp2_with (go_at_call 320; refine (RD.out _).mono ?_; rintro e w' ⟨rfl,rfl⟩)
 go_ret2
 exact ⟨rfl,below_drewN (bA) _⟩
theorem fwf_any {x E K:Nat} (h:Fw x E K) (M N:Nat) (ei:Int) (hei:ei=(E:Int) - 63) (hM:M=K * 2048) (hN:N=Lib.l10 (E+1)+1) (w:World) (hp:Pows w) (ht:Tab w):
  Calls Tryz.prog 299 #[.int .u64 (M:Int),ei,.int .i64 (N:Int),.int .i64 0,.int .u8 102] w (Rt (.tuple #[.int .u64 (x:Int),.int .i64 0]) w):=by
 have h10:=h.ten;rw [←hN] at h10;have hx:=h.pos;have hl:=l10_le (E:=E+1) (by have:=h.hE; omega);rcases l10_step E with e | e
 ·exact fwf_at0 h _ N M _ _ _ ei hei rfl (by omega) hM rfl rfl rfl (by omega) (by omega) w hp ht
 ·by_cases hb:10 ^ N≤10 * x
  ·exact fwf_at1a h _ N M _ _ _ _ ei hei rfl (by omega) hM rfl rfl rfl rfl (by omega) (by omega) w hp ht
  ·exact fwf_at1b h _ N M _ _ _ _ ei hei rfl (by omega) hM rfl rfl rfl rfl (by omega) (by omega) w hp ht
end Go.Proofs.YtemicfjmidohfaaGreatDoor
set_option maxHeartbeats 12800000
namespace Go.Proofs.YtemicfjmidohfaaGreatDoor
open Go Go.Proofs Go.RowKit
def dgI (x j:Nat):Int:=(((Lib.decDigits x).getD j 0).toNat:Int)
theorem below_putRow (w:World) (b off:Nat) (d:Array UInt8):Below b w (Go.Sort.putRow (fun (b:UInt8)=>Value.int .u8 (b.toNat:Int)) w b off d):=
 ⟨rfl,rfl,rfl,by simp,fun k hk=>by
  unfold Go.Sort.putRow Go.Sort.mapBlock
  simp only [Array.getElem?_modify]
  rw [if_neg (by omega)]⟩
theorem zero_holds {w:World} {b N:Nat} {t:TypeId} (hN:N≤24) (hB:Blk w b (List.replicate 24 (.int .u8 0)) t):Go.Sort.Holds (fun (b:UInt8)=>Value.int .u8 (b.toNat:Int)) w b 0 (Array.replicate N (0:UInt8)):=by
 intro j hj
 rw [Array.size_replicate] at hj;have h1:=hB.cell j (v:=.int .u8 0) (by rw [List.getElem?_replicate,if_pos (by omega)]);have h2:=hB.free j;rw [getElem!_pos _ j (by simpa using hj)];simp only [Nat.zero_add]
 exact ⟨by rw [h1]; simp,h2⟩
structure DgIs (b x z:Nat) (w w':World):Prop where
 le:z≤Lib.nDigits x
 bel:Below b w w'
 cell:∀ j,j<Lib.nDigits x→w'.cell? ⟨b,j,none⟩=some (.int .u8 (dgI x j))
 zero:∀ j,z≤j→j<Lib.nDigits x→dgI x j=48
theorem digs_any (b x N:Nat) (hx:x<9007199254740992) (hNx:N=Lib.nDigits x) (w:World) {t:TypeId} (hB:Blk w b (List.replicate 24 (.int .u8 0)) t):
  Calls Tryz.prog 298 #[.slice (some ⟨b,0,none⟩) 24 24,.int .u64 (x:Int),.int .i64 0,.int .i64 (N:Int)] w fun e w'=>∃ z:Nat,e=.returned (.tuple #[.int .i64 (N:Int),.int .i64 (z:Int)])∧DgIs b x z w w':=by
 have hN20:N≤20:=by rw [hNx]; exact Lib.nDigits_le20 x (by omega)
 have hN1:1≤N:=by rw [hNx]; exact Lib.nDigits_pos x
 have hH:=zero_holds (N:=N) (by omega) hB;have hfmt:=Tryz.internal_strconv_formatBase10 b 0 24 x (Array.replicate N 0) w hH (by rw [Array.size_replicate,hNx]; exact Lib.lt_pow_nDigits x) (by omega) (by rw [Array.size_replicate]; omega);rw [Array.size_replicate] at hfmt;have HF:=Lh hfmt;have HH:=Lh hH;have hs1:(N:Int)≤24:=by omega
 have hNh:=Lh hNx;clear hfmt hH hB hNx
 go_enter Tryz.func298,Tryz.ntmps298
 go_wp2_with fail;refine HF.out.mono ?_;rintro e w' ⟨rfl,hq⟩; replace hq:=Lh hq
 rename World=>W1
 obtain ⟨n,v',dk,hw,hI⟩:=hq.out;have hcell:∀ j,j<N→W1.cell? ⟨b,j,none⟩=some (.int .u8 (dgI x j)):=by
  intro j hj
  have hl:j<(Lib.decDigits x).length:=by rw [Lib.decDigits_length,←hNh.out]; exact hj
  have h5:=Go.Sort.cell?_putRow (fun (b:UInt8)=>Value.int .u8 (b.toNat:Int)) w b 0 _ dk HH.out (by rw [hI.size,Array.size_replicate]) j (by rw [hI.size]; exact hj);have h6:(Lib.decDigits x)[j]=dk[j]! := Lib.row_is_numeral (hNh.out▸hI) j hl;rw [hw,World.cell?_drewN];simp only [Nat.zero_add] at h5
  rw [h5,←h6];unfold dgI
  rw [List.getD_eq_getElem?_getD,List.getElem?_eq_getElem hl];rfl
 have hbel:Below b w W1:=by rw [hw]; exact below_drewN (below_putRow w b 0 dk) n
 obtain ⟨G,hG⟩:∃ G:Nat→Int,∀ j,G j=dgI x j:=⟨_,fun _=>rfl⟩
 have hc:∀ j,j<N→W1.cell? ⟨b,j,none⟩=some (.int .u8 (G j)):=fun j hj=>by rw [hG]; exact hcell j hj
 have HB:=Lh (And.intro hbel (And.intro hcell hG));clear hw hI hcell hbel hG hq
 go_wp2
 go_loopg [3] N (fun g tn wr=>∃ m:Nat,m≤N∧g=m∧tn=.int .i64 (m:Int)∧Hid (∀ j,m≤j→j<N→G j=48)∧wr=W1)
 case atStart=>exact ⟨N,by omega,rfl,rfl,Lh (fun j h1 h2=>by omega),rfl⟩
 case round=>
  obtain ⟨m,hm,rfl,rfl,hz,rfl⟩:=hrel
  match gk,hm,hz with
  | 0,hm,hz=>
   go_wp2
   go_ret2
   exact ⟨0,rfl,by omega,HB.out.1,fun j hj=>HB.out.2.1 j (hNh.out▸hj),fun j h1 h2=>by rw [←HB.out.2.2]; exact hz.out j h1 (hNh.out▸h2)⟩
  | m+1,hm,hz=>
   have hcm:=hc m (by omega);have s1:IntKind.i64.wrap (((m+1:Nat):Int) - 1)=(m:Int):=by rw [IntWalk.i64_in _ (by omega)]; omega
   by_cases h48:G m=48
   ·rw [h48] at hcm
    have HG:=Lh h48;clear h48
    go_wp2
    go_roundg m
    case measure=>omega
    case rel=>exact ⟨m,by omega,rfl,by go_num,Lh (fun j h1 h2=>(Nat.eq_or_lt_of_le h1).elim (fun e=>e▸HG.out) (fun e=>hz.out j e h2)),rfl⟩
   ·have hne:(G m==48)=false:=by simpa using h48
    clear h48
    go_wp2
    go_ret2
    exact ⟨m+1,by go_num,by have:=hNh.out; omega,HB.out.1,fun j hj=>HB.out.2.1 j (hNh.out▸hj),fun j h1 h2=>by rw [←HB.out.2.2]; exact hz.out j h1 (hNh.out▸h2)⟩
end Go.Proofs.YtemicfjmidohfaaGreatDoor
set_option maxRecDepth 100000
set_option maxHeartbeats 12800000
namespace Go.Proofs.YtemicfjmidohfaaGreatDoor
open Go Go.Proofs Go.RowKit
structure DsIs (d:Nat) (T:Nat→Int) (k:Nat) (w wr:World):Prop where
 off:Off d w wr
 blk:∃ vs:List Value,vs.length=24∧Blk wr d vs 5∧∀ j,j<k→vs[j]? = some (.int .u8 (T j))
theorem DsIs.step {d:Nat} {T:Nat→Int} {k:Nat} {w wr:World} (h:DsIs d T k w wr) (hk:k<24) (o:Obj):DsIs d T (k+1) w ((wr.setCell ⟨d,k,none⟩ (.int .u8 (T k))).alloc o):=by
 obtain ⟨vs,hl,hB,hj⟩:=h.blk;refine ⟨(h.off.trans (Off.store d k wr _)).trans (.of ((Below.refl _ _).alloc (Nat.le_refl _) o)),vs.set k (.int .u8 (T k)),by simpa using hl,(hB.set k _).alloc o,fun j hjk=>?_⟩;by_cases e:j=k
 ·subst e
  rw [List.getElem?_set_self (by omega)]
 ·rw [List.getElem?_set_ne (by omega)]
  exact hj j (by omega)
theorem DsIs.live {d:Nat} {T:Nat→Int} {k:Nat} {w wr:World} (h:DsIs d T k w wr) (hk:k<24):∃ v,wr.cell? ⟨d,k,none⟩=some v∧wr.frozen? ⟨d,k,none⟩=false∧d<wr.heap.size:=by
 obtain ⟨vs,hl,hB,hj⟩:=h.blk;exact ⟨_,hB.cell k (List.getElem?_eq_getElem (by omega)),hB.free k,hB.lt⟩
def sgI (x j:Nat):Int:=if j=0 then 45 else dgI x (j - 1)
theorem efg_pos (d b x N z:Nat) (hdb:d≠b) (w0 w:World) (hNx:N=Lib.nDigits x) (hN:N≤20) (hD:DgIs b x z w0 w) (hb:b<w.heap.size) (hB:Blk w d (List.replicate 24 (.int .u8 0)) 5):
  Calls Tryz.prog 296 #[.slice (some ⟨d,0,none⟩) 0 24,.bool false,.slice (some ⟨b,0,none⟩) 24 24,.int .i64 (N:Int),.int .i64 (z:Int),.int .i64 0,.int .u8 102,.bool false] w
   fun e w'=>e=.returned (.slice (some ⟨d,0,none⟩) N 24)∧DsIs d (dgI x) N w w':=by
 have hz:z≤N:=by rw [hNx]; exact hD.le
 have hN1:1≤N:=by rw [hNx]; exact Lib.nDigits_pos x
 obtain ⟨T,hT⟩:∃ T:Nat→Int,T=dgI x:=⟨_,rfl⟩
 rw [←hT];have hc:∀ j,j<N→w.cell? ⟨b,j,none⟩=some (.int .u8 (T j)):=by rw [hT,hNx]; exact hD.cell
 have h48:∀ j,z≤j→j<N→T j=48:=by rw [hT,hNx]; exact hD.zero
 have hI:DsIs d T 0 w w:=⟨.of (Below.refl _ _),_,by simp,hB,fun j hj=>by omega⟩
 have HH:=Lh (And.intro hc (And.intro h48 (And.intro hb hI)));have hmn:min (z:Int) (N:Int)=(z:Int):=by omega
 have hzi:(z:Int)≤24:=by omega
 have hni:¬ ((N:Int)≤0):=by omega
 have hni':(0:Int)<(N:Int):=by omega
 clear hc h48 hb hI hB hD hT hNx
 go_enter Tryz.func296,Tryz.ntmps296
 go_wp2
 go_loopg [0,25,191] z (fun g td tc ti wr=>∃ k:Nat,k≤z∧g=z-k∧ti=.int .i64 (k:Int)∧td=.slice (some ⟨d,0,none⟩) k 24∧Hid (DsIs d T k w wr))
 case atStart=>exact ⟨0,by omega,rfl,rfl,rfl,Lh HH.out.2.2.2⟩
 case round=>
  obtain ⟨k,hk,hg,rfl,rfl,hI⟩:=hrel;have HG:=Lh hg;clear hg;obtain ⟨v,c0,f0,hd⟩:=hI.out.live (by omega);by_cases hkz:k<z
  ·have hcs:wr.cell? ⟨b,k,none⟩=some (.int .u8 (T k)):=by rw [hI.out.off.cell ⟨b,k,none⟩ HH.out.2.2.1 (Ne.symm hdb)]; exact HH.out.1 k (by omega)
   have s1:IntKind.i64.wrap ((k:Int)+1)=((k+1:Nat):Int):=by rw [IntWalk.i64_in _ (by omega)]; omega
   have hk24:k+1≤24:=by omega
   go_wp2
   go_roundg (z-(k+1))
   case measure=>have:=HG.out; omega
   case rel=>exact ⟨k+1,by omega,rfl,by go_num,rfl,Lh (hI.out.step (by omega) _)⟩
  ·obtain rfl:k=z:=by omega
   obtain ⟨r,hr⟩:∃ r:Nat,k+r=N:=⟨N-k,by omega⟩
   have s2:IntKind.i64.wrap ((N:Int)-(k:Int))=(r:Int):=by rw [IntWalk.i64_in _ (by omega)]; omega
   have HR:=Lh hr;clear hr hkz
   go_wp2
   go_loopg [0,203] r (fun g td ti wr=>∃ q:Nat,q≤r∧g=r-q∧ti=.int .i64 (q:Int)∧td=.slice (some ⟨d,0,none⟩) (k+q) 24∧Hid (DsIs d T (k+q) w wr))
   case atStart=>exact ⟨0,by omega,rfl,rfl,rfl,hI⟩
   case round=>
    obtain ⟨q,hq,hg2,rfl,rfl,hI2⟩:=hrel;have HG2:=Lh hg2;have hkq:k+q≤20:=by have:=HR.out; omega
    clear hg2 hI;obtain ⟨v,c1,f1,hd1⟩:=hI2.out.live (show k+q<24 by omega);by_cases hqr:q<r
    ·have h4:T (k+q)=48:=HH.out.2.1 (k+q) (by omega) (by have:=HR.out; omega)
     have H4:=Lh h4;have s1:IntKind.i64.wrap ((q:Int)+1)=((q+1:Nat):Int):=by rw [IntWalk.i64_in _ (by omega)]; omega
     have hk24:k+q+1≤24:=by omega
     clear h4
     go_wp2
     go_roundg (r-(q+1))
     case measure=>have:=HG2.out; omega
     case rel=>exact ⟨q+1,by omega,rfl,by go_num,rfl,Lh (by have h:=hI2.out.step (by omega) (.cells #[.int .u8 48] 5); rw [H4.out] at h; exact h)⟩
    ·obtain rfl:q=r:=by omega
     have hN':=HR.out;have HN':=Lh hN';clear hN'
     go_wp2
     go_ret
     exact ⟨by rw [HN'.out]; rfl,by rw [←HN'.out]; exact hI2.out⟩
theorem efg_neg (d b x N z:Nat) (hdb:d≠b) (w0 w:World) (hNx:N=Lib.nDigits x) (hN:N≤20) (hD:DgIs b x z w0 w) (hb:b<w.heap.size) (hB:Blk w d (List.replicate 24 (.int .u8 0)) 5):
  Calls Tryz.prog 296 #[.slice (some ⟨d,0,none⟩) 0 24,.bool true,.slice (some ⟨b,0,none⟩) 24 24,.int .i64 (N:Int),.int .i64 (z:Int),.int .i64 0,.int .u8 102,.bool false] w
   fun e w'=>e=.returned (.slice (some ⟨d,0,none⟩) (N+1) 24)∧DsIs d (sgI x) (N+1) w w':=by
 have hz:z≤N:=by rw [hNx]; exact hD.le
 have hN1:1≤N:=by rw [hNx]; exact Lib.nDigits_pos x
 obtain ⟨T,hT⟩:∃ T:Nat→Int,T=sgI x:=⟨_,rfl⟩
 rw [←hT];have hc:∀ j,j<N→w.cell? ⟨b,j,none⟩=some (.int .u8 (T (j+1))):=by rw [hT,hNx]; exact hD.cell
 have h48:∀ j,z≤j→j<N→T (j+1)=48:=by rw [hT,hNx]; exact hD.zero
 have hT0:T 0=45:=by rw [hT]; rfl
 have hI:DsIs d T 0 w w:=⟨.of (Below.refl _ _),_,by simp,hB,fun j hj=>by omega⟩
 obtain ⟨v0,c00,f00,hd0⟩:=hI.live (by omega);have h1:=hI.step (by omega) (.cells #[.int .u8 45] 5);rw [hT0] at h1;have HH:=Lh (And.intro hc (And.intro h48 (And.intro hb h1)));have hmn:min (z:Int) (N:Int)=(z:Int):=by omega
 have hzi:(z:Int)≤24:=by omega
 have hni:¬ ((N:Int)≤0):=by omega
 have hni':(0:Int)<(N:Int):=by omega
 clear hc h48 hb hI hB hD hT hNx hT0 h1
 go_enter Tryz.func296,Tryz.ntmps296
 go_wp2
 go_loopg [0,25,191] z (fun g td tc ti wr=>∃ k:Nat,k≤z∧g=z-k∧ti=.int .i64 (k:Int)∧td=.slice (some ⟨d,0,none⟩) (k+1) 24∧Hid (DsIs d T (k+1) w wr))
 case atStart=>exact ⟨0,by omega,rfl,rfl,rfl,Lh HH.out.2.2.2⟩
 case round=>
  obtain ⟨k,hk,hg,rfl,rfl,hI⟩:=hrel;have HG:=Lh hg;clear hg;obtain ⟨v,c0,f0,hd⟩:=hI.out.live (by omega);by_cases hkz:k<z
  ·have hcs:wr.cell? ⟨b,k,none⟩=some (.int .u8 (T (k+1))):=by rw [hI.out.off.cell ⟨b,k,none⟩ HH.out.2.2.1 (Ne.symm hdb)]; exact HH.out.1 k (by omega)
   have s1:IntKind.i64.wrap ((k:Int)+1)=((k+1:Nat):Int):=by rw [IntWalk.i64_in _ (by omega)]; omega
   have hk24:k+1+1≤24:=by omega
   go_wp2
   go_roundg (z-(k+1))
   case measure=>have:=HG.out; omega
   case rel=>exact ⟨k+1,by omega,rfl,by go_num,rfl,Lh (hI.out.step (by omega) _)⟩
  ·obtain rfl:k=z:=by omega
   obtain ⟨r,hr⟩:∃ r:Nat,k+r=N:=⟨N-k,by omega⟩
   have s2:IntKind.i64.wrap ((N:Int)-(k:Int))=(r:Int):=by rw [IntWalk.i64_in _ (by omega)]; omega
   have HR:=Lh hr;clear hr hkz
   go_wp2
   go_loopg [0,203] r (fun g td ti wr=>∃ q:Nat,q≤r∧g=r-q∧ti=.int .i64 (q:Int)∧td=.slice (some ⟨d,0,none⟩) (k+q+1) 24∧Hid (DsIs d T (k+q+1) w wr))
   case atStart=>exact ⟨0,by omega,rfl,rfl,rfl,hI⟩
   case round=>
    obtain ⟨q,hq,hg2,rfl,rfl,hI2⟩:=hrel;have HG2:=Lh hg2;have hkq:k+q≤20:=by have:=HR.out; omega
    clear hg2 hI;obtain ⟨v,c1,f1,hd1⟩:=hI2.out.live (show k+q+1<24 by omega);by_cases hqr:q<r
    ·have h4:T (k+q+1)=48:=HH.out.2.1 (k+q) (by omega) (by have:=HR.out; omega)
     have H4:=Lh h4;have s1:IntKind.i64.wrap ((q:Int)+1)=((q+1:Nat):Int):=by rw [IntWalk.i64_in _ (by omega)]; omega
     have hk24:k+q+1+1≤24:=by omega
     clear h4
     go_wp2
     go_roundg (r-(q+1))
     case measure=>have:=HG2.out; omega
     case rel=>exact ⟨q+1,by omega,rfl,by go_num,rfl,Lh (by have h:=hI2.out.step (by omega) (.cells #[.int .u8 48] 5); rw [H4.out] at h; exact h)⟩
    ·obtain rfl:q=r:=by omega
     have hN':=HR.out;have HN':=Lh hN';clear hN'
     go_wp2
     go_ret
     exact ⟨by rw [HN'.out]; rfl,by rw [←HN'.out]; exact hI2.out⟩
end Go.Proofs.YtemicfjmidohfaaGreatDoor
set_option maxRecDepth 100000
set_option maxHeartbeats 12800000
namespace Go.Proofs.YtemicfjmidohfaaGreatDoor
open Go Go.Proofs Go.RowKit
theorem below_via {B:Nat} {w wA w1:World} (hA:Below B w wA) (hb:Below wA.heap.size wA w1) (hB:B≤w.heap.size):Below B w w1:=hA.trans (hb.mono (Nat.le_trans hB hA.size))
theorem orTop (m:Nat) (h:m<4503599627370496):bits .or .u64 (m:Int) 4503599627370496=((m+4503599627370496:Nat):Int):=by
 have h1:=(bits_nat .u64 62 (by decide) wrapsU m 4503599627370496 (by omega) (by decide)).2;have h2:=(bits_nat .u64 62 (by decide) wrapsU 4503599627370496 m (by decide) (by omega)).2;have h3:=bits_join .u64 62 (by decide) wrapsU 52 4503599627370496 (m:Int) (by decide) (by decide) (by decide) (by omega) (by omega) (by omega);rw [Nat.or_comm] at h1;have e:((4503599627370496:Nat):Int)=4503599627370496:=rfl;rw [e] at h1 h2;rw [h1,←h2,h3];omega
theorem wrapsU64 (n:Int) (h₀:0≤n) (h₁:n<2 ^ 64):IntKind.u64.wrap n=n:=IntWalk.u64_in _ (by omega)
theorem andU52 (x:Int) (h₀:0≤x) (h₁:x<18446744073709551616):bits .and .u64 x 4503599627370495=x % 4503599627370496:=bits_mask .u64 64 (by decide) wrapsU64 52 (by decide) x h₀ h₁
theorem andI11 (x:Int) (h₀:0≤x) (h₁:x<4611686018427387904):bits .and .i64 x 2047=x % 2048:=bits_mask .i64 62 (by decide) wrapsI 11 (by decide) x h₀ h₁
theorem len53 (K:Nat) (lo:4503599627370496≤K) (hi:K<9007199254740992):Lib.bitLen K=53:=by
 unfold Lib.bitLen
 obtain ⟨h1,h2,h3⟩:=Lib.bitLenAux_bounds 64 K (by omega) (by omega);have h4:Lib.bitLenAux 64 K<54:=by
  have:2 ^ (Lib.bitLenAux 64 K - 1)<2 ^ 53:=by omega
  have:=(Nat.pow_lt_pow_iff_right (a:=2) (by decide)).1 this;omega
 have h5:52<Lib.bitLenAux 64 K:=by
  have:2 ^ 52<2 ^ Lib.bitLenAux 64 K:=by omega
  exact (Nat.pow_lt_pow_iff_right (a:=2) (by decide)).1 this
 omega
theorem bits_run (b:Nat) (W:World):(callFunc 293 #[.float .f64 b]).run Tryz.prog W=.ok (.value (.int .u64 b)) W:=by
 rw [run_callFunc_extern Tryz.func293 (by kernel_rfl) (by kernel_rfl) (by kernel_rfl) (e:=Extern.MathFloatBits.float64bits) (by kernel_rfl)];rfl
theorem ftoa_pos {x E K:Nat} (h:Fw x E K) (d B N J Q K0 N10 M:Nat) (ei:Int) (hB0:B=0+(E+1022) * 4503599627370496+K) (hNx:N=Lib.nDigits x) (hJ:J=E+1023) (hQ:Q=E+1023) (hK0:K0+4503599627370496=K) (hN10:N10=Lib.l10 (E+1)+1) (hM:M=K * 2048) (hei:ei=(E:Int) - 63)
  (w:World) (hp:Pows w) (ht:Tab w) (hB:Blk w d (List.replicate 24 (.int .u8 0)) 5):
  Calls Tryz.prog 277 #[.slice (some ⟨d,0,none⟩) 0 24,.float .f64 B,.int .u8 102,.int .i64 0] w
   fun e w'=>e=.returned (.slice (some ⟨d,0,none⟩) N 24)∧DsIs d (dgI x) N w w':=by
 have hE:=h.hE;have lo:=h.lo;have hi:=h.hi;have hx:=h.lt;have hx1:=h.pos;have hbits:∀ W:World,(callFunc 293 #[.float .f64 B]).run Tryz.prog W=.ok (.value (.int .u64 (B:Int))) W:=fun W=>bits_run _ W
 have f1:(B:Int) / 9223372036854775808=0:=by omega
 have f2:(B:Int) / 4503599627370496=(J:Int):=by omega
 have f3:IntKind.i64.wrap (J:Int)=(J:Int):=IntWalk.i64_in _ (by omega);have f4:bits .and .i64 (J:Int) 2047=(Q:Int):=by rw [andI11 _ (by omega) (by omega)]; omega
 have f5:bits .and .u64 (B:Int) 4503599627370495=(K0:Int):=by rw [andU52 _ (by omega) (by omega)]; omega
 have f6:bits .or .u64 (K0:Int) 4503599627370496=(K:Int):=by rw [orTop _ (by omega),hK0]
 have f7:((Q:Int)==2047)=false:=by simp; omega
 have f8:((Q:Int)==0)=false:=by simp; omega
 have f9:IntKind.i64.wrap ((Q:Int) + -1023)=(E:Int):=by rw [IntWalk.i64_in _ (by omega)]; omega
 have f9':IntKind.i64.wrap ((Q:Int) - 1023)=(E:Int):=by rw [IntWalk.i64_in _ (by omega)]; omega
 have f10:((K:Int)==0)=false:=by simp; omega
 have g1:(0:Int)≤(E:Int):=by omega
 have g2:IntKind.i64.wrap (1+(E:Int))=((E+1:Nat):Int):=by rw [IntWalk.i64_in _ (by omega)]; omega
 have L1:=Lh (fun W=>Tryz.internal_strconv_log10Pow2 (E+1) (by omega) W);have hl10:=l10_le (E:=E+1) (by omega);obtain ⟨D,hD⟩:∃ D:Nat,D=Lib.l10 (E+1):=⟨_,rfl⟩
 rw [←hD] at L1;have g3:IntKind.i64.wrap (1+(D:Int))=(N10:Int):=by rw [IntWalk.i64_in _ (by omega)]; omega
 have g3':IntKind.i64.wrap (N10:Int)=(N10:Int):=IntWalk.i64_in _ (by omega);have g4:(N10:Int)≤18:=by omega
 have g5:(0:Int)<(N10:Int):=by omega
 have L2:=Lh (fun W=>Tryz.bits_Len64 (K:Int) W (by omega) (by omega));have l2:Lib.bitLen K=53:=len53 K lo hi;have g6:IntKind.u64.wrap ((K:Int) * 2048)=(M:Int):=by rw [IntWalk.u64_in _ (by omega)]; omega
 have g7:IntKind.i64.wrap ((E:Int) - 11)=(E:Int) - 11:=IntWalk.i64_in _ (by omega);have g8:IntKind.i64.wrap ((E:Int) - 11 - 52)=ei:=by rw [IntWalk.i64_in _ (by omega)]; omega
 have FW:=Lh (fun W a0 a1=>fwf_any h M N10 ei hei hM hN10 W a0 a1);have ho:=hp.opt;have HP:=Lh hp;have HT:=Lh ht;have HB:=Lh hB;have HX:=Lh (And.intro hNx (And.intro hx hx1));have hxn:((x:Int)==0)=false:=by simp; omega
 clear hp ht hB hNx hB0 hJ hQ hK0 hN10 hM hei hE lo hi hx hx1 hl10 hD h
 go_enter Tryz.func277,Tryz.ntmps277
 go_wp2
 go_quiet (fail)
 go_wp2_with (first
  | (go_at_call 262; refine (L1.out _).mono ?_; rintro e w' ⟨rfl,rfl⟩)
  | (go_at_call 263; refine (L2.out _).mono ?_; rintro e w' ⟨rfl,rfl⟩)
  | (go_at_call 299; refine (FW.out _ (HP.out.next ((below_drewN (Below.refl _ _) _).alloc (by simp) _)) (HT.out.next ((below_drewN (Below.refl _ _) _).alloc (by simp) _))).mono ?_; rintro e w1 ⟨rfl,hb1⟩; refine Hid.out ?_))
 have hB1:Below w.heap.size w w1:=below_via ((below_drewN (Below.refl _ _) _).alloc (Nat.le_refl _) _) hb1 (Nat.le_refl _);have hBuf0:=(Blk.startAt (b:=w.heap.size) (by exact rfl)).next hb1;have hBuf:Blk w1 w.heap.size (List.replicate 24 (.int .u8 0)) 356:=hBuf0;clear hBuf0;have N1:=Lh (fun W=>Tryz.internal_strconv_numDigits x HX.out.2.2 (by have:=HX.out.2.1; omega) W);rw [←HX.out.1] at N1;have HQ:=Lh (And.intro hB1 hBuf);clear hb1 hB1 hBuf hbits ho f1 f2 f3 f4 f5 f6 f7 f8 f9 f9' f10 g1 g2 g3 g3' g4 g5 g6 g7 g8 l2;refine Lh ?_
 go_upto_region 74 with fail
 go_region_with (first
  | (go_at_call 240; refine (N1.out _ ?_).mono ?_; (exact (HT.out.next HQ.out.1).next bdq); rintro e w' ⟨rfl,rfl⟩)
  | (go_at_call 298; refine (digs_any w.heap.size x N HX.out.2.1 HX.out.1 w1.drew HQ.out.2.drew).mono ?_; rintro e w' ⟨z,rfl,hD⟩; replace hD:=Lh hD))
 rename World=>w2
 have hW2:Below w.heap.size w w2:=(HQ.out.1.trans bdq).trans hD.out.bel;have hBd:Blk w2 d (List.replicate 24 (.int .u8 0)) 5:=HB.out.next hW2;have hlt2:w.heap.size<w2.heap.size:=Nat.lt_of_lt_of_le HQ.out.2.drew.lt hD.out.bel.size;have hdn:d≠w.heap.size:=Nat.ne_of_lt HB.out.lt;have hN20:N≤20:=by rw [HX.out.1]; exact Lib.nDigits_le20 x (by have:=HX.out.2.1; omega)
 have EF:=Lh (efg_pos d w.heap.size x N z hdn w1.drew w2 HX.out.1 hN20 hD.out hlt2 hBd);have HW2:=Lh hW2;clear hW2 hBd hlt2 hdn hN20;go_wp2_with (go_at_call 296; refine EF.out.mono ?_; rintro e w' ⟨rfl,hI⟩; replace hI:=Lh hI)
 go_ret
 exact ⟨rfl,⟨(Off.of HW2.out).trans hI.out.off,hI.out.blk⟩⟩
theorem ftoa_neg {x E K:Nat} (h:Fw x E K) (d B N J Q K0 N10 M:Nat) (ei:Int) (hB0:B=9223372036854775808+(E+1022) * 4503599627370496+K) (hNx:N=Lib.nDigits x) (hJ:J=2048+E+1023) (hQ:Q=E+1023) (hK0:K0+4503599627370496=K) (hN10:N10=Lib.l10 (E+1)+1) (hM:M=K * 2048) (hei:ei=(E:Int) - 63)
  (w:World) (hp:Pows w) (ht:Tab w) (hB:Blk w d (List.replicate 24 (.int .u8 0)) 5):
  Calls Tryz.prog 277 #[.slice (some ⟨d,0,none⟩) 0 24,.float .f64 B,.int .u8 102,.int .i64 0] w
   fun e w'=>e=.returned (.slice (some ⟨d,0,none⟩) (N+1) 24)∧DsIs d (sgI x) (N+1) w w':=by
 have hE:=h.hE;have lo:=h.lo;have hi:=h.hi;have hx:=h.lt;have hx1:=h.pos;have hbits:∀ W:World,(callFunc 293 #[.float .f64 B]).run Tryz.prog W=.ok (.value (.int .u64 (B:Int))) W:=fun W=>bits_run _ W
 have f1:(B:Int) / 9223372036854775808=1:=by omega
 have f2:(B:Int) / 4503599627370496=(J:Int):=by omega
 have f3:IntKind.i64.wrap (J:Int)=(J:Int):=IntWalk.i64_in _ (by omega);have f4:bits .and .i64 (J:Int) 2047=(Q:Int):=by rw [andI11 _ (by omega) (by omega)]; omega
 have f5:bits .and .u64 (B:Int) 4503599627370495=(K0:Int):=by rw [andU52 _ (by omega) (by omega)]; omega
 have f6:bits .or .u64 (K0:Int) 4503599627370496=(K:Int):=by rw [orTop _ (by omega),hK0]
 have f7:((Q:Int)==2047)=false:=by simp; omega
 have f8:((Q:Int)==0)=false:=by simp; omega
 have f9:IntKind.i64.wrap ((Q:Int) + -1023)=(E:Int):=by rw [IntWalk.i64_in _ (by omega)]; omega
 have f9':IntKind.i64.wrap ((Q:Int) - 1023)=(E:Int):=by rw [IntWalk.i64_in _ (by omega)]; omega
 have f10:((K:Int)==0)=false:=by simp; omega
 have g1:(0:Int)≤(E:Int):=by omega
 have g2:IntKind.i64.wrap (1+(E:Int))=((E+1:Nat):Int):=by rw [IntWalk.i64_in _ (by omega)]; omega
 have L1:=Lh (fun W=>Tryz.internal_strconv_log10Pow2 (E+1) (by omega) W);have hl10:=l10_le (E:=E+1) (by omega);obtain ⟨D,hD⟩:∃ D:Nat,D=Lib.l10 (E+1):=⟨_,rfl⟩
 rw [←hD] at L1;have g3:IntKind.i64.wrap (1+(D:Int))=(N10:Int):=by rw [IntWalk.i64_in _ (by omega)]; omega
 have g3':IntKind.i64.wrap (N10:Int)=(N10:Int):=IntWalk.i64_in _ (by omega);have g4:(N10:Int)≤18:=by omega
 have g5:(0:Int)<(N10:Int):=by omega
 have L2:=Lh (fun W=>Tryz.bits_Len64 (K:Int) W (by omega) (by omega));have l2:Lib.bitLen K=53:=len53 K lo hi;have g6:IntKind.u64.wrap ((K:Int) * 2048)=(M:Int):=by rw [IntWalk.u64_in _ (by omega)]; omega
 have g7:IntKind.i64.wrap ((E:Int) - 11)=(E:Int) - 11:=IntWalk.i64_in _ (by omega);have g8:IntKind.i64.wrap ((E:Int) - 11 - 52)=ei:=by rw [IntWalk.i64_in _ (by omega)]; omega
 have FW:=Lh (fun W a0 a1=>fwf_any h M N10 ei hei hM hN10 W a0 a1);have ho:=hp.opt;have HP:=Lh hp;have HT:=Lh ht;have HB:=Lh hB;have HX:=Lh (And.intro hNx (And.intro hx hx1));have hxn:((x:Int)==0)=false:=by simp; omega
 clear hp ht hB hNx hB0 hJ hQ hK0 hN10 hM hei hE lo hi hx hx1 hl10 hD h
 go_enter Tryz.func277,Tryz.ntmps277
 go_wp2
 go_quiet (fail)
 go_wp2_with (first
  | (go_at_call 262; refine (L1.out _).mono ?_; rintro e w' ⟨rfl,rfl⟩)
  | (go_at_call 263; refine (L2.out _).mono ?_; rintro e w' ⟨rfl,rfl⟩)
  | (go_at_call 299; refine (FW.out _ (HP.out.next ((below_drewN (Below.refl _ _) _).alloc (by simp) _)) (HT.out.next ((below_drewN (Below.refl _ _) _).alloc (by simp) _))).mono ?_; rintro e w1 ⟨rfl,hb1⟩; refine Hid.out ?_))
 have hB1:Below w.heap.size w w1:=below_via ((below_drewN (Below.refl _ _) _).alloc (Nat.le_refl _) _) hb1 (Nat.le_refl _);have hBuf0:=(Blk.startAt (b:=w.heap.size) (by exact rfl)).next hb1;have hBuf:Blk w1 w.heap.size (List.replicate 24 (.int .u8 0)) 356:=hBuf0;clear hBuf0;have N1:=Lh (fun W=>Tryz.internal_strconv_numDigits x HX.out.2.2 (by have:=HX.out.2.1; omega) W);rw [←HX.out.1] at N1;have HQ:=Lh (And.intro hB1 hBuf);clear hb1 hB1 hBuf hbits ho f1 f2 f3 f4 f5 f6 f7 f8 f9 f9' f10 g1 g2 g3 g3' g4 g5 g6 g7 g8 l2;refine Lh ?_
 go_upto_region 74 with fail
 go_region_with (first
  | (go_at_call 240; refine (N1.out _ ?_).mono ?_; (exact (HT.out.next HQ.out.1).next bdq); rintro e w' ⟨rfl,rfl⟩)
  | (go_at_call 298; refine (digs_any w.heap.size x N HX.out.2.1 HX.out.1 w1.drew HQ.out.2.drew).mono ?_; rintro e w' ⟨z,rfl,hD⟩; replace hD:=Lh hD))
 rename World=>w2
 have hW2:Below w.heap.size w w2:=(HQ.out.1.trans bdq).trans hD.out.bel;have hBd:Blk w2 d (List.replicate 24 (.int .u8 0)) 5:=HB.out.next hW2;have hlt2:w.heap.size<w2.heap.size:=Nat.lt_of_lt_of_le HQ.out.2.drew.lt hD.out.bel.size;have hdn:d≠w.heap.size:=Nat.ne_of_lt HB.out.lt;have hN20:N≤20:=by rw [HX.out.1]; exact Lib.nDigits_le20 x (by have:=HX.out.2.1; omega)
 have EF:=Lh (efg_neg d w.heap.size x N z hdn w1.drew w2 HX.out.1 hN20 hD.out hlt2 hBd);have HW2:=Lh hW2;clear hW2 hBd hlt2 hdn hN20;go_wp2_with (go_at_call 296; refine EF.out.mono ?_; rintro e w' ⟨rfl,hI⟩; replace hI:=Lh hI)
 go_ret
 exact ⟨rfl,⟨(Off.of HW2.out).trans hI.out.off,hI.out.blk⟩⟩
end Go.Proofs.YtemicfjmidohfaaGreatDoor
set_option maxRecDepth 100000
set_option maxHeartbeats 12800000
namespace Go.Proofs.YtemicfjmidohfaaGreatDoor
open Go Go.Proofs Go.RowKit
theorem dg_text {d k:Nat} {T:Nat→Int} {L:List UInt8} {w wr:World} (h:DsIs d T k w wr) (hL:L.length=k) (hT:∀ j (hj:j<L.length),T j=((L[j]).toNat:Int)):∀ j (hj:j<L.length),wr.cell? ((⟨d,0,none⟩:Addr).add j)=some (.int .u8 ((L[j]).toNat:Int)):=by
 intro j hj
 obtain ⟨vs,hl,hB,hv⟩:=h.blk;have h1:=hB.cell j (hv j (by omega));rw [Lib.add_plain,Nat.zero_add,h1,hT j hj]
theorem dgI_at (x j:Nat) (hj:j<(Lib.decDigits x).length):dgI x j=(((Lib.decDigits x)[j]).toNat:Int):=by
 unfold dgI
 rw [List.getD_eq_getElem?_getD,List.getElem?_eq_getElem hj];rfl
theorem ftoa_any (n:Int) (h0:n≠0) (hn:Small n) (d:Nat) (w:World) (hp:Pows w) (ht:Tab w) (hB:Blk w d (List.replicate 24 (.int .u8 0)) 5):
  Calls Tryz.prog 277 #[.slice (some ⟨d,0,none⟩) 0 24,.float .f64 (fl n),.int .u8 102,.int .i64 0] w
   fun e w'=>e=.returned (.slice (some ⟨d,0,none⟩) (Lib.itoa n).length 24)∧Off d w w'∧∀ j (hj:j<(Lib.itoa n).length),w'.cell? ((⟨d,0,none⟩:Addr).add j)=some (.int .u8 (((Lib.itoa n)[j]).toNat:Int)):=by
 obtain ⟨E,K,hF,hb⟩:=fl_bits h0 hn;have lo:=hF.lo;rw [hb];by_cases hneg:n<0
 ·rw [if_pos hneg]
  have hi:Lib.itoa n=45::Lib.decDigits n.natAbs:=by unfold Lib.itoa; rw [if_pos hneg]
  have hlen:(Lib.itoa n).length=Lib.nDigits n.natAbs+1:=by rw [hi,List.length_cons,Lib.decDigits_length]
  refine (ftoa_neg hF d _ _ _ _ (K - 4503599627370496) _ _ _ rfl rfl rfl rfl (by omega) rfl rfl rfl w hp ht hB).mono ?_
  rintro e w' ⟨rfl,hI⟩
  refine ⟨by rw [hlen],hI.off,dg_text hI hlen ?_⟩;intro j hj
  simp only [hi]
  cases j with
  | zero=>rfl
  | succ j=>simp only [List.getElem_cons_succ]; exact dgI_at _ _ _
 ·rw [if_neg hneg]
  have e1:n.toNat=n.natAbs:=by omega
  have hi:Lib.itoa n=Lib.decDigits n.natAbs:=by unfold Lib.itoa; rw [if_neg hneg,e1]
  have hlen:(Lib.itoa n).length=Lib.nDigits n.natAbs:=by rw [hi,Lib.decDigits_length]
  refine (ftoa_pos hF d _ _ _ _ (K - 4503599627370496) _ _ _ rfl rfl rfl rfl (by omega) rfl rfl rfl w hp ht hB).mono ?_
  rintro e w' ⟨rfl,hI⟩
  refine ⟨by rw [hlen],hI.off,dg_text hI hlen ?_⟩;intro j hj
  simp only [hi]
  exact dgI_at _ _ _
theorem iff_any (n:Int) (h0:n≠0) (hn:Small n) (w:World) (hp:Pows w) (ht:Tab w):
  Calls Tryz.prog 255 #[.float .f64 (fl n),.int .u8 102,.int .i64 0,.int .i64 64] w (Rt (.string ⟨(Lib.itoa n).toArray⟩) w):=by
 have HP:=Lh hp;have HT:=Lh ht;have hmk:∀ W:World,(Instr.makeSlice 258 (.int .i64 0) (.int .i64 24)).run Tryz.prog W=.ok (.slice (some ⟨W.heap.size,0,none⟩) 0 24) (W.alloc (.cells ⟨List.replicate 24 (.int .u8 0)⟩ 5)):=fun _=>by kernel_rfl
 obtain ⟨F,hF⟩:∃ F:Nat,F=fl n:=⟨_,rfl⟩
 have FA:=Lh (fun d W a0 a1 a2=>ftoa_any n h0 hn d W a0 a1 a2);rw [←hF] at FA ⊢;have hB:=Blk.start w (List.replicate 24 (.int .u8 0)) 5;have hA:Below w.heap.size w (w.alloc (.cells ⟨List.replicate 24 (.int .u8 0)⟩ 5)):=bA;have HA:=Lh (And.intro hA hB);obtain ⟨L,hL⟩:∃ L:List UInt8,L=Lib.itoa n:=⟨_,rfl⟩
 rw [←hL] at FA ⊢;generalize hw1:w.alloc (.cells ⟨List.replicate 24 (.int .u8 0)⟩ 5)=wA at HA;have hmk1:(Instr.makeSlice 258 (.int .i64 0) (.int .i64 24)).run Tryz.prog w=.ok (.slice (some ⟨w.heap.size,0,none⟩) 0 24) wA:=by rw [hmk,hw1]
 clear hp ht hF hB hA hL hmk hw1 h0 hn;have hmx:(max 4 24:Int)=24:=by decide
 go_enter Tryz.func255,Tryz.ntmps255
 go_wp2_with fail;refine (FA.out _ _ (HP.out.next HA.out.1) (HT.out.next HA.out.1) HA.out.2).mono ?_;rintro e w1 ⟨rfl,ho,hr⟩
 have hB1:Below w.heap.size w w1:=ho.below w.heap.size w (Nat.le_refl _) HA.out.1.size HA.out.1;have hcv:(convert 258 9 (.slice (some ⟨w.heap.size,0,none⟩) L.length 24)).run Tryz.prog w1=.ok (.string ⟨L.toArray⟩) w1:=
  run_convert_bytes_back (P:=Tryz.prog) w1 258 9 5 ⟨w.heap.size,0,none⟩ 24 L Tryz.underlying258 Tryz.underlying5 Tryz.underlying9 hr
 have HB:=Lh hB1;clear hB1 ho hr
 go_wp2
 go_ret
 exact ⟨rfl,HB.out⟩
theorem ff_any (n:Int) (h0:n≠0) (hn:Small n) (w:World) (hp:Pows w) (ht:Tab w):
  Calls Tryz.prog 230 #[.float .f64 (fl n),.int .u8 102,.int .i64 0,.int .i64 64] w (Rt (.string ⟨(Lib.itoa n).toArray⟩) w):=by
 go_enter Tryz.func230,Tryz.ntmps230
 go_wp2_with (go_at_call 255; refine (iff_any n h0 hn _ hp ht).mono ?_; rintro e w1 ⟨rfl,hb1⟩)
 go_ret
 exact ⟨rfl,hb1⟩
theorem tdig_any (n:Int) (hn:Small n) (w:World) (hp:Pows w) (ht:Tab w):
  Calls Tryz.prog 193 #[.float .f64 (fl n)] w (Rt (.string ⟨(Lib.itoa n).toArray⟩) w):=by
 have hz:fl 0=0:=by decide +kernel
 have hq:=fl_eqB hn (show Small 0 by unfold Small; decide);rw [hz] at hq;by_cases h0:n=0
 ·subst h0
  rw [hz] at hq ⊢;have h9:(FloatKind.f64.format.order 0 0==some Ordering.eq)=true:=by decide +kernel
  have h8:Lib.itoa 0=[48]:=by decide +kernel
  rw [h8];clear hq
  go_enter Tryz.func193,Tryz.ntmps193
  go_wp2
  go_ret
  exact ⟨rfl,Below.refl _ _⟩
 ·have h9:(FloatKind.f64.format.order (fl n) 0==some Ordering.eq)=false:=by
   have:(Ieee.double.order (fl n) 0==some Ordering.eq)=false:=by rw [hq]; simpa using h0
   exact this
  clear hq;obtain ⟨F,hF⟩:∃ F:Nat,F=fl n:=⟨_,rfl⟩
  have FA:=Lh (fun W a0 a1=>ff_any n h0 hn W a0 a1);rw [←hF] at FA h9 ⊢;have HP:=Lh (And.intro hp ht);clear hp ht hF
  go_enter Tryz.func193,Tryz.ntmps193
  go_wp2_with (go_at_call 230; refine (FA.out _ HP.out.1 HP.out.2).mono ?_; rintro e w1 ⟨rfl,hb1⟩)
  go_ret
  exact ⟨rfl,hb1⟩
end Go.Proofs.YtemicfjmidohfaaGreatDoor
