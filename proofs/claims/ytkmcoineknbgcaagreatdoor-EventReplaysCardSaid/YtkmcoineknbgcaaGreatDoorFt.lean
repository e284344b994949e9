import Derived.Test.YtkmcoineknbgcaaGreatDoorFe
import Derived.RegionTactic
import Derived.ChangeAlike
set_option maxRecDepth 100000
set_option maxHeartbeats 12800000
namespace Go.Proofs.YtkmcoineknbgcaaGreatDoor
open Go Go.Proofs Go.RowKit
theorem below_via {B:Nat} {w wA w1:World} (hA:Below B w wA) (hb:Below wA.heap.size wA w1) (hB:B≤w.heap.size):Below B w w1:=hA.trans (hb.mono (Nat.le_trans hB hA.size))
theorem orTop (m:Nat) (h:m<4503599627370496):bits .or .u64 (m:Int) 4503599627370496=((m+4503599627370496:Nat):Int):=by
 have h1:=(bits_nat .u64 62 (by decide) wrapsU m 4503599627370496 (by omega) (by decide)).2;have h2:=(bits_nat .u64 62 (by decide) wrapsU 4503599627370496 m (by decide) (by omega)).2;have h3:=bits_join .u64 62 (by decide) wrapsU 52 4503599627370496 (m:Int) (by decide) (by decide) (by decide) (by omega) (by omega) (by omega);rw [Nat.or_comm] at h1;have e:((4503599627370496:Nat):Int)=4503599627370496:=rfl;rw [e] at h1 h2;rw [h1,←h2,h3];omega
theorem wrapsU64 (n:Int) (h₀:0≤n) (h₁:n<2 ^ 64):IntKind.u64.wrap n=n:=IntWalk.u64_in _ (by omega)
theorem andU52 (x:Int) (h₀:0≤x) (h₁:x<18446744073709551616):bits .and .u64 x 4503599627370495=x % 4503599627370496:=bits_mask .u64 64 (by decide) wrapsU64 52 (by decide) x h₀ h₁
theorem andI11 (x:Int) (h₀:0≤x) (h₁:x<4611686018427387904):bits .and .i64 x 2047=x % 2048:=bits_mask .i64 62 (by decide) wrapsI 11 (by decide) x h₀ h₁
theorem len53 (K:Nat) (lo:4503599627370496≤K) (hi:K<9007199254740992):Lib.bitLen K=53:=by
 unfold Lib.bitLen
 obtain ⟨h1,h2,h3⟩:=Lib.bitLenAux_bounds 64 K (by omega) (by omega);have h4:Lib.bitLenAux 64 K<54:=by
  have:2 ^ (Lib.bitLenAux 64 K - 1)<2 ^ 53:=by omega
  have:=(Nat.pow_lt_pow_iff_right (a:=2) (by decide)).1 this;omega
 have h5:52<Lib.bitLenAux 64 K:=by
  have:2 ^ 52<2 ^ Lib.bitLenAux 64 K:=by omega
  exact (Nat.pow_lt_pow_iff_right (a:=2) (by decide)).1 this
 omega
theorem bits_run (b:Nat) (W:World):(callFunc 139 #[.float .f64 b]).run Tryz.prog W=.ok (.value (.int .u64 b)) W:=by
 rw [run_callFunc_extern Tryz.func139 (by kernel_rfl) (by kernel_rfl) (by kernel_rfl) (e:=Extern.MathFloatBits.float64bits) (by kernel_rfl)];rfl
theorem ftoa_pos {x E K:Nat} (h:Fw x E K) (d B N J Q K0 N10 M:Nat) (ei:Int) (hB0:B=0+(E+1022) * 4503599627370496+K) (hNx:N=Lib.nDigits x) (hJ:J=E+1023) (hQ:Q=E+1023) (hK0:K0+4503599627370496=K) (hN10:N10=Lib.l10 (E+1)+1) (hM:M=K * 2048) (hei:ei=(E:Int) - 63)
  (w:World) (hp:Pows w) (ht:Tab w) (hB:Blk w d (List.replicate 24 (.int .u8 0)) 5):
  Calls Tryz.prog 128 #[.slice (some ⟨d,0,none⟩) 0 24,.float .f64 B,.int .u8 102,.int .i64 0] w
   fun e w'=>e=.returned (.slice (some ⟨d,0,none⟩) N 24)∧DsIs d (dgI x) N w w':=by
 have hE:=h.hE;have lo:=h.lo;have hi:=h.hi;have hx:=h.lt;have hx1:=h.pos;have hbits:∀ W:World,(callFunc 139 #[.float .f64 B]).run Tryz.prog W=.ok (.value (.int .u64 (B:Int))) W:=fun W=>bits_run _ W
 have f1:(B:Int) / 9223372036854775808=0:=by omega
 have f2:(B:Int) / 4503599627370496=(J:Int):=by omega
 have f3:IntKind.i64.wrap (J:Int)=(J:Int):=IntWalk.i64_in _ (by omega);have f4:bits .and .i64 (J:Int) 2047=(Q:Int):=by rw [andI11 _ (by omega) (by omega)]; omega
 have f5:bits .and .u64 (B:Int) 4503599627370495=(K0:Int):=by rw [andU52 _ (by omega) (by omega)]; omega
 have f6:bits .or .u64 (K0:Int) 4503599627370496=(K:Int):=by rw [orTop _ (by omega),hK0]
 have f7:((Q:Int)==2047)=false:=by simp; omega
 have f8:((Q:Int)==0)=false:=by simp; omega
 have f9:IntKind.i64.wrap ((Q:Int) + -1023)=(E:Int):=by rw [IntWalk.i64_in _ (by omega)]; omega
 have f9':IntKind.i64.wrap ((Q:Int) - 1023)=(E:Int):=by rw [IntWalk.i64_in _ (by omega)]; omega
 have f10:((K:Int)==0)=false:=by simp; omega
 have g1:(0:Int)≤(E:Int):=by omega
 have g2:IntKind.i64.wrap (1+(E:Int))=((E+1:Nat):Int):=by rw [IntWalk.i64_in _ (by omega)]; omega
 have L1:=Lh (fun W=>Tryz.internal_strconv_log10Pow2 (E+1) (by omega) W);have hl10:=l10_le (E:=E+1) (by omega);obtain ⟨D,hD⟩:∃ D:Nat,D=Lib.l10 (E+1):=⟨_,rfl⟩
 rw [←hD] at L1;have g3:IntKind.i64.wrap (1+(D:Int))=(N10:Int):=by rw [IntWalk.i64_in _ (by omega)]; omega
 have g3':IntKind.i64.wrap (N10:Int)=(N10:Int):=IntWalk.i64_in _ (by omega);have g4:(N10:Int)≤18:=by omega
 have g5:(0:Int)<(N10:Int):=by omega
 have L2:=Lh (fun W=>Tryz.bits_Len64 (K:Int) W (by omega) (by omega));have l2:Lib.bitLen K=53:=len53 K lo hi;have g6:IntKind.u64.wrap ((K:Int) * 2048)=(M:Int):=by rw [IntWalk.u64_in _ (by omega)]; omega
 have g7:IntKind.i64.wrap ((E:Int) - 11)=(E:Int) - 11:=IntWalk.i64_in _ (by omega);have g8:IntKind.i64.wrap ((E:Int) - 11 - 52)=ei:=by rw [IntWalk.i64_in _ (by omega)]; omega
 have FW:=Lh (fun W a0 a1=>fwf_any h M N10 ei hei hM hN10 W a0 a1);have ho:=hp.opt;have HP:=Lh hp;have HT:=Lh ht;have HB:=Lh hB;have HX:=Lh (And.intro hNx (And.intro hx hx1));have hxn:((x:Int)==0)=false:=by simp; omega
 clear hp ht hB hNx hB0 hJ hQ hK0 hN10 hM hei hE lo hi hx hx1 hl10 hD h
 go_enter Tryz.func128,Tryz.ntmps128
 go_wp2
 go_quiet (fail)
 go_wp2_with (first
  | (go_at_call 133; refine (L1.out _).mono ?_; rintro e w' ⟨rfl,rfl⟩)
  | (go_at_call 134; refine (L2.out _).mono ?_; rintro e w' ⟨rfl,rfl⟩)
  | (go_at_call 145; refine (FW.out _ (HP.out.next ((below_drewN (Below.refl _ _) _).alloc (by simp) _)) (HT.out.next ((below_drewN (Below.refl _ _) _).alloc (by simp) _))).mono ?_; rintro e w1 ⟨rfl,hb1⟩; refine Hid.out ?_))
 have hB1:Below w.heap.size w w1:=below_via ((below_drewN (Below.refl _ _) _).alloc (Nat.le_refl _) _) hb1 (Nat.le_refl _);have hBuf0:=(Blk.startAt (b:=w.heap.size) (by exact rfl)).next hb1;have hBuf:Blk w1 w.heap.size (List.replicate 24 (.int .u8 0)) 180:=hBuf0;clear hBuf0;have N1:=Lh (fun W=>Tryz.internal_strconv_numDigits x HX.out.2.2 (by have:=HX.out.2.1; omega) W);rw [←HX.out.1] at N1;have HQ:=Lh (And.intro hB1 hBuf);clear hb1 hB1 hBuf hbits ho f1 f2 f3 f4 f5 f6 f7 f8 f9 f9' f10 g1 g2 g3 g3' g4 g5 g6 g7 g8 l2;refine Lh ?_
 go_upto_region 74 with fail
 go_region_with (first
  | (go_at_call 124; refine (N1.out _ ?_).mono ?_; (exact (HT.out.next HQ.out.1).next bD); rintro e w' ⟨rfl,rfl⟩)
  | (go_at_call 144; refine (digs_any w.heap.size x N HX.out.2.1 HX.out.1 w1.drew HQ.out.2.drew).mono ?_; rintro e w' ⟨z,rfl,hD⟩; replace hD:=Lh hD))
 rename World=>w2
 have hW2:Below w.heap.size w w2:=(HQ.out.1.trans bD).trans hD.out.bel;have hBd:Blk w2 d (List.replicate 24 (.int .u8 0)) 5:=HB.out.next hW2;have hlt2:w.heap.size<w2.heap.size:=Nat.lt_of_lt_of_le HQ.out.2.drew.lt hD.out.bel.size;have hdn:d≠w.heap.size:=Nat.ne_of_lt HB.out.lt;have hN20:N≤20:=by rw [HX.out.1]; exact Lib.nDigits_le20 x (by have:=HX.out.2.1; omega)
 have EF:=Lh (efg_pos d w.heap.size x N z hdn w1.drew w2 HX.out.1 hN20 hD.out hlt2 hBd);have HW2:=Lh hW2;clear hW2 hBd hlt2 hdn hN20;go_wp2_with (go_at_call 142; refine EF.out.mono ?_; rintro e w' ⟨rfl,hI⟩; replace hI:=Lh hI)
 go_ret
 exact ⟨rfl,⟨(Off.of HW2.out).trans hI.out.off,hI.out.blk⟩⟩
theorem ftoa_neg {x E K:Nat} (h:Fw x E K) (d B N J Q K0 N10 M:Nat) (ei:Int) (hB0:B=9223372036854775808+(E+1022) * 4503599627370496+K) (hNx:N=Lib.nDigits x) (hJ:J=2048+E+1023) (hQ:Q=E+1023) (hK0:K0+4503599627370496=K) (hN10:N10=Lib.l10 (E+1)+1) (hM:M=K * 2048) (hei:ei=(E:Int) - 63)
  (w:World) (hp:Pows w) (ht:Tab w) (hB:Blk w d (List.replicate 24 (.int .u8 0)) 5):
  Calls Tryz.prog 128 #[.slice (some ⟨d,0,none⟩) 0 24,.float .f64 B,.int .u8 102,.int .i64 0] w
   fun e w'=>e=.returned (.slice (some ⟨d,0,none⟩) (N+1) 24)∧DsIs d (sgI x) (N+1) w w':=by
 have hE:=h.hE;have lo:=h.lo;have hi:=h.hi;have hx:=h.lt;have hx1:=h.pos;have hbits:∀ W:World,(callFunc 139 #[.float .f64 B]).run Tryz.prog W=.ok (.value (.int .u64 (B:Int))) W:=fun W=>bits_run _ W
 have f1:(B:Int) / 9223372036854775808=1:=by omega
 have f2:(B:Int) / 4503599627370496=(J:Int):=by omega
 have f3:IntKind.i64.wrap (J:Int)=(J:Int):=IntWalk.i64_in _ (by omega);have f4:bits .and .i64 (J:Int) 2047=(Q:Int):=by rw [andI11 _ (by omega) (by omega)]; omega
 have f5:bits .and .u64 (B:Int) 4503599627370495=(K0:Int):=by rw [andU52 _ (by omega) (by omega)]; omega
 have f6:bits .or .u64 (K0:Int) 4503599627370496=(K:Int):=by rw [orTop _ (by omega),hK0]
 have f7:((Q:Int)==2047)=false:=by simp; omega
 have f8:((Q:Int)==0)=false:=by simp; omega
 have f9:IntKind.i64.wrap ((Q:Int) + -1023)=(E:Int):=by rw [IntWalk.i64_in _ (by omega)]; omega
 have f9':IntKind.i64.wrap ((Q:Int) - 1023)=(E:Int):=by rw [IntWalk.i64_in _ (by omega)]; omega
 have f10:((K:Int)==0)=false:=by simp; omega
 have g1:(0:Int)≤(E:Int):=by omega
 have g2:IntKind.i64.wrap (1+(E:Int))=((E+1:Nat):Int):=by rw [IntWalk.i64_in _ (by omega)]; omega
 have L1:=Lh (fun W=>Tryz.internal_strconv_log10Pow2 (E+1) (by omega) W);have hl10:=l10_le (E:=E+1) (by omega);obtain ⟨D,hD⟩:∃ D:Nat,D=Lib.l10 (E+1):=⟨_,rfl⟩
 rw [←hD] at L1;have g3:IntKind.i64.wrap (1+(D:Int))=(N10:Int):=by rw [IntWalk.i64_in _ (by omega)]; omega
 have g3':IntKind.i64.wrap (N10:Int)=(N10:Int):=IntWalk.i64_in _ (by omega);have g4:(N10:Int)≤18:=by omega
 have g5:(0:Int)<(N10:Int):=by omega
 have L2:=Lh (fun W=>Tryz.bits_Len64 (K:Int) W (by omega) (by omega));have l2:Lib.bitLen K=53:=len53 K lo hi;have g6:IntKind.u64.wrap ((K:Int) * 2048)=(M:Int):=by rw [IntWalk.u64_in _ (by omega)]; omega
 have g7:IntKind.i64.wrap ((E:Int) - 11)=(E:Int) - 11:=IntWalk.i64_in _ (by omega);have g8:IntKind.i64.wrap ((E:Int) - 11 - 52)=ei:=by rw [IntWalk.i64_in _ (by omega)]; omega
 have FW:=Lh (fun W a0 a1=>fwf_any h M N10 ei hei hM hN10 W a0 a1);have ho:=hp.opt;have HP:=Lh hp;have HT:=Lh ht;have HB:=Lh hB;have HX:=Lh (And.intro hNx (And.intro hx hx1));have hxn:((x:Int)==0)=false:=by simp; omega
 clear hp ht hB hNx hB0 hJ hQ hK0 hN10 hM hei hE lo hi hx hx1 hl10 hD h
 go_enter Tryz.func128,Tryz.ntmps128
 go_wp2
 go_quiet (fail)
 go_wp2_with (first
  | (go_at_call 133; refine (L1.out _).mono ?_; rintro e w' ⟨rfl,rfl⟩)
  | (go_at_call 134; refine (L2.out _).mono ?_; rintro e w' ⟨rfl,rfl⟩)
  | (go_at_call 145; refine (FW.out _ (HP.out.next ((below_drewN (Below.refl _ _) _).alloc (by simp) _)) (HT.out.next ((below_drewN (Below.refl _ _) _).alloc (by simp) _))).mono ?_; rintro e w1 ⟨rfl,hb1⟩; refine Hid.out ?_))
 have hB1:Below w.heap.size w w1:=below_via ((below_drewN (Below.refl _ _) _).alloc (Nat.le_refl _) _) hb1 (Nat.le_refl _);have hBuf0:=(Blk.startAt (b:=w.heap.size) (by exact rfl)).next hb1;have hBuf:Blk w1 w.heap.size (List.replicate 24 (.int .u8 0)) 180:=hBuf0;clear hBuf0;have N1:=Lh (fun W=>Tryz.internal_strconv_numDigits x HX.out.2.2 (by have:=HX.out.2.1; omega) W);rw [←HX.out.1] at N1;have HQ:=Lh (And.intro hB1 hBuf);clear hb1 hB1 hBuf hbits ho f1 f2 f3 f4 f5 f6 f7 f8 f9 f9' f10 g1 g2 g3 g3' g4 g5 g6 g7 g8 l2;refine Lh ?_
 go_upto_region 74 with fail
 go_region_with (first
  | (go_at_call 124; refine (N1.out _ ?_).mono ?_; (exact (HT.out.next HQ.out.1).next bD); rintro e w' ⟨rfl,rfl⟩)
  | (go_at_call 144; refine (digs_any w.heap.size x N HX.out.2.1 HX.out.1 w1.drew HQ.out.2.drew).mono ?_; rintro e w' ⟨z,rfl,hD⟩; replace hD:=Lh hD))
 rename World=>w2
 have hW2:Below w.heap.size w w2:=(HQ.out.1.trans bD).trans hD.out.bel;have hBd:Blk w2 d (List.replicate 24 (.int .u8 0)) 5:=HB.out.next hW2;have hlt2:w.heap.size<w2.heap.size:=Nat.lt_of_lt_of_le HQ.out.2.drew.lt hD.out.bel.size;have hdn:d≠w.heap.size:=Nat.ne_of_lt HB.out.lt;have hN20:N≤20:=by rw [HX.out.1]; exact Lib.nDigits_le20 x (by have:=HX.out.2.1; omega)
 have EF:=Lh (efg_neg d w.heap.size x N z hdn w1.drew w2 HX.out.1 hN20 hD.out hlt2 hBd);have HW2:=Lh hW2;clear hW2 hBd hlt2 hdn hN20;go_wp2_with (go_at_call 142; refine EF.out.mono ?_; rintro e w' ⟨rfl,hI⟩; replace hI:=Lh hI)
 go_ret
 exact ⟨rfl,⟨(Off.of HW2.out).trans hI.out.off,hI.out.blk⟩⟩
end Go.Proofs.YtkmcoineknbgcaaGreatDoor
