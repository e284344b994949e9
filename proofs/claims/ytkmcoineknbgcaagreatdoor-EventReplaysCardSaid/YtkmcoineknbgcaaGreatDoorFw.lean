import Derived.Test.YtkmcoineknbgcaaGreatDoorFy
set_option maxHeartbeats 12800000
namespace Go.Proofs.YtkmcoineknbgcaaGreatDoor
open Go Go.Proofs Go.RowKit
theorem ten_at {w:World} (ht:Tab w) (N:Nat) (hN:N<20) (P:Nat) (hP:P=10 ^ N) (o:Obj) (k:Nat):((w.alloc o).drewN k).cell? ⟨1,N,none⟩=some (.int .u64 (P:Int)):=by
 have hl:=ht.lt;have hT:=Lib.TabIs.cell ht gTab N (by rw [Lib.pow10Tab_length]; exact hN);rw [Lib.pow10Tab_at N hN] at hT;rw [hP];exact ((below_drewN ((Below.refl w.heap.size w).alloc (Nat.le_refl _) o) k).cell (p:=⟨_,N,none⟩) hl).trans hT
theorem fwf_at0 {x E K:Nat} (h:Fw x E K) (D N M U V P:Nat) (ei:Int) (hei:ei=(E:Int) - 63) (hD:D=Lib.l10 E) (hND:N=D+1) (hM:M=K * 2048) (hU:U=4 * x) (hV:V=4 * P - 2) (hP:P=10 ^ N) (hUV:U<V) (hN:N≤17)
  (w:World) (hp:Pows w) (ht:Tab w):
  Calls Tryz.prog 145 #[.int .u64 (M:Int),.int .i64 ei,.int .i64 (N:Int),.int .i64 0,.int .u8 102] w fun e w'=>e=.returned (.tuple #[.int .u64 (x:Int),.int .i64 0])∧Below w.heap.size w w':=by
 have hE:=h.hE;have hx:=h.lt;have hK:=h.hi;have L1:=Lh (fun W=>Tryz.internal_strconv_log10Pow2 E (by omega) W);rw [←hD] at L1;have hPl:1≤P∧P≤100000000000000000:=by
  rw [hP]; exact ⟨Nat.one_le_pow _ _ (by decide),by have:=Nat.pow_le_pow_right (n:=10) (by decide) hN; omega⟩
 have UM:=Lh (fun W=>unmin_any P hPl.1 (by omega) W);rw [←hV] at UM;have RD:=Lh (fun W=>round_any x hx W);rw [←hU] at RD;have US:=Lh (fun (b:Nat) (W:World) a0 a1 a2=>uscale_any b 9223372036854775808 (60-E) M U (K * 1024) W a0 a1 a2 (by omega) (by omega) (by decide) (by omega) (by rw [hU]; exact h.four) (by rw [hM]; omega));have ct:=ten_at ht N (by omega) P hP;have HP:=Lh hp;have HT:=Lh ht;have q1:IntKind.i64.wrap (ei+63)=(E:Int):=by rw [hei]; rw [IntWalk.i64_in _ (by omega)]; omega
 have q2:IntKind.i64.wrap ((N:Int) - 1)=(D:Int):=by rw [hND]; rw [IntWalk.i64_in _ (by omega)]; omega
 have q3:IntKind.i64.wrap ((D:Int)-(D:Int))=0:=by simp; decide
 have q4:¬ ((V:Int)≤(U:Int)):=by omega
 have q5:(N:Int)<20:=by omega
 have q6 : -100≤ei∧ei≤100:=by omega
 have q7:((60-E:Nat):Int) = -(ei+3):=by omega
 have hxs:=Lh (And.intro hx hK);clear hp ht hei hD hND hM hU hV hP hUV hN hPl hE hx hK h
 go_enter Tryz.func145,Tryz.ntmps145
 go_wp2_with (first
  | (go_at_call 133; refine (L1.out _).mono ?_; rintro e w' ⟨rfl,rfl⟩)
  | (go_at_call 159; refine (log2_0 _).mono ?_; rintro e w' ⟨rfl,rfl⟩)
  | (go_at_call 158; refine (prescale_at0 _ q6.1 q6.2 _ HP.out).mono ?_; rintro e w' ⟨rfl,rfl⟩)
  | (go_at_call 160; refine (US.out _ _ (by simp [go_sem]) (by simp [go_sem]) (by simp [go_sem]; omega)).mono ?_; rintro e w' ⟨rfl,k,rfl⟩)
  | (go_at_call 165; refine (UM.out _).mono ?_; rintro e w' ⟨rfl,rfl⟩))
 refine wp_loop_rounds 1 ?_;rw [rounds_succ];go_wp2_with (go_at_call 164; refine (RD.out _).mono ?_; rintro e w' ⟨rfl,rfl⟩)
 go_ret2
 exact ⟨rfl,below_drewN (bA) _⟩
theorem fwf_at1a {x E K:Nat} (h:Fw x E K) (D N M U Y V P:Nat) (ei:Int) (hei:ei=(E:Int) - 63) (hD:D=Lib.l10 E) (hND:N=D+2) (hM:M=K * 2048) (hU:U=40 * x) (hY:Y=4 * x) (hV:V=4 * P - 2) (hP:P=10 ^ N) (hUV:V≤U) (hN:N≤17)
  (w:World) (hp:Pows w) (ht:Tab w):
  Calls Tryz.prog 145 #[.int .u64 (M:Int),.int .i64 ei,.int .i64 (N:Int),.int .i64 0,.int .u8 102] w fun e w'=>e=.returned (.tuple #[.int .u64 (x:Int),.int .i64 0])∧Below w.heap.size w w':=by
 have hE:=h.hE;have hx:=h.lt;have hK:=h.hi;have L1:=Lh (fun W=>Tryz.internal_strconv_log10Pow2 E (by omega) W);rw [←hD] at L1;have hPl:1≤P∧P≤100000000000000000:=by
  rw [hP]; exact ⟨Nat.one_le_pow _ _ (by decide),by have:=Nat.pow_le_pow_right (n:=10) (by decide) hN; omega⟩
 have UM:=Lh (fun W=>unmin_any P hPl.1 (by omega) W);rw [←hV] at UM;have RD:=Lh (fun W=>round_any x hx W);rw [←hY] at RD;have DV:=Lh (fun W=>div_any x hx W);rw [←hU,←hY] at DV;have US:=Lh (fun (b:Nat) (W:World) a0 a1 a2=>uscale_any b 11529215046068469760 (57-E) M U (K * 1280) W a0 a1 a2 (by omega) (by omega) (by decide) (by omega) (by rw [hU]; exact h.forty) (by rw [hM]; omega));have ct:=ten_at ht N (by omega) P hP;have HP:=Lh hp;have HT:=Lh ht;have q1:IntKind.i64.wrap (ei+63)=(E:Int):=by rw [hei]; rw [IntWalk.i64_in _ (by omega)]; omega
 have q2:IntKind.i64.wrap ((N:Int) - 1)=((D+1:Nat):Int):=by rw [hND]; rw [IntWalk.i64_in _ (by omega)]; omega
 have q3:IntKind.i64.wrap (((D+1:Nat):Int)-(D:Int))=1:=by rw [IntWalk.i64_in _ (by omega)]; omega
 have q4:(V:Int)≤(U:Int):=by omega
 have q5:(N:Int)<20:=by omega
 have q6 : -100≤ei∧ei≤100:=by omega
 have q7:((57-E:Nat):Int) = -(ei+3+3):=by omega
 obtain ⟨D1,hD1⟩:∃ n:Nat,n=D+1:=⟨_,rfl⟩
 rw [←hD1] at q2 q3;have hxs:=Lh (And.intro hx hK);clear hp ht hei hD hND hM hU hY hV hP hUV hN hPl hE hx hK h hD1
 go_enter Tryz.func145,Tryz.ntmps145
 go_wp2_with (first
  | (go_at_call 133; refine (L1.out _).mono ?_; rintro e w' ⟨rfl,rfl⟩)
  | (go_at_call 159; refine (log2_1 _).mono ?_; rintro e w' ⟨rfl,rfl⟩)
  | (go_at_call 158; refine (prescale_at1 _ q6.1 q6.2 _ HP.out).mono ?_; rintro e w' ⟨rfl,rfl⟩)
  | (go_at_call 160; refine (US.out _ _ (by simp [go_sem]) (by simp [go_sem]) (by simp [go_sem]; omega)).mono ?_; rintro e w' ⟨rfl,k,rfl⟩)
  | (go_at_call 165; refine (UM.out _).mono ?_; rintro e w' ⟨rfl,rfl⟩)
  | (go_at_call 166; refine (DV.out _).mono ?_; rintro e w' ⟨rfl,k2,rfl⟩))
 refine wp_loop_rounds 1 ?_;rw [rounds_succ];go_wp2_with (go_at_call 164; refine (RD.out _).mono ?_; rintro e w' ⟨rfl,rfl⟩)
 go_ret2
 exact ⟨rfl,below_drewN (bA) _⟩
theorem fwf_at1b {x E K:Nat} (h:Fw x E K) (D N M U Y V P:Nat) (ei:Int) (hei:ei=(E:Int) - 63) (hD:D=Lib.l10 E) (hND:N=D+2) (hM:M=K * 2048) (hU:U=40 * x) (hY:Y=4 * x) (hV:V=4 * P - 2) (hP:P=10 ^ N) (hUV:U<V) (hN:N≤17)
  (w:World) (hp:Pows w) (ht:Tab w):
  Calls Tryz.prog 145 #[.int .u64 (M:Int),.int .i64 ei,.int .i64 (N:Int),.int .i64 0,.int .u8 102] w fun e w'=>e=.returned (.tuple #[.int .u64 (x:Int),.int .i64 0])∧Below w.heap.size w w':=by
 have hE:=h.hE;have hx:=h.lt;have hK:=h.hi;have L1:=Lh (fun W=>Tryz.internal_strconv_log10Pow2 E (by omega) W);rw [←hD] at L1;have hPl:1≤P∧P≤100000000000000000:=by
  rw [hP]; exact ⟨Nat.one_le_pow _ _ (by decide),by have:=Nat.pow_le_pow_right (n:=10) (by decide) hN; omega⟩
 have UM:=Lh (fun W=>unmin_any P hPl.1 (by omega) W);rw [←hV] at UM;have RD:=Lh (fun W=>round_any x hx W);rw [←hY] at RD;have DV:=Lh (fun W=>div_any x hx W);rw [←hU,←hY] at DV;have US:=Lh (fun (b:Nat) (W:World) a0 a1 a2=>uscale_any b 11529215046068469760 (57-E) M U (K * 1280) W a0 a1 a2 (by omega) (by omega) (by decide) (by omega) (by rw [hU]; exact h.forty) (by rw [hM]; omega));have ct:=ten_at ht N (by omega) P hP;have HP:=Lh hp;have HT:=Lh ht;have q1:IntKind.i64.wrap (ei+63)=(E:Int):=by rw [hei]; rw [IntWalk.i64_in _ (by omega)]; omega
 have q2:IntKind.i64.wrap ((N:Int) - 1)=((D+1:Nat):Int):=by rw [hND]; rw [IntWalk.i64_in _ (by omega)]; omega
 have q3:IntKind.i64.wrap (((D+1:Nat):Int)-(D:Int))=1:=by rw [IntWalk.i64_in _ (by omega)]; omega
 have q4:¬ ((V:Int)≤(U:Int)):=by omega
 have q5:(N:Int)<20:=by omega
 have q6 : -100≤ei∧ei≤100:=by omega
 have q7:((57-E:Nat):Int) = -(ei+3+3):=by omega
 obtain ⟨D1,hD1⟩:∃ n:Nat,n=D+1:=⟨_,rfl⟩
 rw [←hD1] at q2 q3;have hxs:=Lh (And.intro hx hK);clear hp ht hei hD hND hM hU hY hV hP hUV hN hPl hE hx hK h hD1
 go_enter Tryz.func145,Tryz.ntmps145
 go_wp2_with (first
  | (go_at_call 133; refine (L1.out _).mono ?_; rintro e w' ⟨rfl,rfl⟩)
  | (go_at_call 159; refine (log2_1 _).mono ?_; rintro e w' ⟨rfl,rfl⟩)
  | (go_at_call 158; refine (prescale_at1 _ q6.1 q6.2 _ HP.out).mono ?_; rintro e w' ⟨rfl,rfl⟩)
  | (go_at_call 160; refine (US.out _ _ (by simp [go_sem]) (by simp [go_sem]) (by simp [go_sem]; omega)).mono ?_; rintro e w' ⟨rfl,k,rfl⟩)
  | (go_at_call 165; refine (UM.out _).mono ?_; rintro e w' ⟨rfl,rfl⟩))
 refine wp_loop_rounds 2 ?_;rw [rounds_succ];go_wp2_with (go_at_call 166; refine (DV.out _).mono ?_; rintro e w' ⟨rfl,k2,rfl⟩)
 rw [rounds_succ];go_wp2_with (go_at_call 164; refine (RD.out _).mono ?_; rintro e w' ⟨rfl,rfl⟩)
 go_ret2
 exact ⟨rfl,below_drewN (bA) _⟩
theorem fwf_any {x E K:Nat} (h:Fw x E K) (M N:Nat) (ei:Int) (hei:ei=(E:Int) - 63) (hM:M=K * 2048) (hN:N=Lib.l10 (E+1)+1) (w:World) (hp:Pows w) (ht:Tab w):
  Calls Tryz.prog 145 #[.int .u64 (M:Int),.int .i64 ei,.int .i64 (N:Int),.int .i64 0,.int .u8 102] w fun e w'=>e=.returned (.tuple #[.int .u64 (x:Int),.int .i64 0])∧Below w.heap.size w w':=by
 have h10:=h.ten;rw [←hN] at h10;have hx:=h.pos;have hl:=l10_le (E:=E+1) (by have:=h.hE; omega);rcases l10_step E with e | e
 ·exact fwf_at0 h _ N M _ _ _ ei hei rfl (by omega) hM rfl rfl rfl (by omega) (by omega) w hp ht
 ·by_cases hb:10 ^ N≤10 * x
  ·exact fwf_at1a h _ N M _ _ _ _ ei hei rfl (by omega) hM rfl rfl rfl rfl (by omega) (by omega) w hp ht
  ·exact fwf_at1b h _ N M _ _ _ _ ei hei rfl (by omega) hM rfl rfl rfl rfl (by omega) (by omega) w hp ht
end Go.Proofs.YtkmcoineknbgcaaGreatDoor
