import Derived.Test.YtpbhaieclkoggaaGreatDoorTb
set_option maxRecDepth 100000
set_option maxHeartbeats 12800000
namespace Go.Proofs.YtpbhaieclkoggaaGreatDoor
open Go Go.Proofs Go.RowKit
structure Pt2 (w:World) (N A B C D c s:Int) (W:World):Prop where
 bel:Below w.heap.size w W
 b1:Blk W w.heap.size [N,A,B,C,D] 114
 b2:Blk W (w.heap.size+1) [c,s] 68
 b3:Blk W (w.heap.size+1+1) [.int .i64 0,.int .i64 0,.int .i64 0,.int .i64 0,.int .i64 0] 114
theorem Pt2.next {w:World} {N A B C D c s:Int} {W W':World} (h:Pt2 w N A B C D c s W) (hb:Below W.heap.size W W'):Pt2 w N A B C D c s W':=⟨h.bel.trans (hb.mono h.bel.size),h.b1.next hb,h.b2.next hb,h.b3.next hb⟩
theorem ref2Put_any {l:List (Int×Int)} {x:Int×Int} (w:World) (h:Mays l) (hx:mayB x.1 x.2=true) (hl:l.length≤1000):
  Calls Tryz.prog 36 #[.agg #[.int .i64 (nL l),.int .i64 (cL l),.int .i64 (sL l),.int .i64 (rL l),.int .i64 (iL l)],.agg #[x.1,x.2]] w
   fun e w'=>e=.returned (.tuple #[.agg #[.int .i64 (nL (l++[x])),.int .i64 (cL (l++[x])),.int .i64 (sL (l++[x])),.int .i64 (rL (l++[x])),.int .i64 (iL (l++[x]))],.int .i64 0])∧Below w.heap.size w w':=by
 obtain ⟨a1,a2,a3,a4⟩:=sums_L h (by omega);obtain ⟨b1,b2,b3,b4⟩:=sums_L (h.snoc hx) (by simp; omega);have hn:nL l=(l.length:Int):=rfl;have hn0:0≤nL l:=by omega
 have hn1:nL l≤1000:=by omega
 rw [cL_snoc] at b1;rw [sL_snoc] at b2;rw [rL_snoc] at b3;rw [iL_snoc] at b4;rw [nL_snoc,cL_snoc,sL_snoc,rL_snoc,iL_snoc];obtain ⟨h1,h2,h3,h4⟩:=may_bd hx;have q1:x.1 * x.1≤1048576 * 1048576:=Int.mul_le_mul h2 h2 (by omega) (by omega);have q2:x.2 * x.2≤1000 * 1000:=Int.mul_le_mul h4 h4 (by omega) (by omega);have q3:x.1 * x.2≤1048576 * 1000:=Int.mul_le_mul h2 h4 (by omega) (by omega);have p1:=Int.mul_pos (show 0<x.1 by omega) (show 0<x.1 by omega);have p2:=Int.mul_pos (show 0<x.2 by omega) (show 0<x.2 by omega);have p3:=Int.mul_pos (show 0<x.1 by omega) (show 0<x.2 by omega);have e2:(2:Nat) ^ 53=9007199254740992:=by decide
 simp only [Small, e2] at a1 a2 a3 a4 b1 b2 b3 b4
 have er:sqR x.1 x.2=x.1 * x.1-x.2 * x.2:=rfl;have ei:sqI x.1 x.2=2 * x.1 * x.2:=by unfold sqI; rw [Int.mul_comm x.2 x.1,Int.mul_assoc]; omega
 have e5:2 * x.1 * x.2=2 * (x.1 * x.2):=Int.mul_assoc _ _ _;have HM:=Lh (fun W=>may_any x.1 x.2 W);rw [er] at b3;rw [ei] at b4;rw [er,ei];rw [hx] at HM;generalize hc:x.1=c at *
 generalize hs:x.2=s at *
 generalize hcc:c * c=cc at *
 generalize hss:s * s=ss at *
 generalize hcs:2 * c * s=cs at *
 generalize hc3:c * s=c3 at *
 have v1:IntKind.i64.wrap (c * c)=cc:=by rw [hcc,IntWalk.i64_in _ (by omega)]
 have v2:IntKind.i64.wrap (s * s)=ss:=by rw [hss,IntWalk.i64_in _ (by omega)]
 have v3:IntKind.i64.wrap (2 * c * s)=cs:=by rw [hcs,IntWalk.i64_in _ (by omega)]
 have HV:=Lh (And.intro hcc (And.intro hss hcs));have EQ:=Lh (show rL l+cc-ss=rL l+(cc-ss) by omega);have k1 : -9007199254740992≤cL l∧cL l≤9007199254740992:=by omega
 have k2 : -9007199254740992≤sL l∧sL l≤9007199254740992:=by omega
 have k3 : -9007199254740992≤rL l∧rL l≤9007199254740992:=by omega
 have k4 : -9007199254740992≤iL l∧iL l≤9007199254740992:=by omega
 have k5:(nL l==4096)=false:=by simp; omega
 obtain ⟨k11,k12⟩:=k1;obtain ⟨k21,k22⟩:=k2;obtain ⟨k31,k32⟩:=k3;obtain ⟨k41,k42⟩:=k4;rw [←EQ.out];have m2:cc≤1099511627776:=by omega
 have m3:ss≤1000000:=by omega
 have m4:0≤cs:=by omega
 have m5:cs≤2097152000:=by omega
 clear a1 a2 a3 a4 b1 b2 b3 b4 er ei e5 q1 q2 q3 e2 hn h hl EQ hcc hss hcs hc3;generalize nL l=N at *
 generalize cL l=A at *
 generalize sL l=B at *
 generalize rL l=C at *
 generalize iL l=D at *
 have hA:Below w.heap.size w (((w.alloc (.cells #[N,A,B,C,D] 114)).alloc (.cells #[c,s] 68)).alloc (.cells #[.int .i64 0,.int .i64 0,.int .i64 0,.int .i64 0,.int .i64 0] 114)):=((bA).alloc (by simp) _).alloc (by simp; omega) _;have h1:=(Blk.start w [N,A,B,C,D] 114).next (((Below.refl _ _).alloc (Nat.le_refl _) (.cells #[c,s] 68)).alloc (by simp) (.cells #[.int .i64 0,.int .i64 0,.int .i64 0,.int .i64 0,.int .i64 0] 114));have h2:=(Blk.start (w.alloc (.cells #[N,A,B,C,D] 114)) [c,s] 68).next ((Below.refl _ _).alloc (Nat.le_refl _) (.cells #[.int .i64 0,.int .i64 0,.int .i64 0,.int .i64 0,.int .i64 0] 114));have h3:=Blk.start ((w.alloc (.cells #[N,A,B,C,D] 114)).alloc (.cells #[c,s] 68)) [.int .i64 0,.int .i64 0,.int .i64 0,.int .i64 0,.int .i64 0] 114;have HA:=Lh (And.intro hA (And.intro h1 (And.intro h2 h3)));clear hA h1 h2 h3;simp only [World.size_alloc] at HA
 go_enter Tryz.func36,Tryz.ntmps36
 go_wp2_with (go_at_call 75; refine (HM.out _).mono ?_; rintro e w1 ⟨rfl,hb⟩; refine Hid.out ?_)
 have HB:=Lh ((show Pt2 w N A B C D c s _ from ⟨HA.out.1,HA.out.2.1,HA.out.2.2.1,HA.out.2.2.2⟩).next hb);clear HA hb;have x0:=HB.out.b1.cell 0 rfl;refine Lh ?_;go_wp2_with fail
 have hdum:=trivial;refine rgH (fun W=>Cc2 W (w.heap.size+1) c s (Pt2 w N A B C D c s W)) (let h:=HB.out.next bdq; (h.b2.d2 h)) fun hH=>?_
 clear hdum x0 HB;refine tq 0 (.pointer (some ⟨w.heap.size+1,0,none⟩)) hH ?_;refine tq 1 c hH ?_;refine tq 2 (.pointer (some ⟨w.heap.size+1,1,none⟩)) hH ?_;refine tq 3 s hH ?_;refine tq 4 c hH ?_;refine tq 5 s hH ?_;refine dnH ?_;obtain ⟨_,_,HX⟩:=hH;obtain ⟨x0,x1,x2,x3,x4⟩:=HX.b1.c5;have z0 := HX.b3.c5;have f0 := HX.b3.f5;have HB:=Lh HX.bel;clear HX;generalize w1.drew=w2 at *
 go_wp2_with fail
 exact bodyPost_ret (v:=.tuple #[.agg #[.int .i64 (N+1),.int .i64 (A+c),.int .i64 (B+s),.int .i64 (C+cc-ss),.int .i64 (D+cs)],.int .i64 0]) (by simp [results, Tryz.results36, go_sem, z0]) rfl ⟨rfl,((((HB.out.setCell (p:=⟨_,0,none⟩) (by show w.heap.size≤w.heap.size+1+1; omega) _).setCell (p:=⟨_,1,none⟩) (by show w.heap.size≤w.heap.size+1+1; omega) _).setCell (p:=⟨_,2,none⟩) (by show w.heap.size≤w.heap.size+1+1; omega) _).setCell (p:=⟨_,3,none⟩) (by show w.heap.size≤w.heap.size+1+1; omega) _).setCell (p:=⟨_,4,none⟩) (by show w.heap.size≤w.heap.size+1+1; omega) _⟩
theorem tB_pos {n:Int} (h:0≤n):tB n=digB n:=by unfold tB digB Lib.itoa; rw [if_neg (by omega)]
theorem tB_neg {n:Int} (h:n<0):tB n=⟨#[45]⟩++⟨(Lib.decDigits n.natAbs).toArray⟩:=by
 unfold tB Lib.itoa; rw [if_pos h]; apply ByteArray.ext; simp [ByteArray.data_append]
theorem ref2digits_any (n:Int) (hn:Small n) (w:World):
  Calls Tryz.prog 84 #[n] w fun e w'=>e=.returned (.string (tB n))∧Below w.heap.size w w':=by
 have hsz:=tB_size hn;unfold Small at hn
 have e2:(2:Nat) ^ 53=9007199254740992:=by decide
 by_cases h:n<0
 ·obtain ⟨N,hN⟩:∃ N:Nat,N=n.natAbs:=⟨_,rfl⟩
  have HD:=Lh (fun W=>digits_all N (by omega) W);rw [show ((N:Nat):Int) = -n by omega] at HD;have hlo : -9007199254740992≤n:=by omega
  have he:=tB_neg h;rw [←hN] at he;rw [he] at hsz ⊢;obtain ⟨D,hD⟩:∃ D:ByteArray,D=⟨(Lib.decDigits N).toArray⟩:=⟨_,rfl⟩
  rw [←hD] at HD hsz ⊢;have hadd:=fun W:World=>run_string_add_sum (P:=Tryz.prog) W ⟨#[45]⟩ D (by rw [ByteArray.size_append] at hsz; omega)
  clear he hD hn e2 hN hsz
  go_enter Tryz.func84,Tryz.ntmps84
  go_wp2_with (go_at_call 76; refine (HD.out _).mono ?_; rintro e w1 ⟨rfl,hb⟩)
  go_ret
  exact ⟨rfl,hb⟩
 ·obtain ⟨k,rfl⟩:∃ k:Nat,n=(k:Int):=⟨n.toNat,by omega⟩
  have HD:=Lh (fun W=>digits_all k (by omega) W);rw [tB_pos (by omega)];unfold digB
  rw [Int.toNat_natCast];clear hsz hn e2;obtain ⟨D,hD⟩:∃ D:ByteArray,D=⟨(Lib.decDigits k).toArray⟩:=⟨_,rfl⟩
  rw [←hD] at HD ⊢;clear hD h
  go_enter Tryz.func84,Tryz.ntmps84
  go_wp2_with (go_at_call 76; refine (HD.out _).mono ?_; rintro e w1 ⟨rfl,hb⟩)
  go_ret
  exact ⟨rfl,hb⟩
theorem tT_eq (a b c d e:Int):tT [a,b,c,d,e]=((((((((tB a++⟨#[32]⟩)++tB b)++⟨#[32]⟩)++tB c)++⟨#[32]⟩)++tB d)++⟨#[32]⟩)++tB e):=by
 apply ByteArray.ext
 simp [tT,tL,tB,Lib.join_cons,Lib.joinTail,ByteArray.data_append]
structure Tx2 (w:World) (N A B C D:Int) (W:World):Prop where
 bel:Below w.heap.size w W
 b1:Blk W w.heap.size [N,A,B,C,D] 114
theorem Tx2.next {w:World} {N A B C D:Int} {W W':World} (h:Tx2 w N A B C D W) (hb:Below W.heap.size W W'):Tx2 w N A B C D W':=⟨h.bel.trans (hb.mono h.bel.size),h.b1.next hb⟩
theorem Tx2.all {w:World} {N A B C D:Int} {W:World} (h:Tx2 w N A B C D W):W.cell? ⟨w.heap.size,0,none⟩=some (.int .i64 N)∧W.cell? ⟨w.heap.size,1,none⟩=some (.int .i64 A)∧W.cell? ⟨w.heap.size,2,none⟩=some (.int .i64 B)∧W.cell? ⟨w.heap.size,3,none⟩=some (.int .i64 C)∧W.cell? ⟨w.heap.size,4,none⟩=some (.int .i64 D)∧Tx2 w N A B C D W:=
 (h.b1.d5 h)
theorem ref2Text_any {N A B C D:Int} (hN:Small N) (hA:Small A) (hB:Small B) (hC:Small C) (hD:Small D) (w:World):
  Calls Tryz.prog 42 #[.agg #[N,A,B,C,D]] w fun e w'=>e=.returned (.string (tT [N,A,B,C,D]))∧Below w.heap.size w w':=by
 have HN:=Lh (fun W=>ref2digits_any N hN W);have HA:=Lh (fun W=>ref2digits_any A hA W);have HB:=Lh (fun W=>ref2digits_any B hB W);have HC:=Lh (fun W=>ref2digits_any C hC W);have HD:=Lh (fun W=>ref2digits_any D hD W);rw [tT_eq];have zN:=tB_size hN; have zA:=tB_size hA; have zB:=tB_size hB; have zC:=tB_size hC; have zD:=tB_size hD;clear hN hA hB hC hD;generalize tB N=TN at *
 generalize tB A=TA at *
 generalize tB B=TB at *
 generalize tB C=TC at *
 generalize tB D=TD at *
 have es:(⟨#[32]⟩:ByteArray).size=1:=rfl;obtain ⟨X1,e1⟩:∃ X,X=TN++⟨#[32]⟩:=⟨_,rfl⟩
 rw [←e1];have s1:X1.size≤300:=by rw [e1,ByteArray.size_append,es]; omega
 have a1:∀ W,(Op.stringOp .add TN ⟨#[32]⟩).run Tryz.prog W=.ok (.string X1) W:=fun W=>by rw [e1]; exact run_string_add_sum W _ _ (by rw [es]; omega)
 obtain ⟨X2,e2⟩:∃ X,X=X1++TA:=⟨_,rfl⟩
 rw [←e2];have s2:X2.size≤330:=by rw [e2,ByteArray.size_append]; omega
 have a2:∀ W,(Op.stringOp .add X1 TA).run Tryz.prog W=.ok (.string X2) W:=fun W=>by rw [e2]; exact run_string_add_sum W _ _ (by omega)
 obtain ⟨X3,e3⟩:∃ X,X=X2++⟨#[32]⟩:=⟨_,rfl⟩
 rw [←e3];have s3:X3.size≤360:=by rw [e3,ByteArray.size_append,es]; omega
 have a3:∀ W,(Op.stringOp .add X2 ⟨#[32]⟩).run Tryz.prog W=.ok (.string X3) W:=fun W=>by rw [e3]; exact run_string_add_sum W _ _ (by rw [es]; omega)
 obtain ⟨X4,e4⟩:∃ X,X=X3++TB:=⟨_,rfl⟩
 rw [←e4];have s4:X4.size≤390:=by rw [e4,ByteArray.size_append]; omega
 have a4:∀ W,(Op.stringOp .add X3 TB).run Tryz.prog W=.ok (.string X4) W:=fun W=>by rw [e4]; exact run_string_add_sum W _ _ (by omega)
 obtain ⟨X5,e5⟩:∃ X,X=X4++⟨#[32]⟩:=⟨_,rfl⟩
 rw [←e5];have s5:X5.size≤420:=by rw [e5,ByteArray.size_append,es]; omega
 have a5:∀ W,(Op.stringOp .add X4 ⟨#[32]⟩).run Tryz.prog W=.ok (.string X5) W:=fun W=>by rw [e5]; exact run_string_add_sum W _ _ (by rw [es]; omega)
 obtain ⟨X6,e6⟩:∃ X,X=X5++TC:=⟨_,rfl⟩
 rw [←e6];have s6:X6.size≤450:=by rw [e6,ByteArray.size_append]; omega
 have a6:∀ W,(Op.stringOp .add X5 TC).run Tryz.prog W=.ok (.string X6) W:=fun W=>by rw [e6]; exact run_string_add_sum W _ _ (by omega)
 obtain ⟨X7,e7⟩:∃ X,X=X6++⟨#[32]⟩:=⟨_,rfl⟩
 rw [←e7];have s7:X7.size≤480:=by rw [e7,ByteArray.size_append,es]; omega
 have a7:∀ W,(Op.stringOp .add X6 ⟨#[32]⟩).run Tryz.prog W=.ok (.string X7) W:=fun W=>by rw [e7]; exact run_string_add_sum W _ _ (by rw [es]; omega)
 obtain ⟨X8,e8⟩:∃ X,X=X7++TD:=⟨_,rfl⟩
 rw [←e8];have s8:X8.size≤510:=by rw [e8,ByteArray.size_append]; omega
 have a8:∀ W,(Op.stringOp .add X7 TD).run Tryz.prog W=.ok (.string X8) W:=fun W=>by rw [e8]; exact run_string_add_sum W _ _ (by omega)
 have H0:=Lh (show Tx2 w N A B C D (w.alloc (.cells #[N,A,B,C,D] 114)) from ⟨bA,Blk.start w _ _⟩);have hdum:=trivial;clear e1 s1 e2 s2 e3 s3 e4 s4 e5 s5 e6 s6 e7 s7 e8 s8 zN zA zB zC zD es
 go_enter Tryz.func42,Tryz.ntmps42
 go_wp2_with fail
 refine rgH (fun W=>Cc5 W w.heap.size N A B C D (Tx2 w N A B C D W)) ((H0.out.next bdq).all) fun hH=>?_
 clear hdum H0;refine tq 0 (.pointer (some ⟨w.heap.size,0,none⟩)) hH ?_;refine tq 1 N hH ?_;refine tq 4 (.pointer (some ⟨w.heap.size,1,none⟩)) hH ?_;refine tq 5 A hH ?_;refine tq 9 (.pointer (some ⟨w.heap.size,2,none⟩)) hH ?_;refine tq 10 B hH ?_;refine tq 14 (.pointer (some ⟨w.heap.size,3,none⟩)) hH ?_;refine tq 15 C hH ?_;refine tq 19 (.pointer (some ⟨w.heap.size,4,none⟩)) hH ?_;refine tq 20 D hH ?_;refine rd1 2 (by kernel_rfl) rfl fun KK hK=>?_
 go_simp
 refine (HN.out _).mono ?_
 rintro e' u1 ⟨rfl,hb⟩
 go_wp2_with fail
 refine hK.out _ _ ((hH.2.2.2.2.2.next hb).all) ?_;clear hK KK hH hb;intro hH
 try simp only [LAY]
 refine tq 3 (.string X1) hH ?_;refine rd1 6 (by kernel_rfl) rfl fun KK hK=>?_
 go_simp
 refine (HA.out _).mono ?_
 rintro e' u1 ⟨rfl,hb⟩
 go_wp2_with fail
 refine hK.out _ _ ((hH.2.2.2.2.2.next hb).all) ?_;clear hK KK hH hb;intro hH
 try simp only [LAY]
 refine tq 7 (.string X2) hH ?_;refine tq 8 (.string X3) hH ?_;refine rd1 11 (by kernel_rfl) rfl fun KK hK=>?_
 go_simp
 refine (HB.out _).mono ?_
 rintro e' u1 ⟨rfl,hb⟩
 go_wp2_with fail
 refine hK.out _ _ ((hH.2.2.2.2.2.next hb).all) ?_;clear hK KK hH hb;intro hH
 try simp only [LAY]
 refine tq 12 (.string X4) hH ?_;refine tq 13 (.string X5) hH ?_;refine rd1 16 (by kernel_rfl) rfl fun KK hK=>?_
 go_simp
 refine (HC.out _).mono ?_
 rintro e' u1 ⟨rfl,hb⟩
 go_wp2_with fail
 refine hK.out _ _ ((hH.2.2.2.2.2.next hb).all) ?_;clear hK KK hH hb;intro hH
 try simp only [LAY]
 refine tq 17 (.string X6) hH ?_;refine tq 18 (.string X7) hH ?_;refine rd1 21 (by kernel_rfl) rfl fun KK hK=>?_
 go_simp
 refine (HD.out _).mono ?_
 rintro e' u1 ⟨rfl,hb⟩
 go_wp2_with fail
 refine hK.out _ _ ((hH.2.2.2.2.2.next hb).all) ?_;clear hK KK hH hb;intro hH
 try simp only [LAY]
 refine tq 22 (.string X8) hH ?_;refine tq 23 (.string X8) hH ?_;refine dnH ?_;have HX:=Lh hH.2.2.2.2.2.bel;clear hH;go_wp2_with fail
 go_ret
 exact ⟨rfl,HX.out⟩
end Go.Proofs.YtpbhaieclkoggaaGreatDoor
