import Derived.Test.YtifnijmienmmbaaGreatDoorLStr
import Derived.Test.YtifnijmienmmbaaGreatDoorIeee
import Derived.WalkLawsBesides
import Derived.Outline
import Derived.Deep.DeepCutAuto
set_option maxHeartbeats 12800000
namespace Go.Proofs.YtifnijmienmmbaaGreatDoor
open Go Go.Proofs Go.RowKit
theorem fl_zero:fl 0=0:=rfl
theorem tOf_any (c s:Int) (w:World):
  Calls Tryz.prog 120 #[.agg #[c,s]] w
   fun e w'=>e=.returned (.complex .f64 (fl c) (fl s))∧Below w.heap.size w w':=by
 go_enter Tryz.func120,Tryz.ntmps120
 go_wp2
 go_ret
 exact ⟨rfl,bA⟩
theorem may_bd {c s:Int} (h:mayB c s=true):1≤c∧c≤1048576∧1≤s∧s≤1000:=by simpa [mayB] using h
def sqR (c s:Int):Int:=c * c-s * s
def sqI (c s:Int):Int:=c * s+s * c
theorem square_run {c s:Int} (h:mayB c s=true) (W:World):
  (binOp .mul 37 (.complex .f64 (fl c) (fl s)) (.complex .f64 (fl c) (fl s))).run Tryz.prog W=.ok (.complex .f64 (fl (sqR c s)) (fl (sqI c s))) W:=by
 obtain ⟨h1,h2,h3,h4⟩:=may_bd h;exact run_complex_mul W _ _ _ _ _ _ _ (fl_square (by omega) (by omega) h2 h4)
def Has3 (W:World) (b:Nat) (x y z:Value):Prop:=
 W.cell? ⟨b,0,none⟩=some x∧W.cell? ⟨b,1,none⟩=some y∧W.cell? ⟨b,2,none⟩=some z∧W.frozen? ⟨b,0,none⟩=false∧W.frozen? ⟨b,1,none⟩=false∧W.frozen? ⟨b,2,none⟩=false
theorem Blk.has3 {W:World} {b:Nat} {x y z:Value} {t:TypeId} (h:Blk W b [x,y,z] t):Has3 W b x y z:=
 (h.d3 ⟨h.free 0,h.free 1,h.free 2⟩)
theorem st_complex (W:World) (a:Addr) (x y:Nat) (m:Mode):(store a (.complex .f64 x y) m).run Tryz.prog W=stored Tryz.prog W a (.complex .f64 x y) m:=run_store _ W a _ m rfl
theorem one_any (c s:Int) (w:World) (h:mayB c s=true):
  Calls Tryz.prog 90 #[.agg #[c,s]] w
   fun e w'=>e=.returned (.agg #[.int .i64 1,.complex .f64 (fl c) (fl s),.complex .f64 (fl (sqR c s)) (fl (sqI c s))])∧Below w.heap.size w w':=by
 have hq:=fun W=>square_run h W
 have hst:=st_complex;clear h
 go_enter Tryz.func90,Tryz.ntmps90
 go_wp2_with (go_at_call 120; refine (tOf_any _ _ _).mono ?_; rintro e w1 ⟨rfl,hb1⟩; refine Hid.out ?_)
 obtain ⟨c0,c1,c2,f0,f1,f2⟩:=((Blk.startAt (b:=w.heap.size+1) (by simp)).next hb1).has3;have HB:=Lh ((((Below.refl w.heap.size w).alloc (Nat.le_refl _) _).alloc (by simp) _).trans (hb1.mono (by simp; omega)));clear hb1;refine Lh ?_
 go_wp2
 exact bodyPost_ret (v:=.agg #[.int .i64 1,.complex .f64 (fl c) (fl s),.complex .f64 (fl (sqR c s)) (fl (sqI c s))]) (by simp [results,Tryz.results90,go_sem,c0,c1,c2]) rfl ⟨rfl,((HB.out.setCell (p:=⟨w.heap.size+1,0,none⟩) (by simp) _).setCell (p:=⟨w.heap.size+1,1,none⟩) (by simp) _).setCell (p:=⟨w.heap.size+1,2,none⟩) (by simp) _⟩
theorem run_equalIn_complex {P:Program} (w:World) (d:Nat) (t:TypeId) (k k':FloatKind) (a b c e:Nat) (h:P.underlying t=some (.complex k')):
  (Op.equalIn (d+1) t (.complex k a b) (.complex k c e)).run P w=.ok ((k.format.order a c==some .eq)&&(k.format.order b e==some .eq)) w:=by
 simp [Op.equalIn,run_underlying h,Op.floatEq]
def sameT (N a b c d N' a' b' c' d':Int):Bool:=decide (N=N'∧a=a'∧b=b'∧c=c'∧d=d')
theorem fl_iff {m n:Int} (hm:Small m) (hn:Small n):FloatKind.f64.format.order (fl m) (fl n)=some Ordering.eq↔m=n:=by
 have h:=fl_eqB hm hn;rw [Bool.eq_iff_iff] at h
 show Ieee.double.order _ _=_↔_
 simpa using h
theorem same_run {N a b c d N' a' b' c' d':Int} (ha:Small a) (hb:Small b) (hc:Small c) (hd:Small d) (ha':Small a') (hb':Small b') (hc':Small c') (hd':Small d') (W:World):
  (binOp .eql 39 (.agg #[N,.complex .f64 (fl a) (fl b),.complex .f64 (fl c) (fl d)]) (.agg #[N',.complex .f64 (fl a') (fl b'),.complex .f64 (fl c') (fl d')])).run Tryz.prog W
   = .ok (.bool (sameT N a b c d N' a' b' c' d')) W:=by
 have e1:=fl_iff ha ha';have e2:=fl_iff hb hb';have e3:=fl_iff hc hc';have e4:=fl_iff hd hd';rw [run_eql_struct,show (10000:Nat)=9999+1 from rfl,run_equalIn_struct W 9999 39 _ _ (by kernel_rfl) (by kernel_rfl)];have hI:=fun (W:World) (x y:Int)=>run_equalIn_int (P:=Tryz.prog) W 9998 3 .i64 .i64 x y Tryz.underlying3
 have hC:=fun (W:World) (x y z u:Nat)=>run_equalIn_complex (P:=Tryz.prog) W 9998 37 .f64 .f64 x y z u Tryz.underlying37
 simp [go_sem,Tryz.underlying39,hI,hC,e1,e2,e3,e4]
 clear e1 e2 e3 e4;by_cases h1:N=N' <;> by_cases h2:a=a' <;> by_cases h3:b=b' <;> by_cases h4:c=c' <;> by_cases h5:d=d' <;> simp [sameT,h1,h2,h3,h4,h5]
def Sums (a b c d:Int):Prop:=Small a∧Small b∧Small c∧Small d
theorem add_run {a b a' b':Int} (ha:Small a) (hb:Small b) (ha':Small a') (hb':Small b') (h1:Small (a+a')) (h2:Small (b+b')) (W:World):
  (binOp .add 37 (.complex .f64 (fl a) (fl b)) (.complex .f64 (fl a') (fl b'))).run Tryz.prog W=.ok (.complex .f64 (fl (a+a')) (fl (b+b'))) W:=
 run_complex_sum W .add (.inl rfl) _ _ _ _ _ _ _ _ (fl_sum ha hb ha' hb' h1 h2)
theorem sub_run {a b a' b':Int} (ha:Small a) (hb:Small b) (ha':Small a') (hb':Small b') (h1:Small (a-a')) (h2:Small (b-b')) (W:World):
  (binOp .sub 37 (.complex .f64 (fl a) (fl b)) (.complex .f64 (fl a') (fl b'))).run Tryz.prog W=.ok (.complex .f64 (fl (a-a')) (fl (b-b'))) W:=
 run_complex_sum W .sub (.inr rfl) _ _ _ _ _ _ _ _ (fl_dif ha hb ha' hb' h1 h2)
theorem and_ok {N a b c d N' a' b' c' d':Int} (w:World) (h1:0≤N) (h2:0≤N') (h3:N+N'≤4096) (hs:Sums a b c d) (hs':Sums a' b' c' d') (hs'':Sums (a+a') (b+b') (c+c') (d+d')):
  Calls Tryz.prog 89 #[.agg #[N,.complex .f64 (fl a) (fl b),.complex .f64 (fl c) (fl d)],.agg #[N',.complex .f64 (fl a') (fl b'),.complex .f64 (fl c') (fl d')]] w
   fun e w'=>e=.returned (.tuple #[.agg #[.int .i64 (N+N'),.complex .f64 (fl (a+a')) (fl (b+b')),.complex .f64 (fl (c+c')) (fl (d+d'))],.int .i64 0])∧Below w.heap.size w w':=by
 have ha:=add_run hs.1 hs.2.1 hs'.1 hs'.2.1 hs''.1 hs''.2.1;have hb:=add_run hs.2.2.1 hs.2.2.2 hs'.2.2.1 hs'.2.2.2 hs''.2.2.1 hs''.2.2.2;have hst:=st_complex;have h4:N≤4096:=by omega
 have h5:N'≤4096:=by omega
 clear hs hs' hs''
 go_enter Tryz.func89,Tryz.ntmps89
 go_wp2
 exact bodyPost_ret (v:=.tuple #[.agg #[.int .i64 (N+N'),.complex .f64 (fl (a+a')) (fl (b+b')),.complex .f64 (fl (c+c')) (fl (d+d'))],.int .i64 0]) (by simp [results,Tryz.results89,go_sem]) rfl ⟨rfl,((bA).alloc (by simp) _).alloc (by simp; omega) _⟩
theorem and_full {N a b c d N' a' b' c' d':Int} (w:World) (h1:0≤N) (h2:0≤N') (h4:N≤4096) (h5:N'≤4096) (h3:4096<N+N'):
  Calls Tryz.prog 89 #[.agg #[N,.complex .f64 (fl a) (fl b),.complex .f64 (fl c) (fl d)],.agg #[N',.complex .f64 (fl a') (fl b'),.complex .f64 (fl c') (fl d')]] w
   fun e w'=>e=.returned (.tuple #[.agg #[.int .i64 0,.complex .f64 0 0,.complex .f64 0 0],.int .i64 7])∧Below w.heap.size w w':=by
 have hst:=st_complex
 go_enter Tryz.func89,Tryz.ntmps89
 go_wp2
 exact bodyPost_ret (v:=.tuple #[.agg #[.int .i64 0,.complex .f64 0 0,.complex .f64 0 0],.int .i64 7]) (by simp [results,Tryz.results89,go_sem]) rfl ⟨rfl,((bA).alloc (by simp) _).alloc (by simp; omega) _⟩
theorem put_range {N a b c d p q:Int} (w:World) (h:mayB p q=false):
  Calls Tryz.prog 54 #[.agg #[N,.complex .f64 (fl a) (fl b),.complex .f64 (fl c) (fl d)],.agg #[p,q]] w
   fun e w'=>e=.returned (.tuple #[.agg #[.int .i64 0,.complex .f64 0 0,.complex .f64 0 0],.int .i64 2])∧Below w.heap.size w w':=by
 have hst:=st_complex;have HM:=Lh h;clear h
 go_enter Tryz.func54,Tryz.ntmps54
 go_wp2_with (go_at_call 83; refine (check_no _ _ _ HM.out).mono ?_; rintro e w1 ⟨rfl,hb1⟩; refine Hid.out ?_)
 obtain ⟨c0,c1,c2,f0,f1,f2⟩:=((Blk.startAt (b:=w.heap.size+1+1) (by simp)).next hb1).has3;have HB:=Lh (((((Below.refl w.heap.size w).alloc (Nat.le_refl _) _).alloc (by simp) _).alloc (by simp; omega) _).trans (hb1.mono (by simp; omega)));clear hb1;refine Lh ?_
 go_wp2
 exact bodyPost_ret (v:=.tuple #[.agg #[.int .i64 0,.complex .f64 0 0,.complex .f64 0 0],.int .i64 2]) (by simp [results,Tryz.results54,go_sem,c0,c1,c2]) rfl ⟨rfl,((HB.out.setCell (p:=⟨w.heap.size+1+1,0,none⟩) (by simp; omega) _).setCell (p:=⟨w.heap.size+1+1,1,none⟩) (by simp; omega) _).setCell (p:=⟨w.heap.size+1+1,2,none⟩) (by simp; omega) _⟩
def TPutR (w W:World):Prop:=w.heap.size+1+1<W.heap.size∧Below w.heap.size w W
def TPutS (w:World) (N a b c d p q:Int) (W:World):Prop:=
 W.cell? ⟨w.heap.size,0,none⟩=some (.int .i64 N)∧W.cell? ⟨w.heap.size,1,none⟩=some (.complex .f64 (fl a) (fl b))∧W.cell? ⟨w.heap.size,2,none⟩=some (.complex .f64 (fl c) (fl d)) ∧
 W.cell? ⟨w.heap.size+1,0,none⟩=some (.int .i64 p)∧W.cell? ⟨w.heap.size+1,1,none⟩=some (.int .i64 q) ∧
 W.cell? ⟨w.heap.size+1+1,0,none⟩=some (cellAt W ⟨w.heap.size+1+1,0,none⟩)∧W.cell? ⟨w.heap.size+1+1,1,none⟩=some (cellAt W ⟨w.heap.size+1+1,1,none⟩)∧W.cell? ⟨w.heap.size+1+1,2,none⟩=some (cellAt W ⟨w.heap.size+1+1,2,none⟩) ∧
 W.frozen? ⟨w.heap.size+1+1,0,none⟩=false∧W.frozen? ⟨w.heap.size+1+1,1,none⟩=false∧W.frozen? ⟨w.heap.size+1+1,2,none⟩=false∧TPutR w W
theorem tputS_off {w:World} {N a b c d p q:Int} {W W':World} (hb:Off (w.heap.size+1+1) W W') (h:TPutS w N a b c d p q W):TPutS w N a b c d p q W':=by
 obtain ⟨h0,h1,h2,h3,h4,h5,h6,h7,h8,h9,h10,h11,h12⟩:=h;have l0:w.heap.size<W.heap.size:=by omega
 have l1:w.heap.size+1<W.heap.size:=by omega
 have n0:w.heap.size≠w.heap.size+1+1:=by omega
 have n1:w.heap.size+1≠w.heap.size+1+1:=by omega
 have v0:=hb.live ⟨_,0,none⟩ h11 ⟨h5,h8⟩;have v1:=hb.live ⟨_,1,none⟩ h11 ⟨h6,h9⟩;have v2:=hb.live ⟨_,2,none⟩ h11 ⟨h7,h10⟩;exact ⟨(hb.cell ⟨_,0,none⟩ l0 n0).trans h0,(hb.cell ⟨_,1,none⟩ l0 n0).trans h1,(hb.cell ⟨_,2,none⟩ l0 n0).trans h2,
  (hb.cell ⟨_,0,none⟩ l1 n1).trans h3,(hb.cell ⟨_,1,none⟩ l1 n1).trans h4,v0.1,v1.1,v2.1,v0.2,v1.2,v2.2,
  Nat.lt_of_lt_of_le h11 hb.size,hb.below _ _ (by omega) (by omega) h12⟩
theorem tputS_keep {w:World} {N a b c d p q:Int} {W W':World} (hb:Below W.heap.size W W') (h:TPutS w N a b c d p q W):TPutS w N a b c d p q W':=tputS_off (.of hb) h
theorem put_gen {N a b c d p q x k:Int} {y1 y2 z1 z2:Nat} (w:World) (h:mayB p q=true)
  (HA:Hid (∀ W:World,Calls Tryz.prog 89 #[.agg #[N,.complex .f64 (fl a) (fl b),.complex .f64 (fl c) (fl d)],.agg #[.int .i64 1,.complex .f64 (fl p) (fl q),.complex .f64 (fl (sqR p q)) (fl (sqI p q))]] W
   fun e w'=>e=.returned (.tuple #[.agg #[x,.complex .f64 y1 y2,.complex .f64 z1 z2],k])∧Below W.heap.size W w')):
  Calls Tryz.prog 54 #[.agg #[N,.complex .f64 (fl a) (fl b),.complex .f64 (fl c) (fl d)],.agg #[p,q]] w
   fun e w'=>e=.returned (.tuple #[.agg #[x,.complex .f64 y1 y2,.complex .f64 z1 z2],k])∧Below w.heap.size w w':=by
 have hst:=st_complex;have HM:=Lh h;clear h
 go_enter Tryz.func54,Tryz.ntmps54
 go_wp2_with (go_at_call 83; refine (check_yes _ _ _ HM.out).mono ?_; rintro e w1 ⟨rfl,hb1⟩; refine Hid.out ?_)
 have hS:TPutS w N a b c d p q w1.drew:=by
  have hB:Below w.heap.size w w1:=((((Below.refl w.heap.size w).alloc (Nat.le_refl _) _).alloc (by simp) _).alloc (by simp; omega) _).trans (hb1.mono (by simp; omega));have hz:w.heap.size+1+1<w1.heap.size:=by have:=hb1.size; simp at this; omega
  obtain ⟨t0,t1,t2,_⟩:=((((Blk.startAt (b:=w.heap.size) rfl).alloc _).alloc _).next hb1).has3;have hI:=(((Blk.startAt (b:=w.heap.size+1) (by simp)).alloc _).next hb1)
  obtain ⟨r0,r1,r2,r3,r4,r5⟩:=((Blk.startAt (b:=w.heap.size+1+1) (by simp)).next hb1).has3;exact tputS_keep bdq ⟨t0,t1,t2,hI.d2 ⟨cellAt_of r0,cellAt_of r1,cellAt_of r2,r3,r4,r5,hz,hB⟩⟩
 clear hb1;refine Lh ?_;go_wp2_with fail
 go_region_held3 (fun W=>Ce W w.heap.size 0 N∧Ce W w.heap.size 1 (.complex .f64 (fl a) (fl b))∧Ce W w.heap.size 2 (.complex .f64 (fl c) (fl d)) ∧
   W.cell? ⟨w.heap.size+1,0,none⟩=some (.int .i64 p)∧W.cell? ⟨w.heap.size+1,1,none⟩=some (.int .i64 q) ∧
   W.cell? ⟨w.heap.size+1+1,0,none⟩=some (cellAt W ⟨w.heap.size+1+1,0,none⟩)∧W.cell? ⟨w.heap.size+1+1,1,none⟩=some (cellAt W ⟨w.heap.size+1+1,1,none⟩)∧W.cell? ⟨w.heap.size+1+1,2,none⟩=some (cellAt W ⟨w.heap.size+1+1,2,none⟩) ∧
   W.frozen? ⟨w.heap.size+1+1,0,none⟩=false∧W.frozen? ⟨w.heap.size+1+1,1,none⟩=false∧W.frozen? ⟨w.heap.size+1+1,2,none⟩=false∧TPutR w W)
  (first | exact hS | (refine tputS_off (N:=N) (a:=a) (b:=b) (c:=c) (d:=d) (p:=p) (q:=q) (Off.store3 _ _ _ _ _) ?_; assumption) | (apply tputS_keep (N:=N) (a:=a) (b:=b) (c:=c) (d:=d) (p:=p) (q:=q); assumption; assumption))
  (first | (go_at_call 90; refine (one_any p q _ HM.out).mono ?_; rintro e w' ⟨rfl,hb⟩) | (go_at_call 89; refine (HA.out _).mono ?_; rintro e w' ⟨rfl,hb⟩))
 have hT:TPutS w N a b c d p q w':=tputS_keep hb (tputS_keep (by assumption) hS);obtain ⟨_,_,_,_,_,c0,c1,c2,f0,f1,f2,_,hB⟩:=hT;have HB:=Lh hB;clear hB hS hb
 go_wp2
 exact bodyPost_ret (v:=.tuple #[.agg #[x,.complex .f64 y1 y2,.complex .f64 z1 z2],k]) (by simp [results,Tryz.results54,go_sem,c0,c1,c2]) rfl ⟨rfl,((HB.out.setCell (p:=⟨w.heap.size+1+1,0,none⟩) (by simp; omega) _).setCell (p:=⟨w.heap.size+1+1,1,none⟩) (by simp; omega) _).setCell (p:=⟨w.heap.size+1+1,2,none⟩) (by simp; omega) _⟩
theorem put_ok {N a b c d p q:Int} (w:World) (h:mayB p q=true) (h1:0≤N) (h2:N≤4095) (hs:Sums a b c d) (hs':Sums p q (sqR p q) (sqI p q)) (hs'':Sums (a+p) (b+q) (c+sqR p q) (d+sqI p q)):
  Calls Tryz.prog 54 #[.agg #[N,.complex .f64 (fl a) (fl b),.complex .f64 (fl c) (fl d)],.agg #[p,q]] w
   fun e w'=>e=.returned (.tuple #[.agg #[.int .i64 (N+1),.complex .f64 (fl (a+p)) (fl (b+q)),.complex .f64 (fl (c+sqR p q)) (fl (d+sqI p q))],.int .i64 0])∧Below w.heap.size w w':=
 put_gen w h (Lh fun w=>and_ok (N:=N) (N':=1) w h1 (by omega) (by omega) hs hs' hs'')
theorem put_full {a b c d p q:Int} (w:World) (h:mayB p q=true):
  Calls Tryz.prog 54 #[.agg #[.int .i64 4096,.complex .f64 (fl a) (fl b),.complex .f64 (fl c) (fl d)],.agg #[p,q]] w
   fun e w'=>e=.returned (.tuple #[.agg #[.int .i64 0,.complex .f64 0 0,.complex .f64 0 0],.int .i64 7])∧Below w.heap.size w w':=
 put_gen w h (Lh fun w=>and_full (N:=4096) (N':=1) w (by omega) (by omega) (by omega) (by omega) (by omega))
end Go.Proofs.YtifnijmienmmbaaGreatDoor
