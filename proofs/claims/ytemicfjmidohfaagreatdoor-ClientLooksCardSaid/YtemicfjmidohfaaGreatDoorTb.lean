import Derived.Test.YtemicfjmidohfaaGreatDoorFb
import Derived.Test.YtemicfjmidohfaaGreatDoorLStr
import Derived.Test.YtemicfjmidohfaaGreatDoorIeee
import Derived.WalkLawsBesides
import Derived.Outline
import Derived.Deep.DeepCutAuto
set_option maxHeartbeats 12800000
namespace Go.Proofs.YtemicfjmidohfaaGreatDoor
open Go Go.Proofs Go.RowKit
def tB (n:Int):ByteArray:=⟨(Lib.itoa n).toArray⟩
def tL (l:List Int):List UInt8:=Lib.join (l.map Lib.itoa) [32]
def tT (l:List Int):ByteArray:=⟨(tL l).toArray⟩
theorem itoa_short {n:Int} (h:Small n):(Lib.itoa n).length≤21:=by
 unfold Small at h
 have e:(2:Nat) ^ 53=9007199254740992:=by decide
 exact Lib.itoa_length_le n (by omega) (by omega)
def TsR (w W:World):Prop:=w.heap.size<W.heap.size∧Below w.heap.size w W∧Pows W∧Tab W
def TsS (w:World) (N:Int) (FA FB FC FD:Nat) (W:World):Prop:=
 W.cell? ⟨w.heap.size,0,none⟩=some (.int .i64 N)∧W.cell? ⟨w.heap.size,1,none⟩=some (.complex .f64 FA FB)∧W.cell? ⟨w.heap.size,2,none⟩=some (.complex .f64 FC FD)∧TsR w W
theorem tsS_keep {w:World} {N:Int} {FA FB FC FD:Nat} {W W':World} (hb:Below W.heap.size W W') (h:TsS w N FA FB FC FD W):TsS w N FA FB FC FD W':=by
 obtain ⟨h0,h1,h2,h3,h4,h5,h6⟩:=h;exact ⟨(hb.cell (p:=⟨_,0,none⟩) h3).trans h0,(hb.cell (p:=⟨_,1,none⟩) h3).trans h1,(hb.cell (p:=⟨_,2,none⟩) h3).trans h2,Nat.lt_of_lt_of_le h3 hb.size,h4.trans (hb.mono h4.size),h5.next hb,h6.next hb⟩
theorem join_five (l:List Int) (hl:l.length=5) (hs:∀ n∈l,Small n) (w:World):
  Calls Tryz.prog 192 #[.slice (some ⟨w.heap.size,0,none⟩) 5 5,.string ⟨#[32]⟩] (w.alloc (.cells ⟨l.map fun n=>.string (tB n)⟩ 9)) fun e w'=>e=.returned (.string (tT l))∧Below (w.alloc (.cells ⟨l.map fun n=>.string (tB n)⟩ 9)).heap.size (w.alloc (.cells ⟨l.map fun n=>.string (tB n)⟩ 9)) w':=by
 have hm:(l.map tB).map (fun x:ByteArray=>x.data.toList)=l.map Lib.itoa:=by rw [List.map_map]; rfl
 have hlen:(Lib.join ((l.map tB).map (·.data.toList)) ((⟨#[32]⟩:ByteArray).data.toList)).length≤140737488355328:=by
  rw [hm];obtain ⟨a,b,c,d,e,rfl⟩:∃ a b c d e,l=[a,b,c,d,e]:=by
   match l,hl with
   | [a,b,c,d,e],_=>exact ⟨a,b,c,d,e,rfl⟩
  have ha:=itoa_short (hs a (by simp)); have hb:=itoa_short (hs b (by simp)); have hc:=itoa_short (hs c (by simp)); have hd:=itoa_short (hs d (by simp)); have he:=itoa_short (hs e (by simp));simp only [List.map_cons,List.map_nil,Lib.join_cons,Lib.joinTail,List.flatten_cons,List.flatten_nil,List.length_append,List.length_cons,List.length_nil]
  have e1:((⟨#[32]⟩:ByteArray).data.toList).length=1:=rfl;omega
 have h:=Tryz.strings_Join w.heap.size 0 5 (l.map tB) ⟨#[32]⟩ (w.alloc (.cells ⟨l.map fun n=>.string (tB n)⟩ 9)) ?_ (by simp) (by simp [hl]) (by simp [hl]) hlen
 ·rw [hm,List.length_map,hl] at h
  exact h
 ·intro j x hj
  rw [Nat.zero_add];obtain ⟨n,hn,rfl⟩:=List.mem_map.1 (List.mem_of_getElem? hj);refine (Blk.start w (l.map fun n=>.string (tB n)) 9).cell j ?_;rw [List.getElem?_map] at hj ⊢
  cases h:l[j]? with
  | none=>rw [h] at hj; cases hj
  | some y=>rw [h] at hj; simp only [Option.map_some,Option.some.injEq] at hj ⊢; rw [hj]
theorem string_any {N A B C D:Int} (hN:0≤N) (hN2:N≤4096) (hA:Small A) (hB:Small B) (hC:Small C) (hD:Small D) (w:World) (hp:Pows w) (ht:Tab w):
  Calls Tryz.prog 137 #[.agg #[N,.complex .f64 (fl A) (fl B),.complex .f64 (fl C) (fl D)]] w
   fun e w'=>e=.returned (.string (tT [N,A,B,C,D]))∧Below w.heap.size w w':=by
 have hSN:Small N:=by
  unfold Small; have e:(2:Nat) ^ 53=9007199254740992:=by decide
  omega
 have HJ:=Lh (fun W=>join_five [N,A,B,C,D] rfl (by intro n hn; simp only [List.mem_cons,List.not_mem_nil,or_false] at hn; rcases hn with rfl | rfl | rfl | rfl | rfl <;> assumption) W);have HI:=Lh (fun (W:World) (h:Tab W)=>show Calls Tryz.prog 190 #[N] W (Rt (.string (tB N)) W) from by
  have:=itoa_any N hN (by omega) W h;rw [show digB N=tB N from by unfold digB tB Lib.itoa; rw [if_neg (by omega)]] at this;exact this)
 have HA:=Lh (fun W a0 a1=>tdig_any A hA W a0 a1);have HB:=Lh (fun W a0 a1=>tdig_any B hB W a0 a1);have HC:=Lh (fun W a0 a1=>tdig_any C hC W a0 a1);have HD:=Lh (fun W a0 a1=>tdig_any D hD W a0 a1);clear hA hB hC hD hSN
 change Hid (∀ (W:World),Calls Tryz.prog 192 #[.slice (some ⟨W.heap.size,0,none⟩) 5 5,.string ⟨#[32]⟩] (W.alloc (.cells #[.string (tB N),.string (tB A),.string (tB B),.string (tB C),.string (tB D)] 9)) fun e w'=>e=.returned (.string (tT [N,A,B,C,D]))∧Below (W.alloc (.cells #[.string (tB N),.string (tB A),.string (tB B),.string (tB C),.string (tB D)] 9)).heap.size (W.alloc (.cells #[.string (tB N),.string (tB A),.string (tB B),.string (tB C),.string (tB D)] 9)) w') at HJ
 change Hid (∀ (W:World),Pows W→Tab W→Calls Tryz.prog 193 #[.float .f64 (fl A)] W (Rt (.string (tB A)) W)) at HA
 change Hid (∀ (W:World),Pows W→Tab W→Calls Tryz.prog 193 #[.float .f64 (fl B)] W (Rt (.string (tB B)) W)) at HB
 change Hid (∀ (W:World),Pows W→Tab W→Calls Tryz.prog 193 #[.float .f64 (fl C)] W (Rt (.string (tB C)) W)) at HC
 change Hid (∀ (W:World),Pows W→Tab W→Calls Tryz.prog 193 #[.float .f64 (fl D)] W (Rt (.string (tB D)) W)) at HD
 generalize tT [N,A,B,C,D]=TT at *
 generalize tB N=TN at *
 generalize tB A=TA at *
 generalize tB B=TB at *
 generalize tB C=TC at *
 generalize tB D=TD at *
 generalize fl A=FA at *
 generalize fl B=FB at *
 generalize fl C=FC at *
 generalize fl D=FD at *
 have hS:TsS w N FA FB FC FD (w.alloc (.cells #[N,.complex .f64 FA FB,.complex .f64 FC FD] 41)).drew:=by
  have hA:=(Below.refl w.heap.size w).alloc (Nat.le_refl _) (.cells #[N,.complex .f64 FA FB,.complex .f64 FC FD] 41);have hB:=(Blk.start w [N,.complex .f64 FA FB,.complex .f64 FC FD] 41)
  exact tsS_keep bdq (hB.d3 ⟨by simp,hA,hp.next hA,ht.next hA⟩)
 clear hp ht
 go_enter Tryz.func137,Tryz.ntmps137
 go_wp2_with fail
 refine rgH (fun W=>Cc3 W w.heap.size N (.complex .f64 FA FB) (.complex .f64 FC FD) (TsR w W)) (hS) fun hH=>?_
 clear hS;refine ta 0 hH ?_;refine ta 1 hH ?_;refine ta 3 hH ?_;refine ta 4 hH ?_;refine ta 5 hH ?_;refine ta 7 hH ?_;refine ta 8 hH ?_;refine ta 9 hH ?_;refine ta 11 hH ?_;refine ta 12 hH ?_;refine ta 13 hH ?_;refine ta 15 hH ?_;refine ta 16 hH ?_;refine ta 17 hH ?_;refine rc 2 (HI.out _ hH.2.2.2.2.2.2) ?_
 rintro e u1 ⟨rfl,hb⟩
 refine rp (tsS_keep hb hH) ?_;clear hH hb;intro hH
 refine rc 6 (HA.out _ hH.2.2.2.2.2.1 hH.2.2.2.2.2.2) ?_
 rintro e u2 ⟨rfl,hb⟩
 refine rp (tsS_keep hb hH) ?_;clear hH hb;intro hH
 refine rc 10 (HB.out _ hH.2.2.2.2.2.1 hH.2.2.2.2.2.2) ?_
 rintro e u3 ⟨rfl,hb⟩
 refine rp (tsS_keep hb hH) ?_;clear hH hb;intro hH
 refine rc 14 (HC.out _ hH.2.2.2.2.2.1 hH.2.2.2.2.2.2) ?_
 rintro e u4 ⟨rfl,hb⟩
 refine rp (tsS_keep hb hH) ?_;clear hH hb;intro hH
 refine rc 18 (HD.out _ hH.2.2.2.2.2.1 hH.2.2.2.2.2.2) ?_
 rintro e u5 ⟨rfl,hb⟩
 refine rp (tsS_keep hb hH) ?_;clear hH hb;intro hH
 refine rd1 19 (by kernel_rfl) rfl fun K hK=>?_
 go_simp
 go_wp2_with fail
 refine hK.out _ _ (tsS_keep (bA) hH) ?_;clear hK K hH;intro hH
 try simp only [LAY]
 refine rc 20 (HJ.out _) ?_
 rintro e u6 ⟨rfl,hb⟩
 refine rp (tsS_keep hb hH) ?_;clear hH hb;intro hH
 refine ta 21 hH ?_;refine dnH ?_
 go_wp2
 go_ret
 exact ⟨rfl,hH.2.2.2.2.1⟩
end Go.Proofs.YtemicfjmidohfaaGreatDoor
set_option maxHeartbeats 12800000
namespace Go.Proofs.YtemicfjmidohfaaGreatDoor
open Go Go.Proofs Go.RowKit
theorem fl_zero:fl 0=0:=rfl
theorem tOf_any (c s:Int) (w:World):
  Calls Tryz.prog 278 #[.agg #[c,s]] w
   fun e w'=>e=.returned (.complex .f64 (fl c) (fl s))∧Below w.heap.size w w':=by
 go_enter Tryz.func278,Tryz.ntmps278
 go_wp2
 go_ret
 exact ⟨rfl,bA⟩
theorem may_bd {c s:Int} (h:mayB c s=true):1≤c∧c≤1048576∧1≤s∧s≤1000:=by simpa [mayB] using h
def sqR (c s:Int):Int:=c * c-s * s
def sqI (c s:Int):Int:=c * s+s * c
theorem square_run {c s:Int} (h:mayB c s=true) (W:World):
  (binOp .mul 39 (.complex .f64 (fl c) (fl s)) (.complex .f64 (fl c) (fl s))).run Tryz.prog W=.ok (.complex .f64 (fl (sqR c s)) (fl (sqI c s))) W:=by
 obtain ⟨h1,h2,h3,h4⟩:=may_bd h;exact run_complex_mul W _ _ _ _ _ _ _ (fl_square (by omega) (by omega) h2 h4)
def Has3 (W:World) (b:Nat) (x y z:Value):Prop:=
 W.cell? ⟨b,0,none⟩=some x∧W.cell? ⟨b,1,none⟩=some y∧W.cell? ⟨b,2,none⟩=some z∧W.frozen? ⟨b,0,none⟩=false∧W.frozen? ⟨b,1,none⟩=false∧W.frozen? ⟨b,2,none⟩=false
theorem Blk.has3 {W:World} {b:Nat} {x y z:Value} {t:TypeId} (h:Blk W b [x,y,z] t):Has3 W b x y z:=
 (h.d3 ⟨h.free 0,h.free 1,h.free 2⟩)
theorem st_complex (W:World) (a:Addr) (x y:Nat) (m:Mode):(store a (.complex .f64 x y) m).run Tryz.prog W=stored Tryz.prog W a (.complex .f64 x y) m:=run_store _ W a _ m rfl
theorem one_any (c s:Int) (w:World) (h:mayB c s=true):
  Calls Tryz.prog 257 #[.agg #[c,s]] w
   fun e w'=>e=.returned (.agg #[.int .i64 1,.complex .f64 (fl c) (fl s),.complex .f64 (fl (sqR c s)) (fl (sqI c s))])∧Below w.heap.size w w':=by
 have hq:=fun W=>square_run h W
 have hst:=st_complex;clear h
 go_enter Tryz.func257,Tryz.ntmps257
 go_wp2_with fail;refine (tOf_any _ _ _).mono ?_;rintro e w1 ⟨rfl,hb1⟩
 obtain ⟨c0,c1,c2,f0,f1,f2⟩:=((Blk.startAt (b:=w.heap.size+1) (by simp)).next hb1).has3;have HB:=Lh ((((Below.refl w.heap.size w).alloc (Nat.le_refl _) _).alloc (by simp) _).trans (hb1.mono (by simp; omega)));clear hb1
 go_wp2
 exact bodyPost_ret (by simp [results,Tryz.results257,go_sem,c0,c1,c2]) rfl ⟨rfl,((HB.out.setCell (p:=⟨w.heap.size+1,0,none⟩) (by simp) _).setCell (p:=⟨w.heap.size+1,1,none⟩) (by simp) _).setCell (p:=⟨w.heap.size+1,2,none⟩) (by simp) _⟩
def Sums (a b c d:Int):Prop:=Small a∧Small b∧Small c∧Small d
theorem add_run {a b a' b':Int} (ha:Small a) (hb:Small b) (ha':Small a') (hb':Small b') (h1:Small (a+a')) (h2:Small (b+b')) (W:World):
  (binOp .add 39 (.complex .f64 (fl a) (fl b)) (.complex .f64 (fl a') (fl b'))).run Tryz.prog W=.ok (.complex .f64 (fl (a+a')) (fl (b+b'))) W:=
 run_complex_sum W .add (.inl rfl) _ _ _ _ _ _ _ _ (fl_sum ha hb ha' hb' h1 h2)
theorem and_ok {N a b c d N' a' b' c' d':Int} (w:World) (h1:0≤N) (h2:0≤N') (h3:N+N'≤4096) (hs:Sums a b c d) (hs':Sums a' b' c' d') (hs'':Sums (a+a') (b+b') (c+c') (d+d')):
  Calls Tryz.prog 256 #[.agg #[N,.complex .f64 (fl a) (fl b),.complex .f64 (fl c) (fl d)],.agg #[N',.complex .f64 (fl a') (fl b'),.complex .f64 (fl c') (fl d')]] w
   fun e w'=>e=.returned (.tuple #[.agg #[.int .i64 (N+N'),.complex .f64 (fl (a+a')) (fl (b+b')),.complex .f64 (fl (c+c')) (fl (d+d'))],.int .i64 0])∧Below w.heap.size w w':=by
 have ha:=add_run hs.1 hs.2.1 hs'.1 hs'.2.1 hs''.1 hs''.2.1;have hb:=add_run hs.2.2.1 hs.2.2.2 hs'.2.2.1 hs'.2.2.2 hs''.2.2.1 hs''.2.2.2;have hst:=st_complex;have h4:N≤4096:=by omega
 have h5:N'≤4096:=by omega
 clear hs hs' hs''
 go_enter Tryz.func256,Tryz.ntmps256
 go_wp2
 exact bodyPost_ret (by simp [results,Tryz.results256,go_sem]) rfl ⟨rfl,((bA).alloc (by simp) _).alloc (by simp; omega) _⟩
theorem put_range {N a b c d p q:Int} (w:World) (h:mayB p q=false):
  Calls Tryz.prog 231 #[.agg #[N,.complex .f64 (fl a) (fl b),.complex .f64 (fl c) (fl d)],.agg #[p,q]] w
   fun e w'=>e=.returned (.tuple #[.agg #[.int .i64 0,.complex .f64 0 0,.complex .f64 0 0],.int .i64 2])∧Below w.heap.size w w':=by
 have hst:=st_complex;have HM:=Lh h;clear h
 go_enter Tryz.func231,Tryz.ntmps231
 go_wp2_with fail;refine (check_no _ _ _ HM.out).mono ?_;rintro e w1 ⟨rfl,hb1⟩
 obtain ⟨c0,c1,c2,f0,f1,f2⟩:=((Blk.startAt (b:=w.heap.size+1+1) (by simp)).next hb1).has3;have HB:=Lh (((((Below.refl w.heap.size w).alloc (Nat.le_refl _) _).alloc (by simp) _).alloc (by simp; omega) _).trans (hb1.mono (by simp; omega)));clear hb1
 go_wp2
 exact bodyPost_ret (by simp [results,Tryz.results231,go_sem,c0,c1,c2]) rfl ⟨rfl,((HB.out.setCell (p:=⟨w.heap.size+1+1,0,none⟩) (by simp; omega) _).setCell (p:=⟨w.heap.size+1+1,1,none⟩) (by simp; omega) _).setCell (p:=⟨w.heap.size+1+1,2,none⟩) (by simp; omega) _⟩
def TPutR (w W:World):Prop:=w.heap.size+1+1<W.heap.size∧Below w.heap.size w W
def TPutS (w:World) (N a b c d p q:Int) (W:World):Prop:=
 W.cell? ⟨w.heap.size,0,none⟩=some (.int .i64 N)∧W.cell? ⟨w.heap.size,1,none⟩=some (.complex .f64 (fl a) (fl b))∧W.cell? ⟨w.heap.size,2,none⟩=some (.complex .f64 (fl c) (fl d)) ∧
 W.cell? ⟨w.heap.size+1,0,none⟩=some (.int .i64 p)∧W.cell? ⟨w.heap.size+1,1,none⟩=some (.int .i64 q) ∧
 W.cell? ⟨w.heap.size+1+1,0,none⟩=some (cellAt W ⟨w.heap.size+1+1,0,none⟩)∧W.cell? ⟨w.heap.size+1+1,1,none⟩=some (cellAt W ⟨w.heap.size+1+1,1,none⟩)∧W.cell? ⟨w.heap.size+1+1,2,none⟩=some (cellAt W ⟨w.heap.size+1+1,2,none⟩) ∧
 W.frozen? ⟨w.heap.size+1+1,0,none⟩=false∧W.frozen? ⟨w.heap.size+1+1,1,none⟩=false∧W.frozen? ⟨w.heap.size+1+1,2,none⟩=false∧TPutR w W
theorem tputS_off {w:World} {N a b c d p q:Int} {W W':World} (hb:Off (w.heap.size+1+1) W W') (h:TPutS w N a b c d p q W):TPutS w N a b c d p q W':=by
 obtain ⟨h0,h1,h2,h3,h4,h5,h6,h7,h8,h9,h10,h11,h12⟩:=h;have l0:w.heap.size<W.heap.size:=by omega
 have l1:w.heap.size+1<W.heap.size:=by omega
 have n0:w.heap.size≠w.heap.size+1+1:=by omega
 have n1:w.heap.size+1≠w.heap.size+1+1:=by omega
 have v0:=hb.live ⟨_,0,none⟩ h11 ⟨h5,h8⟩;have v1:=hb.live ⟨_,1,none⟩ h11 ⟨h6,h9⟩;have v2:=hb.live ⟨_,2,none⟩ h11 ⟨h7,h10⟩;exact ⟨(hb.cell ⟨_,0,none⟩ l0 n0).trans h0,(hb.cell ⟨_,1,none⟩ l0 n0).trans h1,(hb.cell ⟨_,2,none⟩ l0 n0).trans h2,
  (hb.cell ⟨_,0,none⟩ l1 n1).trans h3,(hb.cell ⟨_,1,none⟩ l1 n1).trans h4,v0.1,v1.1,v2.1,v0.2,v1.2,v2.2,
  Nat.lt_of_lt_of_le h11 hb.size,hb.below _ _ (by omega) (by omega) h12⟩
theorem tputS_keep {w:World} {N a b c d p q:Int} {W W':World} (hb:Below W.heap.size W W') (h:TPutS w N a b c d p q W):TPutS w N a b c d p q W':=tputS_off (.of hb) h
theorem put_gen {N a b c d p q x k:Int} {y1 y2 z1 z2:Nat} (w:World) (h:mayB p q=true)
  (HA:Hid (∀ W:World,Calls Tryz.prog 256 #[.agg #[N,.complex .f64 (fl a) (fl b),.complex .f64 (fl c) (fl d)],.agg #[.int .i64 1,.complex .f64 (fl p) (fl q),.complex .f64 (fl (sqR p q)) (fl (sqI p q))]] W
   fun e w'=>e=.returned (.tuple #[.agg #[x,.complex .f64 y1 y2,.complex .f64 z1 z2],k])∧Below W.heap.size W w')):
  Calls Tryz.prog 231 #[.agg #[N,.complex .f64 (fl a) (fl b),.complex .f64 (fl c) (fl d)],.agg #[p,q]] w
   fun e w'=>e=.returned (.tuple #[.agg #[x,.complex .f64 y1 y2,.complex .f64 z1 z2],k])∧Below w.heap.size w w':=by
 have hst:=st_complex;have HM:=Lh h;clear h
 go_enter Tryz.func231,Tryz.ntmps231
 go_wp2_with fail;refine (check_yes _ _ _ HM.out).mono ?_;rintro e w1 ⟨rfl,hb1⟩
 have hS:TPutS w N a b c d p q w1.drew:=by
  have hB:Below w.heap.size w w1:=((((Below.refl w.heap.size w).alloc (Nat.le_refl _) _).alloc (by simp) _).alloc (by simp; omega) _).trans (hb1.mono (by simp; omega));have hz:w.heap.size+1+1<w1.heap.size:=by have:=hb1.size; simp at this; omega
  obtain ⟨t0,t1,t2,_⟩:=((((Blk.startAt (b:=w.heap.size) rfl).alloc _).alloc _).next hb1).has3;have hI:=(((Blk.startAt (b:=w.heap.size+1) (by simp)).alloc _).next hb1)
  obtain ⟨r0,r1,r2,r3,r4,r5⟩:=((Blk.startAt (b:=w.heap.size+1+1) (by simp)).next hb1).has3;exact tputS_keep bdq ⟨t0,t1,t2,hI.d2 ⟨cellAt_of r0,cellAt_of r1,cellAt_of r2,r3,r4,r5,hz,hB⟩⟩
 clear hb1;go_wp2_with fail
 go_region_held3 (fun W=>Ce W w.heap.size 0 N∧Ce W w.heap.size 1 (.complex .f64 (fl a) (fl b))∧Ce W w.heap.size 2 (.complex .f64 (fl c) (fl d)) ∧
   W.cell? ⟨w.heap.size+1,0,none⟩=some (.int .i64 p)∧W.cell? ⟨w.heap.size+1,1,none⟩=some (.int .i64 q) ∧
   W.cell? ⟨w.heap.size+1+1,0,none⟩=some (cellAt W ⟨w.heap.size+1+1,0,none⟩)∧W.cell? ⟨w.heap.size+1+1,1,none⟩=some (cellAt W ⟨w.heap.size+1+1,1,none⟩)∧W.cell? ⟨w.heap.size+1+1,2,none⟩=some (cellAt W ⟨w.heap.size+1+1,2,none⟩) ∧
   W.frozen? ⟨w.heap.size+1+1,0,none⟩=false∧W.frozen? ⟨w.heap.size+1+1,1,none⟩=false∧W.frozen? ⟨w.heap.size+1+1,2,none⟩=false∧TPutR w W)
  (first | exact hS | (refine tputS_off (N:=N) (a:=a) (b:=b) (c:=c) (d:=d) (p:=p) (q:=q) (Off.store3 _ _ _ _ _) ?_; assumption) | (apply tputS_keep (N:=N) (a:=a) (b:=b) (c:=c) (d:=d) (p:=p) (q:=q); assumption; assumption))
  (first | (go_at_call 257; refine (one_any p q _ HM.out).mono ?_; rintro e w' ⟨rfl,hb⟩) | (go_at_call 256; refine (HA.out _).mono ?_; rintro e w' ⟨rfl,hb⟩))
 have hT:TPutS w N a b c d p q w':=tputS_keep hb (tputS_keep (by assumption) hS);obtain ⟨_,_,_,_,_,c0,c1,c2,f0,f1,f2,_,hB⟩:=hT;have HB:=Lh hB;clear hB hS hb
 go_wp2
 exact bodyPost_ret (by simp [results,Tryz.results231,go_sem,c0,c1,c2]) rfl ⟨rfl,((HB.out.setCell (p:=⟨w.heap.size+1+1,0,none⟩) (by simp; omega) _).setCell (p:=⟨w.heap.size+1+1,1,none⟩) (by simp; omega) _).setCell (p:=⟨w.heap.size+1+1,2,none⟩) (by simp; omega) _⟩
theorem put_ok {N a b c d p q:Int} (w:World) (h:mayB p q=true) (h1:0≤N) (h2:N≤4095) (hs:Sums a b c d) (hs':Sums p q (sqR p q) (sqI p q)) (hs'':Sums (a+p) (b+q) (c+sqR p q) (d+sqI p q)):
  Calls Tryz.prog 231 #[.agg #[N,.complex .f64 (fl a) (fl b),.complex .f64 (fl c) (fl d)],.agg #[p,q]] w
   fun e w'=>e=.returned (.tuple #[.agg #[.int .i64 (N+1),.complex .f64 (fl (a+p)) (fl (b+q)),.complex .f64 (fl (c+sqR p q)) (fl (d+sqI p q))],.int .i64 0])∧Below w.heap.size w w':=
 put_gen w h (Lh fun w=>and_ok (N:=N) (N':=1) w h1 (by omega) (by omega) hs hs' hs'')
end Go.Proofs.YtemicfjmidohfaaGreatDoor
namespace Go.Proofs.YtemicfjmidohfaaGreatDoor
open Go Go.Proofs Go.RowKit
theorem sq_bd {p q:Int} (h:mayB p q=true):1≤p∧p≤1048576∧1≤q∧q≤1000 ∧ -1000000≤sqR p q∧sqR p q≤1099511627776∧2≤sqI p q∧sqI p q≤2097152000:=by
 obtain ⟨h1,h2,h3,h4⟩:=may_bd h;have haa:p * p≤1048576 * 1048576:=Int.mul_le_mul h2 h2 (by omega) (by omega);have hbb:q * q≤1000 * 1000:=Int.mul_le_mul h4 h4 (by omega) (by omega);have hab:p * q≤1048576 * 1000:=Int.mul_le_mul h2 h4 (by omega) (by omega);have paa:=Int.mul_pos (show 0<p by omega) (show 0<p by omega);have pbb:=Int.mul_pos (show 0<q by omega) (show 0<q by omega);have pab:=Int.mul_pos (show 0<p by omega) (show 0<q by omega);have e:q * p=p * q:=Int.mul_comm _ _;unfold sqR sqI
 rw [e];omega
theorem small_of {n:Int} (h1 : -4503599627370496≤n) (h2:n≤4503599627370496):Small n:=by
 unfold Small
 have:(2:Nat) ^ 53=9007199254740992:=by decide
 omega
theorem sums_of {p q:Int} (h:mayB p q=true):Sums p q (sqR p q) (sqI p q):=by
 obtain ⟨h1,h2,h3,h4,h5,h6,h7,h8⟩:=sq_bd h;exact ⟨small_of (by omega) (by omega),small_of (by omega) (by omega),small_of (by omega) (by omega),small_of (by omega) (by omega)⟩
theorem sums_zero:Sums 0 0 0 0:=⟨small_of (by omega) (by omega),small_of (by omega) (by omega),small_of (by omega) (by omega),small_of (by omega) (by omega)⟩
theorem put_first {p q:Int} (w:World) (h:mayB p q=true):
  Calls Tryz.prog 231 #[.agg #[.int .i64 0,.complex .f64 0 0,.complex .f64 0 0],.agg #[p,q]] w
   fun e w'=>e=.returned (.tuple #[.agg #[.int .i64 1,.complex .f64 (fl p) (fl q),.complex .f64 (fl (sqR p q)) (fl (sqI p q))],.int .i64 0])∧Below w.heap.size w w':=by
 have hp:=put_ok (N:=0) (a:=0) (b:=0) (c:=0) (d:=0) w h (by omega) (by omega) sums_zero (sums_of h) (by simpa using sums_of h);rw [fl_zero] at hp
 simpa using hp
def sm (f:Int×Int→Int) (l:List (Int×Int)):Int:=(l.map f).sum
theorem sm_append (f:Int×Int→Int) (l m:List (Int×Int)):sm f (l++m)=sm f l+sm f m:=by
 unfold sm; rw [List.map_append,List.sum_append_int]
theorem sm_one (f:Int×Int→Int) (x:Int×Int):sm f [x]=f x:=by unfold sm; simp
theorem sm_bd (f:Int×Int→Int) (B:Int) (l:List (Int×Int)) (h:∀ x∈l,-B≤f x∧f x≤B) : -(l.length * B)≤sm f l∧sm f l≤l.length * B:=by
 induction l with
 | nil=>simp [sm]
 | cons x l ih=>
  have h1:=h x (List.mem_cons_self ..);have h2:=ih fun y hy=>h y (List.mem_cons_of_mem _ hy)
  have e:sm f (x::l)=f x+sm f l:=by unfold sm; simp
  have e2:((x::l).length:Int) * B=l.length * B+B:=by
   rw [List.length_cons,Int.natCast_add,Int.add_mul]; simp
  rw [e,e2]; omega
def nL (l:List (Int×Int)):Int:=l.length
def cL (l:List (Int×Int)):Int:=sm (fun x=>x.1) l
def sL (l:List (Int×Int)):Int:=sm (fun x=>x.2) l
def rL (l:List (Int×Int)):Int:=sm (fun x=>sqR x.1 x.2) l
def iL (l:List (Int×Int)):Int:=sm (fun x=>sqI x.1 x.2) l
def Mays (l:List (Int×Int)):Prop:=∀ x∈l,mayB x.1 x.2=true
theorem sums_L {l:List (Int×Int)} (h:Mays l) (hl:l.length≤4096):Sums (cL l) (sL l) (rL l) (iL l):=by
 have k1:=sm_bd (fun x=>x.1) 1048576 l fun x hx=>by have:=sq_bd (h x hx); constructor <;> omega
 have k2:=sm_bd (fun x=>x.2) 1048576 l fun x hx=>by have:=sq_bd (h x hx); constructor <;> omega
 have k3:=sm_bd (fun x=>sqR x.1 x.2) 1099511627776 l fun x hx=>by have:=sq_bd (h x hx); constructor <;> omega
 have k4:=sm_bd (fun x=>sqI x.1 x.2) 1099511627776 l fun x hx=>by have:=sq_bd (h x hx); constructor <;> omega
 unfold cL sL rL iL
 exact ⟨small_of (by omega) (by omega),small_of (by omega) (by omega),small_of (by omega) (by omega),small_of (by omega) (by omega)⟩
theorem nL_snoc (l:List (Int×Int)) (x:Int×Int):nL (l++[x])=nL l+1:=by unfold nL; simp
theorem cL_snoc (l:List (Int×Int)) (x:Int×Int):cL (l++[x])=cL l+x.1:=by unfold cL; rw [sm_append,sm_one]
theorem sL_snoc (l:List (Int×Int)) (x:Int×Int):sL (l++[x])=sL l+x.2:=by unfold sL; rw [sm_append,sm_one]
theorem rL_snoc (l:List (Int×Int)) (x:Int×Int):rL (l++[x])=rL l+sqR x.1 x.2:=by unfold rL; rw [sm_append,sm_one]
theorem iL_snoc (l:List (Int×Int)) (x:Int×Int):iL (l++[x])=iL l+sqI x.1 x.2:=by unfold iL; rw [sm_append,sm_one]
theorem Mays.snoc {l:List (Int×Int)} {x:Int×Int} (h:Mays l) (hx:mayB x.1 x.2=true):Mays (l++[x]):=fun y hy=>by
 rcases List.mem_append.1 hy with hy | hy
 ·exact h y hy
 ·simp at hy; subst hy; exact hx
theorem put_L {l:List (Int×Int)} {x:Int×Int} (w:World) (h:Mays l) (hx:mayB x.1 x.2=true) (hl:l.length≤4095):
  Calls Tryz.prog 231 #[.agg #[.int .i64 (nL l),.complex .f64 (fl (cL l)) (fl (sL l)),.complex .f64 (fl (rL l)) (fl (iL l))],.agg #[x.1,x.2]] w
   fun e w'=>e=.returned (.tuple #[.agg #[.int .i64 (nL (l++[x])),.complex .f64 (fl (cL (l++[x]))) (fl (sL (l++[x]))),.complex .f64 (fl (rL (l++[x]))) (fl (iL (l++[x])))],.int .i64 0])∧Below w.heap.size w w':=by
 have hs:=sums_L h (by omega);have hs':=sums_L (h.snoc hx) (by simp; omega);rw [nL_snoc,cL_snoc,sL_snoc,rL_snoc,iL_snoc];rw [cL_snoc,sL_snoc,rL_snoc,iL_snoc] at hs';exact put_ok w hx (by unfold nL; omega) (by unfold nL; omega) hs (sums_of hx) hs'
end Go.Proofs.YtemicfjmidohfaaGreatDoor
