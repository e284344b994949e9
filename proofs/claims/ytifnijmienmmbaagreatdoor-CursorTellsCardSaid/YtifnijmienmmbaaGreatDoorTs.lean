import Derived.Test.YtifnijmienmmbaaGreatDoorFb
set_option maxHeartbeats 12800000
namespace Go.Proofs.YtifnijmienmmbaaGreatDoor
open Go Go.Proofs Go.RowKit
def tB (n:Int):ByteArray:=⟨(Lib.itoa n).toArray⟩
def tL (l:List Int):List UInt8:=Lib.join (l.map Lib.itoa) [32]
def tT (l:List Int):ByteArray:=⟨(tL l).toArray⟩
theorem itoa_short {n:Int} (h:Small n):(Lib.itoa n).length≤21:=by
 unfold Small at h
 have e:(2:Nat) ^ 53=9007199254740992:=by decide
 exact Lib.itoa_length_le n (by omega) (by omega)
theorem tB_size {n:Int} (h:Small n):(tB n).size≤21:=itoa_short h
def TsR (w W:World):Prop:=w.heap.size<W.heap.size∧Below w.heap.size w W∧Pows W∧Tab W
def TsS (w:World) (N:Int) (FA FB FC FD:Nat) (W:World):Prop:=
 W.cell? ⟨w.heap.size,0,none⟩=some (.int .i64 N)∧W.cell? ⟨w.heap.size,1,none⟩=some (.complex .f64 FA FB)∧W.cell? ⟨w.heap.size,2,none⟩=some (.complex .f64 FC FD)∧TsR w W
theorem tsS_keep {w:World} {N:Int} {FA FB FC FD:Nat} {W W':World} (hb:Below W.heap.size W W') (h:TsS w N FA FB FC FD W):TsS w N FA FB FC FD W':=by
 obtain ⟨h0,h1,h2,h3,h4,h5,h6⟩:=h;exact ⟨(hb.cell (p:=⟨_,0,none⟩) h3).trans h0,(hb.cell (p:=⟨_,1,none⟩) h3).trans h1,(hb.cell (p:=⟨_,2,none⟩) h3).trans h2,Nat.lt_of_lt_of_le h3 hb.size,h4.trans (hb.mono h4.size),h5.next hb,h6.next hb⟩
theorem join_five (l:List Int) (hl:l.length=5) (hs:∀ n∈l,Small n) (w:World):
  Calls Tryz.prog 93 #[.slice (some ⟨w.heap.size,0,none⟩) 5 5,.string ⟨#[32]⟩] (w.alloc (.cells ⟨l.map fun n=>.string (tB n)⟩ 9)) fun e w'=>e=.returned (.string (tT l))∧Below (w.alloc (.cells ⟨l.map fun n=>.string (tB n)⟩ 9)).heap.size (w.alloc (.cells ⟨l.map fun n=>.string (tB n)⟩ 9)) w':=by
 have hm:(l.map tB).map (fun x:ByteArray=>x.data.toList)=l.map Lib.itoa:=by rw [List.map_map]; rfl
 have hlen:(Lib.join ((l.map tB).map (·.data.toList)) ((⟨#[32]⟩:ByteArray).data.toList)).length≤140737488355328:=by
  rw [hm];obtain ⟨a,b,c,d,e,rfl⟩:∃ a b c d e,l=[a,b,c,d,e]:=by
   match l,hl with
   | [a,b,c,d,e],_=>exact ⟨a,b,c,d,e,rfl⟩
  have ha:=itoa_short (hs a (by simp)); have hb:=itoa_short (hs b (by simp)); have hc:=itoa_short (hs c (by simp)); have hd:=itoa_short (hs d (by simp)); have he:=itoa_short (hs e (by simp));simp only [List.map_cons,List.map_nil,Lib.join_cons,Lib.joinTail,List.flatten_cons,List.flatten_nil,List.length_append,List.length_cons,List.length_nil]
  have e1:((⟨#[32]⟩:ByteArray).data.toList).length=1:=rfl;omega
 have h:=Tryz.strings_Join w.heap.size 0 5 (l.map tB) ⟨#[32]⟩ (w.alloc (.cells ⟨l.map fun n=>.string (tB n)⟩ 9)) ?_ (by simp) (by simp [hl]) (by simp [hl]) hlen
 ·rw [hm,List.length_map,hl] at h
  exact h
 ·intro j x hj
  rw [Nat.zero_add];obtain ⟨n,hn,rfl⟩:=List.mem_map.1 (List.mem_of_getElem? hj);refine (Blk.start w (l.map fun n=>.string (tB n)) 9).cell j ?_;rw [List.getElem?_map] at hj ⊢
  cases h:l[j]? with
  | none=>rw [h] at hj; cases hj
  | some y=>rw [h] at hj; simp only [Option.map_some,Option.some.injEq] at hj ⊢; rw [hj]
theorem string_any {N A B C D:Int} (hN:0≤N) (hN2:N≤4096) (hA:Small A) (hB:Small B) (hC:Small C) (hD:Small D) (w:World) (hp:Pows w) (ht:Tab w):
  Calls Tryz.prog 56 #[.agg #[N,.complex .f64 (fl A) (fl B),.complex .f64 (fl C) (fl D)]] w
   fun e w'=>e=.returned (.string (tT [N,A,B,C,D]))∧Below w.heap.size w w':=by
 have hSN:Small N:=by
  unfold Small; have e:(2:Nat) ^ 53=9007199254740992:=by decide
  omega
 have HJ:=Lh (fun W=>join_five [N,A,B,C,D] rfl (by intro n hn; simp only [List.mem_cons,List.not_mem_nil,or_false] at hn; rcases hn with rfl | rfl | rfl | rfl | rfl <;> assumption) W);have HI:=Lh (fun (W:World) (h:Tab W)=>show Calls Tryz.prog 94 #[N] W fun e w'=>e=.returned (.string (tB N))∧Below W.heap.size W w' from by
  have:=itoa_any N hN (by omega) W h;rw [show digB N=tB N from by unfold digB tB Lib.itoa; rw [if_neg (by omega)]] at this;exact this)
 have HA:=Lh (fun W a0 a1=>tdig_any A hA W a0 a1);have HB:=Lh (fun W a0 a1=>tdig_any B hB W a0 a1);have HC:=Lh (fun W a0 a1=>tdig_any C hC W a0 a1);have HD:=Lh (fun W a0 a1=>tdig_any D hD W a0 a1);clear hA hB hC hD hSN
 change Hid (∀ (W:World),Calls Tryz.prog 93 #[.slice (some ⟨W.heap.size,0,none⟩) 5 5,.string ⟨#[32]⟩] (W.alloc (.cells #[.string (tB N),.string (tB A),.string (tB B),.string (tB C),.string (tB D)] 9)) fun e w'=>e=.returned (.string (tT [N,A,B,C,D]))∧Below (W.alloc (.cells #[.string (tB N),.string (tB A),.string (tB B),.string (tB C),.string (tB D)] 9)).heap.size (W.alloc (.cells #[.string (tB N),.string (tB A),.string (tB B),.string (tB C),.string (tB D)] 9)) w') at HJ
 change Hid (∀ (W:World),Pows W→Tab W→Calls Tryz.prog 95 #[.float .f64 (fl A)] W fun e w'=>e=.returned (.string (tB A))∧Below W.heap.size W w') at HA
 change Hid (∀ (W:World),Pows W→Tab W→Calls Tryz.prog 95 #[.float .f64 (fl B)] W fun e w'=>e=.returned (.string (tB B))∧Below W.heap.size W w') at HB
 change Hid (∀ (W:World),Pows W→Tab W→Calls Tryz.prog 95 #[.float .f64 (fl C)] W fun e w'=>e=.returned (.string (tB C))∧Below W.heap.size W w') at HC
 change Hid (∀ (W:World),Pows W→Tab W→Calls Tryz.prog 95 #[.float .f64 (fl D)] W fun e w'=>e=.returned (.string (tB D))∧Below W.heap.size W w') at HD
 generalize tT [N,A,B,C,D]=TT at *
 generalize tB N=TN at *
 generalize tB A=TA at *
 generalize tB B=TB at *
 generalize tB C=TC at *
 generalize tB D=TD at *
 generalize fl A=FA at *
 generalize fl B=FB at *
 generalize fl C=FC at *
 generalize fl D=FD at *
 have hS:TsS w N FA FB FC FD (w.alloc (.cells #[N,.complex .f64 FA FB,.complex .f64 FC FD] 39)).drew:=by
  have hA:=(Below.refl w.heap.size w).alloc (Nat.le_refl _) (.cells #[N,.complex .f64 FA FB,.complex .f64 FC FD] 39);have hB:=(Blk.start w [N,.complex .f64 FA FB,.complex .f64 FC FD] 39)
  exact tsS_keep bdq (hB.d3 ⟨by simp,hA,hp.next hA,ht.next hA⟩)
 clear hp ht
 go_enter Tryz.func56,Tryz.ntmps56
 go_wp2_with fail
 refine rgH (fun W=>Cc3 W w.heap.size N (.complex .f64 FA FB) (.complex .f64 FC FD) (TsR w W)) (hS) fun hH=>?_
 clear hS;refine tq 0 (.pointer (some ⟨w.heap.size,0,none⟩)) hH ?_;refine tq 1 N hH ?_;refine tq 3 (.pointer (some ⟨w.heap.size,1,none⟩)) hH ?_;refine tq 4 (.complex .f64 FA FB) hH ?_;refine tq 5 (.float .f64 FA) hH ?_;refine tq 7 (.pointer (some ⟨w.heap.size,1,none⟩)) hH ?_;refine tq 8 (.complex .f64 FA FB) hH ?_;refine tq 9 (.float .f64 FB) hH ?_;refine tq 11 (.pointer (some ⟨w.heap.size,2,none⟩)) hH ?_;refine tq 12 (.complex .f64 FC FD) hH ?_;refine tq 13 (.float .f64 FC) hH ?_;refine tq 15 (.pointer (some ⟨w.heap.size,2,none⟩)) hH ?_;refine tq 16 (.complex .f64 FC FD) hH ?_;refine tq 17 (.float .f64 FD) hH ?_;refine rd1 2 (by kernel_rfl) rfl fun K hK=>?_
 go_simp
 refine (HI.out _ hH.2.2.2.2.2.2).mono ?_
 rintro e u1 ⟨rfl,hb⟩
 go_wp2_with fail
 refine hK.out _ _ (tsS_keep hb hH) ?_;clear hK K hH hb;intro hH
 try simp only [LAY]
 refine rd1 6 (by kernel_rfl) rfl fun K hK=>?_
 go_simp
 refine (HA.out _ hH.2.2.2.2.2.1 hH.2.2.2.2.2.2).mono ?_
 rintro e u2 ⟨rfl,hb⟩
 go_wp2_with fail
 refine hK.out _ _ (tsS_keep hb hH) ?_;clear hK K hH hb;intro hH
 try simp only [LAY]
 refine rd1 10 (by kernel_rfl) rfl fun K hK=>?_
 go_simp
 refine (HB.out _ hH.2.2.2.2.2.1 hH.2.2.2.2.2.2).mono ?_
 rintro e u3 ⟨rfl,hb⟩
 go_wp2_with fail
 refine hK.out _ _ (tsS_keep hb hH) ?_;clear hK K hH hb;intro hH
 try simp only [LAY]
 refine rd1 14 (by kernel_rfl) rfl fun K hK=>?_
 go_simp
 refine (HC.out _ hH.2.2.2.2.2.1 hH.2.2.2.2.2.2).mono ?_
 rintro e u4 ⟨rfl,hb⟩
 go_wp2_with fail
 refine hK.out _ _ (tsS_keep hb hH) ?_;clear hK K hH hb;intro hH
 try simp only [LAY]
 refine rd1 18 (by kernel_rfl) rfl fun K hK=>?_
 go_simp
 refine (HD.out _ hH.2.2.2.2.2.1 hH.2.2.2.2.2.2).mono ?_
 rintro e u5 ⟨rfl,hb⟩
 go_wp2_with fail
 refine hK.out _ _ (tsS_keep hb hH) ?_;clear hK K hH hb;intro hH
 try simp only [LAY]
 refine rd1 19 (by kernel_rfl) rfl fun K hK=>?_
 go_simp
 go_wp2_with fail
 refine hK.out _ _ (tsS_keep (bA) hH) ?_;clear hK K hH;intro hH
 try simp only [LAY]
 refine rd1 20 (by kernel_rfl) rfl fun K hK=>?_
 go_simp
 refine (HJ.out _).mono ?_
 rintro e u6 ⟨rfl,hb⟩
 go_wp2_with fail
 refine hK.out _ _ (tsS_keep hb hH) ?_;clear hK K hH hb;intro hH
 try simp only [LAY]
 refine tq 21 (.string TT) hH ?_;refine dnH ?_
 go_wp2
 go_ret
 exact ⟨rfl,hH.2.2.2.2.1⟩
end Go.Proofs.YtifnijmienmmbaaGreatDoor
