import Derived.Test.YtemicfjmidohfaaGreatDoorWa
import Derived.Test.YtemicfjmidohfaaGreatDoorRo
import Derived.Laws.MakeOwn
set_option maxRecDepth 100000
set_option maxHeartbeats 12800000
namespace Go.Proofs.YtemicfjmidohfaaGreatDoor
open Go Go.Proofs Go.RowKit
variable {X:Nat→Prop} {w W W':World} {d:Nat} {cs ds es zs:List Value} {b b':Brd}
theorem at_nat {k:Nat} (hk:k<b.st.length):b.at (k:Int)=b.st[k]:=by
 unfold Brd.at; rw [Int.toNat_natCast,List.getD_eq_getElem?_getD,List.getElem?_eq_getElem hk]; rfl
theorem IsBd.at (h:IsBd W X b cs) {k:Nat} (hk:k<b.st.length):∃ j q,StA X W cs k (b.at k) j q:=by rw [at_nat hk]; exact h.st k hk
theorem lo1 {a k l:Int} (h : -9223372036854775808≤l∧l≤9223372036854775807):LocOk [⟨a,k,l⟩]:=fun x hx=>by obtain rfl:=List.mem_singleton.1 hx; exact h
theorem lo2 {a k l:Int} {L:List Ac} (h : -9223372036854775808≤l∧l≤9223372036854775807) (hL:LocOk L):LocOk (⟨a,k,l⟩::L):=fun x hx=>by
 rcases List.mem_cons.1 hx with rfl | hx
 ·exact h
 ·exact hL x hx
theorem IsBd.set1 {k i:Nat} {x:Sto} {j:Int} {q v:Value} (h:IsBd W X b cs) (hk:k<b.st.length) (hi:i<4) (hv:v.oneCell'=true) (hx:StA X W (cs.set (k * 4+i) v) k x j q):IsBd W X (b.set k x) (cs.set (k * 4+i) v):=
 h.stripe hk (len_set _ _ _) (one_set h.one _ hv) (fun p hp=>get_off (by omega)) hx
theorem k32 {k:Nat} (h:IsBd W X b cs) (hk:k<b.st.length):k * 4+4≤cs.length:=by have:=h.s8; have:=h.len; unfold nBd at this; omega
theorem StA.lock {k:Nat} {x:Sto} {j t:Int} {q:Value} (h:StA X W cs k x j q) (hl:k * 4+4≤cs.length) (ht:0≤t):StA X W ((cs.set (k * 4) (.bool true)).set (k * 4+2) t) k { x with h:=t } t q:=
 ⟨by rw [get_off (by omega),List.getElem?_set_self (by omega),decide_eq_true (show 0≤({ x with h:=t }:Sto).h from ht)],by rw [get_off (by omega),get_off (by omega)]; exact h.c1,by rw [List.getElem?_set_self (by rw [List.length_set]; omega)],by rw [get_off (by omega),get_off (by omega)]; exact h.c3,fun _=>rfl,fun e=>absurd ht (by show ¬ 0≤t; have:t<0:=e; omega),h.q⟩
theorem StA.unlock {k:Nat} {x:Sto} {j:Int} {q:Value} (h:StA X W cs k x j q) (hl:k * 4+4≤cs.length):StA X W (cs.set (k * 4+0) (.bool false)) k { x with h := -1 } j q:=
 ⟨by rw [Nat.add_zero,List.getElem?_set_self (by omega)]; rfl,by rw [get_off (by omega)]; exact h.c1,by rw [get_off (by omega)]; exact h.c2,by rw [get_off (by omega)]; exact h.c3,fun e=>absurd (show (0:Int) ≤ -1 from e) (by decide),fun _=>rfl,h.q⟩
theorem StA.seal {k:Nat} {x:Sto} {j:Int} {q:Value} (h:StA X W cs k x j q) (hl:k * 4+4≤cs.length):StA X W (cs.set (k * 4+1) (.bool true)) k { x with z:=true } j q:=
 ⟨by rw [get_off (by omega)]; exact h.c0,by rw [List.getElem?_set_self (by omega)],by rw [get_off (by omega)]; exact h.c2,by rw [get_off (by omega)]; exact h.c3,h.h0,h.h1,h.q⟩
theorem StA.queue {k:Nat} {x:Sto} {j:Int} {q v:Value} {l:List QEn} (h:StA X W cs k x j q) (hl:k * 4+4≤cs.length) (hq:So X ENT 13 entL W v l):StA X W (cs.set (k * 4+3) v) k { x with q:=l } j v:=
 ⟨by rw [get_off (by omega)]; exact h.c0,by rw [get_off (by omega)]; exact h.c1,by rw [get_off (by omega)]; exact h.c2,by rw [List.getElem?_set_self (by omega)],h.h0,h.h1,hq⟩
theorem Bs.put2 (h:Bs X w d ds b W) (i j:Nat) (u v:Value) (hI:IsBd W X b' ((ds.set i u).set j v)):Bs X w d ((ds.set i u).set j v) b' ((W.setCell ⟨w.heap.size,i,none⟩ u).setCell ⟨w.heap.size,j,none⟩ v):=by
 obtain ⟨z,h1,h2⟩:=h.b1;have hd:w.heap.size+d≠w.heap.size:=by have:=h.dp; omega
 exact ⟨h.dp,(h.bel.setCell (p:=⟨w.heap.size,i,none⟩) (Nat.le_refl _) _).setCell (p:=⟨w.heap.size,j,none⟩) (Nat.le_refl _) _,(h.b0.set i u).set j v,⟨z,h1,(h2.other ⟨w.heap.size,i,none⟩ hd u).other ⟨w.heap.size,j,none⟩ hd v⟩,(hI.setI h.b0 bd_not [u] i).setI (h.b0.set i u) bd_not [v] j⟩
theorem Bs.res (h:Bs X w d ds b W) (hI:IsBd W X b' es) {W2:World} (e:W2=setN W (w.heap.size+d) 0 es):Blk W2 (w.heap.size+d) es BDT∧Below w.heap.size w W2∧IsBd W2 X b' es:=by
 obtain ⟨z,h1,h2⟩:=h.b1;rw [e]; exact ⟨(h.all1 hI.len).2,(h.all1 hI.len).1.bel,hI.setI h2 bd_not _ _⟩
theorem has_any (k:Nat) (w:World) (h:IsBd w X b cs) (hk:k<b.st.length):Calls Tryz.prog 77 #[.agg cs.toArray,.int .i64 (k:Int)] w (Rt (.bool true) w):=by
 have HB:=Lh (And.intro (Blk.start w cs BDT) (bA (w:=w) (o:=.cells ⟨cs⟩ BDT)));have HC:=Lh h.pl.1;have hk':(k:Int)<(b.st.length:Int):=by omega
 clear h hk
 go_enter Tryz.func77,Tryz.ntmps77
 go_upto_region 1 with fail
 generalize w.alloc _=W2 at *
 have q0:=HB.out.1.cell 32 HC.out;go_wp2_with fail
 go_ret
 exact ⟨rfl,HB.out.2⟩
theorem holder_ok (b:Brd) (s:Int) (h0:0≤s) (h1:s<b.st.length):BAsk 29 [s] b fun w e w'=>e=.returned (.int .i64 (b.at s).h)∧Below w.heap.size w w':=by
 intro n X cs w hO hn hI
 obtain ⟨k,rfl⟩:∃ k:Nat,s=(k:Int):=⟨s.toNat,by omega⟩
 have hk:k<b.st.length:=by omega
 have hk8:k<8:=Nat.lt_of_lt_of_le hk hI.s8;obtain ⟨j,q,hS⟩:=hI.at hk;have HB:=Lh (And.intro (Blk.start w cs BDT) (And.intro (bA (w:=w) (o:=.cells ⟨cs⟩ BDT)) hI.len));have HH:=Lh (fun W (hb:Below w.heap.size w W)=>has_any k W (hI.next hb) hk);have HS:=Lh hS;clear hO hn hI h0 h1 hS hk
 show Calls Tryz.prog 29 #[.agg cs.toArray,.int .i64 (k:Int)] w _
 go_enter Tryz.func29,Tryz.ntmps29
 go_upto_region 1 with fail
 generalize w.alloc _=W2 at *
 obtain ⟨x,hx⟩:∃ x,(b.at k).h=x:=⟨_,rfl⟩
 by_cases hh:0≤x
 ·have HC:=Lh (show cs[k * 4]? = some (.bool true)∧cs[k * 4+2]? = some (.int .i64 x) from ⟨by rw [HS.out.c0,hx,decide_eq_true hh],by rw [HS.out.c2,HS.out.h0 (by rw [hx]; exact hh),hx]⟩)
  clear HS;go_wp2_with (first
   | (refine kld (n:=nBd) HB.out.1 HB.out.2.2 ?_)
   | (go_at_call 77; refine (HH.out _ HB.out.2.1).mono ?_; rintro e w3 ⟨rfl,hb3⟩; have H3:=Lh (And.intro (HB.out.1.next hb3) (HB.out.2.1.trans (hb3.mono HB.out.2.1.size))); clear hb3 HB HH; have q0:=H3.out.1.cell _ HC.out.1; have q2:=H3.out.1.cell _ HC.out.2))
  go_ret
  exact ⟨by rw [hx]; rfl,H3.out.2⟩
 ·have HC:=Lh (show cs[k * 4]? = some (.bool false)∧x = -1 from ⟨by rw [HS.out.c0,hx,decide_eq_false hh],by rw [←hx]; exact HS.out.h1 (by rw [hx]; omega)⟩)
  clear HS;go_wp2_with (first
   | (refine kld (n:=nBd) HB.out.1 HB.out.2.2 ?_)
   | (go_at_call 77; refine (HH.out _ HB.out.2.1).mono ?_; rintro e w3 ⟨rfl,hb3⟩; have H3:=Lh (And.intro (HB.out.1.next hb3) (HB.out.2.1.trans (hb3.mono HB.out.2.1.size))); clear hb3 HB HH; have q0:=H3.out.1.cell _ HC.out.1))
  go_ret
  exact ⟨by rw [hx,HC.out.2]; rfl,H3.out.2⟩
theorem lock_ok (b:Brd) (t s:Int) (h0:0≤s) (h1:s<b.st.length):BCall 30 [s] b (lockB b t s) t fun v=>.tuple #[v,.bool (decide ((b.at s).h<0))]:=by
 intro n X cs w hO hn hI hX t0 t1
 obtain ⟨k,rfl⟩:∃ k:Nat,s=(k:Int):=⟨s.toNat,by omega⟩
 have hk:k<b.st.length:=by omega
 have hk8:k<8:=Nat.lt_of_lt_of_le hk hI.s8;have HP:=Lh (And.intro hI (And.intro hk (And.intro t0 (show b.tr.length≤900000 from by have:=hO.tr; omega))));have HH:=Lh (fun W (hb:Below w.heap.size w W)=>has_any k W (hI.next hb) hk);have HL:=Lh hI.len;clear hO hn hI hX h0 h1 hk t0 t1
 show Calls Tryz.prog 30 #[.agg cs.toArray,t,.int .i64 (k:Int)] w _
 go_enter Tryz.func30,Tryz.ntmps30
 go_upto_region 1 with fail
 generalize hW2:World.alloc (World.alloc w _) _=W2;have H2:=Lh (show Bs X w 1 cs b W2 from by rw [←hW2]; exact Bs.of (Bq.start w _ zBd) rfl (HP.out.1.next (Bq.start w _ zBd).bel));clear hW2;by_cases hh:0≤(b.at k).h
 ·obtain ⟨j,q,hS⟩:=H2.out.ib.at HP.out.2.1
  have HC:=Lh (show cs[k * 4]? = some (.bool true) from by rw [hS.c0,decide_eq_true hh]);have HD:=Lh (show lockB b t k=b∧decide ((b.at k).h<0)=false from ⟨if_pos hh,decide_eq_false (by omega)⟩);clear hS hh;go_wp2_with (first
   | (refine kld (n:=nBd) H2.out.b0 HL.out ?_)
   | (go_at_call 77; refine (HH.out _ H2.out.bel).mono ?_; rintro e w3 ⟨rfl,hb3⟩; have H3:=Lh (H2.out.next hb3); clear hb3 H2 HH; have q0:=H3.out.b0.cell _ HC.out)
   | (refine kld (n:=nBd) H3.out.b0 HL.out ?_)
   | (obtain ⟨zs,hz,hB⟩:=H3.out.b1; refine kst (n:=nBd) hB hz HL.out H3.out.ib.one (fun w4 hw4=>?_)))
  have H4:=H3.out.res H3.out.ib hw4.out;exact bodyPost_ret (res_ct (n:=nBd) H4.1 HL.out) rfl ⟨H4.2.1,cs,by rw [HD.out.2]; rfl,by rw [HD.out.1]; exact H4.2.2⟩
 ·obtain ⟨j,q,hS⟩:=H2.out.ib.at HP.out.2.1
  have HC:=Lh (show cs[k * 4]? = some (.bool false)∧cs[k * 4+2]? = some (.int .i64 j) from ⟨by rw [hS.c0,decide_eq_false hh],hS.c2⟩);have HD:=Lh (show lockB b t k=(b.set k { b.at k with h:=t }).did [⟨t,2,1000+(k:Int)⟩]∧decide ((b.at k).h<0)=true from ⟨if_neg hh,decide_eq_true (by omega)⟩);clear hS hh
  go_upto_region 4 with (first
   | (refine kld (n:=nBd) H2.out.b0 HL.out ?_)
   | (go_at_call 77; refine (HH.out _ H2.out.bel).mono ?_; rintro e w3 ⟨rfl,hb3⟩; have H3:=Lh (H2.out.next hb3); clear hb3 H2 HH; have q0:=H3.out.b0.cell _ HC.out.1; have q2:=H3.out.b0.cell _ HC.out.2; have f0:=H3.out.b0.free (k * 4); have f2:=H3.out.b0.free (k * 4+2)))
  obtain ⟨ds,H4⟩:∃ ds,Hid (Bs X w 1 ds (b.set k { b.at k with h:=t }) ((w3.setCell ⟨w.heap.size,k * 4,none⟩ (.bool true)).setCell ⟨w.heap.size,k * 4+2,none⟩ t)):=⟨_,by
   obtain ⟨j,q,hS⟩:=H3.out.ib.at HP.out.2.1;exact Lh (H3.out.put2 (k * 4) (k * 4+2) (.bool true) t (H3.out.ib.stripe HP.out.2.1 (by rw [len_set,len_set]) (one_set (one_set H3.out.ib.one _ rfl) _ rfl) (fun p hp=>by rw [get_off (by omega),get_off (by omega)]) (hS.lock (k32 H3.out.ib HP.out.2.1) HP.out.2.2.1)))⟩
  clear q0 q2 f0 f2 H3 HC;generalize (w3.setCell ⟨w.heap.size,k * 4,none⟩ (.bool true)).setCell ⟨w.heap.size,k * 4+2,none⟩ t=w4 at *
  refine rgH (Bt X w 1 ds (b.set k { b.at k with h:=t }) fun _=>True) ⟨H4.out.next bdq,trivial⟩ fun hH=>?_
  clear H4;refine tq 0 (.agg ds.toArray) hH ?_ (hy:=fun W h=>kly h.1.b0 h.1.ib.len);refine ta 1 hH ?_;refine ta 2 hH ?_;refine tq 3 (.int .i64 (1000+(k:Int))) hH ?_ (hy:=fun W h=>by go_simp; exact IntWalk.i64_in _ (by omega));refine rA (l:=1000+(k:Int)) 4 acq_any hH (Bt.next tru) (fun w5 _ hH=>?_);refine rTl (t:=t) 5 6 7 [⟨0,2,1000+(k:Int)⟩] hH HP.out.2.2.2 (fun w6 es hH hB hI=>?_) (lo1 (by omega));simp only [LAY]
  refine ta 8 hH ?_;refine dnH ?_;go_wp2_with fail
  exact bodyPost_ret (res_ct (n:=nBd) hB hI.len) rfl ⟨hH.1.bel,es,by rw [HD.out.2]; rfl,by rw [HD.out.1]; exact hI⟩
end Go.Proofs.YtemicfjmidohfaaGreatDoor
set_option maxRecDepth 100000
set_option maxHeartbeats 12800000
namespace Go.Proofs.YtemicfjmidohfaaGreatDoor
open Go Go.Proofs Go.RowKit
variable {X:Nat→Prop} {w W W':World} {d:Nat} {cs ds es zs:List Value} {b b':Brd}
theorem unlock_ok (b:Brd) (t s:Int) (h0:0≤s) (h1:s<b.st.length):BCall 43 [s] b (unlockB b t s) t fun v=>v:=by
 intro n X cs w hO hn hI hX t0 t1
 obtain ⟨k,rfl⟩:∃ k:Nat,s=(k:Int):=⟨s.toNat,by omega⟩
 have hk:k<b.st.length:=by omega
 have hk8:k<8:=Nat.lt_of_lt_of_le hk hI.s8;have HP:=Lh (And.intro hI (And.intro hk (show b.tr.length≤900000 from by have:=hO.tr; omega)));have HH:=Lh (fun W (hb:Below w.heap.size w W)=>has_any k W (hI.next hb) hk);have HL:=Lh hI.len;clear hO hn hI hX h0 h1 hk t0 t1
 show Calls Tryz.prog 43 #[.agg cs.toArray,t,.int .i64 (k:Int)] w _
 go_enter Tryz.func43,Tryz.ntmps43
 go_upto_region 1 with fail
 generalize hW2:World.alloc (World.alloc w _) _=W2;have H2:=Lh (show Bs X w 1 cs b W2 from by rw [←hW2]; exact Bs.of (Bq.start w _ zBd) rfl (HP.out.1.next (Bq.start w _ zBd).bel));clear hW2;obtain ⟨j,q,hS⟩:=H2.out.ib.at HP.out.2.1;have HC:=Lh hS;clear hS
 go_upto_region 4 with (first
  | (refine kld (n:=nBd) H2.out.b0 HL.out ?_)
  | (go_at_call 77; refine (HH.out _ H2.out.bel).mono ?_; rintro e w3 ⟨rfl,hb3⟩; have H3:=Lh (And.intro (H2.out.next hb3) ({ HC.out with q:=HC.out.q.next hb3 }:StA X w3 cs k (b.at k) j q)); clear hb3 H2 HH HC; have q0:=H3.out.1.b0.cell _ H3.out.2.c0; have f0:=H3.out.1.b0.free (k * 4)))
 obtain ⟨ds,H4⟩:∃ ds,Hid (Bs X w 1 ds (b.set k { b.at k with h := -1 }) (w3.setCell ⟨w.heap.size,k * 4,none⟩ (.bool false))):=⟨_,Lh (H3.out.1.put (k * 4+0) (.bool false) (H3.out.1.ib.set1 HP.out.2.1 (by decide) rfl (H3.out.2.unlock (k32 H3.out.1.ib HP.out.2.1))))⟩
 clear q0 f0 H3;generalize w3.setCell ⟨w.heap.size,k * 4,none⟩ (.bool false)=w4 at *
 refine rgH (Bt X w 1 ds (b.set k { b.at k with h := -1 }) fun _=>True) ⟨H4.out.next bdq,trivial⟩ fun hH=>?_
 clear H4;refine tq 0 (.agg ds.toArray) hH ?_ (hy:=fun W h=>kly h.1.b0 h.1.ib.len);refine ta 1 hH ?_;refine ta 2 hH ?_;refine tq 3 (.int .i64 (1000+(k:Int))) hH ?_ (hy:=fun W h=>by go_simp; exact IntWalk.i64_in _ (by omega));refine rA (l:=1000+(k:Int)) 4 rel_any hH (Bt.next tru) (fun w5 _ hH=>?_);refine rTl (t:=t) 5 6 7 [⟨0,3,1000+(k:Int)⟩] hH HP.out.2.2 (fun w6 es hH hB hI=>?_) (lo1 (by omega));simp only [LAY]
 refine dnH ?_;go_wp2_with fail
 exact bodyPost_ret (res_c (n:=nBd) hB hI.len) rfl ⟨hH.1.bel,es,rfl,hI⟩
theorem seal_ok (b:Brd) (t s:Int) (h0:0≤s) (h1:s<b.st.length):BCall 47 [s] b (sealB b t s) t fun v=>v:=by
 intro n X cs w hO hn hI hX t0 t1
 obtain ⟨k,rfl⟩:∃ k:Nat,s=(k:Int):=⟨s.toNat,by omega⟩
 have hk:k<b.st.length:=by omega
 have hk8:k<8:=Nat.lt_of_lt_of_le hk hI.s8;have HP:=Lh (And.intro hI (And.intro hk (show b.tr.length≤900000 from by have:=hO.tr; omega)));have HH:=Lh (fun W (hb:Below w.heap.size w W)=>has_any k W (hI.next hb) hk);have HL:=Lh hI.len;clear hO hn hI hX h0 h1 hk t0 t1
 show Calls Tryz.prog 47 #[.agg cs.toArray,t,.int .i64 (k:Int)] w _
 go_enter Tryz.func47,Tryz.ntmps47
 go_upto_region 1 with fail
 generalize hW2:World.alloc (World.alloc w _) _=W2;have H2:=Lh (show Bs X w 1 cs b W2 from by rw [←hW2]; exact Bs.of (Bq.start w _ zBd) rfl (HP.out.1.next (Bq.start w _ zBd).bel));clear hW2;obtain ⟨j,q,hS⟩:=H2.out.ib.at HP.out.2.1;have HC:=Lh hS;clear hS
 go_upto_region 4 with (first
  | (refine kld (n:=nBd) H2.out.b0 HL.out ?_)
  | (go_at_call 77; refine (HH.out _ H2.out.bel).mono ?_; rintro e w3 ⟨rfl,hb3⟩; have H3:=Lh (And.intro (H2.out.next hb3) ({ HC.out with q:=HC.out.q.next hb3 }:StA X w3 cs k (b.at k) j q)); clear hb3 H2 HH HC; have q0:=H3.out.1.b0.cell _ H3.out.2.c1; have f0:=H3.out.1.b0.free (k * 4+1)))
 obtain ⟨ds,H4⟩:∃ ds,Hid (Bs X w 1 ds (b.set k { b.at k with z:=true }) (w3.setCell ⟨w.heap.size,k * 4+1,none⟩ (.bool true))):=⟨_,Lh (H3.out.1.put (k * 4+1) (.bool true) (H3.out.1.ib.set1 HP.out.2.1 (by decide) rfl (H3.out.2.seal (k32 H3.out.1.ib HP.out.2.1))))⟩
 clear q0 f0 H3;generalize w3.setCell ⟨w.heap.size,k * 4+1,none⟩ (.bool true)=w4 at *
 refine rgH (Bt X w 1 ds (b.set k { b.at k with z:=true }) fun _=>True) ⟨H4.out.next bdq,trivial⟩ fun hH=>?_
 clear H4;refine tq 0 (.agg ds.toArray) hH ?_ (hy:=fun W h=>kly h.1.b0 h.1.ib.len);refine ta 1 hH ?_;refine ta 2 hH ?_;refine rA (l:=(k:Int)) 3 wr_any hH (Bt.next tru) (fun w5 _ hH=>?_);refine rTl (t:=t) 4 5 6 [⟨0,1,(k:Int)⟩] hH HP.out.2.2 (fun w6 es hH hB hI=>?_) (lo1 (by omega));simp only [LAY]
 refine dnH ?_;go_wp2_with fail
 exact bodyPost_ret (res_c (n:=nBd) hB hI.len) rfl ⟨hH.1.bel,es,rfl,hI⟩
theorem empty_ok (b:Brd) (t s:Int) (h0:0≤s) (h1:s<b.st.length):BCall 49 [s] b (emptyB b t s) t fun v=>.tuple #[v,.bool (emptyA b s)]:=by
 intro n X cs w hO hn hI hX t0 t1
 obtain ⟨k,rfl⟩:∃ k:Nat,s=(k:Int):=⟨s.toNat,by omega⟩
 have hk:k<b.st.length:=by omega
 have hk8:k<8:=Nat.lt_of_lt_of_le hk hI.s8;obtain ⟨j,q,hS⟩:=hI.at hk;obtain ⟨qa,qc,rfl,_⟩:=hS.q.form;have HP:=Lh (And.intro hI (And.intro hk (show b.tr.length≤900000 from by have:=hO.tr; omega)));have HH:=Lh (fun W (hb:Below w.heap.size w W)=>has_any k W (hI.next hb) hk);have HL:=Lh hI.len;have HE:=Lh (show ∀ v,((b.at k).z&&(b.at k).q.isEmpty)=v→emptyA b k=v from fun _ h=>h);have HS:=Lh (And.intro hS.c1 hS.c3);clear hO hn hI hX h0 h1 hk t0 t1 hS;generalize (b.at k).z=z at *
 obtain ⟨l,hl⟩:∃ l,(b.at k).q=l:=⟨_,rfl⟩
 rw [hl] at HE HS;clear hl
 show Calls Tryz.prog 49 #[.agg cs.toArray,t,.int .i64 (k:Int)] w _
 go_enter Tryz.func49,Tryz.ntmps49
 go_upto_region 1 with fail
 generalize hW2:World.alloc (World.alloc w _) _=W2;have H2:=Lh (show Bs X w 1 cs b W2 from by rw [←hW2]; exact Bs.of (Bq.start w _ zBd) rfl (HP.out.1.next (Bq.start w _ zBd).bel));clear hW2
 go_upto_region 3 with (first
  | (refine kld (n:=nBd) H2.out.b0 HL.out ?_)
  | (go_at_call 77; refine (HH.out _ H2.out.bel).mono ?_; rintro e w3 ⟨rfl,hb3⟩; have H3:=Lh (H2.out.next hb3); clear hb3 H2 HH))
 refine rgH (Bt X w 1 cs b fun _=>True) ⟨H3.out.next bdq,trivial⟩ fun hH=>?_
 clear H3;refine tq 0 (.agg cs.toArray) hH ?_ (hy:=fun W h=>kly h.1.b0 h.1.ib.len);refine ta 1 hH ?_;refine ta 2 hH ?_;refine ta 6 hH ?_;refine ta 7 hH ?_;refine tq 8 (.pointer (some ⟨w.heap.size,k * 4,none⟩)) hH ?_ (hy:=fun W h=>by go_simp; intro hh; omega);refine ta 9 hH ?_;refine tq 10 (.bool z) hH ?_ (hy:=fun W h=>by have hq:=h.1.b0.cell _ HS.out.1; go_simp);refine rA (l:=(k:Int)) 3 rd_any hH (Bt.next tru) (fun w5 _ hH=>?_);refine rTd (t:=t) 4 5 [⟨0,0,(k:Int)⟩] hH HP.out.2.2 (fun _ h=>h) (fun w6 es hH hI=>?_) (lo1 (by omega)) tru;have HI:=Lh hI;clear hI;simp only [LAY]
 refine ta 11 hH ?_;obtain ⟨em,hem⟩:∃ em,(z&&l.isEmpty)=em:=⟨_,rfl⟩
 have HE2:=Lh (HE.out em hem);have HM:=Lh hem;have hA:=hH.1.all1 (es:=es) HI.out.len;have hR:=hH.1.res HI.out rfl;have HR:=Lh (And.intro hA hR);clear HE hem hA hR
 cases z with
 | false=>
  refine sk 12 hH ?_;refine sk 13 hH ?_;refine sk 14 hH ?_;refine sk 15 hH ?_;refine sk 16 hH ?_;refine sk 17 hH ?_;refine sk 18 hH ?_
  try simp only [LAY]
  refine ta 19 hH ?_;refine rSt 1 20 HI.out hH.1.b1 ⟨⟨HR.out.1.1,trivial⟩,?_⟩;refine tq 21 (.bool false) (show Bt X w 1 cs b (fun _=>True) _ from ⟨HR.out.1.1,trivial⟩) ?_;refine dnH ?_;go_wp2_with fail
  exact bodyPost_ret (res_ct (n:=nBd) HR.out.2.1 HI.out.len) rfl ⟨HR.out.2.2.1,es,by rw [HE2.out,←HM.out]; rfl,HR.out.2.2.2⟩
 | true=>
  have hcmp:((l.length:Int)==0)=em:=by rw [←HM.out]; cases l <;> simp; omega
  refine ta 12 hH ?_;refine ta 13 hH ?_;refine tq 14 (.pointer (some ⟨w.heap.size,k * 4,none⟩)) hH ?_ (hy:=fun W h=>by go_simp; intro hh; omega);refine ta 15 hH ?_;refine tq 16 (.slice qa l.length qc) hH ?_ (hy:=fun W h=>by have hq:=h.1.b0.cell _ HS.out.2; go_simp);refine ta 17 hH ?_;refine ta 18 hH ?_;refine ta 19 hH ?_;refine rSt 1 20 HI.out hH.1.b1 ⟨⟨HR.out.1.1,trivial⟩,?_⟩;refine tq 21 (.bool em) (show Bt X w 1 cs b (fun _=>True) _ from ⟨HR.out.1.1,trivial⟩) ?_;refine dnH ?_;go_wp2_with fail
  exact bodyPost_ret (res_ct (n:=nBd) HR.out.2.1 HI.out.len) rfl ⟨HR.out.2.2.1,es,by rw [HE2.out]; rfl,HR.out.2.2.2⟩
end Go.Proofs.YtemicfjmidohfaaGreatDoor
set_option maxRecDepth 100000
set_option maxHeartbeats 12800000
namespace Go.Proofs.YtemicfjmidohfaaGreatDoor
open Go Go.Proofs Go.RowKit
variable {X:Nat→Prop} {w W W':World} {d:Nat} {cs ds es zs:List Value} {b b':Brd}
abbrev MST:TypeId:=46
abbrev RST:TypeId:=88
theorem IsMs.wr {v:Value} {l:List (Int×Ans)} {n g:Nat} {t:TypeId} (h:IsMs X W v l n) (hB:Blk W g zs t) (us:List Value) (i:Nat):IsMs X (setN W g i us) v l n:=h.stay fun c o _ ho hc=>setN_other _ _ fun e=>by
 subst e; unfold Blk at hB; rw [hB] at ho; cases ho; cases hc
theorem Bs.oth (h:Bs X w d ds b W) {g:Nat} {t:TypeId} (h0:w.heap.size<g) (h1:g≠w.heap.size+d) (hB:Blk W g zs t) (ht:t∉bTy) (us:List Value) (i:Nat):Bs X w d ds b (setN W g i us):=by
 obtain ⟨z,h2,h3⟩:=h.b1;exact ⟨h.dp,setN_below (by omega) _ _ h.bel,h.b0.setN (by omega) _ _,⟨z,h2,h3.setN (by omega) _ _⟩,h.ib.setI hB ht _ _⟩
theorem IsMs.look {v:Value} {l:List (Int×Ans)} {n:Nat} (h:IsMs X W v l n) {k:Int} (h0:0≤k) (h1:k≤800):(Instr.lookup MST v k false).run Tryz.prog W=.ok (ansC ((slotA l k).getD ⟨0,0,⟨#[]⟩⟩)) W∧(Instr.lookup MST v k true).run Tryz.prog W=.ok (.tuple #[ansC ((slotA l k).getD ⟨0,0,⟨#[]⟩⟩),.bool (slotA l k).isSome]) W:=by
 rcases h with ⟨rfl,rfl⟩ | ⟨g,m,rfl,_,_,h3⟩
 ·exact ⟨by kernel_rfl,by kernel_rfl⟩
 ·exact h3.look (t:=MST) (e:=RST) Tryz.underlying3 (by kernel_rfl) (show (zeroValue RST).run Tryz.prog W=.ok zRs W from by kernel_rfl) (i:=k) (by simp [Lit.wf]; exact ⟨show (-9223372036854775808:Int)≤k by omega,show k≤(9223372036854775807:Int) by omega⟩)
theorem rs_one (x:Ans):∀ u∈[Value.int .i64 x.e,.int .i64 x.n,.string x.t],u.oneCell'=true:=fun u hu=>by
 simp only [List.mem_cons,List.not_mem_nil,or_false] at hu
 rcases hu with rfl | rfl | rfl <;> rfl
theorem slot_any (k:Int) (w:World) (h0:0≤k) (h1:k≤800):Calls Tryz.prog 70 #[k] w (Rt (.bool true) w):=by
 go_enter Tryz.func70,Tryz.ntmps70
 go_wp2_with fail
 go_ret
 exact ⟨rfl,Below.refl _ _⟩
theorem filled_ok (b:Brd) (t k:Int) (h0:0≤k) (h1:k≤800):BCall 59 [k] b (filledB b t k) t fun v=>.tuple #[v,.bool (filledA b k)]:=by
 intro n X cs w hO hn hI hX t0 t1
 obtain ⟨mv,hmv,hms⟩:=hI.ms;have HP:=Lh (And.intro hI (And.intro hmv (And.intro hms (show b.tr.length≤900000 from by have:=hO.tr; omega))));have HL:=Lh hI.len;obtain ⟨f,hf⟩:∃ f,filledA b k=f:=⟨_,rfl⟩
 obtain ⟨x,hx⟩:∃ x,(slotA b.sl k).getD ⟨0,0,⟨#[]⟩⟩=x:=⟨_,rfl⟩
 have HF:=Lh (And.intro hf hx);have HK:=Lh (fun W (hb:Below w.heap.size w W)=>show (Instr.lookup MST mv k true).run Tryz.prog W=.ok (.tuple #[.agg #[x.e,x.n,.string x.t],.bool f]) W from by have:=((hms.next hb).look h0 h1).2; rw [hx] at this; rw [←hf]; exact this);have HS:=Lh (fun W=>slot_any k W h0 h1);clear hO hn hI hX t0 t1 hmv hms hf hx;obtain ⟨xe,xn,xt⟩:=x
 show Calls Tryz.prog 59 #[.agg cs.toArray,t,k] w _
 go_enter Tryz.func59,Tryz.ntmps59
 go_upto_region 1 with fail
 generalize hW2:World.alloc (World.alloc w _) _=W2;have H2:=Lh (show Bs X w 1 cs b W2 from by rw [←hW2]; exact Bs.of (Bq.start w _ zBd) rfl (HP.out.1.next (Bq.start w _ zBd).bel));clear hW2
 go_upto_region 3 with (go_at_call 70; refine (HS.out _).mono ?_; rintro e w3 ⟨rfl,hb3⟩; have H3:=Lh (H2.out.next hb3); clear hb3 H2 HS)
 have q0:=H3.out.b0.cell 47 HP.out.2.1;have hlk:=HK.out w3 H3.out.bel;have HZ:=Lh (And.intro (bA (w:=w3) (o:=.cells ⟨[.int .i64 0,.int .i64 0,.string ⟨#[]⟩]⟩ RST)) (Blk.start w3 [.int .i64 0,.int .i64 0,.string ⟨#[]⟩] RST))
 go_upto_region 4 with (refine kst (n:=3) HZ.out.2 rfl rfl (rs_one ⟨xe,xn,xt⟩) (fun w4 hw4=>?_))
 have H4:=Lh (H3.out.next (show Below w3.heap.size w3 w4 by rw [hw4.out]; exact setN_below (Nat.le_refl _) _ _ HZ.out.1));clear q0 hlk HZ hw4 H3 HK;refine rgH (Bt X w 1 cs b fun _=>True) ⟨H4.out.next bdq,trivial⟩ fun hH=>?_
 clear H4;refine tq 0 (.agg cs.toArray) hH ?_ (hy:=fun W h=>kly h.1.b0 h.1.ib.len);refine ta 1 hH ?_;refine ta 2 hH ?_;refine tq 3 (.int .i64 (3000+k)) hH ?_ (hy:=fun W h=>by go_simp; exact IntWalk.i64_in _ (by omega));refine ta 7 hH ?_;refine rA (l:=3000+k) 4 acq_any hH (Bt.next tru) (fun w5 _ hH=>?_);refine rTl (t:=t) 5 6 8 [⟨0,2,3000+k⟩] hH HP.out.2.2.2 (fun w6 es hH hB hI=>?_) (lo1 (by omega));simp only [LAY]
 refine ta 9 hH ?_;refine dnH ?_;go_wp2_with fail
 exact bodyPost_ret (res_ct (n:=nBd) hB hI.len) rfl ⟨hH.1.bel,es,by rw [HF.out.1]; rfl,hI⟩
theorem fetch_ok (b:Brd) (t k:Int) (h0:0≤k) (h1:k≤800):BCall 61 [k] b (fetchB b t k) t fun v=>.tuple #[v,ansC (fetchA b k)]:=by
 intro n X cs w hO hn hI hX t0 t1
 obtain ⟨mv,hmv,hms⟩:=hI.ms;have HP:=Lh (And.intro hI (And.intro hmv (And.intro hms (show b.tr.length≤900000 from by have:=hO.tr; omega))));have HL:=Lh hI.len;obtain ⟨x,hx⟩:∃ x,fetchA b k=x:=⟨_,rfl⟩
 have HF:=Lh hx;have HK:=Lh (fun W (h:IsMs X W mv b.sl b.sl.length)=>show (Instr.lookup MST mv k false).run Tryz.prog W=.ok (.agg #[x.e,x.n,.string x.t]) W from by have:=(h.look h0 h1).1; rw [←hx]; exact this);have HS:=Lh (fun W=>slot_any k W h0 h1);clear hO hn hI hX t0 t1 hmv hms hx;obtain ⟨xe,xn,xt⟩:=x
 show Calls Tryz.prog 61 #[.agg cs.toArray,t,k] w _
 go_enter Tryz.func61,Tryz.ntmps61
 go_upto_region 1 with fail
 generalize hW2:World.alloc (World.alloc (World.alloc w _) _) _=W2;have H2:=Lh (show Bt X w 1 cs b (fun W=>(∃ zs,zs.length=3∧Blk W (w.heap.size+1+1) zs RST)∧IsMs X W mv b.sl b.sl.length) W2 from by
  rw [←hW2];exact ⟨(Bs.of (Bq.start w _ zBd) rfl (HP.out.1.next (Bq.start w _ zBd).bel)).next bA,⟨[.int .i64 0,.int .i64 0,.string ⟨#[]⟩],rfl,Blk.startAt (by simp)⟩,HP.out.2.2.1.next ((Bq.start w cs zBd).bel.trans (bA.mono (Bq.start w cs zBd).bel.size))⟩)
 clear hW2;have hT:∀ W W':World,((∃ zs,zs.length=3∧Blk W (w.heap.size+1+1) zs RST)∧IsMs X W mv b.sl b.sl.length)→Below W.heap.size W W'→((∃ zs,zs.length=3∧Blk W' (w.heap.size+1+1) zs RST)∧IsMs X W' mv b.sl b.sl.length):=fun W W' ⟨⟨zs,h1,h2⟩,h3⟩ hb=>⟨⟨zs,h1,h2.next hb⟩,h3.next hb⟩
 have HT:=Lh hT;clear hT
 go_upto_region 3 with (go_at_call 70; refine (HS.out _).mono ?_; rintro e w3 ⟨rfl,hb3⟩; have H3:=Lh (H2.out.next HT.out _ _ hb3); clear hb3 H2 HS)
 refine rgH (Bt X w 1 cs b fun W=>(∃ zs,zs.length=3∧Blk W (w.heap.size+1+1) zs RST)∧IsMs X W mv b.sl b.sl.length) (H3.out.next HT.out _ _ bdq) fun hH=>?_
 clear H3;refine tq 0 (.agg cs.toArray) hH ?_ (hy:=fun W h=>kly h.1.b0 h.1.ib.len);refine ta 1 hH ?_;refine ta 2 hH ?_;refine tq 3 (.int .i64 (100+k)) hH ?_ (hy:=fun W h=>by go_simp; exact IntWalk.i64_in _ (by omega));refine ta 7 hH ?_;refine tq 8 mv hH ?_ (hy:=fun W h=>by have hq:=h.1.b0.cell 47 HP.out.2.1; go_simp);refine ta 9 hH ?_;refine tq 10 (.agg #[xe,xn,.string xt]) hH ?_ (hy:=fun W h=>by have hq:=HK.out W h.2.2; go_simp);refine rA (l:=100+k) 4 rd_any hH (Bt.next HT.out) (fun w5 _ hH=>?_);refine rTl (t:=t) 5 6 11 [⟨0,0,100+k⟩] hH HP.out.2.2.2 (fun w6 es hH hB hI=>?_) (lo1 (by omega)) HT.out (fun W es ⟨⟨zs,h1,h2⟩,h3⟩ h=>by obtain ⟨z,_,hz⟩:=h.b1; exact ⟨⟨zs,h1,h2.setN (by omega) _ _⟩,h3.wr hz _ _⟩);simp only [LAY]
 obtain ⟨zs,hz,hZ⟩:=hH.2.1;have HE:=Lh (fun w7 (e:w7=setN w6 (w.heap.size+1+1) 0 [xe,xn,.string xt])=>show Bt X w 1 cs b (fun W=>(∃ zs,zs.length=3∧Blk W (w.heap.size+1+1) zs RST)∧IsMs X W mv b.sl b.sl.length) w7∧Blk w7 (w.heap.size+1) es BDT∧IsBd w7 X (fetchB b t k) es∧Blk w7 (w.heap.size+1+1) [xe,xn,.string xt] RST from by
  subst e;exact ⟨⟨hH.1.oth (by omega) (by omega) hZ (by decide) _ _,⟨_,rfl,setN_all hZ hz.symm⟩,hH.2.2.wr hZ _ _⟩,hB.setN (by omega) _ _,hI.setI hZ (by decide) _ _,setN_all hZ hz.symm⟩)
 refine kstN 12 (n:=3) hZ hz rfl (rs_one ⟨xe,xn,xt⟩) (fun w7 hw7=>(HE.out _ hw7.out).1) (fun w7 hw7 hH=>?_);have H8:=Lh (HE.out _ hw7.out);refine dnH ?_;go_wp2_with fail
 exact bodyPost_ret (res_cc (n:=nBd) (n2:=3) H8.out.2.1 hI.len H8.out.2.2.2 rfl) rfl ⟨H8.out.1.1.bel,es,by rw [HF.out]; rfl,H8.out.2.2.1⟩
end Go.Proofs.YtemicfjmidohfaaGreatDoor
set_option maxRecDepth 100000
set_option maxHeartbeats 12800000
namespace Go.Proofs.YtemicfjmidohfaaGreatDoor
open Go Go.Proofs Go.RowKit
variable {X:Nat→Prop} {w W W':World} {d:Nat} {cs ds es zs:List Value} {b b':Brd}
theorem zbd_one:∀ u∈zBd,u.oneCell'=true:=by decide
theorem isbd_nil (X:Nat→Prop) (W:World):IsBd W X nilB zBd where
 len:=rfl
 one:=zbd_one
 s8:=Nat.zero_le _
 st i hi:=absurd hi (Nat.not_lt_zero _)
 pl:=⟨rfl,rfl,rfl,rfl,rfl⟩
 rp:=⟨_,_,_,_,_,_,_,_,isv_nil W,rfl⟩
 ms:=⟨_,rfl,.inl ⟨rfl,rfl⟩⟩
 lk:=⟨_,rfl,rfl⟩
 n:=rfl
 lo:=fun _ h=>by cases h
theorem zst:∀ i,i<8→zBd[i * 4]? = some (.bool false)∧zBd[i * 4+1]? = some (.bool false)∧zBd[i * 4+2]? = some (.int .i64 0)∧zBd[i * 4+3]? = some (.slice none 0 0)
 | 0,_ | 1,_ | 2,_ | 3,_ | 4,_ | 5,_ | 6,_ | 7,_=>⟨rfl,rfl,rfl,rfl⟩
 | _+8,h=>absurd h (by omega)
abbrev nbL (stripes room:Int):List Value:=[.int .i64 stripes,.int .i64 room,.int .i64 0,.bool false,.bool false]
theorem isbd_new {site stripes room:Int} {rs:List Value} (h0:1≤stripes) (h1:stripes≤8) (hr:IsRp W (newR site) rs) (hl:rs.length=10) (h1:∀ u∈rs,u.oneCell'=true):
  IsBd W X (newB site stripes room) (zBd.take 32++(nbL stripes room++(rs++[.map none,.pointer none,.int .i64 0]))):=by
 have hst:(newB site stripes room).st.length=stripes.toNat:=List.length_replicate;have g:∀ i,i<32→(zBd.take 32++(nbL stripes room++(rs++[.map none,.pointer none,.int .i64 0])))[i]? = zBd[i]? := fun i hi=>by
  rw [List.getElem?_append_left (by simp [zBd]; exact hi),List.getElem?_take_of_lt hi]
 have g2:∀ i,(zBd.take 32++(nbL stripes room++(rs++[.map none,.pointer none,.int .i64 0])))[32+i]? = (nbL stripes room++(rs++[.map none,.pointer none,.int .i64 0]))[i]? := fun i=>by
  rw [List.getElem?_append_right (by simp [zBd])]; simp [zBd]
 have g3:∀ i,(rs++[.map none,.pointer none,.int .i64 0])[10+i]? = [Value.map none,.pointer none,.int .i64 0][i]? := fun i=>by rw [←hl,List.getElem?_append_right (by omega)]; simp
 refine ⟨by simp [zBd,hl,nBd,nbL],fun u hu=>?_,by rw [hst]; omega,fun i hi=>?_,⟨?_,g2 1,g2 2,g2 3,g2 4⟩,?_,⟨_,(g2 15).trans (g3 0),.inl ⟨rfl,rfl⟩⟩,⟨_,(g2 16).trans (g3 1),rfl⟩,(g2 17).trans (g3 2),fun _ h=>by cases h⟩
 ·rcases List.mem_append.1 hu with hu | hu
  ·exact zbd_one u (List.mem_of_mem_take hu)
  ·rcases List.mem_append.1 hu with hu | hu
   ·simp only [nbL,List.mem_cons,List.not_mem_nil,or_false] at hu
    rcases hu with rfl | rfl | rfl | rfl | rfl <;> rfl
   ·rcases List.mem_append.1 hu with hu | hu
    ·exact h1 u hu
    ·simp only [List.mem_cons,List.not_mem_nil,or_false] at hu
     rcases hu with rfl | rfl | rfl <;> rfl
 ·rw [hst] at hi
  have hi8:i<8:=by omega
  have e:(newB site stripes room).st[i]'(by rw [hst]; exact hi)=noSt:=List.getElem_replicate _;rw [e];have hz:=zst i hi8;exact ⟨0,.slice none 0 0,(g _ (by omega)).trans hz.1,(g _ (by omega)).trans hz.2.1,(g _ (by omega)).trans hz.2.2.1,(g _ (by omega)).trans hz.2.2.2,fun h=>absurd (show (0:Int) ≤ -1 from h) (by decide),fun _=>rfl,.inl ⟨rfl,rfl⟩⟩
 ·rw [hst]; refine (g2 0).trans ?_; show some _=some _; rw [Int.toNat_of_nonneg (by omega)]
 ·have e:((zBd.take 32++(nbL stripes room++(rs++[Value.map none,.pointer none,.int .i64 0]))).drop 37).take 10=rs:=by
   rw [List.drop_append,List.drop_eq_nil_of_le (by simp [zBd]),List.nil_append,show 37-(zBd.take 32).length=5 by simp [zBd],show List.drop 5 (nbL stripes room++(rs++[Value.map none,.pointer none,.int .i64 0]))=rs++[Value.map none,.pointer none,.int .i64 0] from rfl,←hl,List.take_left]
  rw [e]; exact hr
theorem mk_acts (n:Nat) (hn:n≤900000) (W:World):∃ zs:List Value,zs.length=n * 3∧(Instr.makeSlice 134 (.int .i64 (n:Int)) (.int .i64 (n:Int))).run Tryz.prog W=.ok (.slice (some ⟨W.heap.size,0,none⟩) n n) (W.alloc (.cells ⟨zs⟩ ACT)):=by
 obtain ⟨i,z,h1,h2,h3,h4,_⟩:=info_ex (P:=Tryz.prog) (e:=ACT) (z:=.agg #[.int .i64 0,.int .i64 0,.int .i64 0]) (m:=3) (bs:=24) (by kernel_rfl) rfl;have h:=run_make (P:=Tryz.prog) W 134 ACT i z Tryz.underlying134 h1 h2 .i64 .i64 n n (by omega) (Int.le_refl _) (by rw [h4]; omega) (by omega);simp only [Int.toNat_natCast] at h
 exact ⟨(madeCells z.cells (n * i.size)).toList,by rw [Array.length_toList,size_madeCells,h3],h⟩
theorem list_any (L:List Ac) (p0:Option Addr) (w:World) (hL:L.length≤900000) (h:IsLk w (.pointer p0) L.reverse):Calls Tryz.prog 88 #[.agg #[.pointer p0,.int .i64 (L.length:Int)]] w fun e w'=>∃ v,e=.returned v∧IsAc w' v L∧Below w.heap.size w w':=by
 have HB:=Lh (And.intro (Blk.start w [.pointer p0,.int .i64 (L.length:Int)] 49) (bA (w:=w) (o:=.cells ⟨[.pointer p0,.int .i64 (L.length:Int)]⟩ 49)));have HL:=Lh h;obtain ⟨N,hN⟩:∃ N,L.length=N:=⟨_,rfl⟩
 rw [hN] at HB hL ⊢;have HN:=Lh hN;clear h hN
 go_enter Tryz.func88,Tryz.ntmps88
 go_upto_region 1 with fail
 generalize w.alloc _=W2 at *
 obtain ⟨zs,hz,hmk⟩:=mk_acts N hL W2;have HZ:=Lh (And.intro hz (And.intro (Blk.start W2 zs ACT) (bA (w:=W2) (o:=.cells ⟨zs⟩ ACT))));have q1:=HB.out.1.cell 1 rfl;clear hz
 go_upto_region 2 with fail
 generalize hW3:W2.alloc (.cells ⟨zs⟩ ACT)=W3 at *
 generalize hg:W2.heap.size=g at *
 have H3:=Lh (show Below w.heap.size w W3∧Blk W3 w.heap.size [.pointer p0,.int .i64 (N:Int)] 49∧Blk W3 g zs ACT∧w.heap.size<g from ⟨HB.out.2.trans ((hg▸HZ.out.2.2:Below g W2 W3).mono (by have:=HB.out.2.size; omega)),HB.out.1.next (by rw [hg]; exact HZ.out.2.2),HZ.out.2.1,by have:=HB.out.1.lt; omega⟩);have HZL:=Lh HZ.out.1;clear hmk q1 hW3 hg HB HZ;obtain ⟨q0,q1⟩:=H3.out.2.1.c2;have HS:=Lh (show ∃ cur:List Value,Below w.heap.size w W3∧IsLk W3 (.pointer p0) (L.take N).reverse∧Blk W3 g cur ACT∧cur.length=N * 3∧∀ i (hi:i<L.length),N≤i→∀ j,j<3→cur[i * 3+j]? = (acL L[i])[j]? from ⟨zs,H3.out.1,by rw [←HN.out,List.take_length]; exact HL.out.next H3.out.1,H3.out.2.2.1,HZL.out,fun i hi h=>absurd hi (by have:=HN.out; omega)⟩);have HG:=Lh H3.out.2.2.2;go_wp2_with fail
 clear q0 q1 H3 HZL HL
 go_loopg [4,5] N (fun g_ t4 t5 wx=>∃ m:Nat,m≤N∧m=g_∧t4=.int .i64 (m:Int)∧∃ p,t5=.pointer p∧∃ cur:List Value,Below w.heap.size w wx∧IsLk wx (.pointer p) (L.take m).reverse∧Blk wx g cur ACT∧cur.length=N * 3∧∀ i (hi:i<L.length),m≤i→∀ j,j<3→cur[i * 3+j]? = (acL L[i])[j]?)
 case atStart=>exact ⟨N,Nat.le_refl _,rfl,rfl,p0,rfl,HS.out⟩
 case round=>
  obtain ⟨m,hm,rfl,rfl,p,rfl,cur,h1,h2,h3,h4,h5⟩:=hrel;clear HS
  cases m with
  | zero=>
   rw [List.take_zero] at h2;have hp:p=none:=by cases h2; rfl
   have HX:=Lh (show IsAc wr (.slice (some ⟨g,0,none⟩) N N) L∧Below w.heap.size w wr from ⟨⟨some ⟨g,0,none⟩,N,by rw [HN.out],by rw [HN.out]; exact Nat.le_refl _,by omega,fun _=>⟨g,0,rfl,h3.lt,fun j hj=>⟨h3.cell _ (by rw [Nat.zero_add]; exact h5 j hj (Nat.zero_le _) 0 (by decide)),h3.cell _ (by rw [Nat.zero_add]; exact h5 j hj (Nat.zero_le _) 1 (by decide)),h3.cell _ (by rw [Nat.zero_add]; exact h5 j hj (Nat.zero_le _) 2 (by decide))⟩⟩⟩,h1⟩);subst hp;clear h1 h2 h3 h4 h5;go_wp2_with fail
   go_ret
   exact ⟨_,rfl,HX.out⟩
  | succ m=>
   have hml:m<L.length:=by have:=HN.out; omega
   have et:(L.take (m+1)).reverse=L[m]::(L.take m).reverse:=by rw [List.take_add_one,List.getElem?_eq_getElem hml]; simp
   rw [et] at h2;obtain ⟨lb,lu,e,hB,h6⟩:=h2
   cases e
   obtain ⟨lp,rfl⟩:=h6.ptr;obtain ⟨a,ha⟩:∃ a,L[m]=a:=⟨_,rfl⟩
   rw [ha] at hB;obtain ⟨at_,ak,al⟩:=a;have H:=Lh (And.intro h1 (And.intro h6 (And.intro h3 (And.intro h4 (And.intro h5 ha)))));have HB:=Lh hB;have hne:lb≠g:=fun e=>by subst e; have hx:=hB; have hy:=h3; unfold Blk at hx hy; rw [hx] at hy; cases hy
   have HNE:=Lh hne;have hR:=Lh (show wr.rangeAt lb 1 (acL ⟨at_,ak,al⟩) from fun j u hj=>hB.cell (1+j) (by rw [Nat.add_comm,List.getElem?_cons_succ]; exact hj));have hw1:IntKind.i64.wrap (((m+1:Nat):Int) - 1)=(m:Int):=by rw [IntWalk.i64_in _ (by omega)]; omega
   have hmN:(m:Int)<(N:Int):=by omega
   clear h1 h3 h4 h5 h6 ha hB et hne
   go_upto_region 5 with (first
    | (refine kldm (n:=3) hR.out rfl ?_)
    | (refine kstm (n:=3) (o:=m * 3) (us:=[.int .i64 at_,.int .i64 ak,.int .i64 al]) H.out.2.2.1 (by rw [H.out.2.2.2.1]; show m * 3+3≤N * 3; omega) rfl (ac_one ⟨at_,ak,al⟩) (fun w7 hw7=>?_)))
   have H7:=Lh (show Below w.heap.size w w7∧Blk w7 lb (.pointer lp::acL ⟨at_,ak,al⟩) LNK∧∃ cur:List Value,IsLk w7 (.pointer lp) (L.take m).reverse∧Blk w7 g cur ACT∧cur.length=N * 3∧∀ i (hi:i<L.length),m≤i→∀ j,j<3→cur[i * 3+j]? = (acL L[i])[j]? from by
    rw [hw7.out];refine ⟨setN_below (Nat.le_of_lt HG.out) _ _ H.out.1,HB.out.setN HNE.out _ _,putN cur (m * 3) [at_,ak,al],H.out.2.1.kt (KT.setN (by decide) _ _ H.out.2.2.1),setN_blk _ _ H.out.2.2.1,by rw [putN_len]; exact H.out.2.2.2.1,fun i hi hmi j hj=>?_⟩;rw [putN_get _ _ _ _ (by rw [H.out.2.2.2.1]; show m * 3+3≤N * 3; omega)];by_cases e:i=m
    ·subst e
     rw [if_pos (by show _∧_<_+3; omega),show i * 3+j-i * 3=j by omega,H.out.2.2.2.2.2]; rfl
    ·rw [if_neg (by show ¬ (_∧_<_+3); omega)]
     exact H.out.2.2.2.2.1 i hi (by omega) j hj)
   clear hw7 H HB HNE hR hw1;have q0:=H7.out.2.1.cell 0 rfl;have HS:=Lh (And.intro H7.out.1 H7.out.2.2);clear H7;go_wp2_with fail
   go_roundg m
   case measure=>omega
   case rel=>obtain ⟨c,h⟩:=HS.out.2; exact ⟨m,by omega,rfl,rfl,lp,rfl,c,HS.out.1,h⟩
theorem trace_ok (b:Brd):BAsk 35 [] b fun w e w'=>∃ v,e=.returned v∧IsAc w' v b.tr∧LocOk b.tr∧Below w.heap.size w w':=by
 intro n X cs w hO hn hI
 have htr:b.tr.length≤900000:=by have:=hO.tr; omega
 have HB:=Lh (And.intro (Blk.start w cs BDT) (And.intro (bA (w:=w) (o:=.cells ⟨cs⟩ BDT)) hI.lo));obtain ⟨lv,hlv,hlk⟩:=hI.lk;obtain ⟨lp,rfl⟩:=hlk.ptr;have HR:=Lh (HB.out.1.rngT (get2 hlv hI.n));have HL:=Lh (fun W (hb:Below w.heap.size w W)=>list_any b.tr lp W htr (hlk.next hb));clear hO hn hI hlv hlk htr;obtain ⟨N,hN⟩:∃ N,b.tr.length=N:=⟨_,rfl⟩
 rw [hN] at HR HL;clear hN
 show Calls Tryz.prog 35 #[.agg cs.toArray] w _
 go_enter Tryz.func35,Tryz.ntmps35
 go_upto_region 1 with fail
 generalize w.alloc _=W2 at *
 go_wp2_with (first
  | (refine kldm (n:=2) HR.out rfl ?_)
  | (go_at_call 88; refine (HL.out _ HB.out.2.1).mono ?_; rintro e w3 ⟨v,rfl,hv,hb3⟩; have H3:=Lh (And.intro hv (HB.out.2.1.trans (hb3.mono HB.out.2.1.size))); clear hv hb3))
 go_ret
 exact ⟨_,rfl,H3.out.1,HB.out.2.2,H3.out.2⟩
theorem new_ok (site stripes room:Int) (X:Nat→Prop) (w:World):Calls Tryz.prog 7 #[site,stripes,room] w (RB (newBr site stripes room) X (fun v=>.tuple #[v,.int .i64 (newBE site stripes room)]) w):=by
 have HE:=Lh (fun (h:stripes<1∨8<stripes∨room<1∨16<room)=>show newBE site stripes room=2∧newBr site stripes room=nilB from by
  have e:newBE site stripes room=2:=if_pos h;exact ⟨e,by unfold newBr; rw [e]; rfl⟩)
 have HZ:=Lh (fun W2 w4 (h:Blk W2 w.heap.size zBd BDT∧Below w.heap.size w W2) (e:w4=setN W2 w.heap.size 0 zBd)=>show Blk w4 w.heap.size zBd BDT∧Below w.heap.size w w4∧IsBd w4 X nilB zBd from by
  subst e; exact ⟨setN_all h.1 rfl,setN_below (Nat.le_refl _) _ _ h.2,isbd_nil X _⟩)
 go_enter Tryz.func7,Tryz.ntmps7
 go_upto_region 1 with fail
 generalize hW2:w.alloc _=W2;have HB:=Lh (show Blk W2 w.heap.size zBd BDT∧Below w.heap.size w W2 from by rw [←hW2]; exact ⟨Blk.start w zBd BDT,bA⟩);clear hW2;by_cases c1:stripes<1
 ·have HX:=Lh (HE.out (.inl c1))
  clear HE;go_wp2_with (refine kst (n:=nBd) HB.out.1 rfl rfl zbd_one (fun w4 hw4=>?_))
  have HY:=HZ.out W2 w4 HB.out hw4.out;exact bodyPost_ret (res_ct (n:=nBd) HY.1 rfl) rfl ⟨HY.2.1,zBd,by rw [HX.out.1]; rfl,by rw [HX.out.2]; exact HY.2.2⟩
 by_cases c2:8<stripes
 ·have HX:=Lh (HE.out (.inr (.inl c2)))
  clear HE;go_wp2_with (refine kst (n:=nBd) HB.out.1 rfl rfl zbd_one (fun w4 hw4=>?_))
  have HY:=HZ.out W2 w4 HB.out hw4.out;exact bodyPost_ret (res_ct (n:=nBd) HY.1 rfl) rfl ⟨HY.2.1,zBd,by rw [HX.out.1]; rfl,by rw [HX.out.2]; exact HY.2.2⟩
 by_cases c3:room<1
 ·have HX:=Lh (HE.out (.inr (.inr (.inl c3))))
  clear HE;go_wp2_with (refine kst (n:=nBd) HB.out.1 rfl rfl zbd_one (fun w4 hw4=>?_))
  have HY:=HZ.out W2 w4 HB.out hw4.out;exact bodyPost_ret (res_ct (n:=nBd) HY.1 rfl) rfl ⟨HY.2.1,zBd,by rw [HX.out.1]; rfl,by rw [HX.out.2]; exact HY.2.2⟩
 by_cases c4:16<room
 ·have HX:=Lh (HE.out (.inr (.inr (.inr c4))))
  clear HE;go_wp2_with (refine kst (n:=nBd) HB.out.1 rfl rfl zbd_one (fun w4 hw4=>?_))
  have HY:=HZ.out W2 w4 HB.out hw4.out;exact bodyPost_ret (res_ct (n:=nBd) HY.1 rfl) rfl ⟨HY.2.1,zBd,by rw [HX.out.1]; rfl,by rw [HX.out.2]; exact HY.2.2⟩
 have HS:=Lh (show 1≤stripes∧stripes≤8∧newBE site stripes room=newE site from ⟨by omega,by omega,if_neg (by omega)⟩);clear HE
 go_upto_region 4 with (first
  | (refine kst (n:=10) (Blk.start w3 [.int .i64 0,.bool false,.pointer none,.pointer none,.int .i64 0,.slice none 0 0,.int .i64 0,.int .i64 0,.complex .f64 0 0,.complex .f64 0 0] 45) rfl rfl hI.out.one (fun w4 hw4=>?_))
  | (go_at_call 33; refine (rpl_ok.new site _).mono ?_; rintro e w3 ⟨hb3,d0,d1,d2,d3,d4,d5,d6,d7,d8,d9,rfl,hI'⟩; have hI:=Lh hI'; have HB3:=Lh (show Blk w3 w.heap.size zBd BDT∧Below w.heap.size w w3 from ⟨HB.out.1.next hb3,HB.out.2.trans (hb3.mono HB.out.2.size)⟩); clear hb3 hI'))
 have H4:=Lh (show (Blk w4 w.heap.size zBd BDT∧Below w.heap.size w w4)∧Blk w4 w3.heap.size [d0,d1,d2,d3,d4,d5,d6,d7,d8,d9] 45∧IsRp w4 (newR site) [d0,d1,d2,d3,d4,d5,d6,d7,d8,d9] from by
  have hb:=setN_below (b:=w3.heap.size) (Nat.le_refl _) [d0,d1,d2,d3,d4,d5,d6,d7,d8,d9] 0 (bA (w:=w3) (o:=.cells ⟨[.int .i64 0,.bool false,.pointer none,.pointer none,.int .i64 0,.slice none 0 0,.int .i64 0,.int .i64 0,.complex .f64 0 0,.complex .f64 0 0]⟩ 45));rw [hw4.out];exact ⟨⟨HB3.out.1.next hb,HB3.out.2.trans (hb.mono HB3.out.2.size)⟩,setN_all (Blk.start _ _ _) rfl,hI.out.next hb⟩)
 clear hw4 HB3 HB;obtain ⟨ne,hne⟩:∃ ne,newE site=ne:=⟨_,rfl⟩
 have HNE:=Lh hne;rw [hne];clear hne;by_cases ce:ne=0
 ·subst ce
  go_wp2_with (first
   | (refine kld (n:=10) H4.out.2.1 rfl ?_)
   | (refine kst (n:=nBd) (us:=zBd.take 32++(nbL stripes room++([d0,d1,d2,d3,d4,d5,d6,d7,d8,d9]++[.map none,.pointer none,.int .i64 0]))) H4.out.1.1 rfl rfl (isbd_new (W:=w4) (X:=X) (room:=room) HS.out.1 HS.out.2.1 H4.out.2.2 rfl H4.out.2.2.one).one (fun w5 hw5=>?_)))
  have hI:=isbd_new (W:=w4) (X:=X) (room:=room) HS.out.1 HS.out.2.1 H4.out.2.2 rfl H4.out.2.2.one;exact bodyPost_ret (res_ct (n:=nBd) (by rw [hw5.out]; exact setN_all H4.out.1.1 rfl) rfl) rfl ⟨by rw [hw5.out]; exact setN_below (Nat.le_refl _) _ _ H4.out.1.2,_,by rw [HS.out.2.2,HNE.out]; rfl,by
   rw [hw5.out,show newBr site stripes room=newB site stripes room from if_pos (by rw [HS.out.2.2,HNE.out])]; exact hI.setI H4.out.1.1 bd_not _ _⟩
 ·go_wp2_with (refine kst (n:=nBd) H4.out.1.1 rfl rfl zbd_one (fun w5 hw5=>?_))
  have HY:=HZ.out w4 w5 H4.out.1 hw5.out;exact bodyPost_ret (res_ct (n:=nBd) HY.1 rfl) rfl ⟨HY.2.1,zBd,by rw [HS.out.2.2,HNE.out]; rfl,by rw [show newBr site stripes room=nilB from if_neg (by rw [HS.out.2.2,HNE.out]; exact ce)]; exact HY.2.2⟩
end Go.Proofs.YtemicfjmidohfaaGreatDoor
