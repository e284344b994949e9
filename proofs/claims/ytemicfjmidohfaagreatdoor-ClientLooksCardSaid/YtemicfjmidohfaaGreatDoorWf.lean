import Derived.Test.YtemicfjmidohfaaGreatDoorWa
import Derived.Test.YtemicfjmidohfaaGreatDoorRo
import Derived.Test.YtemicfjmidohfaaGreatDoorRz
import Derived.Test.YtemicfjmidohfaaGreatDoorDq
set_option maxRecDepth 100000
set_option maxHeartbeats 12800000
namespace Go.Proofs.YtemicfjmidohfaaGreatDoor
open Go Go.Proofs Go.RowKit
structure K15 (w:World) (g:Nat) (b:Brd) (cs:List Value) (W:World):Prop where
 bel:Below w.heap.size w W
 ge:w.heap.size≤g
 bb:Blk W g cs 51
 ib:IsBd W (fun _=>False) b cs
theorem K15.next {w:World} {g:Nat} {b:Brd} {cs:List Value} {W W':World} (h:K15 w g b cs W) (hb:Below W.heap.size W W'):K15 w g b cs W':=⟨h.bel.trans (hb.mono h.bel.size),h.ge,h.bb.next hb,h.ib.next hb⟩
theorem K15.start {w W w2:World} {b:Brd} {cs:List Value} (hb:Below w.heap.size w W) (hI:IsBd W (fun _=>False) b cs) (h:w2=setN (W.alloc (.cells ⟨zBd⟩ 51)) W.heap.size 0 cs):K15 w W.heap.size b cs w2:=by
 have h2:Below W.heap.size W w2:=by rw [h]; exact setN_below (Nat.le_refl _) cs 0 (bl1 W zBd _)
 exact ⟨hb.trans (h2.mono hb.size),hb.size,by rw [h]; exact setN_all (Blk.start W zBd _) (by rw [hI.len]; rfl),hI.next h2⟩
theorem K15.put {w:World} {g:Nat} {b b':Brd} {cs cs':List Value} {W w2:World} (h:K15 w g b cs W) (hI:IsBd W (fun _=>False) b' cs') (e:w2=setN W g 0 cs'):K15 w g b' cs' w2:=by
 have hT:51∉bTy:=by decide
 subst e;exact ⟨setN_below h.ge _ 0 h.bel,h.ge,setN_all h.bb (by rw [hI.len,h.ib.len]),hI.setN h.bb hT _⟩
theorem awake15_any (H:BAll) (h12:Awake12Ok) (h14:Awake14Ok):Awake15Ok:=by
 intro w hp ht
 have hO:∀ W,Old (fun _=>False) W:=fun _ _ h=>h.elim
 have HNEW:=Lh (show Calls Tryz.prog 7 #[.int .i64 1,.int .i64 1,.int .i64 1] w (RB (newB 1 1 1) (fun _=>False) (fun v=>.tuple #[v,.int .i64 0]) w) from H.new 1 1 1 _ w (by decide) (by decide) (by decide) (by decide) (by decide) (by decide) (hO w));have k0:BOk (newB 1 1 1) 0:=BOk.new rfl;have k1:=k0.lock 0 0;have HL1:=Lh (fun cs W (h:IsBd W (fun _=>False) (newB 1 1 1) cs)=>show Calls Tryz.prog 30 #[.agg cs.toArray,.int .i64 0,.int .i64 0] W (RB (lockB (newB 1 1 1) 0 0) (fun _=>False) (fun v=>.tuple #[v,.bool true]) W) from H.lock (newB 1 1 1) 0 0 (by decide) (by decide) 0 _ cs W k0 (by decide) h (hO W) (by decide) (by decide));have HL2:=Lh (fun cs W (h:IsBd W (fun _=>False) (lockB (newB 1 1 1) 0 0) cs)=>show Calls Tryz.prog 30 #[.agg cs.toArray,.int .i64 1,.int .i64 0] W (RB (lockB (lockB (newB 1 1 1) 0 0) 1 0) (fun _=>False) (fun v=>.tuple #[v,.bool false]) W) from H.lock (lockB (newB 1 1 1) 0 0) 1 0 (by decide) (by decide) 1 _ cs W k1 (by decide) h (hO W) (by decide) (by decide));have HHO:=Lh (fun cs W (h:IsBd W (fun _=>False) (lockB (newB 1 1 1) 0 0) cs)=>show Calls Tryz.prog 29 #[.agg cs.toArray,.int .i64 0] W (fun e w'=>e=.returned (.int .i64 0)∧Below W.heap.size W w') from H.hold (lockB (newB 1 1 1) 0 0) 0 (by decide) (by decide) 1 _ cs W k1 (by decide) h);have HA:=Lh (fun (W:World) (hb:Below w.heap.size w W)=>And.intro (h12 W (hp.next hb) (ht.next hb)) (h14 W));clear H h12 h14 hp ht k0 k1 hO;generalize lockB (lockB (newB 1 1 1) 0 0) 1 0=b2 at *
 generalize lockB (newB 1 1 1) 0 0=b1 at *
 generalize newB 1 1 1=b0 at *
 go_enter Tryz.func6,Tryz.ntmps6
 go_upto_region 2 with (first | (refine kst (n:=nBd) (Blk.start w1 zBd _) rfl hI.len hI.one (fun w2 hw2=>?_)) | (go_at_call 7; refine HNEW.out.mono ?_; rintro e w1 ⟨hb,cs,rfl,hI⟩))
 have H2:=Lh (K15.start hb hI hw2.out);clear hb hI hw2 HNEW;generalize w1.heap.size=g at *
 go_upto_region 3 with (first | (refine kst (n:=nBd) H3.out.bb H3.out.ib.len HI.out.len HI.out.one (fun w4 hw4=>?_)) | (refine kld (n:=nBd) H2.out.bb H2.out.ib.len ?_) | (go_at_call 30; refine (HL1.out _ _ H2.out.ib).mono ?_; rintro e w3 ⟨hb,cs3,rfl,hI⟩; have H3:=Lh (H2.out.next hb); have HI:=Lh hI; clear hb hI))
 have H4:=Lh (H3.out.put HI.out hw4.out);clear hw4 HI H3 H2 HL1
 go_upto_region 4 with (first | (refine kst (n:=nBd) (Blk.start w5 zBd _) rfl HI.out.len HI.out.one (fun w6 hw6=>?_)) | (refine kld (n:=nBd) H4.out.bb H4.out.ib.len ?_) | (go_at_call 30; refine (HL2.out _ _ H4.out.ib).mono ?_; rintro e w5 ⟨hb,cs5,rfl,hI⟩; have H5:=Lh (H4.out.next hb); have HI:=Lh hI; clear hb hI))
 have H6:=Lh (H5.out.next (show Below w5.heap.size w5 w6 by rw [hw6.out]; exact setN_below (Nat.le_refl _) cs5 0 (bl1 w5 zBd _)));clear hw6 HI H5 H4 HL2;go_wp2_with (first | (refine kld (n:=nBd) H8.out.bb H8.out.ib.len ?_) | (go_at_call 31; refine (HA.out _ H6.out.bel).1.mono ?_; rintro e w7 ⟨rfl,hb⟩; have H7:=Lh (H6.out.next hb); clear hb H6) | (go_at_call 32; refine (HA.out _ H7.out.bel).2.mono ?_; rintro e w8 ⟨rfl,hb⟩; have H8:=Lh (H7.out.next hb); clear hb H7) | (go_at_call 29; refine (HHO.out _ _ H8.out.ib).mono ?_; rintro e w9 ⟨rfl,hb⟩; have H9:=Lh (H8.out.next hb); clear hb))
 go_ret
 exact ⟨rfl,H9.out.bel⟩
end Go.Proofs.YtemicfjmidohfaaGreatDoor
