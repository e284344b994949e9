import Derived.Test.YtjilpbmehipagaaVa13
set_option maxRecDepth 100000
set_option maxHeartbeats 12800000
namespace Go.Proofs.Ytjilpbmehipagaa
open Go Go.Proofs Go.RowKit
theorem isl_blk {W:World} {b:Nat} {M:List Int} {t:TypeId} (h:Blk W b (arL M) t) (hl:M.length≤100):IsL W (.slice (some ⟨b,0,none⟩) M.length M.length) M:=
 ⟨_,_,rfl,Nat.le_refl _,by omega,fun _=>⟨b,0,rfl,h.lt,fun j hj=>by rw [Nat.zero_add]; exact h.cell j (by rw [List.getElem?_map,List.getElem?_eq_getElem hj]; rfl)⟩⟩
theorem med_small {M:List Int} (h:(decide (M.length≤16)&&M.all fun x=>decide (0≤x∧x≤2199023255552))=true):MedA M:=by
 rw [Bool.and_eq_true,decide_eq_true_eq,List.all_eq_true] at h;exact ⟨h.1,fun x hx=>by have:=h.2 x hx; simpa using this⟩
theorem isl_one (W:World) (M:List Int) (t:TypeId) (hl:M.length≤100):IsL (W.alloc (.cells ⟨arL M⟩ t)) (.slice (some ⟨W.heap.size,0,none⟩) M.length M.length) M∧Below W.heap.size W (W.alloc (.cells ⟨arL M⟩ t)):=
 ⟨isl_blk (Blk.start W _ _) hl,bA⟩
theorem isl_two (W:World) (M N:List Int) (t:TypeId) (hl:M.length≤100) (hn:N.length≤100):IsL ((W.alloc (.cells ⟨arL M⟩ t)).alloc (.cells ⟨arL N⟩ t)) (.slice (some ⟨W.heap.size,0,none⟩) M.length M.length) M∧IsL ((W.alloc (.cells ⟨arL M⟩ t)).alloc (.cells ⟨arL N⟩ t)) (.slice (some ⟨W.heap.size+1,0,none⟩) N.length N.length) N∧Below W.heap.size W ((W.alloc (.cells ⟨arL M⟩ t)).alloc (.cells ⟨arL N⟩ t)):=
 ⟨isl_blk ((Blk.start W _ _).alloc _) hl,isl_blk (Blk.startAt (by simp)) hn,(bA).alloc (by simp) _⟩
theorem awake13_of (HC:VCAll):Awake13Ok:=by
 intro w
 have HJ:=Lh (HC.join [1,0,2] [0,3] _ _ _ (med_small (by decide)) (med_small (by decide)) (isl_two w [1,0,2] [0,3] 3 (by decide) (by decide)).1 (isl_two w [1,0,2] [0,3] 3 (by decide) (by decide)).2.1);have HB:=Lh (isl_two w [1,0,2] [0,3] 3 (by decide) (by decide)).2.2;have HC:=Lh HC
 go_enter Try.func13,Try.ntmps13
 go_wp2_with (go_at_call 23; refine HJ.out.mono ?_; rintro e w1 ⟨y,T,rfl,t1,t2,t3,hb⟩; refine Hid.out ?_)
 have mT:MedA T:=med_pad t1 (by rw [t2]; exact join_in (c:=2199023255552) (by decide) (by decide));have HY:=Lh t3.isL;have HS:=Lh (HC.out.same T [1,3,2] y _ _ mT (med_small (by decide)) (HY.out.next (isl_one w1 [1,3,2] 3 (by decide)).2) (isl_one w1 [1,3,2] 3 (by decide)).1);have hd:decide (pad T=pad [1,3,2])=true:=by rw [t2]; decide
 rw [hd] at HS;have HB1:=Lh (HB.out.trans ((hb.trans ((isl_one w1 [1,3,2] 3 (by decide)).2.mono hb.size)).mono HB.out.size));clear hd t1 t2 t3 mT HY HJ hb HB;refine Lh ?_;go_wp2_with (go_at_call 24; refine HS.out.mono ?_; rintro e w2 ⟨rfl,hb⟩; refine Hid.out ?_)
 have HL:=Lh (HC.out.leq [1] [0,9] _ _ _ (med_small (by decide)) (med_small (by decide)) (isl_two w2 [1] [0,9] 3 (by decide) (by decide)).1 (isl_two w2 [1] [0,9] 3 (by decide) (by decide)).2.1);rw [show leqL (pad [1]) (pad [0,9])=false by decide] at HL;have HB2:=Lh (HB1.out.trans ((hb.trans ((isl_two w2 [1] [0,9] 3 (by decide) (by decide)).2.2.mono hb.size)).mono HB1.out.size));clear hb HS HB1;refine Lh ?_;go_wp2_with (go_at_call 18; refine HL.out.mono ?_; rintro e w3 ⟨rfl,hb⟩)
 go_ret
 exact ⟨rfl,HB2.out.trans (hb.mono HB2.out.size)⟩
end Go.Proofs.Ytjilpbmehipagaa
