import Derived.Test.YtjilpbmehipagaaRs14
set_option maxRecDepth 100000
set_option maxHeartbeats 12800000
namespace Go.Proofs.Ytjilpbmehipagaa
open Go Go.Proofs Go.RowKit
theorem isac_blk {W:World} {b:Nat} {L:List Ac} {t:TypeId} (h:Blk W b (L.flatMap acL) t) (hl:L.length≤100):IsAc W (.slice (some ⟨b,0,none⟩) L.length L.length) L:=by
 refine ⟨_,_,rfl,Nat.le_refl _,by omega,fun _=>⟨b,0,rfl,h.lt,fun j hj=>?_⟩⟩;have hc:∀ r,r<3→(L.flatMap acL)[j * 3+r]? = (acL L[j])[r]? := fun r hr=>flat_at acL_len L j r hj hr
 simp only [Nat.zero_add]
 exact ⟨h.cell _ (hc 0 (by omega)),h.cell _ (hc 1 (by omega)),h.cell _ (hc 2 (by omega))⟩
theorem isac_one (W:World) (L:List Ac) (t:TypeId) (hl:L.length≤100):IsAc (W.alloc (.cells ⟨L.flatMap acL⟩ t)) (.slice (some ⟨W.heap.size,0,none⟩) L.length L.length) L∧Below W.heap.size W (W.alloc (.cells ⟨L.flatMap acL⟩ t)):=
 ⟨isac_blk (Blk.start W _ _) hl,bA⟩
theorem code_ex1:codeL [⟨0,1,0⟩,⟨1,0,0⟩]=13:=by
 refine code_race (by decide) ⟨0,1,by decide,by decide,⟨by decide,by decide,by decide,by decide⟩,fun h=>?_,fun h=>absurd h.lt (by decide)⟩
 cases h with
 | one _ _ h=>revert h; unfold dirP; decide
 | step h1 h2 _ _=>have:=h1.lt; omega
theorem code_ex2:codeL [⟨0,1,0⟩,⟨0,3,5⟩,⟨1,2,5⟩,⟨1,0,0⟩]=0:=by
 refine code_ok (by decide) ?_
 rintro ⟨i,k,hik,hk,⟨a,b,_⟩,e,_⟩
 have hk4:k<4:=hk;have h03:Ord [⟨0,1,0⟩,⟨0,3,5⟩,⟨1,2,5⟩,⟨1,0,0⟩] 0 3:=
  .step (.step (.one (i:=0) (k:=1) (by decide) (by decide) (.inl (by decide))) (k:=2) (by decide) (by decide) (.inr (by decide))) (by decide) (by decide) (.inl (by decide))
 have hk':k=1∨k=2∨k=3:=by omega
 rcases hk' with rfl | rfl | rfl
 ·revert b; decide
 ·revert b; decide
 ·have hi':i=0∨i=1∨i=2:=by omega
  rcases hi' with rfl | rfl | rfl
  ·exact e h03
  ·revert a; decide
  ·revert a; decide
theorem awake14_of (HR:RAll) (h13:Awake13Ok):Awake14Ok:=by
 intro w
 have H1:=Lh (HR.first [⟨0,1,0⟩,⟨1,0,0⟩] _ _ (by decide) (by unfold LocOk; decide) (isac_one w [⟨0,1,0⟩,⟨1,0,0⟩] 31 (by decide)).1);rw [code_ex1] at H1;have HB:=Lh (isac_one w [⟨0,1,0⟩,⟨1,0,0⟩] 31 (by decide)).2;have H2:=Lh (fun W=>HR.first [⟨0,1,0⟩,⟨0,3,5⟩,⟨1,2,5⟩,⟨1,0,0⟩] _ _ (by decide) (by unfold LocOk; decide) (isac_one W [⟨0,1,0⟩,⟨0,3,5⟩,⟨1,2,5⟩,⟨1,0,0⟩] 31 (by decide)).1);rw [code_ex2] at H2;have HB2:=Lh (fun W=>(isac_one W [⟨0,1,0⟩,⟨0,3,5⟩,⟨1,2,5⟩,⟨1,0,0⟩] 31 (by decide)).2);have H13:=Lh h13;clear HR h13
 go_enter Try.func5,Try.ntmps5
 go_upto_region 2 with (go_at_call 12; refine H1.out.mono ?_; rintro e w1 ⟨a1,b1,rfl,hb⟩)
 have HC1:=Lh (HB.out.trans (hb.mono HB.out.size));have HC2:=Lh (HC1.out.trans ((HB2.out w1).mono HC1.out.size));have H2W:=Lh (H2.out w1);clear hb H1 HB H2 HB2
 go_upto_region 3 with (go_at_call 12; refine H2W.out.mono ?_; rintro e w2 ⟨a2,b2,rfl,hb⟩)
 have HC3:=Lh (HC2.out.trans (hb.mono HC2.out.size));clear hb HC2 H2W;go_wp2_with (go_at_call 13; refine (H13.out w2).mono ?_; rintro e w3 ⟨rfl,hb⟩)
 go_ret
 exact ⟨rfl,HC3.out.trans (hb.mono HC3.out.size)⟩
end Go.Proofs.Ytjilpbmehipagaa
