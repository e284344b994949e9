import Derived.Test.YtkmcoineknbgcaaGreatDoorLPnd
import Derived.Test.YtkmcoineknbgcaaGreatDoorAw6
set_option maxRecDepth 100000
set_option maxHeartbeats 12800000
namespace Go.Proofs.YtkmcoineknbgcaaGreatDoor
open Go Go.Proofs Go.RowKit
def Awake7Ok:Prop:=∀ w:World,Tabs w→Calls Tryz.prog 28 #[] w fun e w'=>e=.returned (.bool true)∧Below w.heap.size w w'
def ex7:Oq:=⟨0,2,1,1,1,98,by decide,by decide⟩
theorem ex7_add:addE [] ex7=0∧addL [] ex7=[ex7]:=by
 have h:addE [] ex7=0:=by decide
 exact ⟨h,by unfold addL; rw [if_pos h]; rfl⟩
theorem ex7_nx:nxI [] [ex7] = -1:=by decide
theorem ex7_top:topI [ex7]=2:=by decide
theorem awake7_any (hA6:Awake6Ok) (hAdd:PAddOk) (hNx:PNextOk 0) (hLn:PLenOk) (hT:PTopOk):Awake7Ok:=by
 intro w ht
 have hAd:=hAdd [] ex7 (.slice none 0 0) w (by simp) (.inl ⟨rfl,rfl⟩);rw [ex7_add.1,ex7_add.2] at hAd;have HAd:=Lh hAd;have HTab:=Lh ht;have HA6:=Lh hA6;have HNx:=Lh (fun s W (h:IsP7 W s [ex7])=>hNx [] [ex7] s none none .nil .nil W (Nat.le_refl _) ok_nil (StO.nil W) (by simp) h);rw [ex7_nx] at HNx;have HLn:=Lh (fun s W (h:IsP7 W s [ex7])=>hLn [ex7] s W (by simp) h);have HT:=Lh (fun s W (h:IsP7 W s [ex7])=>hT [ex7] s W (by simp) h);rw [ex7_top] at HT;clear hAd ht hA6 hNx hLn hT hAdd;have hcn:cnt .nil=0:=cnt_nil;rw [hcn] at HNx;clear hcn
 go_enter Tryz.func28,Tryz.ntmps28
 go_wp2_with (go_at_call 36; refine HAd.out.mono ?_; rintro e w1 ⟨hb,s',rfl,hs⟩; obtain ⟨a1,c1,rfl,h11,h12⟩:=hs.form; refine Hid.out ?_)
 have hba:Below w1.heap.size w1 (w1.alloc (.cells #[.slice a1 [ex7].length c1] 34)):=bA;have H1:=Lh (And.intro (hb.trans (hba.mono hb.size)) (And.intro (Blk.start w1 [.slice a1 [ex7].length c1] 34) (hs.next hba)));clear hba hb hs HAd;have s0:=H1.out.2.1.cell 0 rfl;refine Lh ?_;go_wp2_with (go_at_call 35; refine (HNx.out _ _ H1.out.2.2).mono ?_; rintro e w2 ⟨hb,s2,l2,x2,rfl,hs2,hcase⟩; obtain ⟨a2,c2,rfl,h21,h22⟩:=hs2.form; refine Hid.out ?_)
 obtain rfl:x2=zeroOq:=by
  rcases hcase with ⟨_,_,h⟩ | ⟨i,hi,h,_⟩
  ·exact h
  ·omega
 have hb2:Below w2.heap.size w2 ((w2.alloc (.cells #[.slice a2 l2.length c2] 34)).alloc (.cells #[.int .i64 0,.int .i64 0,.int .i64 0,.int .i64 0,.int .i64 0,.int .i32 0] 45)):=(bA).alloc (by simp) _;have hb3:=hb.trans (hb2.mono hb.size);have H2:=Lh (And.intro (H1.out.1.trans (hb3.mono H1.out.1.size)) (And.intro (H1.out.2.1.next hb3) (H1.out.2.2.next hb3)));clear H1 hb hb2 hb3 hs2 hcase s0 HNx;refine Lh ?_;simp only [zeroOq]
 go_wp2_with (go_at_call 49; refine (HA6.out _ (HTab.out.next H2.out.1)).mono ?_; rintro e w3 ⟨rfl,hb⟩; refine Hid.out ?_)
 have H3:=Lh (And.intro (H2.out.1.trans (hb.mono H2.out.1.size)) (And.intro (H2.out.2.1.next hb) (H2.out.2.2.next hb)));clear H2 hb;have s0:=H3.out.2.1.cell 0 rfl;refine Lh ?_;go_wp2_with (go_at_call 50; refine (HLn.out _ _ H3.out.2.2).mono ?_; rintro e w4 ⟨rfl,hb⟩; refine Hid.out ?_)
 have H4:=Lh (And.intro (H3.out.1.trans (hb.mono H3.out.1.size)) (And.intro (H3.out.2.1.next hb) (H3.out.2.2.next hb)));clear H3 hb s0;have s0:=H4.out.2.1.cell 0 rfl;refine Lh ?_;go_wp2_with (go_at_call 41; refine (HT.out _ _ H4.out.2.2).mono ?_; rintro e w5 ⟨rfl,hb⟩)
 go_ret
 exact ⟨rfl,H4.out.1.trans (hb.mono H4.out.1.size)⟩
end Go.Proofs.YtkmcoineknbgcaaGreatDoor
