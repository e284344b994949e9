import Derived.Test.YtifnijmienmmbaaGreatDoorLPnd
import Derived.Test.YtifnijmienmmbaaGreatDoorAw6
set_option maxRecDepth 100000
set_option maxHeartbeats 12800000
namespace Go.Proofs.YtifnijmienmmbaaGreatDoor
open Go Go.Proofs Go.RowKit
def Awake7Ok:Prop:=∀ w:World,Tabs w→Calls Tryz.prog 34 #[] w fun e w'=>e=.returned (.bool true)∧Below w.heap.size w w'
def ex7:Oq:=⟨0,2,1,1,1,98,by decide,by decide⟩
theorem ex7_add:addE [] ex7=0∧addL [] ex7=[ex7]:=by
 have h:addE [] ex7=0:=by decide
 exact ⟨h,by unfold addL; rw [if_pos h]; rfl⟩
theorem ex7_nx:nxI [] [ex7] = -1:=by decide
theorem ex7_top:topI [ex7]=2:=by decide
theorem IsP7.set {W:World} {b i:Nat} {u:TypeId} {vs:List Value} (hB:Blk W b vs u) (ht:u≠68) (x:Value) {v:Value} {L:List Oq} (h:IsP7 W v L):IsP7 (W.setCell ⟨b,i,none⟩ x) v L:=Sl.set hB ht i x h
theorem IsO.set {W:World} {b i:Nat} {u:TypeId} {vs:List Value} (hB:Blk W b vs u) (ht:u≠95) (x:Value) {v:Value} {L:List Oq} (h:IsO W v L):IsO (W.setCell ⟨b,i,none⟩ x) v L:=Sl.set hB ht i x h
theorem awake7_any (hA6:Awake6Ok) (hAdd:PAddOk) (hNx:PNextOk 0) (hLn:PLenOk) (hT:PTopOk):Awake7Ok:=by
 intro w ht
 have hAd:=hAdd [] ex7 (.slice none 0 0) w (by simp) (.inl ⟨rfl,rfl⟩);rw [ex7_add.1,ex7_add.2] at hAd;have HAd:=Lh hAd;have HTab:=Lh ht;have HA6:=Lh hA6;have HNx:=Lh (fun s W (h:IsP7 W s [ex7])=>hNx [] [ex7] s none none .nil .nil W (Nat.le_refl _) ok_nil (StO.nil W) (by simp) h);rw [ex7_nx] at HNx;have HLn:=Lh (fun s W (h:IsP7 W s [ex7])=>hLn [ex7] s W (by simp) h);have HT:=Lh (fun s W (h:IsP7 W s [ex7])=>hT [ex7] s W (by simp) h);rw [ex7_top] at HT;clear hAd ht hA6 hNx hLn hT hAdd;have hcn:cnt .nil=0:=cnt_nil;rw [hcn] at HNx;clear hcn
 go_enter Tryz.func34,Tryz.ntmps34
 go_wp2_with (go_at_call 57; refine HAd.out.mono ?_; rintro e w1 ⟨hb,s',rfl,hs⟩; obtain ⟨a1,c1,rfl,h11,h12⟩:=hs.form; refine Hid.out ?_)
 have hba:Below w1.heap.size w1 (w1.alloc (.cells #[.slice a1 [ex7].length c1] 36)):=bA;have H1:=Lh (And.intro (hb.trans (hba.mono hb.size)) (And.intro (Blk.start w1 [.slice a1 [ex7].length c1] 36) (hs.next hba)));clear hba hb hs HAd;have s0:=H1.out.2.1.cell 0 rfl;refine Lh ?_;go_wp2_with (go_at_call 58; refine (HNx.out _ _ H1.out.2.2).mono ?_; rintro e w2 ⟨hb,s2,l2,x2,rfl,hs2,hcase⟩; obtain ⟨a2,c2,rfl,h21,h22⟩:=hs2.form; refine Hid.out ?_)
 obtain rfl:x2=zeroOq:=by
  rcases hcase with ⟨_,_,h⟩ | ⟨i,hi,h,_⟩
  ·exact h
  ·omega
 have hb2:Below w2.heap.size w2 ((w2.alloc (.cells #[.slice a2 l2.length c2] 36)).alloc (.cells #[.int .i64 0,.int .i64 0,.int .i64 0,.int .i64 0,.int .i64 0,.int .i32 0] 68)):=(bA).alloc (by simp) _;have hb3:=hb.trans (hb2.mono hb.size);have H2:=Lh (And.intro (H1.out.1.trans (hb3.mono H1.out.1.size)) (And.intro (H1.out.2.1.next hb3) (H1.out.2.2.next hb3)));clear H1 hb hb2 hb3 hs2 hcase s0 HNx;refine Lh ?_;simp only [zeroOq]
 go_wp2_with (go_at_call 59; refine (HA6.out _ (HTab.out.next H2.out.1)).mono ?_; rintro e w3 ⟨rfl,hb⟩; refine Hid.out ?_)
 have H3:=Lh (And.intro (H2.out.1.trans (hb.mono H2.out.1.size)) (And.intro (H2.out.2.1.next hb) (H2.out.2.2.next hb)));clear H2 hb;have s0:=H3.out.2.1.cell 0 rfl;refine Lh ?_;go_wp2_with (go_at_call 60; refine (HLn.out _ _ H3.out.2.2).mono ?_; rintro e w4 ⟨rfl,hb⟩; refine Hid.out ?_)
 have H4:=Lh (And.intro (H3.out.1.trans (hb.mono H3.out.1.size)) (And.intro (H3.out.2.1.next hb) (H3.out.2.2.next hb)));clear H3 hb s0;have s0:=H4.out.2.1.cell 0 rfl;refine Lh ?_;go_wp2_with (go_at_call 53; refine (HT.out _ _ H4.out.2.2).mono ?_; rintro e w5 ⟨rfl,hb⟩)
 go_ret
 exact ⟨rfl,H4.out.1.trans (hb.mono H4.out.1.size)⟩
structure Pq7 (w:World) (m:List Oq) (p q:Option Addr) (T:Tr) (P:Pt) (v:Value) (W:World):Prop where
 bel:Below w.heap.size w W
 bs:Blk W w.heap.size (stL p q P) 33
 st:StO W m p q T P
 own:W.ownsRow (w.heap.size+1) 95 6 v m.length (m.flatMap oqL)
theorem Pq7.next {w:World} {m:List Oq} {p q:Option Addr} {T:Tr} {P:Pt} {v:Value} {W W':World} (h:Pq7 w m p q T P v W) (hb:Below W.heap.size W W'):Pq7 w m p q T P v W':=
 ⟨h.bel.trans (hb.mono h.bel.size),h.bs.next hb,h.st.next hb,ownsRow_next h.own hb⟩
theorem Pq7.isO {w:World} {m:List Oq} {p q:Option Addr} {T:Tr} {P:Pt} {v:Value} {W:World} (h:Pq7 w m p q T P v W):IsO W v m:=Sl.of h.own
theorem Pq7.start (w:World):Pq7 w [] none none .nil .nil (.slice none 0 0) (w.alloc (.cells #[.pointer none,.pointer none,.int .i64 0] 33)):=
 ⟨bA,Blk.start w _ _,StO.nil _,World.ownsRow_nil _ _ _ _⟩
theorem Pq7.turn {w:World} {m m2:List Oq} {p q p' q':Option Addr} {P:Pt} {T':Tr} {P':Pt} {v:Value} {N2:Int} {W:World} (hbel:Below w.heap.size w W)
  (hbs:Blk W w.heap.size (stL p q P) 33) (hst:StO W m2 p' q' T' P') (hN:cnt P'=N2) (ho:W.ownsRow (w.heap.size+1) 95 6 v m.length (m.flatMap oqL)):
  Below w.heap.size w (((W.setCell ⟨w.heap.size,0,none⟩ (.pointer p')).setCell ⟨w.heap.size,1,none⟩ (.pointer q')).setCell ⟨w.heap.size,2,none⟩ N2) ∧
  Blk (((W.setCell ⟨w.heap.size,0,none⟩ (.pointer p')).setCell ⟨w.heap.size,1,none⟩ (.pointer q')).setCell ⟨w.heap.size,2,none⟩ N2) w.heap.size (stL p' q' P') 33 ∧
  StO (((W.setCell ⟨w.heap.size,0,none⟩ (.pointer p')).setCell ⟨w.heap.size,1,none⟩ (.pointer q')).setCell ⟨w.heap.size,2,none⟩ N2) m2 p' q' T' P' ∧
  (((W.setCell ⟨w.heap.size,0,none⟩ (.pointer p')).setCell ⟨w.heap.size,1,none⟩ (.pointer q')).setCell ⟨w.heap.size,2,none⟩ N2).ownsRow (w.heap.size+1) 95 6 v m.length (m.flatMap oqL):=by
 subst hN;have hle:w.heap.size≤w.heap.size:=Nat.le_refl _;have b1:=hbs.set 0 (.pointer p');have b2:=b1.set 1 (.pointer q');have b3:=b2.set 2 (.int .i64 (cnt P'));have k:∀ t,33≠t→KT t W (((W.setCell ⟨w.heap.size,0,none⟩ (.pointer p')).setCell ⟨w.heap.size,1,none⟩ (.pointer q')).setCell ⟨w.heap.size,2,none⟩ (.int .i64 (cnt P'))):=
  fun t ht=>((KT.set hbs ht 0 _).trans (KT.set b1 ht 1 _)).trans (KT.set b2 ht 2 _)
 exact ⟨((hbel.setCell (p:=⟨w.heap.size,0,none⟩) hle _).setCell (p:=⟨w.heap.size,1,none⟩) hle _).setCell (p:=⟨w.heap.size,2,none⟩) hle _,b3,hst.kt (k _ (by decide)) (k _ (by decide)) (by simp),own_kt ho (k _ (by decide))⟩
structure Pr7 (W0:World) (L:List Oq) (s vl:Value) (W:World):Prop where
 low:Below W0.heap.size W0 W
 bR:Blk W W0.heap.size [s] 36
 room:IsP7 W s L
 lst:IsO W vl L
theorem Pr7.next {W0:World} {L:List Oq} {s vl:Value} {W W':World} (h:Pr7 W0 L s vl W) (hb:Below W.heap.size W W'):Pr7 W0 L s vl W':=
 ⟨h.low.trans (hb.mono h.low.size),h.bR.next hb,h.room.next hb,h.lst.next hb⟩
theorem Pr7.put {W0:World} {L L2:List Oq} {s s2 vl vl2:Value} {W:World} (h:Pr7 W0 L s vl W) (hr:IsP7 W s2 L2) (hl:IsO W vl2 L2):Pr7 W0 L2 s2 vl2 (W.setCell ⟨W0.heap.size,0,none⟩ s2):=
 ⟨h.low.setCell (p:=⟨W0.heap.size,0,none⟩) (Nat.le_refl _) _,h.bR.set 0 s2,hr.set h.bR (by decide) _,hl.set h.bR (by decide) _⟩
theorem Pr7.start (W0:World):Pr7 W0 [] (.slice none 0 0) (.slice none 0 0) (W0.alloc (.cells #[.slice none 0 0] 36)):=
 ⟨bA,Blk.start W0 _ _,.inl ⟨rfl,rfl⟩,.inl ⟨rfl,rfl⟩⟩
structure Nx7 (w W0:World) (m:List Oq) (p q:Option Addr) (T:Tr) (P:Pt) (vm:Value) (L:List Oq) (s vl s2:Value) (L2:List Oq) (Bo Bn:Nat) (o:Oq) (xs:List Value) (W:World):Prop where
 pr:Pr7 W0 L s vl W
 box:Blk W Bo (oqL o) 68
 pq:Pq7 w m p q T P vm W
 nroom:IsP7 W s2 L2
 bn:Blk W Bn [s2] 36
 bx:Blk W (Bn+1) xs 68
theorem Nx7.next {w W0:World} {m:List Oq} {p q:Option Addr} {T:Tr} {P:Pt} {vm:Value} {L:List Oq} {s vl s2:Value} {L2:List Oq} {Bo Bn:Nat} {o:Oq} {xs:List Value} {W W':World}
  (h:Nx7 w W0 m p q T P vm L s vl s2 L2 Bo Bn o xs W) (hb:Below W.heap.size W W'):Nx7 w W0 m p q T P vm L s vl s2 L2 Bo Bn o xs W':=
 ⟨h.pr.next hb,h.box.next hb,h.pq.next hb,h.nroom.next hb,h.bn.next hb,h.bx.next hb⟩
theorem Nx7.ne {w W0:World} {m:List Oq} {p q:Option Addr} {T:Tr} {P:Pt} {vm:Value} {L:List Oq} {s vl s2:Value} {L2:List Oq} {Bo Bn:Nat} {o:Oq} {xs:List Value} {W:World}
  (h:Nx7 w W0 m p q T P vm L s vl s2 L2 Bo Bn o xs W):Bo≠W0.heap.size:=fun e=>by
 have h1:=h.box;have h2:=h.pr.bR;rw [e] at h1;unfold Blk at h1 h2
 rw [h1] at h2;simp at h2
theorem Nx7.put {w W0:World} {m:List Oq} {p q:Option Addr} {T:Tr} {P:Pt} {vm:Value} {L:List Oq} {s vl s2:Value} {L2:List Oq} {Bo Bn:Nat} {o:Oq} {xs:List Value} {W:World}
  (h:Nx7 w W0 m p q T P vm L s vl s2 L2 Bo Bn o xs W):(Below W0.heap.size W0 (W.setCell ⟨W0.heap.size,0,none⟩ s2)∧Blk (W.setCell ⟨W0.heap.size,0,none⟩ s2) W0.heap.size [s2] 36∧IsP7 (W.setCell ⟨W0.heap.size,0,none⟩ s2) s2 L2) ∧
   IsO (W.setCell ⟨W0.heap.size,0,none⟩ s2) vl L∧Blk (W.setCell ⟨W0.heap.size,0,none⟩ s2) Bo (oqL o) 68:=
 ⟨⟨h.pr.low.setCell (p:=⟨W0.heap.size,0,none⟩) (Nat.le_refl _) _,h.pr.bR.set 0 s2,h.nroom.set h.pr.bR (by decide) _⟩,h.pr.lst.set h.pr.bR (by decide) _,h.box.other ⟨W0.heap.size,0,none⟩ h.ne _⟩
theorem nxI_cases (m l:List Oq):nxI m l = -1∨∃ i:Nat,nxI m l=(i:Int)∧i<l.length:=by
 rcases fnd_spec (nxB m) l 0 with ⟨h,_⟩ | ⟨i,hi,h,_⟩
 ·exact .inl h
 ·exact .inr ⟨i,by unfold nxI; rw [h]; simp,hi⟩
def LiesB (w:World) (b off:Nat) (l:List Bool):Prop:=∀ j (hj:j<l.length),w.cell? ⟨b,off+j,none⟩=some (.bool l[j])
def IsBools (w:World) (v:Value) (l:List Bool):Prop:=
 ∃ a cap,v=.slice a l.length cap∧l.length≤cap∧cap≤9223372036854775807∧(l≠[]→∃ b off,a=some ⟨b,off,none⟩∧b<w.heap.size∧LiesB w b off l)
end Go.Proofs.YtifnijmienmmbaaGreatDoor
