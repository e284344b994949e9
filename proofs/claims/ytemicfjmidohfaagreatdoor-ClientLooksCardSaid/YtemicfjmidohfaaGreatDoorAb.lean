import Derived.Test.YtemicfjmidohfaaGreatDoorLCor
import Derived.Test.YtemicfjmidohfaaGreatDoorLPnd
import Derived.Test.YtemicfjmidohfaaGreatDoorEb
set_option maxRecDepth 100000
set_option maxHeartbeats 12800000
namespace Go.Proofs.YtemicfjmidohfaaGreatDoor
open Go Go.Proofs Go.RowKit
def exO:Nat→Oq
 | 0=>⟨0,1,1,0,0,97,by decide,by decide⟩
 | 1=>⟨0,2,1,1,1,98,by decide,by decide⟩
 | _=>⟨0,2,2,1,1,99,by decide,by decide⟩
def exM:Nat→List Oq
 | 0=>[]
 | k+1=>exM k++[exO k]
theorem exM_len:∀ k,(exM k).length=k
 | 0=>rfl
 | k+1=>by simp [exM,exM_len k]
theorem ex_wrong {k:Nat} (h:k<3):wrongE (exM k) (exO k)=0:=by
 match k,h with
 | 0,_=>decide
 | 1,_=>decide
 | 2,_=>decide
theorem ex_ok:∀ {k:Nat},k≤3→OkO (exM k)
 | 0,_=>ok_nil
 | k+1,h=>wrong_ok (ex_ok (by omega)) (ex_wrong (by omega))
theorem ex_can {k:Nat} (h:k<3):CanI (exM k) (exO k):=by
 obtain ⟨_,_,⟨h1,_⟩ | h1⟩:=wrong_zero (ex_wrong h)
 ·match k,h with
  | 0,_=>cases h1
  | 1,_=>cases h1
  | 2,_=>cases h1
 ·exact h1
theorem ex_row:rowO (exM 3)=[exO 0,exO 2,exO 1]:=by
 have e1:rowO (exM 1)=[exO 0]:=by
  show rowO (exM 0++[exO 0])=_
  rw [row_ins (ex_ok (k:=0) (by omega)).gd (ex_can (k:=0) (by omega))]
  show insR _ (rowO [])=_
  rw [row_nil];rfl
 have e2:rowO (exM 2)=[exO 0,exO 1]:=by
  show rowO (exM 1++[exO 1])=_
  rw [row_ins (ex_ok (k:=1) (by omega)).gd (ex_can (k:=1) (by omega)),e1];rfl
 show rowO (exM 2++[exO 2])=_
 rw [row_ins (ex_ok (k:=2) (by omega)).gd (ex_can (k:=2) (by omega)),e2];rfl
theorem ex_txt:(⟨(txtL (docR (exM 3))).toArray⟩:ByteArray)=⟨#[97,99,98]⟩:=by
 unfold docR
 rw [ex_row];rfl
theorem stO_kt_state {W:World} {m:List Oq} {p q p0 q0:Option Addr} {T:Tr} {P P0:Pt} {B:Nat} {N2:Int} (h:StO W m p q T P) (hb:Blk W B (stL p0 q0 P0) 35) (hN:cnt P=N2):
  StO (((W.setCell ⟨B,0,none⟩ (.pointer p)).setCell ⟨B,1,none⟩ (.pointer q)).setCell ⟨B,2,none⟩ N2) m p q T P∧Blk (((W.setCell ⟨B,0,none⟩ (.pointer p)).setCell ⟨B,1,none⟩ (.pointer q)).setCell ⟨B,2,none⟩ N2) B (stL p q P) 35:=by
 subst hN;have b1:=hb.set 0 (.pointer p);have b2:=b1.set 1 (.pointer q);have b3:=b2.set 2 (.int .i64 (cnt P));have k:∀ t,35≠t→KT t W (((W.setCell ⟨B,0,none⟩ (.pointer p)).setCell ⟨B,1,none⟩ (.pointer q)).setCell ⟨B,2,none⟩ (.int .i64 (cnt P))):=
  fun t ht=>((KT.set hb ht 0 _).trans (KT.set b1 ht 1 _)).trans (KT.set b2 ht 2 _)
 exact ⟨h.kt (k _ (by decide)) (k _ (by decide)) (by simp),b3⟩
def exL:List Value:=[.int .i64 0,.int .i64 1,.int .i64 1,.int .i64 0,.int .i64 0,.int .i32 97,.int .i64 0,.int .i64 2,.int .i64 1,.int .i64 1,.int .i64 1,.int .i32 98,.int .i64 0,.int .i64 2,.int .i64 2,.int .i64 1,.int .i64 1,.int .i32 99]
structure Aw6 (w:World) (m:List Oq) (p q:Option Addr) (T:Tr) (P:Pt) (W:World):Prop where
 bel:Below w.heap.size w W
 bs:Blk W w.heap.size (stL p q P) 35
 ar:Blk W (w.heap.size+1) exL 73
 st:StO W m p q T P
theorem Aw6.next {w:World} {m:List Oq} {p q:Option Addr} {T:Tr} {P:Pt} {W W':World} (h:Aw6 w m p q T P W) (hb:Below W.heap.size W W'):Aw6 w m p q T P W':=
 ⟨h.bel.trans (hb.mono h.bel.size),h.bs.next hb,h.ar.next hb,h.st.next hb⟩
theorem exL_at {W:World} {B:Nat} (h:Blk W B exL 73) {k:Nat} (hk:k<3):
  W.cell? ⟨B,k * 6,none⟩=some (.int .i64 (exO k).k)∧W.cell? ⟨B,k * 6+1,none⟩=some (.int .i64 (exO k).c)∧W.cell? ⟨B,k * 6+2,none⟩=some (.int .i64 (exO k).s)∧W.cell? ⟨B,k * 6+3,none⟩=some (.int .i64 (exO k).a)∧W.cell? ⟨B,k * 6+4,none⟩=some (.int .i64 (exO k).n)∧W.cell? ⟨B,k * 6+5,none⟩=some (.int .i32 (exO k).ch):=by
 match k,hk with
 | 0,_=>exact h.c6
 | 1,_=>exact ⟨h.cell 6 rfl,h.cell 7 rfl,h.cell 8 rfl,h.cell 9 rfl,h.cell 10 rfl,h.cell 11 rfl⟩
 | 2,_=>exact ⟨h.cell 12 rfl,h.cell 13 rfl,h.cell 14 rfl,h.cell 15 rfl,h.cell 16 rfl,h.cell 17 rfl⟩
theorem awake6_any {NN:Nat} (hN3:3≤NN) (hA:ApplyOk NN):Awake6Ok:=by
 intro w ht
 have HTab:=Lh ht;have HA:=Lh hA;clear ht hA;have H0:=Lh (show Aw6 w (exM 0) none none .nil .nil ((w.alloc (.cells #[.pointer none,.pointer none,.int .i64 0] 35)).alloc (.cells ⟨exL⟩ 73)) from
  ⟨(bA).alloc (by simp) _,(Blk.start w _ _).alloc _,Blk.startAt (by simp),StO.nil _⟩)
 go_enter Tryz.func233,Tryz.ntmps233
 go_wp2_with fail
 go_loopg [14] 3 (fun g ti wr=>∃ k:Nat,k≤3∧g=3-k∧ti=.int .i64 (k:Int)∧∃ p q T P,Aw6 w (exM k) p q T P wr)
 case atStart=>exact ⟨0,Nat.zero_le _,rfl,rfl,none,none,.nil,.nil,H0.out⟩
 case round=>
  obtain ⟨k,hk,rfl,rfl,p,q,T,P,hS⟩:=hrel;clear H0;by_cases hlt:k<3
  ·obtain ⟨k0,k1,k2,k3,k4,k5⟩:=exL_at hS.ar hlt
   have hokk:=ex_ok (k:=k) (by omega);have hw0:=ex_wrong hlt;have HAP:=Lh (fun W (h:StO W (exM k) p q T P)=>HA.out.one (exM k) (exO k) p q T P W (by rw [exM_len]; omega) hokk h);rw [hw0] at HAP;have HM:=Lh (show exM (k+1)=exM k++[exO k] from rfl);generalize exM k=m at *
   generalize exO k=o at *
   clear hokk hw0;generalize hcn:cnt P=N at *
   have hba:Below wr.heap.size wr (wr.alloc (.cells o 73)):=bA;have HS1:=Lh (hS.next hba);have s0:=fun ob=>(hS.bs.alloc ob).cell 0 rfl
   have s1:=fun ob=>(hS.bs.alloc ob).cell 1 rfl
   have s2:=fun ob=>((hS.bs.alloc ob).cell 2 rfl).trans (show some (Value.int .i64 (cnt P))=some (.int .i64 N) by rw [hcn])
   clear hS hba hcn;go_wp2_with fail;refine (HAP.out _ HS1.out.st).mono ?_;rintro e w1 ⟨hb,p',q',T',P',m',z,rfl,hst,hcase⟩
   have hmm:m'=m++[o]:=by
    rcases hcase with ⟨h,_⟩ | ⟨_,h,_⟩
    ·exact absurd rfl h
    ·exact h
   subst hmm;generalize hcn2:cnt P'=N2 at *
   have HK:=Lh (stO_kt_state hst (HS1.out.bs.next hb) hcn2);have HS2:=Lh (And.intro (HS1.out.next hb) hst);clear hb s0 s1 s2 k0 k1 k2 k3 k4 k5 HAP hst hcase HS1;obtain ⟨s0,s1,s2⟩:=HS2.out.1.bs.c3;have f0 := HS2.out.1.bs.f3;have HS3:=Lh (show Aw6 w (m++[o]) p' q' T' P' (((w1.setCell ⟨w.heap.size,0,none⟩ (.pointer p')).setCell ⟨w.heap.size,1,none⟩ (.pointer q')).setCell ⟨w.heap.size,2,none⟩ N2) from
    ⟨((HS2.out.1.bel.setCell (p:=⟨w.heap.size,0,none⟩) (Nat.le_refl _) _).setCell (p:=⟨w.heap.size,1,none⟩) (Nat.le_refl _) _).setCell (p:=⟨w.heap.size,2,none⟩) (Nat.le_refl _) _,HK.out.2,
     ((HS2.out.1.ar.other _ (show w.heap.size+1≠w.heap.size by omega) _).other _ (show w.heap.size+1≠w.heap.size by omega) _).other _ (show w.heap.size+1≠w.heap.size by omega) _,HK.out.1⟩)
   have HCN:=Lh hcn2;clear HK HS2 hcn2;go_wp2_with fail
   go_roundg (3-(k+1))
   case measure=>omega
   case rel=>exact ⟨k+1,by omega,rfl,by go_num,p',q',T',P',by rw [HM.out]; exact HS3.out⟩
  ·obtain rfl:k=3:=by omega
   have HS:=Lh hS;have hTs:T.size≤20000:=by
    rw [←Tr.els_length,hS.st.row,List.length_map,ex_row]
    decide
   have HTX:=Lh (fun W (h:Is W p T)=>text_any W h hTs);have hrow:T.els=docR (exM 3):=hS.st.row;rw [hrow,ex_txt] at HTX;clear hS hrow;go_wp2_with fail;refine (awakeC_any _ (HTab.out.1.next HS.out.bel)).mono ?_;rintro e w1 ⟨rfl,hb⟩
   have HS1:=Lh (HS.out.next hb);clear HS hb;go_wp2_with fail;refine (awakeD_any _ (HTab.out.1.next HS1.out.bel)).mono ?_;rintro e w2 ⟨rfl,hb⟩
   have HS2:=Lh (HS1.out.next hb);clear HS1 hb;go_wp2_with fail;refine (awake5_any _ (HTab.out.next HS2.out.bel)).mono ?_;rintro e w3 ⟨rfl,hb⟩
   have HS3:=Lh (HS2.out.next hb);clear HS2 hb;have s0:=HS3.out.bs.cell 0 rfl;go_wp2_with (go_at_call 186; refine (HTX.out _ HS3.out.st.tr).mono ?_; rintro e w4 ⟨rfl,hb⟩)
   go_ret
   exact ⟨rfl,HS3.out.bel.trans (hb.mono HS3.out.bel.size)⟩
end Go.Proofs.YtemicfjmidohfaaGreatDoor
set_option maxRecDepth 100000
set_option maxHeartbeats 12800000
namespace Go.Proofs.YtemicfjmidohfaaGreatDoor
open Go Go.Proofs Go.RowKit
def Awake7Ok:Prop:=∀ w:World,Tabs w→Calls Tryz.prog 196 #[] w (Rt (.bool true) w)
def ex7:Oq:=⟨0,2,1,1,1,98,by decide,by decide⟩
theorem ex7_add:addE [] ex7=0∧addL [] ex7=[ex7]:=by
 have h:addE [] ex7=0:=by decide
 exact ⟨h,by unfold addL; rw [if_pos h]; rfl⟩
theorem ex7_nx:nxI [] [ex7] = -1:=by decide
theorem ex7_top:topI [ex7]=2:=by decide
theorem awake7_any (hA6:Awake6Ok) (hAdd:PAddOk) (hNx:PNextOk 0) (hLn:PLenOk) (hT:PTopOk):Awake7Ok:=by
 intro w ht
 have hAd:=hAdd [] ex7 (.slice none 0 0) w (by simp) (.inl ⟨rfl,rfl⟩);rw [ex7_add.1,ex7_add.2] at hAd;have HAd:=Lh hAd;have HTab:=Lh ht;have HA6:=Lh hA6;have HNx:=Lh (fun s W (h:IsP7 W s [ex7])=>hNx [] [ex7] s none none .nil .nil W (Nat.le_refl _) ok_nil (StO.nil W) (by simp) h);rw [ex7_nx] at HNx;have HLn:=Lh (fun s W (h:IsP7 W s [ex7])=>hLn [ex7] s W (by simp) h);have HT:=Lh (fun s W (h:IsP7 W s [ex7])=>hT [ex7] s W (by simp) h);rw [ex7_top] at HT;clear hAd ht hA6 hNx hLn hT hAdd;have hcn:cnt .nil=0:=cnt_nil;rw [hcn] at HNx;clear hcn
 go_enter Tryz.func196,Tryz.ntmps196
 go_wp2_with fail;refine HAd.out.mono ?_;rintro e w1 ⟨hb,s',rfl,hs⟩; obtain ⟨a1,c1,rfl,h11,h12⟩:=hs.form
 have hba:Below w1.heap.size w1 (w1.alloc (.cells #[.slice a1 [ex7].length c1] 38)):=bA;have H1:=Lh (And.intro (hb.trans (hba.mono hb.size)) (And.intro (Blk.start w1 [.slice a1 [ex7].length c1] 38) (hs.next hba)));clear hba hb hs HAd;have s0:=H1.out.2.1.cell 0 rfl;go_wp2_with fail;refine (HNx.out _ _ H1.out.2.2).mono ?_;rintro e w2 ⟨hb,s2,l2,x2,rfl,hs2,hcase⟩; obtain ⟨a2,c2,rfl,h21,h22⟩:=hs2.form
 obtain rfl:x2=zeroOq:=by
  rcases hcase with ⟨_,_,h⟩ | ⟨i,hi,h,_⟩
  ·exact h
  ·omega
 have hb2:Below w2.heap.size w2 ((w2.alloc (.cells #[.slice a2 l2.length c2] 38)).alloc (.cells #[.int .i64 0,.int .i64 0,.int .i64 0,.int .i64 0,.int .i64 0,.int .i32 0] 73)):=(bA).alloc (by simp) _;have hb3:=hb.trans (hb2.mono hb.size);have H2:=Lh (And.intro (H1.out.1.trans (hb3.mono H1.out.1.size)) (And.intro (H1.out.2.1.next hb3) (H1.out.2.2.next hb3)));clear H1 hb hb2 hb3 hs2 hcase s0 HNx;simp only [zeroOq]
 go_wp2_with fail;refine (HA6.out _ (HTab.out.next H2.out.1)).mono ?_;rintro e w3 ⟨rfl,hb⟩
 have H3:=Lh (And.intro (H2.out.1.trans (hb.mono H2.out.1.size)) (And.intro (H2.out.2.1.next hb) (H2.out.2.2.next hb)));clear H2 hb;have s0:=H3.out.2.1.cell 0 rfl;go_wp2_with fail;refine (HLn.out _ _ H3.out.2.2).mono ?_;rintro e w4 ⟨rfl,hb⟩
 have H4:=Lh (And.intro (H3.out.1.trans (hb.mono H3.out.1.size)) (And.intro (H3.out.2.1.next hb) (H3.out.2.2.next hb)));clear H3 hb s0;have s0:=H4.out.2.1.cell 0 rfl;go_wp2_with (go_at_call 209; refine (HT.out _ _ H4.out.2.2).mono ?_; rintro e w5 ⟨rfl,hb⟩)
 go_ret
 exact ⟨rfl,H4.out.1.trans (hb.mono H4.out.1.size)⟩
end Go.Proofs.YtemicfjmidohfaaGreatDoor
set_option maxRecDepth 100000
set_option maxHeartbeats 12800000
namespace Go.Proofs.YtemicfjmidohfaaGreatDoor
open Go Go.Proofs Go.RowKit
def exD:Oq:=⟨1,1,1,0,0,0,by decide,by decide⟩
theorem ex8_r1:rowO (exM 1)=[exO 0]:=by
 show rowO (exM 0++[exO 0])=_
 rw [row_ins (ex_ok (k:=0) (by omega)).gd (ex_can (k:=0) (by omega))]
 show insR _ (rowO [])=_
 rw [row_nil];rfl
theorem ex8_r2:rowO (exM 2)=[exO 0,exO 1]:=by
 show rowO (exM 1++[exO 1])=_
 rw [row_ins (ex_ok (k:=1) (by omega)).gd (ex_can (k:=1) (by omega)),ex8_r1];rfl
theorem ex8_d0:docR []=[]:=by unfold docR; rw [row_nil]; rfl
theorem ex8_d1:docR (exM 1)=[⟨1,1,97,false,by decide,by decide⟩]:=by unfold docR; rw [ex8_r1]; rfl
theorem ex8_d2:docR (exM 2)=[⟨1,1,97,false,by decide,by decide⟩,⟨2,1,98,false,by decide,by decide⟩]:=by unfold docR; rw [ex8_r2]; rfl
theorem ex8_d3:docR (exM 2++[exD])=[⟨1,1,97,true,by decide,by decide⟩,⟨2,1,98,false,by decide,by decide⟩]:=by
 unfold docR; rw [row_del (by decide),ex8_r2]; rfl
theorem ex8_i1:inE8 [] [] 1 0 97 (by decide) (by decide)=0∧inT8 [] [] 1 0 97 (by decide) (by decide)=(exM 1,[],[chgO [] (exO 0)]):=by
 have hc:inC8 [] [] 1 0 97=0:=by unfold inC8; rw [ex8_d0]; decide
 have hx:inV8 [] [] 1 0 97 (by decide) (by decide)=exO 0:=rfl;have hw:wrongE [] (exO 0)=0:=by decide
 refine ⟨?_,?_⟩
 ·unfold inE8; rw [if_neg (by rw [hc]; decide),hx]; unfold remE; rw [hw]; rfl
 ·unfold inT8; rw [if_neg (by rw [hc]; decide),hx]; unfold remT; rw [if_neg (by rw [hw]; decide),if_pos hw]; rfl
theorem ex8_i2:inE8 (exM 1) [] 1 1 98 (by decide) (by decide)=0∧inT8 (exM 1) [] 1 1 98 (by decide) (by decide)=(exM 2,[],[chgO (exM 1) (exO 1)]):=by
 have hc:inC8 (exM 1) [] 1 1 98=0:=by unfold inC8; rw [ex8_d1]; decide
 have hx:inV8 (exM 1) [] 1 1 98 (by decide) (by decide)=exO 1:=by unfold inV8; rw [ex8_d1]; rfl
 have hw:wrongE (exM 1) (exO 1)=0:=by decide
 refine ⟨?_,?_⟩
 ·unfold inE8; rw [if_neg (by rw [hc]; decide),hx]; unfold remE; rw [hw]; rfl
 ·unfold inT8; rw [if_neg (by rw [hc]; decide),hx]; unfold remT; rw [if_neg (by rw [hw]; decide),if_pos hw]; rfl
theorem ex8_del:deE8 (exM 2) [] 0=0∧deT8 (exM 2) [] 0=(exM 2++[exD],[],[chgO (exM 2) exD]):=by
 have hn:namC (docR (exM 2)) 0=(1,1):=by rw [ex8_d2]; rfl
 have hx:deV8 (exM 2) 0=exD:=by unfold deV8; rw [hn]; rfl
 have hw:wrongE (exM 2) exD=0:=by decide
 refine ⟨?_,?_⟩
 ·unfold deE8; rw [if_neg (by rw [hn]; decide),hx]; unfold remE; rw [hw]; rfl
 ·unfold deT8; rw [if_neg (by rw [hn]; decide),hx]; unfold remT; rw [if_neg (by rw [hw]; decide),if_pos hw]; rfl
theorem ex8_chg:(chgO (exM 2) exD).d=true∧(chgO (exM 2) exD).a=0:=by
 refine ⟨rfl,?_⟩
 show ((rkL (docR (exM 2++[exD])) (plO (exM 2) exD):Nat):Int)=0
 unfold plO
 rw [ex8_d3];rfl
theorem ex8_txt:txtS (docR (exM 2++[exD]))=⟨#[98]⟩:=by rw [ex8_d3]; rfl
structure A8 (w:World) (B:Nat) (cs:List Value) (m l:List Oq) (W:World):Prop where
 bel:Below w.heap.size w W
 ge:w.heap.size≤B
 bv:Blk W B cs 43
 iv:IsV W m l cs
theorem A8.next {w:World} {B:Nat} {cs:List Value} {m l:List Oq} {W W':World} (h:A8 w B cs m l W) (hb:Below W.heap.size W W'):A8 w B cs m l W':=⟨h.bel.trans (hb.mono h.bel.size),h.ge,h.bv.next hb,h.iv.next hb⟩
theorem A8.put {w:World} {B:Nat} {c0 c1 c2 c3 c4 c5 c6 c7 d0 d1 d2 d3 d4 d5 d6 d7:Value} {m l m2 l2:List Oq} {W:World} (h:A8 w B [c0,c1,c2,c3,c4,c5,c6,c7] m l W) (h1:IsV W m2 l2 [d0,d1,d2,d3,d4,d5,d6,d7]):A8 w B [d0,d1,d2,d3,d4,d5,d6,d7] m2 l2 (setN W B 0 [d0,d1,d2,d3,d4,d5,d6,d7]):=by
 have k:∀ t,43≠t→KT t W (setN W B 0 [d0,d1,d2,d3,d4,d5,d6,d7]):=fun t ht=>KT.setN ht _ 0 h.bv
 exact ⟨setN_below h.ge _ 0 h.bel,h.ge,setN_blk [d0,d1,d2,d3,d4,d5,d6,d7] 0 h.bv,h1.kt (k _ (by decide)) (k _ (by decide)) (k _ (by decide)) (Nat.le_of_eq (setN_size _ 0).symm)⟩
theorem A8.ktV {w:World} {B:Nat} {cs:List Value} {m l:List Oq} {W:World} (h:A8 w B cs m l W) (vs:List Value) {t:TypeId} (ht:43≠t):KT t W (setN W B 0 vs):=KT.setN ht _ 0 h.bv
theorem awake8_any (H:VAll) (hA7:Awake7Ok):Awake8Ok:=by
 intro w hp ht
 have HPT:=Lh (And.intro hp ht);have HA7:=Lh hA7;have HI1:=Lh (H.ins [] [] 0 1 0 97 (by decide) (by decide) (.pointer none) (.pointer none) (.int .i64 0) (.slice none 0 0) (.int .i64 0) (.int .i64 0) (.complex .f64 0 0) (.complex .f64 0 0) w VOk.nil (by omega) (by decide) (by decide) (isv_nil w));rw [ex8_i1.1,ex8_i1.2] at HI1;have hv1:VOk (exM 1) [] 1:=by have h:=VOk.nil.ins 1 0 97 (by decide) (by decide); rw [ex8_i1.2] at h; exact h
 have hv2:VOk (exM 2) [] 2:=by have h:=hv1.ins 1 1 98 (by decide) (by decide); rw [ex8_i2.2] at h; exact h
 have hv3:VOk (exM 2++[exD]) [] 3:=by have h:=hv2.del 0; rw [ex8_del.2] at h; exact h
 have HI2:=Lh (fun (d0 d1 d2 d3 d4 d5 d6 d7:Value) W (h:IsV W (exM 1) [] [d0,d1,d2,d3,d4,d5,d6,d7])=>H.ins (exM 1) [] 1 1 1 98 (by decide) (by decide) d0 d1 d2 d3 d4 d5 d6 d7 W hv1 (by omega) (by decide) (by decide) h);rw [ex8_i2.1,ex8_i2.2] at HI2;have HI3:=Lh (fun (d0 d1 d2 d3 d4 d5 d6 d7:Value) W (h:IsV W (exM 2) [] [d0,d1,d2,d3,d4,d5,d6,d7])=>H.del (exM 2) [] 2 0 d0 d1 d2 d3 d4 d5 d6 d7 W hv2 (by omega) (by decide) (by decide) h);rw [ex8_del.1,ex8_del.2] at HI3;have HTX:=Lh (fun (d0 d1 d2 d3 d4 d5 d6 d7:Value) W (h:IsV W (exM 2++[exD]) [] [d0,d1,d2,d3,d4,d5,d6,d7]) (h2:Tabs W)=>H.txt (exM 2++[exD]) [] 3 d0 d1 d2 d3 d4 d5 d6 d7 W hv3 (by omega) h h2);rw [ex8_txt] at HTX;have HSQ:=Lh (fun (d0 d1 d2 d3 d4 d5 d6 d7:Value) W (h:IsV W (exM 2++[exD]) [] [d0,d1,d2,d3,d4,d5,d6,d7])=>H.seq (exM 2++[exD]) [] 3 d0 d1 d2 d3 d4 d5 d6 d7 W hv3 (by omega) h);have hsl:((exM 2++[exD]).length:Int)=3:=rfl;rw [hsl] at HSQ;have HCG:=Lh ex8_chg
 dsimp only at HI1 HI2 HI3
 clear H hp ht hA7 hv1 hv2 hv3 hsl;generalize chgO (exM 2) exD=cg at *
 generalize chgO [] (exO 0)=cg1 at *
 generalize chgO (exM 1) (exO 1)=cg2 at *
 generalize exM 2++[exD]=M3 at *
 generalize exM 2=M2 at *
 generalize exM 1=M1 at *
 go_enter Tryz.func139,Tryz.ntmps139
 go_wp2_with fail;refine HI1.out.mono ?_;rintro e w1 ⟨hb,d0,d1,d2,d3,d4,d5,d6,d7,lc,x,-,rfl,hiv,hic⟩; obtain ⟨al,pl,rfl,hd1,hd2⟩:=hic.form
 have hon:=hiv.one;have sd0:=so (hon d0 (by simp))
 have sd1:=so (hon d1 (by simp))
 have sd2:=so (hon d2 (by simp))
 have sd3:=so (hon d3 (by simp))
 have sd4:=so (hon d4 (by simp))
 have sd5:=so (hon d5 (by simp))
 have sd6:=so (hon d6 (by simp))
 have sd7:=so (hon d7 (by simp))
 have hbA:Below w1.heap.size w1 ((w1.alloc (.cells #[d0,d1,d2,d3,d4,d5,d6,d7] 43)).alloc (.cells x 73)):=(bA).alloc (by simp) _;have HA:=Lh (show A8 w w1.heap.size [d0,d1,d2,d3,d4,d5,d6,d7] M1 [] ((w1.alloc (.cells #[d0,d1,d2,d3,d4,d5,d6,d7] 43)).alloc (.cells x 73)) from ⟨hb.trans (hbA.mono hb.size),hb.size,(Blk.startAt rfl).alloc _,hiv.next hbA⟩);clear hb hiv hic hon hbA HI1;generalize hWA:World.alloc _ _=w2 at *
 have v0 := HA.out.bv.c8;go_wp2_with fail;refine (HI2.out _ _ _ _ _ _ _ _ _ HA.out.iv).mono ?_;rintro e w3 ⟨hb,c0,c1,c2,c3,c4,c5,c6,c7,lc2,x2,-,rfl,hiv,hic⟩; obtain ⟨al2,pl2,rfl,hd3,hd4⟩:=hic.form
 have hon:=hiv.one;have sc0:=so (hon c0 (by simp))
 have sc1:=so (hon c1 (by simp))
 have sc2:=so (hon c2 (by simp))
 have sc3:=so (hon c3 (by simp))
 have sc4:=so (hon c4 (by simp))
 have sc5:=so (hon c5 (by simp))
 have sc6:=so (hon c6 (by simp))
 have sc7:=so (hon c7 (by simp))
 have HA2:=Lh (HA.out.next hb);have HIV:=Lh hiv;clear HA hb hiv hic hon HI2 hWA v0;have n0 := HA2.out.bv.c8;have fn0 := HA2.out.bv.f8;have HA3:=Lh (HA2.out.put HIV.out)
 change Hid (A8 _ _ _ _ _ ((((((((w3.setCell ⟨w1.heap.size,0,none⟩ (c0)).setCell ⟨w1.heap.size,1,none⟩ (c1)).setCell ⟨w1.heap.size,2,none⟩ (c2)).setCell ⟨w1.heap.size,3,none⟩ (c3)).setCell ⟨w1.heap.size,4,none⟩ (c4)).setCell ⟨w1.heap.size,5,none⟩ (c5)).setCell ⟨w1.heap.size,6,none⟩ (c6)).setCell ⟨w1.heap.size,7,none⟩ (c7))) at HA3
 generalize hWC:(((((((w3.setCell ⟨w1.heap.size,0,none⟩ (c0)).setCell ⟨w1.heap.size,1,none⟩ (c1)).setCell ⟨w1.heap.size,2,none⟩ (c2)).setCell ⟨w1.heap.size,3,none⟩ (c3)).setCell ⟨w1.heap.size,4,none⟩ (c4)).setCell ⟨w1.heap.size,5,none⟩ (c5)).setCell ⟨w1.heap.size,6,none⟩ (c6)).setCell ⟨w1.heap.size,7,none⟩ (c7)=w4 at *
 have v0 := HA3.out.bv.c8;go_wp2_with fail;refine (HI3.out _ _ _ _ _ _ _ _ _ HA3.out.iv).mono ?_;rintro e w5 ⟨hb,g0,g1,g2,g3,g4,g5,g6,g7,lc3,x3,-,rfl,hiv,hic⟩
 have hon:=hiv.one;have sg0:=so (hon g0 (by simp))
 have sg1:=so (hon g1 (by simp))
 have sg2:=so (hon g2 (by simp))
 have sg3:=so (hon g3 (by simp))
 have sg4:=so (hon g4 (by simp))
 have sg5:=so (hon g5 (by simp))
 have sg6:=so (hon g6 (by simp))
 have sg7:=so (hon g7 (by simp))
 obtain ⟨a7,p7,rfl,hp1,hp2⟩:=hic.form;obtain ⟨gg,rfl,hgg,-⟩:=chg_cell hic 0 (by simp);have hl1:([cg]:List Chg).length=1:=rfl;rw [hl1] at hic hp1 ⊢;have hbZ:Below w5.heap.size w5 (w5.alloc (.cells #[.int .i64 0,.int .i64 0,.int .i64 0,.int .i64 0,.int .i64 0,.int .i32 0] 73)):=bA;have HA4:=Lh (HA3.out.next (hb.trans (hbZ.mono hb.size)));have hlt:w1.heap.size<w5.heap.size:=(HA3.out.next hb).bv.lt;have hz0:Blk (w5.alloc (.cells #[.int .i64 0,.int .i64 0,.int .i64 0,.int .i64 0,.int .i64 0,.int .i32 0] 73)) w5.heap.size (oqL zeroO) 73:=Blk.startAt rfl;have HIC:=Lh (hic.next hbZ);have HIV3:=Lh (hiv.next hbZ);generalize hWZ:World.alloc _ _=w6 at *
 clear HA3 hb hbZ hic hiv hon HI3 hWC HA2 HIV v0 n0 fn0;have n0 := HA4.out.bv.c8;have fn0 := HA4.out.bv.f8;have HA5:=Lh (HA4.out.put HIV3.out);have hz1:=hz0.setN (b:=w1.heap.size) (by omega) [g0,g1,g2,g3,g4,g5,g6,g7] 0;have HIC5:=Lh (Sl.kt (HA4.out.ktV [g0,g1,g2,g3,g4,g5,g6,g7] (by decide)) HIC.out)
 change Hid (A8 _ _ _ _ _ ((((((((w6.setCell ⟨w1.heap.size,0,none⟩ (g0)).setCell ⟨w1.heap.size,1,none⟩ (g1)).setCell ⟨w1.heap.size,2,none⟩ (g2)).setCell ⟨w1.heap.size,3,none⟩ (g3)).setCell ⟨w1.heap.size,4,none⟩ (g4)).setCell ⟨w1.heap.size,5,none⟩ (g5)).setCell ⟨w1.heap.size,6,none⟩ (g6)).setCell ⟨w1.heap.size,7,none⟩ (g7))) at HA5
 change Blk ((((((((w6.setCell ⟨w1.heap.size,0,none⟩ (g0)).setCell ⟨w1.heap.size,1,none⟩ (g1)).setCell ⟨w1.heap.size,2,none⟩ (g2)).setCell ⟨w1.heap.size,3,none⟩ (g3)).setCell ⟨w1.heap.size,4,none⟩ (g4)).setCell ⟨w1.heap.size,5,none⟩ (g5)).setCell ⟨w1.heap.size,6,none⟩ (g6)).setCell ⟨w1.heap.size,7,none⟩ (g7)) _ _ _ at hz1
 change Hid (Sl _ _ _ ((((((((w6.setCell ⟨w1.heap.size,0,none⟩ (g0)).setCell ⟨w1.heap.size,1,none⟩ (g1)).setCell ⟨w1.heap.size,2,none⟩ (g2)).setCell ⟨w1.heap.size,3,none⟩ (g3)).setCell ⟨w1.heap.size,4,none⟩ (g4)).setCell ⟨w1.heap.size,5,none⟩ (g5)).setCell ⟨w1.heap.size,6,none⟩ (g6)).setCell ⟨w1.heap.size,7,none⟩ (g7)) _ _) at HIC5
 generalize hWG:(((((((w6.setCell ⟨w1.heap.size,0,none⟩ (g0)).setCell ⟨w1.heap.size,1,none⟩ (g1)).setCell ⟨w1.heap.size,2,none⟩ (g2)).setCell ⟨w1.heap.size,3,none⟩ (g3)).setCell ⟨w1.heap.size,4,none⟩ (g4)).setCell ⟨w1.heap.size,5,none⟩ (g5)).setCell ⟨w1.heap.size,6,none⟩ (g6)).setCell ⟨w1.heap.size,7,none⟩ (g7)=w7 at *
 have o0 := hz1.c6;have f0 := hz1.f6;have HA6:=Lh (show A8 w w1.heap.size [g0,g1,g2,g3,g4,g5,g6,g7] M3 [] (setN w7 w5.heap.size 0 (oqL x3)) from
  ⟨setN_below (by have:=HA5.out.ge; omega) _ 0 HA5.out.bel,HA5.out.ge,HA5.out.bv.setN (by omega) _ 0,IsV.setO hz1 HA5.out.iv rm_nil x3⟩)
 have HIC6:=Lh (Sl.kt (KT.setN (t:=297) (by decide) (oqL x3) 0 hz1) HIC5.out)
 change Hid (A8 _ _ _ _ _ ((((((w7.setCell ⟨w5.heap.size,0,none⟩ x3.k).setCell ⟨w5.heap.size,1,none⟩ x3.c).setCell ⟨w5.heap.size,2,none⟩ x3.s).setCell ⟨w5.heap.size,3,none⟩ x3.a).setCell ⟨w5.heap.size,4,none⟩ x3.n).setCell ⟨w5.heap.size,5,none⟩ (.int .i32 x3.ch))) at HA6
 change Hid (Sl _ _ _ ((((((w7.setCell ⟨w5.heap.size,0,none⟩ x3.k).setCell ⟨w5.heap.size,1,none⟩ x3.c).setCell ⟨w5.heap.size,2,none⟩ x3.s).setCell ⟨w5.heap.size,3,none⟩ x3.a).setCell ⟨w5.heap.size,4,none⟩ x3.n).setCell ⟨w5.heap.size,5,none⟩ (.int .i32 x3.ch)) _ _) at HIC6
 generalize hWO:(((((w7.setCell ⟨w5.heap.size,0,none⟩ x3.k).setCell ⟨w5.heap.size,1,none⟩ x3.c).setCell ⟨w5.heap.size,2,none⟩ x3.s).setCell ⟨w5.heap.size,3,none⟩ x3.a).setCell ⟨w5.heap.size,4,none⟩ x3.n).setCell ⟨w5.heap.size,5,none⟩ (.int .i32 x3.ch)=w8 at *
 go_wp2_with fail;refine (awakeB_any _ ⟨HPT.out.1.next HA6.out.bel,(HPT.out.2.next HA6.out.bel).1⟩).mono ?_;rintro e w9 ⟨rfl,hb⟩
 have HA7':=Lh (HA6.out.next hb);have HIC7:=Lh (Sl.next HIC6.out hb);clear HA4 HA5 HA6 HIC HIC5 HIC6 HIV3 hz0 hz1 hb hWZ hWG hWO o0 f0 n0 fn0;go_wp2_with fail;refine (HA7.out _ (HPT.out.2.next HA7'.out.bel)).mono ?_;rintro e w10 ⟨rfl,hb⟩
 have HA8:=Lh (HA7'.out.next hb);have HIC8:=Lh (Sl.next HIC7.out hb);clear HA7' HIC7 hb;have v0 := HA8.out.bv.c8;go_wp2_with fail;refine (HTX.out _ _ _ _ _ _ _ _ _ HA8.out.iv (HPT.out.2.next HA8.out.bel)).mono ?_;rintro e w11 ⟨rfl,hb⟩
 have HA9:=Lh (HA8.out.next hb);have HIC9:=Lh (Sl.next HIC8.out hb);clear HA8 HIC8 hb v0;have v0 := HA9.out.bv.c8;go_wp2_with fail;refine (HSQ.out _ _ _ _ _ _ _ _ _ HA9.out.iv).mono ?_;rintro e w12 ⟨rfl,hb⟩
 have HA10:=Lh (HA9.out.next hb);obtain ⟨g',e',_,hC⟩:=chg_cell (Sl.next HIC9.out hb) 0 (by simp)
 cases e'
 obtain ⟨_,cc1,_,_,_,cc5⟩:=hC _ (Below.refl _ _);have cd1:w12.cell? ⟨gg,1,none⟩=some (.int .i64 0):=by have h:=cc1; rw [show ([cg]:List Chg)[0]=cg from rfl,HCG.out.2] at h; exact h
 have cd5:w12.cell? ⟨gg,5,none⟩=some (.bool true):=by have h:=cc5; rw [show ([cg]:List Chg)[0]=cg from rfl,HCG.out.1] at h; exact h
 clear HA9 HIC9 hb v0 hC cc1 cc5;go_wp2_with fail
 go_ret
 exact ⟨rfl,HA10.out.bel⟩
end Go.Proofs.YtemicfjmidohfaaGreatDoor
