import Derived.Test.YtifnijmienmmbaaGreatDoorLCor
set_option maxRecDepth 100000
set_option maxHeartbeats 12800000
namespace Go.Proofs.YtifnijmienmmbaaGreatDoor
open Go Go.Proofs Go.RowKit
def exO:Nat→Oq
 | 0=>⟨0,1,1,0,0,97,by decide,by decide⟩
 | 1=>⟨0,2,1,1,1,98,by decide,by decide⟩
 | _=>⟨0,2,2,1,1,99,by decide,by decide⟩
def exM:Nat→List Oq
 | 0=>[]
 | k+1=>exM k++[exO k]
theorem exM_len:∀ k,(exM k).length=k
 | 0=>rfl
 | k+1=>by simp [exM,exM_len k]
theorem ex_wrong {k:Nat} (h:k<3):wrongE (exM k) (exO k)=0:=by
 match k,h with
 | 0,_=>decide
 | 1,_=>decide
 | 2,_=>decide
theorem ex_ok:∀ {k:Nat},k≤3→OkO (exM k)
 | 0,_=>ok_nil
 | k+1,h=>wrong_ok (ex_ok (by omega)) (ex_wrong (by omega))
theorem ex_can {k:Nat} (h:k<3):CanI (exM k) (exO k):=by
 obtain ⟨_,_,⟨h1,_⟩ | h1⟩:=wrong_zero (ex_wrong h)
 ·match k,h with
  | 0,_=>cases h1
  | 1,_=>cases h1
  | 2,_=>cases h1
 ·exact h1
theorem ex_row:rowO (exM 3)=[exO 0,exO 2,exO 1]:=by
 have e1:rowO (exM 1)=[exO 0]:=by
  show rowO (exM 0++[exO 0])=_
  rw [row_ins (ex_ok (k:=0) (by omega)).gd (ex_can (k:=0) (by omega))]
  show insR _ (rowO [])=_
  rw [row_nil];rfl
 have e2:rowO (exM 2)=[exO 0,exO 1]:=by
  show rowO (exM 1++[exO 1])=_
  rw [row_ins (ex_ok (k:=1) (by omega)).gd (ex_can (k:=1) (by omega)),e1];rfl
 show rowO (exM 2++[exO 2])=_
 rw [row_ins (ex_ok (k:=2) (by omega)).gd (ex_can (k:=2) (by omega)),e2];rfl
theorem ex_txt:(⟨(txtL (docR (exM 3))).toArray⟩:ByteArray)=⟨#[97,99,98]⟩:=by
 unfold docR
 rw [ex_row];rfl
theorem stO_kt_state {W:World} {m:List Oq} {p q p0 q0:Option Addr} {T:Tr} {P P0:Pt} {B:Nat} {N2:Int} (h:StO W m p q T P) (hb:Blk W B (stL p0 q0 P0) 33) (hN:cnt P=N2):
  StO (((W.setCell ⟨B,0,none⟩ (.pointer p)).setCell ⟨B,1,none⟩ (.pointer q)).setCell ⟨B,2,none⟩ N2) m p q T P∧Blk (((W.setCell ⟨B,0,none⟩ (.pointer p)).setCell ⟨B,1,none⟩ (.pointer q)).setCell ⟨B,2,none⟩ N2) B (stL p q P) 33:=by
 subst hN;have b1:=hb.set 0 (.pointer p);have b2:=b1.set 1 (.pointer q);have b3:=b2.set 2 (.int .i64 (cnt P));have k:∀ t,33≠t→KT t W (((W.setCell ⟨B,0,none⟩ (.pointer p)).setCell ⟨B,1,none⟩ (.pointer q)).setCell ⟨B,2,none⟩ (.int .i64 (cnt P))):=
  fun t ht=>((KT.set hb ht 0 _).trans (KT.set b1 ht 1 _)).trans (KT.set b2 ht 2 _)
 exact ⟨h.kt (k _ (by decide)) (k _ (by decide)) (by simp),b3⟩
def exL:List Value:=[.int .i64 0,.int .i64 1,.int .i64 1,.int .i64 0,.int .i64 0,.int .i32 97,.int .i64 0,.int .i64 2,.int .i64 1,.int .i64 1,.int .i64 1,.int .i32 98,.int .i64 0,.int .i64 2,.int .i64 2,.int .i64 1,.int .i64 1,.int .i32 99]
structure Aw6 (w:World) (m:List Oq) (p q:Option Addr) (T:Tr) (P:Pt) (W:World):Prop where
 bel:Below w.heap.size w W
 bs:Blk W w.heap.size (stL p q P) 33
 ar:Blk W (w.heap.size+1) exL 68
 st:StO W m p q T P
theorem Aw6.next {w:World} {m:List Oq} {p q:Option Addr} {T:Tr} {P:Pt} {W W':World} (h:Aw6 w m p q T P W) (hb:Below W.heap.size W W'):Aw6 w m p q T P W':=
 ⟨h.bel.trans (hb.mono h.bel.size),h.bs.next hb,h.ar.next hb,h.st.next hb⟩
theorem exL_at {W:World} {B:Nat} (h:Blk W B exL 68) {k:Nat} (hk:k<3):
  W.cell? ⟨B,k * 6,none⟩=some (.int .i64 (exO k).k)∧W.cell? ⟨B,k * 6+1,none⟩=some (.int .i64 (exO k).c)∧W.cell? ⟨B,k * 6+2,none⟩=some (.int .i64 (exO k).s)∧W.cell? ⟨B,k * 6+3,none⟩=some (.int .i64 (exO k).a)∧W.cell? ⟨B,k * 6+4,none⟩=some (.int .i64 (exO k).n)∧W.cell? ⟨B,k * 6+5,none⟩=some (.int .i32 (exO k).ch):=by
 match k,hk with
 | 0,_=>exact h.c6
 | 1,_=>exact ⟨h.cell 6 rfl,h.cell 7 rfl,h.cell 8 rfl,h.cell 9 rfl,h.cell 10 rfl,h.cell 11 rfl⟩
 | 2,_=>exact ⟨h.cell 12 rfl,h.cell 13 rfl,h.cell 14 rfl,h.cell 15 rfl,h.cell 16 rfl,h.cell 17 rfl⟩
theorem awake6_any {NN:Nat} (hN3:3≤NN) (hA:ApplyOk NN):Awake6Ok:=by
 intro w ht
 have HTab:=Lh ht;have HA:=Lh hA;clear ht hA;have H0:=Lh (show Aw6 w (exM 0) none none .nil .nil ((w.alloc (.cells #[.pointer none,.pointer none,.int .i64 0] 33)).alloc (.cells ⟨exL⟩ 68)) from
  ⟨(bA).alloc (by simp) _,(Blk.start w _ _).alloc _,Blk.startAt (by simp),StO.nil _⟩)
 go_enter Tryz.func59,Tryz.ntmps59
 go_wp2_with fail
 go_loopg [14] 3 (fun g ti wr=>∃ k:Nat,k≤3∧g=3-k∧ti=.int .i64 (k:Int)∧∃ p q T P,Aw6 w (exM k) p q T P wr)
 case atStart=>exact ⟨0,Nat.zero_le _,rfl,rfl,none,none,.nil,.nil,H0.out⟩
 case round=>
  obtain ⟨k,hk,rfl,rfl,p,q,T,P,hS⟩:=hrel;clear H0;by_cases hlt:k<3
  ·obtain ⟨k0,k1,k2,k3,k4,k5⟩:=exL_at hS.ar hlt
   have hokk:=ex_ok (k:=k) (by omega);have hw0:=ex_wrong hlt;have HAP:=Lh (fun W (h:StO W (exM k) p q T P)=>HA.out.one (exM k) (exO k) p q T P W (by rw [exM_len]; omega) hokk h);rw [hw0] at HAP;have HM:=Lh (show exM (k+1)=exM k++[exO k] from rfl);generalize exM k=m at *
   generalize exO k=o at *
   clear hokk hw0;generalize hcn:cnt P=N at *
   have hba:Below wr.heap.size wr (wr.alloc (.cells #[o.k,o.c,o.s,o.a,o.n,.int .i32 o.ch] 68)):=bA;have HS1:=Lh (hS.next hba);have s0:=fun ob=>(hS.bs.alloc ob).cell 0 rfl
   have s1:=fun ob=>(hS.bs.alloc ob).cell 1 rfl
   have s2:=fun ob=>((hS.bs.alloc ob).cell 2 rfl).trans (show some (Value.int .i64 (cnt P))=some (.int .i64 N) by rw [hcn])
   clear hS hba hcn;go_wp2_with (go_at_call 100; refine (HAP.out _ HS1.out.st).mono ?_; rintro e w1 ⟨hb,p',q',T',P',m',z,rfl,hst,hcase⟩; refine Hid.out ?_)
   have hmm:m'=m++[o]:=by
    rcases hcase with ⟨h,_⟩ | ⟨_,h,_⟩
    ·exact absurd rfl h
    ·exact h
   subst hmm;generalize hcn2:cnt P'=N2 at *
   have HK:=Lh (stO_kt_state hst (HS1.out.bs.next hb) hcn2);have HS2:=Lh (And.intro (HS1.out.next hb) hst);clear hb s0 s1 s2 k0 k1 k2 k3 k4 k5 HAP hst hcase HS1;obtain ⟨s0,s1,s2⟩:=HS2.out.1.bs.c3;have f0 := HS2.out.1.bs.f3;have HS3:=Lh (show Aw6 w (m++[o]) p' q' T' P' (((w1.setCell ⟨w.heap.size,0,none⟩ (.pointer p')).setCell ⟨w.heap.size,1,none⟩ (.pointer q')).setCell ⟨w.heap.size,2,none⟩ N2) from
    ⟨((HS2.out.1.bel.setCell (p:=⟨w.heap.size,0,none⟩) (Nat.le_refl _) _).setCell (p:=⟨w.heap.size,1,none⟩) (Nat.le_refl _) _).setCell (p:=⟨w.heap.size,2,none⟩) (Nat.le_refl _) _,HK.out.2,
     ((HS2.out.1.ar.other _ (show w.heap.size+1≠w.heap.size by omega) _).other _ (show w.heap.size+1≠w.heap.size by omega) _).other _ (show w.heap.size+1≠w.heap.size by omega) _,HK.out.1⟩)
   have HCN:=Lh hcn2;clear HK HS2 hcn2;refine Lh ?_;go_wp2_with fail
   go_roundg (3-(k+1))
   case measure=>omega
   case rel=>exact ⟨k+1,by omega,rfl,by go_num,p',q',T',P',by rw [HM.out]; exact HS3.out⟩
  ·obtain rfl:k=3:=by omega
   have HS:=Lh hS;have hTs:T.size≤20000:=by
    rw [←Tr.els_length,hS.st.row,List.length_map,ex_row]
    decide
   have HTX:=Lh (fun W (h:Is W p T)=>text_any W h hTs);have hrow:T.els=docR (exM 3):=hS.st.row;rw [hrow,ex_txt] at HTX;clear hS hrow;go_wp2_with (go_at_call 101; refine (awakeC_any _ (HTab.out.1.next HS.out.bel)).mono ?_; rintro e w1 ⟨rfl,hb⟩; refine Hid.out ?_)
   have HS1:=Lh (HS.out.next hb);clear HS hb;refine Lh ?_;go_wp2_with (go_at_call 102; refine (awakeD_any _ (HTab.out.1.next HS1.out.bel)).mono ?_; rintro e w2 ⟨rfl,hb⟩; refine Hid.out ?_)
   have HS2:=Lh (HS1.out.next hb);clear HS1 hb;refine Lh ?_;go_wp2_with (go_at_call 103; refine (awake5_any _ (HTab.out.next HS2.out.bel)).mono ?_; rintro e w3 ⟨rfl,hb⟩; refine Hid.out ?_)
   have HS3:=Lh (HS2.out.next hb);clear HS2 hb;have s0:=HS3.out.bs.cell 0 rfl;refine Lh ?_;go_wp2_with (go_at_call 61; refine (HTX.out _ HS3.out.st.tr).mono ?_; rintro e w4 ⟨rfl,hb⟩)
   go_ret
   exact ⟨rfl,HS3.out.bel.trans (hb.mono HS3.out.bel.size)⟩
end Go.Proofs.YtifnijmienmmbaaGreatDoor
