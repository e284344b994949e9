import Derived.Test.YtpbhaieclkoggaaGreatDoorRi8
set_option maxRecDepth 100000
set_option maxHeartbeats 12800000
namespace Go.Proofs.YtpbhaieclkoggaaGreatDoor
open Go Go.Proofs Go.RowKit
structure Fi8 (w:World) (bA bB bN bO:Nat) (zA zB:List Value) (m l:List Oq) (a:List Chg) (vm vl cs:Value) (x:Oq) (W:World):Prop where
 bel:Below w.heap.size w W
 ga:w.heap.size≤bA
 gb:w.heap.size≤bB
 ra:Blk W bA zA 47
 rb:Blk W bB zB 70
 nb:Blk W bN [vm,vl] 47
 ob:Blk W bO (oqL x) 70
 na:bN≠bA
 no:bO≠bB
 io:IsO W vm m
 il:IsO W vl l
 ic:IsC W cs a
theorem Fi8.next {w:World} {bA bB bN bO:Nat} {zA zB:List Value} {m l:List Oq} {a:List Chg} {vm vl cs:Value} {x:Oq} {W W':World} (h:Fi8 w bA bB bN bO zA zB m l a vm vl cs x W) (hb:Below W.heap.size W W'):Fi8 w bA bB bN bO zA zB m l a vm vl cs x W':=
 ⟨h.bel.trans (hb.mono h.bel.size),h.ga,h.gb,h.ra.next hb,h.rb.next hb,h.nb.next hb,h.ob.next hb,h.na,h.no,h.io.next hb,h.il.next hb,h.ic.next hb⟩
theorem Fi8.setA {w:World} {bA bB bN bO:Nat} {p q:Value} {zB:List Value} {m l:List Oq} {a:List Chg} {vm vl cs:Value} {x:Oq} {W:World} (h:Fi8 w bA bB bN bO [p,q] zB m l a vm vl cs x W):
  Fi8 w bA bB bN bO [vm,vl] zB m l a vm vl cs x ((W.setCell ⟨bA,0,none⟩ vm).setCell ⟨bA,1,none⟩ vl):=by
 have r1:=h.ra.set 0 vm;have k:∀ t,47≠t→KT t W ((W.setCell ⟨bA,0,none⟩ vm).setCell ⟨bA,1,none⟩ vl):=fun t ht=>(KT.set h.ra ht 0 _).trans (KT.set r1 ht 1 _)
 exact ⟨(h.bel.setCell (p:=⟨bA,0,none⟩) h.ga _).setCell (p:=⟨bA,1,none⟩) h.ga _,h.ga,h.gb,r1.set 1 vl,k _ (by decide) _ _ h.rb,(h.nb.other ⟨bA,0,none⟩ h.na _).other ⟨bA,1,none⟩ h.na _,k _ (by decide) _ _ h.ob,h.na,h.no,
  Sl.set r1 (by decide) 1 vl (Sl.set h.ra (by decide) 0 vm h.io),Sl.set r1 (by decide) 1 vl (Sl.set h.ra (by decide) 0 vm h.il),Sl.set r1 (by decide) 1 vl (Sl.set h.ra (by decide) 0 vm h.ic)⟩
theorem IsO.setZ {W:World} {b:Nat} (hB:Blk W b (oqL zeroO) 70) {v:Value} {L:List Oq} (h:IsO W v L) (hr:RmO L) (W':World) (ho:∀ g,g≠b→W'.heap[g]? = W.heap[g]?) {zs:List Value} (hz:Blk W' b zs 70):IsO W' v L:=by
 rcases h with h | ⟨g,cap,cur,rfl,hg,h1,h2,h3⟩
 ·exact .inl h
 ·by_cases hgb:g=b
  ·subst hgb
   cases L with
   | nil=>exact .inr ⟨g,cap,_,rfl,hz,h1,h2,rfl⟩
   | cons y L=>
    exfalso
    have hy:=hr y (List.mem_cons_self ..);unfold Blk at hB
    rw [hB] at hg;simp only [Option.some.injEq,Obj.cells.injEq] at hg
    obtain ⟨hg,_⟩:=hg;rw [←hg] at h3;have h5:(oqL zeroO).take ((y::L).length * 6)=oqL zeroO:=List.take_of_length_le (by rw [oqL_len,List.length_cons]; omega);have h6:oqL zeroO=(y::L).flatMap oqL:=h5.symm.trans h3;have h4:=congrArg (fun l:List Value=>l[1]?) h6;simp [oqL,zeroO] at h4
    rw [mayB] at hy;simp at hy
    omega
  ·exact .inr ⟨g,cap,cur,rfl,by rw [ho g hgb]; exact hg,h1,h2,h3⟩
def setOp (W:World) (b:Nat) (x:Oq):World:=(((((W.setCell ⟨b,0,none⟩ x.k).setCell ⟨b,1,none⟩ x.c).setCell ⟨b,2,none⟩ x.s).setCell ⟨b,3,none⟩ x.a).setCell ⟨b,4,none⟩ x.n).setCell ⟨b,5,none⟩ (.int .i32 x.ch)
theorem setOp_blk {W:World} {b:Nat} {y:Oq} (h:Blk W b (oqL y) 70) (x:Oq):Blk (setOp W b x) b (oqL x) 70:=(((((h.set 0 _).set 1 _).set 2 _).set 3 _).set 4 _).set 5 _
theorem setOp_other {W:World} {b g:Nat} (x:Oq) (h:g≠b):(setOp W b x).heap[g]? = W.heap[g]? := by
 unfold setOp
 rw [Below.heap_setCell _ _ _ _ h,Below.heap_setCell _ _ _ _ h,Below.heap_setCell _ _ _ _ h,Below.heap_setCell _ _ _ _ h,Below.heap_setCell _ _ _ _ h,Below.heap_setCell _ _ _ _ h]
theorem blk_ne {W:World} {b c:Nat} {vs us:List Value} {t u:TypeId} (h:Blk W b vs t) (k:Blk W c us u) (ht:t≠u):b≠c:=fun e=>by
 subst e;unfold Blk at h k
 rw [h] at k;simp only [Option.some.injEq,Obj.cells.injEq] at k
 exact ht k.2.1
theorem Sl.far {α:Type} {t u:TypeId} {m:Nat} {f:α→List Value} {W:World} {b:Nat} {vs:List Value} (hB:Blk W b vs u) (ht:u≠t) {v:Value} {L:List α} (h:Sl t m f W v L) (W':World) (ho:∀ g,g≠b→W'.heap[g]? = W.heap[g]?):Sl t m f W' v L:=by
 rcases h with h | ⟨g,cap,cur,rfl,hg,h⟩
 ·exact .inl h
 ·refine .inr ⟨g,cap,cur,rfl,?_,h⟩
  rw [ho g (fun e=>by
   subst e;unfold Blk at hB
   rw [hB] at hg;simp only [Option.some.injEq,Obj.cells.injEq] at hg
   exact ht hg.2.1)]
  exact hg
theorem below_setOp {B:Nat} {W0 W:World} (h:Below B W0 W) {b:Nat} (hb:B≤b) (x:Oq):Below B W0 (setOp W b x):=
 (((((h.setCell (p:=⟨b,0,none⟩) hb _).setCell (p:=⟨b,1,none⟩) hb _).setCell (p:=⟨b,2,none⟩) hb _).setCell (p:=⟨b,3,none⟩) hb _).setCell (p:=⟨b,4,none⟩) hb _).setCell (p:=⟨b,5,none⟩) hb _
theorem Fi8.setB {w:World} {bA bB bN bO:Nat} {zA:List Value} {m l:List Oq} {a:List Chg} {vm vl cs:Value} {x:Oq} {W:World} (h:Fi8 w bA bB bN bO zA (oqL zeroO) m l a vm vl cs x W) (hr:RmO m∧RmO l):
  Fi8 w bA bB bN bO zA (oqL x) m l a vm vl cs x ((((((W.setCell ⟨bB,0,none⟩ x.k).setCell ⟨bB,1,none⟩ x.c).setCell ⟨bB,2,none⟩ x.s).setCell ⟨bB,3,none⟩ x.a).setCell ⟨bB,4,none⟩ x.n).setCell ⟨bB,5,none⟩ (.int .i32 x.ch)):=by
 show Fi8 w bA bB bN bO zA (oqL x) m l a vm vl cs x (setOp W bB x)
 have ho:=fun g (hg:g≠bB)=>setOp_other (W:=W) x hg
 have hz:=setOp_blk h.rb x;refine ⟨below_setOp h.bel h.gb x,h.ga,h.gb,?_,hz,?_,?_,h.na,h.no,h.io.setZ h.rb hr.1 _ ho hz,h.il.setZ h.rb hr.2 _ ho hz,Sl.far h.rb (by decide) h.ic _ ho⟩
 ·have:=h.ra; unfold Blk at this ⊢; rw [ho _ (blk_ne h.ra h.rb (by decide))]; exact this
 ·have:=h.nb; unfold Blk at this ⊢; rw [ho _ (blk_ne h.nb h.rb (by decide))]; exact this
 ·have:=h.ob; unfold Blk at this ⊢; rw [ho _ h.no]; exact this
structure Dl8 (w:World) (vm vl:Value) (W:World):Prop where
 bel:Below w.heap.size w W
 bv:Blk W w.heap.size [vm,vl] 47
 b2:Blk W (w.heap.size+1) [.slice none 0 0,.slice none 0 0] 47
 b3:Blk W (w.heap.size+1+1) (oqL zeroO) 70
theorem Dl8.next {w:World} {vm vl:Value} {W W':World} (h:Dl8 w vm vl W) (hb:Below W.heap.size W W'):Dl8 w vm vl W':=⟨h.bel.trans (hb.mono h.bel.size),h.bv.next hb,h.b2.next hb,h.b3.next hb⟩
theorem Dl8.start (w:World) (vm vl:Value):Dl8 w vm vl (((w.alloc (.cells #[vm,vl] 47)).alloc (.cells #[.slice none 0 0,.slice none 0 0] 47)).alloc (.cells #[.int .i64 0,.int .i64 0,.int .i64 0,.int .i64 0,.int .i64 0,.int .i32 0] 70)):=by
 refine ⟨(((Below.refl _ _).alloc (Nat.le_refl _) _).alloc (by simp) _).alloc (by simp; omega) _,?_,?_,?_⟩
 ·exact ((Blk.startAt (b:=w.heap.size) rfl).alloc _).alloc _
 ·exact (Blk.startAt (b:=w.heap.size+1) (by simp)).alloc _
 ·exact Blk.startAt (b:=w.heap.size+1+1) (by simp)
theorem Dl8.fin {w:World} {vm vl:Value} {W:World} (h:Dl8 w vm vl W):∃ wq wz,(W.setCell ⟨w.heap.size+1,0,none⟩ vm).setCell ⟨w.heap.size+1,1,none⟩ vl=wq∧(((((wq.setCell ⟨w.heap.size+1+1,0,none⟩ (.int .i64 0)).setCell ⟨w.heap.size+1+1,1,none⟩ (.int .i64 0)).setCell ⟨w.heap.size+1+1,2,none⟩ (.int .i64 0)).setCell ⟨w.heap.size+1+1,3,none⟩ (.int .i64 0)).setCell ⟨w.heap.size+1+1,4,none⟩ (.int .i64 0)).setCell ⟨w.heap.size+1+1,5,none⟩ (.int .i32 0)=wz∧Blk wq (w.heap.size+1+1) [.int .i64 0,.int .i64 0,.int .i64 0,.int .i64 0,.int .i64 0,.int .i32 0] 70∧Blk wz (w.heap.size+1) [vm,vl] 47∧Blk wz (w.heap.size+1+1) [.int .i64 0,.int .i64 0,.int .i64 0,.int .i64 0,.int .i64 0,.int .i32 0] 70∧Below w.heap.size w wz:=by
 refine ⟨_,_,rfl,rfl,?_,?_,?_,?_⟩
 ·exact (h.b3.other ⟨w.heap.size+1,0,none⟩ (by show w.heap.size+1+1≠w.heap.size+1; omega) _).other ⟨w.heap.size+1,1,none⟩ (by show w.heap.size+1+1≠w.heap.size+1; omega) _
 ·have b:=(h.b2.set 0 vm).set 1 vl
  unfold Blk at b ⊢
  exact (setOp_other (b:=w.heap.size+1+1) zeroO (show w.heap.size+1≠w.heap.size+1+1 by omega)).trans b
 ·exact setOp_blk ((h.b3.other ⟨w.heap.size+1,0,none⟩ (by show w.heap.size+1+1≠w.heap.size+1; omega) _).other ⟨w.heap.size+1,1,none⟩ (by show w.heap.size+1+1≠w.heap.size+1; omega) _) zeroO
 ·exact below_setOp ((h.bel.setCell (p:=⟨w.heap.size+1,0,none⟩) (by show w.heap.size≤w.heap.size+1; omega) vm).setCell (p:=⟨w.heap.size+1,1,none⟩) (by show w.heap.size≤w.heap.size+1; omega) vl) (by show w.heap.size≤w.heap.size+1+1; omega) zeroO
theorem refDelete_any (m l:List Oq) (n:Nat) (hV:VOk m l n) (hn:n≤700) (k0:Int) (hk0 : -9223372036854775808≤k0) (hk1:k0≤9223372036854775807) (vm vl:Value) (w:World) (hM:IsO w vm m) (hL:IsO w vl l):
  Calls Tryz.prog 24 #[.agg #[vm,vl],k0] w
   fun e w'=>∃ vm' vl' cs,e=.returned (.tuple #[.agg #[vm',vl'],.agg #[.int .i64 (opP (deE8 m l k0) (deV8 m k0)).k,.int .i64 (opP (deE8 m l k0) (deV8 m k0)).c,.int .i64 (opP (deE8 m l k0) (deV8 m k0)).s,.int .i64 (opP (deE8 m l k0) (deV8 m k0)).a,.int .i64 (opP (deE8 m l k0) (deV8 m k0)).n,.int .i32 (opP (deE8 m l k0) (deV8 m k0)).ch],cs,.int .i64 (deE8 m l k0)])∧IsO w' vm' (deT8 m l k0).1∧IsO w' vl' (deT8 m l k0).2.1∧IsC w' cs (deT8 m l k0).2.2∧Below w.heap.size w w':=by
 have HM:=Lh hM;have HL:=Lh hL;obtain ⟨ad,cap,rfl,hc1,hc2⟩:=hM.form;obtain ⟨al,cl,rfl,hc3,hc4⟩:=hL.form;have hlen:=hV.len;have H0:=Lh (Dl8.start w (.slice ad m.length cap) (.slice al l.length cl));have HNM:=Lh (fun v u W (h:IsO W v m)=>refNamed_any m k0 hk0 hk1 hV.ok (by omega) v u W h);have HV:=Lh hV;obtain ⟨E,hE⟩:∃ E,E=deE8 m l k0:=⟨_,rfl⟩
 obtain ⟨⟨m9,l9,a9⟩,hT⟩:∃ T,T=deT8 m l k0:=⟨_,rfl⟩
 obtain ⟨P,hP⟩:∃ P,P=opP (deE8 m l k0) (deV8 m k0):=⟨_,rfl⟩
 rw [←hP,←hE,←hT]
 show Calls Tryz.prog 24 _ w fun e w'=>∃ vm' vl' cs,e=.returned (.tuple #[.agg #[vm',vl'],.agg #[P.k,P.c,P.s,P.a,P.n,.int .i32 P.ch],cs,E])∧IsO w' vm' m9∧IsO w' vl' l9∧IsC w' cs a9∧Below w.heap.size w w'
 rw [←hE] at hP;have HET:=Lh (And.intro hE (And.intro hT hP));obtain ⟨⟨nc,ns⟩,hN⟩:∃ N,N=namC (docR m) k0:=⟨_,rfl⟩
 rw [←hN] at HNM;have HNC:=Lh hN;have HNI:=Lh (fun W=>show IsC W (.slice none 0 0) [] from .inl ⟨rfl,rfl⟩);clear hM hL hE hT hP hN hV hk0 hk1;have x0 := H0.out.bv.c2
 go_enter Tryz.func24,Tryz.ntmps24
 go_wp2_with (go_at_call 64; refine (HNM.out _ _ _ (HM.out.next H0.out.bel)).mono ?_; rintro e w1 ⟨rfl,hb⟩; refine Hid.out ?_)
 have hbI:Below w1.heap.size w1 (w1.alloc (.cells #[nc,ns] 68)):=(Below.refl _ _).alloc (Nat.le_refl _) _;have HA:=Lh (H0.out.next (hb.trans (hbI.mono hb.size)));have hbi:Blk (w1.alloc (.cells #[nc,ns] 68)) w1.heap.size [nc,ns] 68:=Blk.startAt rfl;generalize hW1:w1.alloc (.cells #[nc,ns] 68)=w2 at *
 clear H0 hb hbI HNM x0;have i0 := hbi.c2;by_cases hz:nc=0∧ns=0
 ·have hzz:(nc,ns)=((0,0):Int×Int):=by rw [hz.1,hz.2]
  have he:E=2:=HET.out.1.trans (by unfold deE8; rw [←HNC.out,if_pos hzz]);have ht:(m9,l9,a9)=(m,l,[]):=HET.out.2.1.trans (by unfold deT8; rw [←HNC.out,if_pos hzz]);have e0:(nc==0)=true:=by simpa using hz.1
  have e1:(ns==0)=true:=by simpa using hz.2
  clear hz hzz;have hp:P=zeroO:=HET.out.2.2.trans (by unfold opP; rw [if_neg (by omega)]);subst he;have HP:=Lh hp;have H9:=Lh ht;clear hp ht HET;have x0 := HA.out.bv.c2;have z0 := HA.out.b2.c2;have fz0 := HA.out.b2.f2;obtain ⟨wq,wz,hWQ,hWR,b3q,b2r,b3r,hB⟩:=HA.out.fin;have q0 := b3q.c6;have fq0 := b3q.f6;have z2 := b2r.c2;have r0 := b3r.c6;have HB:=Lh hB;clear hB b3q b2r b3r;refine Lh ?_;go_wp2_with fail
  refine bodyPost_ret (v:=.tuple #[.agg #[.slice ad m.length cap,.slice al l.length cl],.agg #[.int .i64 0,.int .i64 0,.int .i64 0,.int .i64 0,.int .i64 0,.int .i32 0],.slice none 0 0,.int .i64 2]) (by simp [results, Tryz.results24, go_sem, z2, r0]) rfl ?_;obtain ⟨h9,h8⟩:=Prod.mk.inj H9.out;obtain ⟨h7,h6⟩:=Prod.mk.inj h8;rw [h9,h7,h6,HP.out];exact ⟨_,_,_,rfl,HM.out.next HB.out,HL.out.next HB.out,HNI.out _,HB.out⟩
 ·have hzz:¬ (nc,ns)=((0,0):Int×Int):=fun h=>hz (by simpa using h)
  have hz2:(nc==0)=false∨((nc==0)=true∧(ns==0)=false):=by
   by_cases h:nc=0
   ·exact .inr ⟨by simpa using h,by simpa using fun h2=>hz ⟨h,h2⟩⟩
   ·exact .inl (by simpa using h)
  obtain ⟨X,hX⟩:∃ X:Oq,X=⟨1,nc,ns,0,0,0,by decide,by decide⟩:=⟨_,rfl⟩
  have hXd:deV8 m k0=X:=by unfold deV8; rw [←HNC.out,hX]
  obtain ⟨e1,he1⟩:∃ e1,e1=remE m l X:=⟨_,rfl⟩
  obtain ⟨⟨m1,l1,h1⟩,ht1⟩:∃ T,T=remT m l X:=⟨_,rfl⟩
  have he:E=e1:=HET.out.1.trans (by unfold deE8; rw [←HNC.out,if_neg hzz,hXd,he1]);have H9:=Lh (show (m9,l9,a9)=(m1,l1,h1) from HET.out.2.1.trans (by unfold deT8; rw [←HNC.out,if_neg hzz,hXd,ht1]));have hp:P=opP e1 X:=HET.out.2.2.trans (by rw [he,hXd]);subst he;have HRE:=Lh (fun v u W (h:IsO W v m) (h2:IsO W u l)=>refRemote_any m l X HV.out.ok HV.out.l16 (by omega) v u W h h2);rw [←he1,←ht1,hX] at HRE;have HRM:=Lh (show RmO m1∧RmO l1 from by
   have h:=HV.out.rem X;rw [←ht1] at h;exact ⟨h.rm,h.rl⟩)
  have HER:=Lh (show E≠0→(m1,l1,h1)=(m,l,[]) from fun h=>ht1.trans (rem_err (he1▸h)));have HPX:=Lh (And.intro hp hX)
  dsimp only at HRE
  have hbO:Below w2.heap.size w2 (w2.alloc (.cells #[.int .i64 1,nc,ns,.int .i64 0,.int .i64 0,.int .i32 0] 70)):=(Below.refl _ _).alloc (Nat.le_refl _) _;have HA2:=Lh (HA.out.next hbO);have hbo:Blk (w2.alloc (.cells #[.int .i64 1,nc,ns,.int .i64 0,.int .i64 0,.int .i32 0] 70)) w2.heap.size [.int .i64 1,nc,ns,.int .i64 0,.int .i64 0,.int .i32 0] 70:=Blk.startAt rfl;have hs2:w.heap.size+1+1<w2.heap.size:=HA.out.b3.lt;clear HA hbO hp hX hXd he1 ht1 hzz hz HET HNC;have x0 := HA2.out.bv.c2;have o0 := hbo.c6;rcases hz2 with e0 | ⟨e0,e1⟩
  all_goals
   refine Lh ?_;go_wp2_with (go_at_call 25; refine (HRE.out _ _ _ (HM.out.next HA2.out.bel) (HL.out.next HA2.out.bel)).mono ?_; rintro e w4 ⟨v1,v2,cs,rfl,g1,g2,g3,hb⟩; obtain ⟨a1,c1,rfl,hd1,hd2⟩:=g1.form; obtain ⟨a2,c2,rfl,hd3,hd4⟩:=g2.form; obtain ⟨a3,c3,rfl,hd5,hd6⟩:=g3.form; refine Hid.out ?_)
   have hbN:Below w4.heap.size w4 (w4.alloc (.cells #[.slice a1 m1.length c1,.slice a2 l1.length c2] 47)):=(Below.refl _ _).alloc (Nat.le_refl _) _;have HA3:=Lh (HA2.out.next (hb.trans (hbN.mono hb.size)));have hbo3:=hbo.next (hb.trans (hbN.mono hb.size));have hbn:Blk (w4.alloc (.cells #[.slice a1 m1.length c1,.slice a2 l1.length c2] 47)) w4.heap.size [.slice a1 m1.length c1,.slice a2 l1.length c2] 47:=Blk.startAt rfl;have HG3:=Lh (And.intro (g1.next hbN) (And.intro (g2.next hbN) (g3.next hbN)));have hs4:w2.heap.size<w4.heap.size:=(hbo.next hb).lt;generalize hW5:w4.alloc (.cells #[.slice a1 m1.length c1,.slice a2 l1.length c2] 47)=w5 at *
   clear HA2 hbo hb hbN g1 g2 g3 x0 o0 HRE hbi i0 hW1;by_cases hE0:E=0
   ·have HP:=Lh (show P=X by rw [HPX.out.1]; unfold opP; rw [if_pos hE0])
    have HXX:=Lh HPX.out.2;subst hE0;have HF0:=Lh (show Fi8 w (w.heap.size+1) (w.heap.size+1+1) w4.heap.size w2.heap.size [.slice none 0 0,.slice none 0 0] (oqL zeroO) m1 l1 h1 (.slice a1 m1.length c1) (.slice a2 l1.length c2) (.slice a3 h1.length c3) ⟨1,nc,ns,0,0,0,by decide,by decide⟩ w5 from
     ⟨HA3.out.bel,by omega,by omega,HA3.out.b2,HA3.out.b3,hbn,hbo3,by omega,by omega,HG3.out.1,HG3.out.2.1,HG3.out.2.2⟩)
    have hdum:=trivial;clear HER HPX HA3 hbo3 hbn HG3;refine Lh ?_;go_wp2_with fail
    clear hW5;have HF:=Lh (HF0.out.next bdq);clear HF0;refine rgH (fun W=>Cc2 W w4.heap.size (.slice a1 m1.length c1) (.slice a2 l1.length c2) (Cz6 W w2.heap.size (.int .i64 1) nc ns (.int .i64 0) (.int .i64 0) (.int .i32 0))) (let h:=HF.out; (h.nb.d2 h.ob.c6)) fun hH=>?_
    clear hdum;generalize w5.drew=w8 at *
    have p0 := HF.out.ra.c2;have fp0 := HF.out.ra.f2;refine tq 0 (.agg #[.slice a1 m1.length c1,.slice a2 l1.length c2]) hH ?_;refine tq 1 (.agg #[.int .i64 1,nc,ns,.int .i64 0,.int .i64 0,.int .i32 0]) hH ?_;refine tq 2 (.slice a3 h1.length c3) hH ?_;refine rd1 3 (by kernel_rfl) rfl fun KK hK=>?_
    go_simp
    go_wp2_with fail
    refine hK.out _ _ ((let h:=HF.out.setA; (h.nb.d2 h.ob.c6))) ?_;clear hK KK hH p0 fp0;intro hH
    try simp only [LAY]
    have HG:=Lh HF.out.setA;generalize (w8.setCell ⟨w.heap.size+1,0,none⟩ (.slice a1 m1.length c1)).setCell ⟨w.heap.size+1,1,none⟩ (.slice a2 l1.length c2)=w9 at *
    have q0 := HG.out.rb.c6;have fq0 := HG.out.rb.f6;refine rd1 4 (by kernel_rfl) rfl fun KK hK=>?_
    go_simp
    go_wp2_with fail
    refine hK.out _ _ ((let h:=(HG.out.setB HRM.out); (h.nb.d2 h.ob.c6))) ?_;clear hK KK hH q0 fq0;intro hH
    try simp only [LAY]
    have HH:=Lh (HG.out.setB HRM.out);refine tq 5 (.slice a3 h1.length c3) hH ?_;refine tq 6 (.int .i64 0) hH ?_;refine dnH ?_;clear hH HF HG
    change Hid (Fi8 _ _ _ _ _ _ _ _ _ _ _ _ _ _ ((((((w9.setCell ⟨w.heap.size+1+1,0,none⟩ (.int .i64 1)).setCell ⟨w.heap.size+1+1,1,none⟩ nc).setCell ⟨w.heap.size+1+1,2,none⟩ ns).setCell ⟨w.heap.size+1+1,3,none⟩ (.int .i64 0)).setCell ⟨w.heap.size+1+1,4,none⟩ (.int .i64 0)).setCell ⟨w.heap.size+1+1,5,none⟩ (.int .i32 0))) at HH
    generalize (((((w9.setCell ⟨w.heap.size+1+1,0,none⟩ (.int .i64 1)).setCell ⟨w.heap.size+1+1,1,none⟩ nc).setCell ⟨w.heap.size+1+1,2,none⟩ ns).setCell ⟨w.heap.size+1+1,3,none⟩ (.int .i64 0)).setCell ⟨w.heap.size+1+1,4,none⟩ (.int .i64 0)).setCell ⟨w.heap.size+1+1,5,none⟩ (.int .i32 0)=w10 at *
    have z2 := HH.out.ra.c2;have r0 := HH.out.rb.c6;go_wp2_with fail
    refine bodyPost_ret (v:=.tuple #[.agg #[.slice a1 m1.length c1,.slice a2 l1.length c2],.agg #[.int .i64 1,nc,ns,.int .i64 0,.int .i64 0,.int .i32 0],.slice a3 h1.length c3,.int .i64 0]) (by simp [results, Tryz.results24, go_sem, z2, r0]) rfl ?_;obtain ⟨h9,h8⟩:=Prod.mk.inj H9.out;obtain ⟨h7,h6⟩:=Prod.mk.inj h8;rw [h9,h7,h6,HP.out.trans HXX.out];exact ⟨_,_,_,rfl,HH.out.io,HH.out.il,HH.out.ic,HH.out.bel⟩
   ·have hne:(E==0)=false:=by simpa using hE0
    have HP:=Lh (show P=zeroO by rw [HPX.out.1]; unfold opP; rw [if_neg hE0]);have H9b:=Lh (H9.out.trans (HER.out hE0));clear H9;have H9:=H9b;clear H9b hE0 HER HPX hbo3 hbn HG3;have x0 := HA3.out.bv.c2;have z0 := HA3.out.b2.c2;have fz0 := HA3.out.b2.f2;obtain ⟨wq,wz,hWQ,hWR,b3q,b2r,b3r,hB⟩:=HA3.out.fin;have q0 := b3q.c6;have fq0 := b3q.f6;have z2 := b2r.c2;have r0 := b3r.c6;have HB:=Lh hB;clear hB b3q b2r b3r;refine Lh ?_;go_wp2_with fail
    refine bodyPost_ret (v:=.tuple #[.agg #[.slice ad m.length cap,.slice al l.length cl],.agg #[.int .i64 0,.int .i64 0,.int .i64 0,.int .i64 0,.int .i64 0,.int .i32 0],.slice none 0 0,E]) (by simp [results, Tryz.results24, go_sem, z2, r0]) rfl ?_;obtain ⟨h9,h8⟩:=Prod.mk.inj H9.out;obtain ⟨h7,h6⟩:=Prod.mk.inj h8;rw [h9,h7,h6,HP.out];exact ⟨_,_,_,rfl,HM.out.next HB.out,HL.out.next HB.out,HNI.out _,HB.out⟩
end Go.Proofs.YtpbhaieclkoggaaGreatDoor
set_option maxRecDepth 100000
set_option maxHeartbeats 12800000
namespace Go.Proofs.YtpbhaieclkoggaaGreatDoor
open Go Go.Proofs Go.RowKit
theorem inC_2 {m l:List Oq} {site at_ ch:Int} (h:site<1∨1000<site∨at_<0∨(rkL (docR m) ((docR m).length:Int):Int)<at_):inC8 m l site at_ ch=2:=by unfold inC8; rw [if_pos h]
theorem inC_1 {m l:List Oq} {site at_ ch:Int} (h:¬ (site<1∨1000<site∨at_<0∨(rkL (docR m) ((docR m).length:Int):Int)<at_)) (hc:charB ch=true):inC8 m l site at_ ch=1:=by unfold inC8; rw [if_neg h,if_pos hc]
theorem inC_7 {m l:List Oq} {site at_ ch:Int} (h:¬ (site<1∨1000<site∨at_<0∨(rkL (docR m) ((docR m).length:Int):Int)<at_)) (hc:charB ch=false) (h7:1048576<ctrI m l):inC8 m l site at_ ch=7:=by
 unfold inC8; rw [if_neg h,if_neg (by simp [hc]),if_pos h7]
theorem inC_0 {m l:List Oq} {site at_ ch:Int} (h:¬ (site<1∨1000<site∨at_<0∨(rkL (docR m) ((docR m).length:Int):Int)<at_)) (hc:charB ch=false) (h7:¬ 1048576<ctrI m l):inC8 m l site at_ ch=0:=by
 unfold inC8; rw [if_neg h,if_neg (by simp [hc]),if_neg h7]
theorem Dl8.oth {w:World} {vm vl:Value} {W:World} (h:Dl8 w vm vl W) {b:Nat} (hb:w.heap.size+1+1<b) (i:Nat) (x:Value):Dl8 w vm vl (W.setCell ⟨b,i,none⟩ x):=
 ⟨h.bel.setCell (p:=⟨b,i,none⟩) (by show w.heap.size≤b; omega) _,h.bv.other ⟨b,i,none⟩ (by show w.heap.size≠b; omega) _,h.b2.other ⟨b,i,none⟩ (by show w.heap.size+1≠b; omega) _,h.b3.other ⟨b,i,none⟩ (by show w.heap.size+1+1≠b; omega) _⟩
theorem refInsert_any (m l:List Oq) (n:Nat) (hV:VOk m l n) (hn:n≤700) (site at_ ch:Int) (hk0 : -9223372036854775808≤at_) (hk1:at_≤9223372036854775807) (lo : -2147483648≤ch) (hi:ch≤2147483647) (vm vl:Value) (w:World) (hM:IsO w vm m) (hL:IsO w vl l):
  Calls Tryz.prog 22 #[.agg #[vm,vl],site,at_,.int .i32 ch] w
   fun e w'=>∃ vm' vl' cs,e=.returned (.tuple #[.agg #[vm',vl'],.agg #[.int .i64 (opP (inE8 m l site at_ ch lo hi) (inV8 m l site at_ ch lo hi)).k,.int .i64 (opP (inE8 m l site at_ ch lo hi) (inV8 m l site at_ ch lo hi)).c,.int .i64 (opP (inE8 m l site at_ ch lo hi) (inV8 m l site at_ ch lo hi)).s,.int .i64 (opP (inE8 m l site at_ ch lo hi) (inV8 m l site at_ ch lo hi)).a,.int .i64 (opP (inE8 m l site at_ ch lo hi) (inV8 m l site at_ ch lo hi)).n,.int .i32 (opP (inE8 m l site at_ ch lo hi) (inV8 m l site at_ ch lo hi)).ch],cs,.int .i64 (inE8 m l site at_ ch lo hi)])∧IsO w' vm' (inT8 m l site at_ ch lo hi).1∧IsO w' vl' (inT8 m l site at_ ch lo hi).2.1∧IsC w' cs (inT8 m l site at_ ch lo hi).2.2∧Below w.heap.size w w':=by
 have HM:=Lh hM;have HL:=Lh hL;obtain ⟨ad,cap,rfl,hc1,hc2⟩:=hM.form;obtain ⟨al,cl,rfl,hc3,hc4⟩:=hL.form;have hlen:=hV.len;have H0:=Lh (Dl8.start w (.slice ad m.length cap) (.slice al l.length cl));have HNM:=Lh (fun k h0 h1 v u W (h:IsO W v m)=>refNamed_any m k h0 h1 hV.ok (by omega) v u W h);have HCT:=Lh (fun v u W (h:IsO W v m) (h2:IsO W u l)=>refCtr_any m l hV.ok hV.rl v u W h h2);have HLS:=Lh (fun (vm vl:Value) (W:World) (h:IsO W vm m)=>ref8List_any m (by omega) hV.ok.gd vm vl W h);have hdl:(docR m).length≤m.length:=by rw [docR_len]; exact row_len hV.ok.gd
 have HV:=Lh hV;have hcb:=ctr_in hV.ok hV.rl;obtain ⟨E,hE⟩:∃ E,E=inE8 m l site at_ ch lo hi:=⟨_,rfl⟩
 obtain ⟨⟨m9,l9,a9⟩,hT⟩:∃ T,T=inT8 m l site at_ ch lo hi:=⟨_,rfl⟩
 obtain ⟨P,hP⟩:∃ P,P=opP (inE8 m l site at_ ch lo hi) (inV8 m l site at_ ch lo hi):=⟨_,rfl⟩
 rw [←hP,←hE,←hT]
 show Calls Tryz.prog 22 _ w fun e w'=>∃ vm' vl' cs,e=.returned (.tuple #[.agg #[vm',vl'],.agg #[P.k,P.c,P.s,P.a,P.n,.int .i32 P.ch],cs,E])∧IsO w' vm' m9∧IsO w' vl' l9∧IsC w' cs a9∧Below w.heap.size w w'
 rw [←hE] at hP;have HNI:=Lh (fun W=>show IsC W (.slice none 0 0) [] from .inl ⟨rfl,rfl⟩);have HBAD:=Lh (show ∀ k,k≠0→inC8 m l site at_ ch=k→E=k∧P=zeroO∧(m9,l9,a9)=(m,l,[]) from fun k hk h=>by
  have he:E=k:=hE.trans (by unfold inE8; rw [if_pos (by rw [h]; exact hk),h]);exact ⟨he,hP.trans (by unfold opP; rw [if_neg (by rw [he]; exact hk)]),hT.trans (by unfold inT8; rw [if_pos (by rw [h]; exact hk)])⟩)
 have HGOOD:=Lh (show inC8 m l site at_ ch=0→E=remE m l (inV8 m l site at_ ch lo hi)∧(m9,l9,a9)=remT m l (inV8 m l site at_ ch lo hi) from fun h=>⟨hE.trans (by unfold inE8; rw [if_neg (by simp [h])]),hT.trans (by unfold inT8; rw [if_neg (by simp [h])])⟩);have HPP:=Lh hP;obtain ⟨RK,hRK⟩:∃ RK,RK=rkL (docR m) ((docR m).length:Int):=⟨_,rfl⟩
 have HC2:=Lh (fun h=>inC_2 (m:=m) (l:=l) (site:=site) (at_:=at_) (ch:=ch) h);have HC1:=Lh (fun h=>inC_1 (m:=m) (l:=l) (site:=site) (at_:=at_) (ch:=ch) h);have HC7:=Lh (fun h=>inC_7 (m:=m) (l:=l) (site:=site) (at_:=at_) (ch:=ch) h);have HC0:=Lh (fun h=>inC_0 (m:=m) (l:=l) (site:=site) (at_:=at_) (ch:=ch) h);have HRK:=Lh (fun v W (h:IsE W v (docR m))=>refRank_any (docR m) ((docR m).length:Int) v W h (by omega));have HIV:=Lh (show inV8 m l site at_ ch lo hi=⟨0,ctrI m l,site,if 0<at_ then (namC (docR m) (at_ - 1)).1 else 0,if 0<at_ then (namC (docR m) (at_ - 1)).2 else 0,ch,lo,hi⟩ from rfl);rw [←hRK] at HRK HC2 HC1 HC7 HC0;obtain ⟨cn,hcn⟩:∃ cn,cn=ctrI m l:=⟨_,rfl⟩
 rw [←hcn] at HCT HC7 HC0 HIV hcb;clear hM hL hE hT hP hV hRK hcn;generalize docR m=L at *
 obtain ⟨hcb1,hcb2⟩:=hcb;have hR0:(RK:Int)≤9223372036854775807∨True:=.inr trivial;have x0 := H0.out.bv.c2
 go_enter Tryz.func22,Tryz.ntmps22
 go_wp2_with (go_at_call 27; refine (HLS.out _ _ _ (HM.out.next H0.out.bel)).mono ?_; rintro e w1 ⟨v3,rfl,hE3,hb⟩; obtain ⟨a8,c8,rfl,hd8,hd9⟩:=hE3.form; refine Hid.out ?_)
 have HA:=Lh (H0.out.next hb);have HE3:=Lh hE3;clear H0 hb hE3 x0 HLS hR0;by_cases hq:site<1∨1000<site∨at_<0
 ·obtain ⟨he,hp,ht⟩:=HBAD.out 2 (by decide) (HC2.out (by omega))
  subst he;have HP:=Lh hp;have H9:=Lh ht;clear hp ht HBAD HGOOD HC1 HC7 HC0 HC2;rcases hq with h1 | h1 | h1
  ·have f1:decide (site<1)=true:=decide_eq_true h1
   have x0 := HA.out.bv.c2;have z0 := HA.out.b2.c2;have fz0 := HA.out.b2.f2;obtain ⟨wq,wz,hWQ,hWR,b3q,b2r,b3r,hB⟩:=HA.out.fin;have q0 := b3q.c6;have fq0 := b3q.f6;have z2 := b2r.c2;have r0 := b3r.c6;have HB:=Lh hB;clear hB b3q b2r b3r;refine Lh ?_;go_wp2_with fail
   refine bodyPost_ret (v:=.tuple #[.agg #[.slice ad m.length cap,.slice al l.length cl],.agg #[.int .i64 0,.int .i64 0,.int .i64 0,.int .i64 0,.int .i64 0,.int .i32 0],.slice none 0 0,.int .i64 2]) (by simp [results, Tryz.results22, go_sem, z2, r0]) rfl ?_;obtain ⟨h9,h8⟩:=Prod.mk.inj H9.out;obtain ⟨h7,h6⟩:=Prod.mk.inj h8;rw [h9,h7,h6,HP.out];exact ⟨_,_,_,rfl,HM.out.next HB.out,HL.out.next HB.out,HNI.out _,HB.out⟩
  ·have f1:decide (site<1)=false:=decide_eq_false (by omega)
   have f2:decide (1000<site)=true:=decide_eq_true h1;have x0 := HA.out.bv.c2;have z0 := HA.out.b2.c2;have fz0 := HA.out.b2.f2;obtain ⟨wq,wz,hWQ,hWR,b3q,b2r,b3r,hB⟩:=HA.out.fin;have q0 := b3q.c6;have fq0 := b3q.f6;have z2 := b2r.c2;have r0 := b3r.c6;have HB:=Lh hB;clear hB b3q b2r b3r;refine Lh ?_;go_wp2_with fail
   refine bodyPost_ret (v:=.tuple #[.agg #[.slice ad m.length cap,.slice al l.length cl],.agg #[.int .i64 0,.int .i64 0,.int .i64 0,.int .i64 0,.int .i64 0,.int .i32 0],.slice none 0 0,.int .i64 2]) (by simp [results, Tryz.results22, go_sem, z2, r0]) rfl ?_;obtain ⟨h9,h8⟩:=Prod.mk.inj H9.out;obtain ⟨h7,h6⟩:=Prod.mk.inj h8;rw [h9,h7,h6,HP.out];exact ⟨_,_,_,rfl,HM.out.next HB.out,HL.out.next HB.out,HNI.out _,HB.out⟩
  ·by_cases h2:site<1
   ·have f1:decide (site<1)=true:=decide_eq_true h2
    have x0 := HA.out.bv.c2;have z0 := HA.out.b2.c2;have fz0 := HA.out.b2.f2;obtain ⟨wq,wz,hWQ,hWR,b3q,b2r,b3r,hB⟩:=HA.out.fin;have q0 := b3q.c6;have fq0 := b3q.f6;have z2 := b2r.c2;have r0 := b3r.c6;have HB:=Lh hB;clear hB b3q b2r b3r;refine Lh ?_;go_wp2_with fail
    refine bodyPost_ret (v:=.tuple #[.agg #[.slice ad m.length cap,.slice al l.length cl],.agg #[.int .i64 0,.int .i64 0,.int .i64 0,.int .i64 0,.int .i64 0,.int .i32 0],.slice none 0 0,.int .i64 2]) (by simp [results, Tryz.results22, go_sem, z2, r0]) rfl ?_;obtain ⟨h9,h8⟩:=Prod.mk.inj H9.out;obtain ⟨h7,h6⟩:=Prod.mk.inj h8;rw [h9,h7,h6,HP.out];exact ⟨_,_,_,rfl,HM.out.next HB.out,HL.out.next HB.out,HNI.out _,HB.out⟩
   ·have f1:decide (site<1)=false:=decide_eq_false h2
    by_cases h3:1000<site
    ·have f2:decide (1000<site)=true:=decide_eq_true h3
     have x0 := HA.out.bv.c2;have z0 := HA.out.b2.c2;have fz0 := HA.out.b2.f2;obtain ⟨wq,wz,hWQ,hWR,b3q,b2r,b3r,hB⟩:=HA.out.fin;have q0 := b3q.c6;have fq0 := b3q.f6;have z2 := b2r.c2;have r0 := b3r.c6;have HB:=Lh hB;clear hB b3q b2r b3r;refine Lh ?_;go_wp2_with fail
     refine bodyPost_ret (v:=.tuple #[.agg #[.slice ad m.length cap,.slice al l.length cl],.agg #[.int .i64 0,.int .i64 0,.int .i64 0,.int .i64 0,.int .i64 0,.int .i32 0],.slice none 0 0,.int .i64 2]) (by simp [results, Tryz.results22, go_sem, z2, r0]) rfl ?_;obtain ⟨h9,h8⟩:=Prod.mk.inj H9.out;obtain ⟨h7,h6⟩:=Prod.mk.inj h8;rw [h9,h7,h6,HP.out];exact ⟨_,_,_,rfl,HM.out.next HB.out,HL.out.next HB.out,HNI.out _,HB.out⟩
    ·have f2:decide (1000<site)=false:=decide_eq_false h3
     have f3:decide (at_<0)=true:=decide_eq_true h1;have x0 := HA.out.bv.c2;have z0 := HA.out.b2.c2;have fz0 := HA.out.b2.f2;obtain ⟨wq,wz,hWQ,hWR,b3q,b2r,b3r,hB⟩:=HA.out.fin;have q0 := b3q.c6;have fq0 := b3q.f6;have z2 := b2r.c2;have r0 := b3r.c6;have HB:=Lh hB;clear hB b3q b2r b3r;refine Lh ?_;go_wp2_with fail
     refine bodyPost_ret (v:=.tuple #[.agg #[.slice ad m.length cap,.slice al l.length cl],.agg #[.int .i64 0,.int .i64 0,.int .i64 0,.int .i64 0,.int .i64 0,.int .i32 0],.slice none 0 0,.int .i64 2]) (by simp [results, Tryz.results22, go_sem, z2, r0]) rfl ?_;obtain ⟨h9,h8⟩:=Prod.mk.inj H9.out;obtain ⟨h7,h6⟩:=Prod.mk.inj h8;rw [h9,h7,h6,HP.out];exact ⟨_,_,_,rfl,HM.out.next HB.out,HL.out.next HB.out,HNI.out _,HB.out⟩
 ·have g1:1≤site:=by omega
  have g2:site≤1000:=by omega
  have g3:0≤at_:=by omega
  have f1:decide (site<1)=false:=decide_eq_false (by omega);have f2:decide (1000<site)=false:=decide_eq_false (by omega);have f3:decide (at_<0)=false:=decide_eq_false (by omega);clear hq;by_cases h4:(RK:Int)<at_
  ·obtain ⟨he,hp,ht⟩:=HBAD.out 2 (by decide) (HC2.out (by omega))
   subst he;have HP:=Lh hp;have H9:=Lh ht;clear hp ht HBAD HGOOD HC1 HC7 HC0 HC2;refine Lh ?_;go_wp2_with (go_at_call 28; refine (HRK.out _ _ HE3.out).mono ?_; rintro e w2 ⟨rfl,hb⟩; refine Hid.out ?_)
   have HA2:=Lh (HA.out.next hb);clear HA hb;have x0 := HA2.out.bv.c2;have z0 := HA2.out.b2.c2;have fz0 := HA2.out.b2.f2;obtain ⟨wq,wz,hWQ,hWR,b3q,b2r,b3r,hB⟩:=HA2.out.fin;have q0 := b3q.c6;have fq0 := b3q.f6;have z2 := b2r.c2;have r0 := b3r.c6;have HB:=Lh hB;clear hB b3q b2r b3r;refine Lh ?_;go_wp2_with fail
   refine bodyPost_ret (v:=.tuple #[.agg #[.slice ad m.length cap,.slice al l.length cl],.agg #[.int .i64 0,.int .i64 0,.int .i64 0,.int .i64 0,.int .i64 0,.int .i32 0],.slice none 0 0,.int .i64 2]) (by simp [results, Tryz.results22, go_sem, z2, r0]) rfl ?_;obtain ⟨h9,h8⟩:=Prod.mk.inj H9.out;obtain ⟨h7,h6⟩:=Prod.mk.inj h8;rw [h9,h7,h6,HP.out];exact ⟨_,_,_,rfl,HM.out.next HB.out,HL.out.next HB.out,HNI.out _,HB.out⟩
  ·have f4:decide ((RK:Int)<at_)=false:=decide_eq_false h4
   have HNO:=Lh (show ¬ (site<1∨1000<site∨at_<0∨(RK:Int)<at_) by omega);refine Lh ?_;go_wp2_with (go_at_call 28; refine (HRK.out _ _ HE3.out).mono ?_; rintro e w2 ⟨rfl,hb⟩; refine Hid.out ?_)
   have HA2:=Lh (HA.out.next hb);clear HA hb HE3 h4;by_cases hch:charB ch=true
   ·obtain ⟨he,hp,ht⟩:=HBAD.out 1 (by decide) (HC1.out HNO.out hch)
    subst he;have HP:=Lh hp;have H9:=Lh ht;have hch2:ch<32∨1114111<ch∨(55296≤ch∧ch≤57343):=by simpa [charB] using hch
    clear hp ht HBAD HGOOD HC1 HC7 HC0 HC2 hch HNO;by_cases k1:ch<32
    ·have c1:decide (ch<32)=true:=decide_eq_true k1
     have x0 := HA2.out.bv.c2;have z0 := HA2.out.b2.c2;have fz0 := HA2.out.b2.f2;obtain ⟨wq,wz,hWQ,hWR,b3q,b2r,b3r,hB⟩:=HA2.out.fin;have q0 := b3q.c6;have fq0 := b3q.f6;have z2 := b2r.c2;have r0 := b3r.c6;have HB:=Lh hB;clear hB b3q b2r b3r;refine Lh ?_;go_wp2_with fail
     refine bodyPost_ret (v:=.tuple #[.agg #[.slice ad m.length cap,.slice al l.length cl],.agg #[.int .i64 0,.int .i64 0,.int .i64 0,.int .i64 0,.int .i64 0,.int .i32 0],.slice none 0 0,.int .i64 1]) (by simp [results, Tryz.results22, go_sem, z2, r0]) rfl ?_;obtain ⟨h9,h8⟩:=Prod.mk.inj H9.out;obtain ⟨h7,h6⟩:=Prod.mk.inj h8;rw [h9,h7,h6,HP.out];exact ⟨_,_,_,rfl,HM.out.next HB.out,HL.out.next HB.out,HNI.out _,HB.out⟩
    ·have c1:decide (ch<32)=false:=decide_eq_false k1
     by_cases k2:1114111<ch
     ·have c2:decide (1114111<ch)=true:=decide_eq_true k2
      have x0 := HA2.out.bv.c2;have z0 := HA2.out.b2.c2;have fz0 := HA2.out.b2.f2;obtain ⟨wq,wz,hWQ,hWR,b3q,b2r,b3r,hB⟩:=HA2.out.fin;have q0 := b3q.c6;have fq0 := b3q.f6;have z2 := b2r.c2;have r0 := b3r.c6;have HB:=Lh hB;clear hB b3q b2r b3r;refine Lh ?_;go_wp2_with fail
      refine bodyPost_ret (v:=.tuple #[.agg #[.slice ad m.length cap,.slice al l.length cl],.agg #[.int .i64 0,.int .i64 0,.int .i64 0,.int .i64 0,.int .i64 0,.int .i32 0],.slice none 0 0,.int .i64 1]) (by simp [results, Tryz.results22, go_sem, z2, r0]) rfl ?_;obtain ⟨h9,h8⟩:=Prod.mk.inj H9.out;obtain ⟨h7,h6⟩:=Prod.mk.inj h8;rw [h9,h7,h6,HP.out];exact ⟨_,_,_,rfl,HM.out.next HB.out,HL.out.next HB.out,HNI.out _,HB.out⟩
     ·have c2:decide (1114111<ch)=false:=decide_eq_false k2
      have c3:decide (55296≤ch)=true:=decide_eq_true (by omega);have c4:decide (ch≤57343)=true:=decide_eq_true (by omega);have x0 := HA2.out.bv.c2;have z0 := HA2.out.b2.c2;have fz0 := HA2.out.b2.f2;obtain ⟨wq,wz,hWQ,hWR,b3q,b2r,b3r,hB⟩:=HA2.out.fin;have q0 := b3q.c6;have fq0 := b3q.f6;have z2 := b2r.c2;have r0 := b3r.c6;have HB:=Lh hB;clear hB b3q b2r b3r;refine Lh ?_;go_wp2_with fail
      refine bodyPost_ret (v:=.tuple #[.agg #[.slice ad m.length cap,.slice al l.length cl],.agg #[.int .i64 0,.int .i64 0,.int .i64 0,.int .i64 0,.int .i64 0,.int .i32 0],.slice none 0 0,.int .i64 1]) (by simp [results, Tryz.results22, go_sem, z2, r0]) rfl ?_;obtain ⟨h9,h8⟩:=Prod.mk.inj H9.out;obtain ⟨h7,h6⟩:=Prod.mk.inj h8;rw [h9,h7,h6,HP.out];exact ⟨_,_,_,rfl,HM.out.next HB.out,HL.out.next HB.out,HNI.out _,HB.out⟩
   ·have hcf:charB ch=false:=by simpa using hch
    have hch2:¬ (ch<32∨1114111<ch∨(55296≤ch∧ch≤57343)):=by simpa [charB] using hch
    have c1:decide (ch<32)=false:=decide_eq_false (by omega);have c2:decide (1114111<ch)=false:=decide_eq_false (by omega);have hz2:decide (55296≤ch)=false∨(decide (55296≤ch)=true∧decide (ch≤57343)=false):=by
     by_cases k3:55296≤ch
     ·exact .inr ⟨decide_eq_true k3,decide_eq_false (by omega)⟩
     ·exact .inl (decide_eq_false k3)
    have hl4:decide ((4096:Int)≤(L.length:Int))=false:=decide_eq_false (by omega);have HQ7:=Lh (fun h=>HC7.out HNO.out hcf h);have HQ0:=Lh (fun h=>HC0.out HNO.out hcf h);clear HC1 HC7 HC0 HC2 hch hch2 HNO hcf;rcases hz2 with c3 | ⟨c3,c4⟩
    all_goals
     have x0 := HA2.out.bv.c2;by_cases h7:1048576<cn
     ·obtain ⟨he,hp,ht⟩:=HBAD.out 7 (by decide) (HQ7.out h7)
      subst he;have HP:=Lh hp;have H9:=Lh ht;have f7:decide (1048576<cn)=true:=decide_eq_true h7;clear hp ht HBAD HGOOD HQ7 HQ0 h7;refine Lh ?_;go_wp2_with (go_at_call 63; refine (HCT.out _ _ _ (HM.out.next HA2.out.bel) (HL.out.next HA2.out.bel)).mono ?_; rintro e w3 ⟨rfl,hb⟩; refine Hid.out ?_)
      have HA9:=Lh (HA2.out.next hb);clear HA2 hb x0;have x0 := HA9.out.bv.c2;have z0 := HA9.out.b2.c2;have fz0 := HA9.out.b2.f2;obtain ⟨wq,wz,hWQ,hWR,b3q,b2r,b3r,hB⟩:=HA9.out.fin;have q0 := b3q.c6;have fq0 := b3q.f6;have z2 := b2r.c2;have r0 := b3r.c6;have HB:=Lh hB;clear hB b3q b2r b3r;refine Lh ?_;go_wp2_with fail
      refine bodyPost_ret (v:=.tuple #[.agg #[.slice ad m.length cap,.slice al l.length cl],.agg #[.int .i64 0,.int .i64 0,.int .i64 0,.int .i64 0,.int .i64 0,.int .i32 0],.slice none 0 0,.int .i64 7]) (by simp [results, Tryz.results22, go_sem, z2, r0]) rfl ?_;obtain ⟨h9,h8⟩:=Prod.mk.inj H9.out;obtain ⟨h7,h6⟩:=Prod.mk.inj h8;rw [h9,h7,h6,HP.out];exact ⟨_,_,_,rfl,HM.out.next HB.out,HL.out.next HB.out,HNI.out _,HB.out⟩
     ·obtain ⟨he,ht⟩:=HGOOD.out (HQ0.out (by omega))
      have f7:decide (1048576<cn)=false:=decide_eq_false h7;clear HBAD HGOOD HQ7 HQ0 h7;refine Lh ?_;go_wp2_with (go_at_call 63; refine (HCT.out _ _ _ (HM.out.next HA2.out.bel) (HL.out.next HA2.out.bel)).mono ?_; rintro e w3 ⟨rfl,hb⟩; refine Hid.out ?_)
      have HA4:=Lh (HA2.out.next hb);clear HA2 hb x0;have x0 := HA4.out.bv.c2;refine Lh ?_;go_wp2_with (go_at_call 63; refine (HCT.out _ _ _ (HM.out.next HA4.out.bel) (HL.out.next HA4.out.bel)).mono ?_; rintro e w4 ⟨rfl,hb⟩; refine Hid.out ?_)
      have HA5:=Lh (HA4.out.next hb);clear HA4 hb x0 HCT;have hbO:Below w4.heap.size w4 (w4.alloc (.cells #[.int .i64 0,cn,site,.int .i64 0,.int .i64 0,.int .i32 ch] 70)):=bA;have HA6:=Lh (HA5.out.next hbO);have hbo:Blk (w4.alloc (.cells #[.int .i64 0,cn,site,.int .i64 0,.int .i64 0,.int .i32 ch] 70)) w4.heap.size [.int .i64 0,cn,site,.int .i64 0,.int .i64 0,.int .i32 ch] 70:=Blk.startAt rfl;have hsO:w.heap.size+1+1<w4.heap.size:=HA5.out.b3.lt;clear HA5 hbO;by_cases hat:0<at_
      ·obtain ⟨⟨ba,bn⟩,hN⟩:∃ N,N=namC L (at_ - 1):=⟨_,rfl⟩
       obtain ⟨X,hX⟩:∃ X:Oq,X=⟨0,cn,site,ba,bn,ch,lo,hi⟩:=⟨_,rfl⟩
       have hXd:inV8 m l site at_ ch lo hi=X:=by rw [HIV.out,hX,if_pos hat,if_pos hat,←hN]
       have HN9:=Lh (fun v u W (h:IsO W v m)=>HNM.out (at_ - 1) (by omega) (by omega) v u W h);rw [←hN] at HN9;rw [hXd] at he ht;have hp:P=opP E X:=by rw [HPP.out,hXd]
       obtain ⟨⟨m1,l1,h1⟩,ht1⟩:∃ T,T=remT m l X:=⟨_,rfl⟩
       have H9:=Lh (show (m9,l9,a9)=(m1,l1,h1) from ht.trans ht1.symm);have HRE:=Lh (fun v u W (h:IsO W v m) (h2:IsO W u l)=>refRemote_any m l X HV.out.ok HV.out.l16 (by omega) v u W h h2);rw [←he,←ht1,hX] at HRE;have HRM:=Lh (show RmO m1∧RmO l1 from by
        have h:=HV.out.rem X;rw [←ht1] at h;exact ⟨h.rm,h.rl⟩)
       have HER:=Lh (show E≠0→(m1,l1,h1)=(m,l,[]) from fun h=>ht1.trans (rem_err (he▸h)));have HPX:=Lh (And.intro hp hX)
       dsimp only at HRE
       clear hp hX hXd ht ht1 he HPP HIV;have x0 := HA6.out.bv.c2;refine Lh ?_;go_wp2_with (go_at_call 64; refine (HN9.out _ _ _ (HM.out.next HA6.out.bel)).mono ?_; rintro e w6 ⟨rfl,hb⟩; refine Hid.out ?_)
       have HA7:=Lh (HA6.out.next hb);have hbo7:=hbo.next hb;clear HA6 hbo hb x0;have o3:=hbo7.cell 3 rfl;have o4:=hbo7.cell 4 rfl;have fo3:=hbo7.free 3;have fo4:=hbo7.free 4;have HA8:=Lh ((HA7.out.oth hsO 3 ba).oth hsO 4 bn);have hbo8:Blk ((w6.setCell ⟨w4.heap.size,3,none⟩ ba).setCell ⟨w4.heap.size,4,none⟩ bn) w4.heap.size [.int .i64 0,cn,site,ba,bn,.int .i32 ch] 70:=(hbo7.set 3 _).set 4 _;generalize hWS:(w6.setCell ⟨w4.heap.size,3,none⟩ ba).setCell ⟨w4.heap.size,4,none⟩ bn=w7 at *
       clear HA7 hbo7;have hs2:w.heap.size+1+1<w4.heap.size:=hsO;have x0 := HA8.out.bv.c2;obtain ⟨o0,o1,o2,o3,o4,o5⟩:=hbo8.c6;refine Lh ?_;go_wp2_with (go_at_call 25; refine (HRE.out _ _ _ (HM.out.next HA8.out.bel) (HL.out.next HA8.out.bel)).mono ?_; rintro e y4 ⟨v1,v2,cs,rfl,g1,g2,g3,hb⟩; obtain ⟨a1,c1,rfl,hd1,hd2⟩:=g1.form; obtain ⟨a2,c2,rfl,hd3,hd4⟩:=g2.form; obtain ⟨a3,c3,rfl,hd5,hd6⟩:=g3.form; refine Hid.out ?_)
       have hbN:Below y4.heap.size y4 (y4.alloc (.cells #[.slice a1 m1.length c1,.slice a2 l1.length c2] 47)):=bA;have HA3:=Lh (HA8.out.next (hb.trans (hbN.mono hb.size)));have hbo3:=hbo8.next (hb.trans (hbN.mono hb.size));have hbn:Blk (y4.alloc (.cells #[.slice a1 m1.length c1,.slice a2 l1.length c2] 47)) y4.heap.size [.slice a1 m1.length c1,.slice a2 l1.length c2] 47:=Blk.startAt rfl;have HG3:=Lh (And.intro (g1.next hbN) (And.intro (g2.next hbN) (g3.next hbN)));have hs4:w4.heap.size<y4.heap.size:=(hbo8.next hb).lt;generalize hW5:y4.alloc (.cells #[.slice a1 m1.length c1,.slice a2 l1.length c2] 47)=w5 at *
       clear HA8 hbo8 hb hbN g1 g2 g3 x0 o0 o1 o2 o3 o4 o5 HRE fo3 fo4 HN9 hWS HNM;by_cases hE0:E=0
       ·have HP:=Lh (show P=X by rw [HPX.out.1]; unfold opP; rw [if_pos hE0])
        have HXX:=Lh HPX.out.2;subst hE0;have HF0:=Lh (show Fi8 w (w.heap.size+1) (w.heap.size+1+1) y4.heap.size w4.heap.size [.slice none 0 0,.slice none 0 0] (oqL zeroO) m1 l1 h1 (.slice a1 m1.length c1) (.slice a2 l1.length c2) (.slice a3 h1.length c3) ⟨0,cn,site,ba,bn,ch,lo,hi⟩ w5 from
         ⟨HA3.out.bel,by omega,by omega,HA3.out.b2,HA3.out.b3,hbn,hbo3,by omega,by omega,HG3.out.1,HG3.out.2.1,HG3.out.2.2⟩)
        have hdum:=trivial;clear HER HPX HA3 hbo3 hbn HG3;refine Lh ?_;go_wp2_with fail
        clear hW5;have HF:=Lh (HF0.out.next bdq);clear HF0;refine rgH (fun W=>Cc2 W y4.heap.size (.slice a1 m1.length c1) (.slice a2 l1.length c2) (Cz6 W w4.heap.size (.int .i64 0) cn site ba bn (.int .i32 ch))) (let h:=HF.out; (h.nb.d2 h.ob.c6)) fun hH=>?_
        clear hdum;generalize w5.drew=w8 at *
        have p0 := HF.out.ra.c2;have fp0 := HF.out.ra.f2;refine tq 0 (.agg #[.slice a1 m1.length c1,.slice a2 l1.length c2]) hH ?_;refine tq 1 (.agg #[.int .i64 0,cn,site,ba,bn,.int .i32 ch]) hH ?_;refine tq 2 (.slice a3 h1.length c3) hH ?_;refine rd1 3 (by kernel_rfl) rfl fun KK hK=>?_
        go_simp
        go_wp2_with fail
        refine hK.out _ _ ((let h:=HF.out.setA; (h.nb.d2 h.ob.c6))) ?_;clear hK KK hH p0 fp0;intro hH
        try simp only [LAY]
        have HG:=Lh HF.out.setA;generalize (w8.setCell ⟨w.heap.size+1,0,none⟩ (.slice a1 m1.length c1)).setCell ⟨w.heap.size+1,1,none⟩ (.slice a2 l1.length c2)=w9 at *
        have q0 := HG.out.rb.c6;have fq0 := HG.out.rb.f6;refine rd1 4 (by kernel_rfl) rfl fun KK hK=>?_
        go_simp
        go_wp2_with fail
        refine hK.out _ _ ((let h:=(HG.out.setB HRM.out); (h.nb.d2 h.ob.c6))) ?_;clear hK KK hH q0 fq0;intro hH
        try simp only [LAY]
        have HH:=Lh (HG.out.setB HRM.out);refine tq 5 (.slice a3 h1.length c3) hH ?_;refine tq 6 (.int .i64 0) hH ?_;refine dnH ?_;clear hH HF HG
        change Hid (Fi8 _ _ _ _ _ _ _ _ _ _ _ _ _ _ ((((((w9.setCell ⟨w.heap.size+1+1,0,none⟩ (.int .i64 0)).setCell ⟨w.heap.size+1+1,1,none⟩ cn).setCell ⟨w.heap.size+1+1,2,none⟩ site).setCell ⟨w.heap.size+1+1,3,none⟩ ba).setCell ⟨w.heap.size+1+1,4,none⟩ bn).setCell ⟨w.heap.size+1+1,5,none⟩ (.int .i32 ch))) at HH
        generalize (((((w9.setCell ⟨w.heap.size+1+1,0,none⟩ (.int .i64 0)).setCell ⟨w.heap.size+1+1,1,none⟩ cn).setCell ⟨w.heap.size+1+1,2,none⟩ site).setCell ⟨w.heap.size+1+1,3,none⟩ ba).setCell ⟨w.heap.size+1+1,4,none⟩ bn).setCell ⟨w.heap.size+1+1,5,none⟩ (.int .i32 ch)=w10 at *
        have z2 := HH.out.ra.c2;have r0 := HH.out.rb.c6;go_wp2_with fail
        refine bodyPost_ret (v:=.tuple #[.agg #[.slice a1 m1.length c1,.slice a2 l1.length c2],.agg #[.int .i64 0,cn,site,ba,bn,.int .i32 ch],.slice a3 h1.length c3,.int .i64 0]) (by simp [results, Tryz.results22, go_sem, z2, r0]) rfl ?_;obtain ⟨h9,h8⟩:=Prod.mk.inj H9.out;obtain ⟨h7,h6⟩:=Prod.mk.inj h8;rw [h9,h7,h6,HP.out.trans HXX.out];exact ⟨_,_,_,rfl,HH.out.io,HH.out.il,HH.out.ic,HH.out.bel⟩
       ·have hne:(E==0)=false:=by simpa using hE0
        have HP:=Lh (show P=zeroO by rw [HPX.out.1]; unfold opP; rw [if_neg hE0]);have H9b:=Lh (H9.out.trans (HER.out hE0));clear H9;have H9:=H9b;clear H9b hE0 HER HPX hbo3 hbn HG3;have x0 := HA3.out.bv.c2;have z0 := HA3.out.b2.c2;have fz0 := HA3.out.b2.f2;obtain ⟨wq,wz,hWQ,hWR,b3q,b2r,b3r,hB⟩:=HA3.out.fin;have q0 := b3q.c6;have fq0 := b3q.f6;have z2 := b2r.c2;have r0 := b3r.c6;have HB:=Lh hB;clear hB b3q b2r b3r;refine Lh ?_;go_wp2_with fail
        refine bodyPost_ret (v:=.tuple #[.agg #[.slice ad m.length cap,.slice al l.length cl],.agg #[.int .i64 0,.int .i64 0,.int .i64 0,.int .i64 0,.int .i64 0,.int .i32 0],.slice none 0 0,E]) (by simp [results, Tryz.results22, go_sem, z2, r0]) rfl ?_;obtain ⟨h9,h8⟩:=Prod.mk.inj H9.out;obtain ⟨h7,h6⟩:=Prod.mk.inj h8;rw [h9,h7,h6,HP.out];exact ⟨_,_,_,rfl,HM.out.next HB.out,HL.out.next HB.out,HNI.out _,HB.out⟩
      ·have hat0:at_=0:=by omega
       obtain ⟨X,hX⟩:∃ X:Oq,X=⟨0,cn,site,0,0,ch,lo,hi⟩:=⟨_,rfl⟩
       have hXd:inV8 m l site at_ ch lo hi=X:=by rw [HIV.out,hX,if_neg hat,if_neg hat]
       have fat:decide (0<at_)=false:=decide_eq_false hat;clear hat;rw [hXd] at he ht;have hp:P=opP E X:=by rw [HPP.out,hXd]
       obtain ⟨⟨m1,l1,h1⟩,ht1⟩:∃ T,T=remT m l X:=⟨_,rfl⟩
       have H9:=Lh (show (m9,l9,a9)=(m1,l1,h1) from ht.trans ht1.symm);have HRE:=Lh (fun v u W (h:IsO W v m) (h2:IsO W u l)=>refRemote_any m l X HV.out.ok HV.out.l16 (by omega) v u W h h2);rw [←he,←ht1,hX] at HRE;have HRM:=Lh (show RmO m1∧RmO l1 from by
        have h:=HV.out.rem X;rw [←ht1] at h;exact ⟨h.rm,h.rl⟩)
       have HER:=Lh (show E≠0→(m1,l1,h1)=(m,l,[]) from fun h=>ht1.trans (rem_err (he▸h)));have HPX:=Lh (And.intro hp hX)
       dsimp only at HRE
       clear hp hX hXd ht ht1 he HPP HIV;have hs2:w.heap.size+1+1<w4.heap.size:=hsO;have x0 := HA6.out.bv.c2;obtain ⟨o0,o1,o2,o3,o4,o5⟩:=hbo.c6;refine Lh ?_;go_wp2_with (go_at_call 25; refine (HRE.out _ _ _ (HM.out.next HA6.out.bel) (HL.out.next HA6.out.bel)).mono ?_; rintro e y4 ⟨v1,v2,cs,rfl,g1,g2,g3,hb⟩; obtain ⟨a1,c1,rfl,hd1,hd2⟩:=g1.form; obtain ⟨a2,c2,rfl,hd3,hd4⟩:=g2.form; obtain ⟨a3,c3,rfl,hd5,hd6⟩:=g3.form; refine Hid.out ?_)
       have hbN:Below y4.heap.size y4 (y4.alloc (.cells #[.slice a1 m1.length c1,.slice a2 l1.length c2] 47)):=bA;have HA3:=Lh (HA6.out.next (hb.trans (hbN.mono hb.size)));have hbo3:=hbo.next (hb.trans (hbN.mono hb.size));have hbn:Blk (y4.alloc (.cells #[.slice a1 m1.length c1,.slice a2 l1.length c2] 47)) y4.heap.size [.slice a1 m1.length c1,.slice a2 l1.length c2] 47:=Blk.startAt rfl;have HG3:=Lh (And.intro (g1.next hbN) (And.intro (g2.next hbN) (g3.next hbN)));have hs4:w4.heap.size<y4.heap.size:=(hbo.next hb).lt;generalize hW5:y4.alloc (.cells #[.slice a1 m1.length c1,.slice a2 l1.length c2] 47)=w5 at *
       clear HA6 hbo hb hbN g1 g2 g3 x0 o0 o1 o2 o3 o4 o5 HRE HNM;by_cases hE0:E=0
       ·have HP:=Lh (show P=X by rw [HPX.out.1]; unfold opP; rw [if_pos hE0])
        have HXX:=Lh HPX.out.2;subst hE0;have HF0:=Lh (show Fi8 w (w.heap.size+1) (w.heap.size+1+1) y4.heap.size w4.heap.size [.slice none 0 0,.slice none 0 0] (oqL zeroO) m1 l1 h1 (.slice a1 m1.length c1) (.slice a2 l1.length c2) (.slice a3 h1.length c3) ⟨0,cn,site,0,0,ch,lo,hi⟩ w5 from
         ⟨HA3.out.bel,by omega,by omega,HA3.out.b2,HA3.out.b3,hbn,hbo3,by omega,by omega,HG3.out.1,HG3.out.2.1,HG3.out.2.2⟩)
        have hdum:=trivial;clear HER HPX HA3 hbo3 hbn HG3;refine Lh ?_;go_wp2_with fail
        clear hW5;have HF:=Lh (HF0.out.next bdq);clear HF0;refine rgH (fun W=>Cc2 W y4.heap.size (.slice a1 m1.length c1) (.slice a2 l1.length c2) (Cz6 W w4.heap.size (.int .i64 0) cn site (.int .i64 0) (.int .i64 0) (.int .i32 ch))) (let h:=HF.out; (h.nb.d2 h.ob.c6)) fun hH=>?_
        clear hdum;generalize w5.drew=w8 at *
        have p0 := HF.out.ra.c2;have fp0 := HF.out.ra.f2;refine tq 0 (.agg #[.slice a1 m1.length c1,.slice a2 l1.length c2]) hH ?_;refine tq 1 (.agg #[.int .i64 0,cn,site,.int .i64 0,.int .i64 0,.int .i32 ch]) hH ?_;refine tq 2 (.slice a3 h1.length c3) hH ?_;refine rd1 3 (by kernel_rfl) rfl fun KK hK=>?_
        go_simp
        go_wp2_with fail
        refine hK.out _ _ ((let h:=HF.out.setA; (h.nb.d2 h.ob.c6))) ?_;clear hK KK hH p0 fp0;intro hH
        try simp only [LAY]
        have HG:=Lh HF.out.setA;generalize (w8.setCell ⟨w.heap.size+1,0,none⟩ (.slice a1 m1.length c1)).setCell ⟨w.heap.size+1,1,none⟩ (.slice a2 l1.length c2)=w9 at *
        have q0 := HG.out.rb.c6;have fq0 := HG.out.rb.f6;refine rd1 4 (by kernel_rfl) rfl fun KK hK=>?_
        go_simp
        go_wp2_with fail
        refine hK.out _ _ ((let h:=(HG.out.setB HRM.out); (h.nb.d2 h.ob.c6))) ?_;clear hK KK hH q0 fq0;intro hH
        try simp only [LAY]
        have HH:=Lh (HG.out.setB HRM.out);refine tq 5 (.slice a3 h1.length c3) hH ?_;refine tq 6 (.int .i64 0) hH ?_;refine dnH ?_;clear hH HF HG
        change Hid (Fi8 _ _ _ _ _ _ _ _ _ _ _ _ _ _ ((((((w9.setCell ⟨w.heap.size+1+1,0,none⟩ (.int .i64 0)).setCell ⟨w.heap.size+1+1,1,none⟩ cn).setCell ⟨w.heap.size+1+1,2,none⟩ site).setCell ⟨w.heap.size+1+1,3,none⟩ (.int .i64 0)).setCell ⟨w.heap.size+1+1,4,none⟩ (.int .i64 0)).setCell ⟨w.heap.size+1+1,5,none⟩ (.int .i32 ch))) at HH
        generalize (((((w9.setCell ⟨w.heap.size+1+1,0,none⟩ (.int .i64 0)).setCell ⟨w.heap.size+1+1,1,none⟩ cn).setCell ⟨w.heap.size+1+1,2,none⟩ site).setCell ⟨w.heap.size+1+1,3,none⟩ (.int .i64 0)).setCell ⟨w.heap.size+1+1,4,none⟩ (.int .i64 0)).setCell ⟨w.heap.size+1+1,5,none⟩ (.int .i32 ch)=w10 at *
        have z2 := HH.out.ra.c2;have r0 := HH.out.rb.c6;go_wp2_with fail
        refine bodyPost_ret (v:=.tuple #[.agg #[.slice a1 m1.length c1,.slice a2 l1.length c2],.agg #[.int .i64 0,cn,site,.int .i64 0,.int .i64 0,.int .i32 ch],.slice a3 h1.length c3,.int .i64 0]) (by simp [results, Tryz.results22, go_sem, z2, r0]) rfl ?_;obtain ⟨h9,h8⟩:=Prod.mk.inj H9.out;obtain ⟨h7,h6⟩:=Prod.mk.inj h8;rw [h9,h7,h6,HP.out.trans HXX.out];exact ⟨_,_,_,rfl,HH.out.io,HH.out.il,HH.out.ic,HH.out.bel⟩
       ·have hne:(E==0)=false:=by simpa using hE0
        have HP:=Lh (show P=zeroO by rw [HPX.out.1]; unfold opP; rw [if_neg hE0]);have H9b:=Lh (H9.out.trans (HER.out hE0));clear H9;have H9:=H9b;clear H9b hE0 HER HPX hbo3 hbn HG3;have x0 := HA3.out.bv.c2;have z0 := HA3.out.b2.c2;have fz0 := HA3.out.b2.f2;obtain ⟨wq,wz,hWQ,hWR,b3q,b2r,b3r,hB⟩:=HA3.out.fin;have q0 := b3q.c6;have fq0 := b3q.f6;have z2 := b2r.c2;have r0 := b3r.c6;have HB:=Lh hB;clear hB b3q b2r b3r;refine Lh ?_;go_wp2_with fail
        refine bodyPost_ret (v:=.tuple #[.agg #[.slice ad m.length cap,.slice al l.length cl],.agg #[.int .i64 0,.int .i64 0,.int .i64 0,.int .i64 0,.int .i64 0,.int .i32 0],.slice none 0 0,E]) (by simp [results, Tryz.results22, go_sem, z2, r0]) rfl ?_;obtain ⟨h9,h8⟩:=Prod.mk.inj H9.out;obtain ⟨h7,h6⟩:=Prod.mk.inj h8;rw [h9,h7,h6,HP.out];exact ⟨_,_,_,rfl,HM.out.next HB.out,HL.out.next HB.out,HNI.out _,HB.out⟩
end Go.Proofs.YtpbhaieclkoggaaGreatDoor
