import Derived.Test.YtifnijmienmmbaaGreatDoorEd8
import Derived.Deep.CutRange
import Derived.Test.YtifnijmienmmbaaGreatDoorVp8
namespace Go.Proofs.YtifnijmienmmbaaGreatDoor
open Go Go.Proofs Go.RowKit
def aliN (L:List El):Int:=(rkL L (L.length:Int):Int)
def cuE (L:List El) (k:Int):Int:=if k<0∨aliN L<k then 2 else 0
def reE (L:List El) (c s:Int):Int:=if noneB c s=true then 0 else if fnd (elB c s) L 0<0 then 6 else 0
def reN (L:List El) (c s:Int):Int:=if noneB c s=true then aliN L else (rkL L (fnd (elB c s) L 0):Int)
def moE (L:List El) (c s k:Int):Int:=if reE L c s≠0 then reE L c s else if 10000<k∨k < -10000 then 2 else cuE L (reN L c s+k)
def moA (L:List El) (c s k:Int):Int×Int:=if moE L c s k≠0 then (0,0) else namC L (reN L c s+k)
def liB (L:List El) (c s:Int):Bool:=if noneB c s=true then true else match L[(fnd (elB c s) L 0).toNat]? with
 | some x=>decide (0≤fnd (elB c s) L 0) && !x.d
 | none=>false
structure IdsOk (L:List El):Prop where
 nod:L.Pairwise fun x y=>¬ (x.c=y.c∧x.s=y.s)
 non:∀ x∈L,noneB x.c x.s=false
theorem ids_row {m l:List Oq} {n:Nat} (h:VOk m l n):IdsOk (docR m):=by
 constructor
 ·have hn:=h.ok.gd.nod
  show ((rowO m).map (elO m)).Pairwise _
  rw [List.pairwise_map];refine hn.imp ?_;intro a b hab
  exact hab
 ·intro x hx
  have hx':x∈(rowO m).map (elO m):=hx;obtain ⟨y,hy,rfl⟩:=List.mem_map.1 hx';obtain ⟨h1,h2⟩:=(h.ok.gd.mem y).1 hy;have hm:=h.ok.may y h1 h2
  show noneB y.c y.s=false
  simp [mayB] at hm
  simp [noneB]
  omega
theorem fnd_mid {A B:List El} {x:El} (h:IdsOk (A++x::B)):fnd (elB x.c x.s) (A++x::B) 0=(A.length:Int):=by
 have key:∀ (A:List El) (i:Nat),(∀ y∈A,¬ (y.c=x.c∧y.s=x.s))→fnd (elB x.c x.s) (A++x::B) i=((i+A.length:Nat):Int)
 := by
  intro A
  induction A with
  | nil=>intro i _; rw [List.nil_append,fnd_yes (by simp [elB])]; simp
  | cons y A ih=>
   intro i hA
   rw [List.cons_append,fnd_no (by simp only [elB,decide_eq_false_iff_not]; exact hA y (List.mem_cons_self ..)),ih (i+1) (fun z hz=>hA z (List.mem_cons_of_mem _ hz)),List.length_cons]
   congr 1; omega
 have:=key A 0 (fun y hy=>(List.pairwise_append.1 h.nod).2.2 y hy x (List.mem_cons_self ..));rw [this,Nat.zero_add]
theorem rk_mid (A B:List El):rkL (A++B) (A.length:Int)=(A.map El.al).sum:=by
 unfold rkL; rw [Int.toNat_natCast,List.take_left']; rfl
theorem ali_sum (L:List El):aliN L=((L.map El.al).sum:Int):=by unfold aliN; rw [rkL_len]
theorem nam_mid {A B:List El} {x:El} (hd:x.d=false):namC (A++x::B) ((A.map El.al).sum:Int)=(x.c,x.s):=by
 unfold namC
 rw [if_neg (by omega),Int.toNat_natCast,sl_at A B x hd,List.getElem?_append_right (Nat.le_refl _),Nat.sub_self];rfl
theorem sl_end:∀ (L:List El) (k:Nat),(L.map El.al).sum≤k→slL L k=L.length
 | [],_,_=>rfl
 | x::L,k,h=>by
  rw [List.map_cons,List.sum_cons] at h;unfold slL
  cases hd:x.d with
  | true=>rw [if_pos rfl,sl_end L k (by omega),List.length_cons]
  | false=>
   have ha:El.al x=1:=by simp [El.al,hd]
   rw [if_neg (by simp),if_neg (by omega),sl_end L (k - 1) (by omega),List.length_cons]
theorem nam_end (L:List El) (k:Int) (h:k<0∨aliN L≤k):namC L k=(0,0):=by
 unfold namC
 split
 ·rfl
 ·rename_i hk
  rw [ali_sum] at h;rw [sl_end L k.toNat (by omega),List.getElem?_eq_none (Nat.le_refl _)]
theorem re_mid {A B:List El} {x:El} (h:IdsOk (A++x::B)):reE (A++x::B) x.c x.s=0∧reN (A++x::B) x.c x.s=((A.map El.al).sum:Int)∧liB (A++x::B) x.c x.s = !x.d:=by
 have hn:=h.non x (by simp);unfold reE reN liB
 rw [hn,fnd_mid h,rk_mid];refine ⟨?_,rfl,?_⟩
 ·rw [if_neg (by simp),if_neg (by omega)]
 ·rw [if_neg (by simp),Int.toNat_natCast,List.getElem?_append_right (Nat.le_refl _),Nat.sub_self]
  simp
theorem re_none (L:List El):reE L 0 0=0∧reN L 0 0=aliN L∧liB L 0 0=true:=⟨rfl,rfl,rfl⟩
theorem cu_here {L:List El} (h:IdsOk L) {k:Int} (h0:0≤k) (h1:k≤aliN L):reE L (namC L k).1 (namC L k).2=0∧reN L (namC L k).1 (namC L k).2=k∧liB L (namC L k).1 (namC L k).2=true:=by
 by_cases hk:k=aliN L
 ·rw [nam_end L k (by omega)]
  exact ⟨rfl,hk.symm,rfl⟩
 ·rw [ali_sum] at h1 hk
  obtain ⟨A,B,x,rfl,g2,g3,_⟩:=sl_split L k.toNat (by omega);obtain rfl:k=((A.map El.al).sum:Int):=by omega
  rw [nam_mid g2];obtain ⟨r1,r2,r3⟩:=re_mid h;exact ⟨r1,r2,by rw [r3,g2]; rfl⟩
theorem stay_ins {A B:List El} {z:El} (hL:IdsOk (A++B)) (hL':IdsOk (A++z::B)) (hz:z.d=false) {k o:Int} (ho:((A.map El.al).sum:Int)=o) (h0:0≤k) (h1:k≤aliN (A++B)):
  reE (A++z::B) (namC (A++B) k).1 (namC (A++B) k).2=0∧reN (A++z::B) (namC (A++B) k).1 (namC (A++B) k).2=k+(if o≤k then 1 else 0):=by
 have hza:El.al z=1:=by simp [El.al,hz]
 by_cases hk:k=aliN (A++B)
 ·rw [nam_end _ k (by omega)]
  refine ⟨rfl,?_⟩
  show aliN _=_
  rw [ali_sum] at hk ⊢;rw [rk_append] at hk ⊢;rw [List.map_cons,List.sum_cons,hza,if_pos (by omega)];omega
 ·rw [ali_sum] at h1 hk
  obtain ⟨A0,B0,x,g1,g2,g3,_⟩:=sl_split (A++B) k.toNat (by omega);obtain rfl:k=((A0.map El.al).sum:Int):=by omega
  rw [g1,nam_mid g2];have hxa:El.al x=1:=by simp [El.al,g2]
  have left:∀ C,A0=A++C→B=C++x::B0→reE (A++z::B) x.c x.s=0∧reN (A++z::B) x.c x.s=((A0.map El.al).sum:Int)+(if o≤((A0.map El.al).sum:Int) then 1 else 0):=by
   rintro C rfl rfl
   have e:A++z::(C++x::B0)=(A++z::C)++x::B0:=by simp
   rw [e] at hL' ⊢;obtain ⟨r1,r2,_⟩:=re_mid hL';refine ⟨r1,r2.trans ?_⟩;rw [rk_append,rk_append,List.map_cons,List.sum_cons,hza,if_pos (by omega)];omega
  rcases List.append_eq_append_iff.1 g1 with ⟨C,e1,e2⟩ | ⟨C,e1,e2⟩
  ·exact left C e1 e2
  ·cases C with
   | nil=>exact left [] (by simpa using e1.symm) (by simpa using e2.symm)
   | cons y C=>
    rw [List.cons_append,List.cons.injEq] at e2;obtain ⟨rfl,rfl⟩:=e2;subst e1;have e:A0++x::C++z::B=A0++x::(C++z::B):=by simp
    rw [e] at hL' ⊢;obtain ⟨r1,r2,_⟩:=re_mid hL';refine ⟨r1,r2.trans ?_⟩;rw [rk_append,List.map_cons,List.sum_cons,hxa] at ho;rw [if_neg (by omega)];omega
theorem stay_del {A B:List El} {e e':El} (hL:IdsOk (A++e::B)) (he:e.d=false) (he':e'.d=true) (hc:e'.c=e.c) (hs:e'.s=e.s) {k o:Int} (ho:((A.map El.al).sum:Int)=o) (h0:0≤k) (h1:k≤aliN (A++e::B)):
  reE (A++e'::B) (namC (A++e::B) k).1 (namC (A++e::B) k).2=0∧reN (A++e'::B) (namC (A++e::B) k).1 (namC (A++e::B) k).2=k-(if o<k then 1 else 0)∧liB (A++e'::B) (namC (A++e::B) k).1 (namC (A++e::B) k).2 = !decide (o=k):=by
 have hza:El.al e=1:=by simp [El.al,he]
 have hzb:El.al e'=0:=by simp [El.al,he']
 have hL':IdsOk (A++e'::B):=by
  constructor
  ·have h:=hL.nod
   rw [List.pairwise_append,List.pairwise_cons] at h ⊢;refine ⟨h.1,⟨fun y hy=>by rw [hc,hs]; exact h.2.1.1 y hy,h.2.1.2⟩,fun a ha b hb=>?_⟩;rcases List.mem_cons.1 hb with rfl | hb
   ·rw [hc,hs]; exact h.2.2 a ha e (List.mem_cons_self ..)
   ·exact h.2.2 a ha b (List.mem_cons_of_mem _ hb)
  ·intro y hy
   rcases List.mem_append.1 hy with h | h
   ·exact hL.non y (by simp [h])
   ·rcases List.mem_cons.1 h with rfl | h
    ·rw [hc,hs]; exact hL.non e (by simp)
    ·exact hL.non y (by simp [h])
 by_cases hk:k=aliN (A++e::B)
 ·rw [nam_end _ k (by omega)]
  refine ⟨rfl,?_,?_⟩
  ·show aliN _=_
   rw [ali_sum] at hk ⊢;rw [rk_append,List.map_cons,List.sum_cons] at hk ⊢;rw [hza] at hk;rw [hzb,if_pos (by omega)];omega
  ·show true=_
   rw [ali_sum,rk_append,List.map_cons,List.sum_cons,hza] at hk;rw [decide_eq_false (by omega)]; rfl
 ·rw [ali_sum] at h1 hk
  obtain ⟨A0,B0,x,g1,g2,g3,_⟩:=sl_split (A++e::B) k.toNat (by omega);obtain rfl:k=((A0.map El.al).sum:Int):=by omega
  rw [g1,nam_mid g2];have hxa:El.al x=1:=by simp [El.al,g2]
  have same:A=A0→e=x→B=B0→reE (A++e'::B) x.c x.s=0∧reN (A++e'::B) x.c x.s=((A0.map El.al).sum:Int)-(if o<((A0.map El.al).sum:Int) then 1 else 0)∧liB (A++e'::B) x.c x.s = !decide (o=((A0.map El.al).sum:Int)):=by
   rintro rfl rfl rfl
   obtain ⟨r1,r2,r3⟩:=re_mid hL';rw [hc,hs] at r1 r2 r3;refine ⟨r1,r2.trans ?_,r3.trans ?_⟩
   ·rw [if_neg (by omega)]; omega
   ·rw [he',decide_eq_true (by omega)]
  rcases List.append_eq_append_iff.1 g1 with ⟨C,e1,e2⟩ | ⟨C,e1,e2⟩
  ·cases C with
   | nil=>rw [List.nil_append,List.cons.injEq] at e2; exact same (by simpa using e1.symm) e2.1 e2.2
   | cons y C=>
    rw [List.cons_append,List.cons.injEq] at e2;obtain ⟨rfl,rfl⟩:=e2;subst e1;have e9:A++e'::(C++x::B0)=(A++e'::C)++x::B0:=by simp
    rw [e9] at hL' ⊢;obtain ⟨r1,r2,r3⟩:=re_mid hL';refine ⟨r1,r2.trans ?_,r3.trans ?_⟩
    ·rw [rk_append,rk_append,List.map_cons,List.map_cons,List.sum_cons,List.sum_cons,hza,hzb,if_pos (by omega)]; omega
    ·rw [rk_append,List.map_cons,List.sum_cons,hza,g2,decide_eq_false (by omega)]
  ·cases C with
   | nil=>rw [List.nil_append,List.cons.injEq] at e2; exact same (by simpa using e1) e2.1.symm e2.2.symm
   | cons y C=>
    rw [List.cons_append,List.cons.injEq] at e2;obtain ⟨rfl,rfl⟩:=e2;subst e1;have e9:A0++x::C++e'::B=A0++x::(C++e'::B):=by simp
    rw [e9] at hL' ⊢;obtain ⟨r1,r2,r3⟩:=re_mid hL';rw [rk_append,List.map_cons,List.sum_cons,hxa] at ho;refine ⟨r1,r2.trans ?_,r3.trans ?_⟩
    ·rw [if_neg (by omega)]; omega
    ·rw [g2,decide_eq_false (by omega)]
theorem del_at {m l:List Oq} {n:Nat} (hV:VOk m l n) (hq:Qt m l) {k:Int} (hE:deE8 m l k=0):
  ∃ (A B:List El) (e e':El),docR m=A++e::B∧e.d=false∧e'.d=true∧e'.c=e.c∧e'.s=e.s∧((A.map El.al).sum:Int)=k∧docR (deT8 m l k).1=A++e'::B:=by
 have hne:namC (docR m) k≠(0,0):=by
  intro h
  unfold deE8 at hE
  rw [if_pos h] at hE
  cases hE
 have hk:0≤k∧k<aliN (docR m):=by
  by_cases h:k<0∨aliN (docR m)≤k
  ·exact absurd (nam_end _ k h) hne
  ·omega
 rw [ali_sum] at hk;obtain ⟨A,B,e,g1,g2,g3,_⟩:=sl_split (docR m) k.toNat (by omega);have hkA:((A.map El.al).sum:Int)=k:=by omega
 have hnm:namC (docR m) k=(e.c,e.s):=by rw [g1,←hkA]; exact nam_mid g2
 have hL':(rowO m).map (elO m)=A++e::B:=g1;obtain ⟨C,D,y,k1,k2,k3,k4⟩:=split_map hL';have hym:y∈rowO m:=by rw [k1]; simp
 obtain ⟨hy1,hy2⟩:=(hV.ok.gd.mem y).1 hym;have hmay:=hV.ok.may y hy1 hy2;have hyc:y.c=e.c:=by rw [←k3]; rfl
 have hys:y.s=e.s:=by rw [←k3]; rfl
 obtain ⟨d,hdd⟩:∃ d,d=deV8 m k:=⟨_,rfl⟩
 have hd:d=⟨1,e.c,e.s,0,0,0,by decide,by decide⟩:=by rw [hdd]; unfold deV8; rw [hnm]
 have hdk:d.k=1:=by rw [hd]
 have hck:chkE d.k d.c d.s d.a d.n d.ch=0:=by
  rw [hd]
  dsimp only
  rw [←hyc,←hys];have hlo:1≤y.c:=by simp [mayB] at hmay; omega
  have a1:kindE 1 0 0 0=0:=rfl;have a2:idE y.c y.s=0:=by unfold idE; rw [if_pos hmay]
  have a3:ancE 0 0=0:=rfl;have a4:ordE y.c 0=0:=by unfold ordE; rw [if_neg (by omega)]
  have a5:chrE 1 0=0:=rfl;unfold chkE
  rw [a1,a2,a3,a4,a5]; rfl
 have hf0:0≤fnd (opB 0 d.c d.s) m 0:=fnd_pos.2 ⟨y,hy1,opB_iff.2 ⟨hy2,by rw [hd]; exact hyc,by rw [hd]; exact hys⟩⟩;have hf1:fnd (opB 1 d.c d.s) m 0<0:=by
  have h:deadO m y.c y.s=false:=by
   have:(elO m y).d=false:=by rw [k3]; exact g2
   exact this
  rw [hd]
  dsimp only
  rw [←hyc,←hys];unfold deadO at h
  simpa using h
 have hw:wrongE m d=0:=wrong_d0 hck hdk hf0 hf1;have hq2:Qt (m++[d]) l:=qt_snoc hq (.inl hdk);have hT:(deT8 m l k).1=m++[d]:=by
  unfold deT8; rw [if_neg hne,←hdd]; unfold remT; rw [if_neg (by omega),if_pos hw,cas_no (qt_nx hq2)]
 have hCl:C.length=A.length:=by rw [←k2,List.length_map]
 have hi:C.length<(rowO m).length:=by rw [k1]; simp
 have hx:(rowO m)[C.length]=y:=by simp [k1]
 refine ⟨A,B,e,⟨y.c,y.s,y.ch,true,y.lo,y.hi⟩,g1,g2,rfl,hyc,hys,hkA,?_⟩;rw [hT,docR_del hV.ok hdk hi hx ⟨by rw [hd]; exact hyc,by rw [hd]; exact hys⟩,g1,hCl];simp
end Go.Proofs.YtifnijmienmmbaaGreatDoor
set_option maxRecDepth 100000
set_option maxHeartbeats 12800000
namespace Go.Proofs.YtifnijmienmmbaaGreatDoor
open Go Go.Proofs Go.RowKit
structure A11 (w:World) (vm vl:Value) (z:List Value) (W:World):Prop where
 bel:Below w.heap.size w W
 bm:Blk W w.heap.size [vm,vl] 44
 br:Blk W (w.heap.size+1) z 52
theorem A11.next {w:World} {vm vl:Value} {z:List Value} {W W':World} (h:A11 w vm vl z W) (hb:Below W.heap.size W W'):A11 w vm vl z W':=⟨h.bel.trans (hb.mono h.bel.size),h.bm.next hb,h.br.next hb⟩
theorem A11.start (w:World) (vm vl:Value) (z:List Value):A11 w vm vl z ((w.alloc (.cells #[vm,vl] 44)).alloc (.cells ⟨z⟩ 52)):=
 ⟨(bA).alloc (by simp) _,(Blk.start w [vm,vl] _).alloc _,Blk.startAt (by simp)⟩
theorem A11.put {w:World} {vm vl:Value} {z:List Value} {W:World} (h:A11 w vm vl z W) (x y:Value):A11 w vm vl ((z.set 0 x).set 1 y) ((W.setCell ⟨w.heap.size+1,0,none⟩ x).setCell ⟨w.heap.size+1,1,none⟩ y):=
 ⟨(h.bel.setCell (p:=⟨w.heap.size+1,0,none⟩) (by simp) x).setCell (p:=⟨w.heap.size+1,1,none⟩) (by simp) y,(h.bm.other _ (by simp) _).other _ (by simp) _,(h.br.set 0 x).set 1 y⟩
theorem rcAt_any {m l:List Oq} {n:Nat} (hV:VOk m l n) (hn:n≤60) (k:Int) (hk0 : -9223372036854775808≤k) (hk1:k≤9223372036854775807) (vm vl:Value) (w:World) (hM:IsO w vm m):
  Calls Tryz.prog 8 #[.agg #[vm,vl],k] w fun e w'=>e=.returned (.tuple #[.agg #[.int .i64 (namC (docR m) k).1,.int .i64 (namC (docR m) k).2],.int .i64 (cuE (docR m) k)])∧Below w.heap.size w w':=by
 have hlen:=hV.len;have hdl:(docR m).length≤100:=by rw [docR_len]; have:=row_len hV.ok.gd; omega
 have HF:=Lh (fun u v W h=>ref8List_any m (by omega) hV.ok.gd u v W h);have HM:=Lh hM;generalize docR m=L at *
 have HR:=Lh (fun v W (h:IsE W v L)=>refRank_any L (L.length:Int) v W h (by omega));have HS:=Lh (fun v W (h:IsE W v L)=>refSelect_any L k hk0 hk1 v W h (by omega));have hal:rkL L (L.length:Int)≤100:=by rw [rkL_len]; have:=alive_le L; omega
 obtain ⟨ax,hax⟩:∃ ax:Nat,ax=rkL L (L.length:Int):=⟨_,rfl⟩
 have HA:=Lh hax;rw [←hax] at HR hal;have H0:=Lh (A11.start w vm vl [.int .i64 0,.int .i64 0]);have x0 := H0.out.bm.c2;clear hM hlen hV hax
 go_enter Tryz.func8,Tryz.ntmps8
 go_wp2_with (go_at_call 22; refine (HF.out _ _ _ (HM.out.next H0.out.bel)).mono ?_; rintro e w1 ⟨v3,rfl,hE,hb⟩; obtain ⟨a,cap,rfl,hc1,hc2⟩:=Sl.form hE; refine Hid.out ?_)
 have H1:=Lh (H0.out.next hb);have HE:=Lh hE;clear hE hb H0 x0 HF HM;refine Lh ?_;go_wp2_with (go_at_call 23; refine (HR.out _ _ HE.out).mono ?_; rintro e w2 ⟨rfl,hb⟩; refine Hid.out ?_)
 have H2:=Lh (H1.out.next hb);have HE2:=Lh (HE.out.next hb);clear H1 HE hb HR;have y0 := H2.out.br.c2;have f0 := H2.out.br.f2;have HP:=Lh (H2.out.put (.int .i64 0) (.int .i64 0));refine Lh ?_;by_cases hbad:k<0∨(ax:Int)<k
 ·have hnm:namC L k=(0,0):=nam_end L k (by unfold aliN; rw [←HA.out]; omega)
  have hcu:cuE L k=2:=by unfold cuE aliN; rw [←HA.out,if_pos hbad]
  have HN:=Lh (And.intro hnm hcu);clear hnm hcu;rcases hbad with hbad | hbad
  ·go_wp2_with fail
   have p0 := HP.out.br.c2;exact bodyPost_ret (v:=.tuple #[.agg #[.int .i64 0,.int .i64 0],.int .i64 2]) (by simp [results, Tryz.results8, go_sem, p0]) rfl ⟨by rw [HN.out.1,HN.out.2],HP.out.bel⟩
  ·have hk:(decide (k<0))=false:=by simp; omega
   go_wp2_with fail
   have p0 := HP.out.br.c2;exact bodyPost_ret (v:=.tuple #[.agg #[.int .i64 0,.int .i64 0],.int .i64 2]) (by simp [results, Tryz.results8, go_sem, p0]) rfl ⟨by rw [HN.out.1,HN.out.2],HP.out.bel⟩
 have hb0:¬ k<0:=by omega
 have hb1:¬ (ax:Int)<k:=by omega
 have hcu:cuE L k=0:=by unfold cuE aliN; rw [←HA.out,if_neg hbad]
 by_cases hke:k=(ax:Int)
 ·have hnm:namC L k=(0,0):=nam_end L k (by unfold aliN; rw [←HA.out]; omega)
  have HN:=Lh (And.intro hnm hcu);clear hnm hcu;subst hke;go_wp2_with fail
  have p0 := HP.out.br.c2;exact bodyPost_ret (v:=.tuple #[.agg #[.int .i64 0,.int .i64 0],.int .i64 0]) (by simp [results, Tryz.results8, go_sem, p0]) rfl ⟨by rw [HN.out.1,HN.out.2],HP.out.bel⟩
 ·have hsum:(L.map El.al).sum=ax:=by rw [HA.out,rkL_len]
  obtain ⟨A,B,x,g1,g2,g3,g4⟩:=sl_split L k.toNat (by omega);have hkx:k=((A.map El.al).sum:Int):=by omega
  have hnm:namC L k=(x.c,x.s):=by rw [g1,hkx]; exact nam_mid g2
  have hAl:A.length<L.length:=by rw [g1]; simp
  have hget:L[A.length]=x:=by simp only [g1]; simp
  have HN:=Lh (And.intro hnm hcu);have HG:=Lh (And.intro g4 (And.intro hAl hget));obtain ⟨g,rfl,hgl,hC⟩:=IsE.at HE2.out A.length hAl;rw [hget] at hC;have HC:=Lh hC;generalize A.length=r at *
  clear hnm hcu g1 g2 g3 g4 hkx hsum hget hC;have hke':(k==(ax:Int))=false:=by simpa using hke
  clear hke;go_wp2_with (go_at_call 24; refine (HS.out _ _ HE2.out).mono ?_; rintro e w3 ⟨r',rfl,hr1,hr2,hb⟩; replace hr2:=Lh hr2; refine Hid.out ?_)
  obtain rfl:r'=r:=by have:=hr2.out (by omega); rw [this]; exact HG.out.1
  have H3:=Lh (H2.out.next hb);obtain ⟨e0,e1,e2,e3⟩:=HC.out _ hb;have hrl:r'<L.length:=HG.out.2.1;clear H2 HE2 hb y0 f0 HP hr1 hr2 HG HC HS;have y0 := H3.out.br.c2;have f0 := H3.out.br.f2;have HP:=Lh (H3.out.put x.c x.s);refine Lh ?_;go_wp2_with fail
  have p0 := HP.out.br.c2;exact bodyPost_ret (v:=.tuple #[.agg #[x.c,x.s],.int .i64 0]) (by simp [results, Tryz.results8, go_sem, p0]) rfl ⟨by rw [HN.out.1,HN.out.2],HP.out.bel⟩
structure B11 (w:World) (vm vl:Value) (a b:Int) (W:World):Prop where
 bel:Below w.heap.size w W
 bm:Blk W w.heap.size [vm,vl] 44
 ba:Blk W (w.heap.size+1) [a,b] 52
theorem B11.next {w:World} {vm vl:Value} {a b:Int} {W W':World} (h:B11 w vm vl a b W) (hb:Below W.heap.size W W'):B11 w vm vl a b W':=⟨h.bel.trans (hb.mono h.bel.size),h.bm.next hb,h.ba.next hb⟩
theorem B11.start (w:World) (vm vl:Value) (a b:Int):B11 w vm vl a b ((w.alloc (.cells #[vm,vl] 44)).alloc (.cells #[a,b] 52)):=
 ⟨(bA).alloc (by simp) _,(Blk.start w [vm,vl] _).alloc _,Blk.startAt (by simp)⟩
theorem none_cases (a b:Int):(noneB a b=true∧a=0∧b=0)∨(noneB a b=false∧¬ (a=0∧b=0)):=by
 by_cases h:a=0∧b=0
 ·exact .inl ⟨by rw [h.1,h.2]; rfl,h⟩
 ·refine .inr ⟨?_,h⟩
  simp only [noneB]
  simp
  intro e1 e2
  exact h ⟨e1,e2⟩
theorem rcRe_any {m l:List Oq} {n:Nat} (hV:VOk m l n) (hn:n≤60) (a b:Int) (vm vl:Value) (w:World) (hM:IsO w vm m):
  Calls Tryz.prog 11 #[.agg #[vm,vl],.agg #[a,b]] w fun e w'=>e=.returned (.tuple #[.int .i64 (reN (docR m) a b),.int .i64 (reE (docR m) a b)])∧Below w.heap.size w w':=by
 have hlen:=hV.len;have hdl:(docR m).length≤100:=by rw [docR_len]; have:=row_len hV.ok.gd; omega
 have HF:=Lh (fun u v W h=>ref8List_any m (by omega) hV.ok.gd u v W h);have HM:=Lh hM;generalize docR m=L at *
 have HR:=Lh (fun i v W (h:IsE W v L)=>refRank_any L i v W h (by omega));have HP:=Lh (fun v W (h:IsE W v L)=>refPlace_any a b L v W h);have H0:=Lh (B11.start w vm vl a b);have x0 := H0.out.bm.c2;clear hM hlen hV
 go_enter Tryz.func11,Tryz.ntmps11
 go_wp2_with (go_at_call 22; refine (HF.out _ _ _ (HM.out.next H0.out.bel)).mono ?_; rintro e w1 ⟨v3,rfl,hE,hb⟩; obtain ⟨a1,cap,rfl,hc1,hc2⟩:=Sl.form hE; refine Hid.out ?_)
 have H1:=Lh (H0.out.next hb);have HE:=Lh hE;clear hE hb H0 x0 HF HM;have y0 := H1.out.ba.c2;obtain ⟨hno,rfl,rfl⟩ | ⟨hno,hab⟩:=none_cases a b
 ·have HN:=Lh (show reN L 0 0=(rkL L (L.length:Int):Int)∧reE L 0 0=0 from ⟨rfl,rfl⟩)
  clear hno;refine Lh ?_;go_wp2_with (go_at_call 23; refine (HR.out _ _ _ HE.out).mono ?_; rintro e w2 ⟨rfl,hb⟩)
  go_ret2
  exact ⟨by rw [HN.out.1,HN.out.2]; rfl,H1.out.bel.trans (hb.mono H1.out.bel.size)⟩
 ·have hna:¬ (a=0)∨¬ (b=0):=by omega
  have HN:=Lh (show reN L a b=(rkL L (fnd (elB a b) L 0):Int)∧reE L a b=(if fnd (elB a b) L 0<0 then 6 else 0) from by unfold reN reE; rw [hno]; exact ⟨rfl,rfl⟩);generalize fnd (elB a b) L 0=f at *
  clear hno hna;have hcs:¬ a=0∨(a=0∧¬ b=0):=by omega
  clear hab;refine Lh ?_;rcases hcs with hq | ⟨rfl,hq⟩
  all_goals
   go_wp2_with (go_at_call 27; refine (HP.out _ _ HE.out).mono ?_; rintro e w2 ⟨rfl,hb⟩; refine Hid.out ?_)
   have H2:=Lh (H1.out.next hb);have HE2:=Lh (HE.out.next hb);clear H1 HE hb HP hq y0;by_cases hf:f<0
   ·have HN2:=Lh (show (if f<0 then (6:Int) else 0)=6∧(rkL L f:Int)=0 from ⟨if_pos hf,by rw [rkL_neg L (by omega)]; rfl⟩)
    clear HR HE2;refine Lh ?_;go_wp2_with fail
    go_ret2
    exact ⟨by rw [HN.out.1,HN.out.2,HN2.out.1,HN2.out.2]; rfl,H2.out.bel⟩
   ·have HN2:=Lh (show (if f<0 then (6:Int) else 0)=0 from if_neg hf)
    refine Lh ?_;go_wp2_with (go_at_call 23; refine (HR.out _ _ _ HE2.out).mono ?_; rintro e w3 ⟨rfl,hb⟩)
    go_ret2
    exact ⟨by rw [HN.out.1,HN.out.2,HN2.out]; rfl,H2.out.bel.trans (hb.mono H2.out.bel.size)⟩
theorem rcLi_any {m l:List Oq} {n:Nat} (hV:VOk m l n) (hn:n≤60) (a b:Int) (vm vl:Value) (w:World) (hM:IsO w vm m):
  Calls Tryz.prog 13 #[.agg #[vm,vl],.agg #[a,b]] w fun e w'=>e=.returned (.bool (liB (docR m) a b))∧Below w.heap.size w w':=by
 have hlen:=hV.len;have hdl:(docR m).length≤100:=by rw [docR_len]; have:=row_len hV.ok.gd; omega
 have HF:=Lh (fun u v W h=>ref8List_any m (by omega) hV.ok.gd u v W h);have HM:=Lh hM;generalize docR m=L at *
 have HP:=Lh (fun v W (h:IsE W v L)=>refPlace_any a b L v W h);have H0:=Lh (B11.start w vm vl a b);have x0 := H0.out.bm.c2;clear hM hlen hV
 go_enter Tryz.func13,Tryz.ntmps13
 go_wp2_with (go_at_call 22; refine (HF.out _ _ _ (HM.out.next H0.out.bel)).mono ?_; rintro e w1 ⟨v3,rfl,hE,hb⟩; obtain ⟨a1,cap,rfl,hc1,hc2⟩:=Sl.form hE; refine Hid.out ?_)
 have H1:=Lh (H0.out.next hb);have HE:=Lh hE;clear hE hb H0 x0 HF HM;have y0 := H1.out.ba.c2;obtain ⟨hno,rfl,rfl⟩ | ⟨hno,hab⟩:=none_cases a b
 ·clear hno
  refine Lh ?_;go_wp2_with fail
  go_ret
  exact ⟨rfl,H1.out.bel⟩
 ·have hcs:¬ a=0∨(a=0∧¬ b=0):=by omega
  clear hab;obtain ⟨f,hf⟩:∃ f,f=fnd (elB a b) L 0:=⟨_,rfl⟩
  have hli:liB L a b=match L[f.toNat]? with | some x=>decide (0≤f) && !x.d | none=>false:=by unfold liB; rw [hno,hf]; rfl
  have hsp:=fnd_spec (elB a b) L 0;rw [←hf] at HP hsp;clear hno hf;rcases hsp with ⟨hf,_⟩ | ⟨r,hr,hf,_⟩
  ·subst hf
   have HN:=Lh (show liB L a b=false by rw [hli]; cases L[(-1:Int).toNat]? <;> rfl);clear hli;refine Lh ?_;rcases hcs with hq | ⟨rfl,hq⟩
   all_goals
    go_wp2_with (go_at_call 27; refine (HP.out _ _ HE.out).mono ?_; rintro e w2 ⟨rfl,hb⟩)
    go_ret
    exact ⟨by rw [HN.out]; rfl,H1.out.bel.trans (hb.mono H1.out.bel.size)⟩
  ·rw [Nat.zero_add] at hf
   subst hf;have HN:=Lh (show liB L a b = !L[r].d by rw [hli,Int.toNat_natCast,List.getElem?_eq_getElem hr]; simp);obtain ⟨g,rfl,hgl,hC⟩:=IsE.at HE.out r hr;generalize L[r]=x at *
   have HC:=Lh hC;clear hli hC;refine Lh ?_;rcases hcs with hq | ⟨rfl,hq⟩
   all_goals
    go_wp2_with (go_at_call 27; refine (HP.out _ _ HE.out).mono ?_; rintro e w2 ⟨rfl,hb⟩; refine Hid.out ?_)
    obtain ⟨e0,e1,e2,e3⟩:=HC.out _ hb;have HB:=Lh (H1.out.bel.trans (hb.mono H1.out.bel.size));clear hb H1 HP HE HC y0 hq;refine Lh ?_;go_wp2_with fail
    go_ret
    exact ⟨by rw [HN.out]; rfl,HB.out⟩
structure C11 (w:World) (vm vl:Value) (a b:Int) (z:List Value) (W:World):Prop where
 bel:Below w.heap.size w W
 bm:Blk W w.heap.size [vm,vl] 44
 ba:Blk W (w.heap.size+1) [a,b] 52
 br:Blk W (w.heap.size+1+1) z 52
theorem C11.next {w:World} {vm vl:Value} {a b:Int} {z:List Value} {W W':World} (h:C11 w vm vl a b z W) (hb:Below W.heap.size W W'):C11 w vm vl a b z W':=⟨h.bel.trans (hb.mono h.bel.size),h.bm.next hb,h.ba.next hb,h.br.next hb⟩
theorem C11.start (w:World) (vm vl:Value) (a b:Int) (z:List Value):C11 w vm vl a b z (((w.alloc (.cells #[vm,vl] 44)).alloc (.cells #[a,b] 52)).alloc (.cells ⟨z⟩ 52)):=
 ⟨((bA).alloc (by simp) _).alloc (by simp; omega) _,((Blk.start w [vm,vl] _).alloc _).alloc _,(Blk.startAt (b:=w.heap.size+1) (by simp)).alloc _,Blk.startAt (by simp)⟩
theorem C11.put {w:World} {vm vl:Value} {a b:Int} {z:List Value} {W:World} (h:C11 w vm vl a b z W) (x y:Value):C11 w vm vl a b ((z.set 0 x).set 1 y) ((W.setCell ⟨w.heap.size+1+1,0,none⟩ x).setCell ⟨w.heap.size+1+1,1,none⟩ y):=
 ⟨(h.bel.setCell (p:=⟨w.heap.size+1+1,0,none⟩) (by simp; omega) x).setCell (p:=⟨w.heap.size+1+1,1,none⟩) (by simp; omega) y,(h.bm.other _ (by simp; omega) _).other _ (by simp; omega) _,(h.ba.other _ (by simp) _).other _ (by simp) _,(h.br.set 0 x).set 1 y⟩
theorem rcMo_any {m l:List Oq} {n:Nat} (hV:VOk m l n) (hn:n≤60) (a b k:Int) (vm vl:Value) (w:World) (hM:IsO w vm m):
  Calls Tryz.prog 15 #[.agg #[vm,vl],.agg #[a,b],k] w fun e w'=>e=.returned (.tuple #[.agg #[.int .i64 (moA (docR m) a b k).1,.int .i64 (moA (docR m) a b k).2],.int .i64 (moE (docR m) a b k)])∧Below w.heap.size w w':=by
 have hlen:=hV.len;have hdl:(docR m).length≤100:=by rw [docR_len]; have:=row_len hV.ok.gd; omega
 have HR:=Lh (fun W h=>rcRe_any hV hn a b vm vl W h);have HA:=Lh (fun q h1 h2 W h=>rcAt_any hV hn q h1 h2 vm vl W h);have HM:=Lh hM;generalize docR m=L at *
 have hrn:0≤reN L a b∧reN L a b≤100:=by
  have h:=fun i=>(show rkL L i≤L.length from by unfold rkL; have:=alive_le (L.take i.toNat); rw [List.length_take] at this; omega)
  unfold reN aliN
  split
  ·have:=h (L.length:Int); omega
  ·have:=h (fnd (elB a b) L 0); omega
 have HN:=Lh (show moE L a b k=(if reE L a b≠0 then reE L a b else if 10000<k∨k < -10000 then 2 else cuE L (reN L a b+k))∧(moE L a b k≠0→moA L a b k=(0,0))∧(moE L a b k=0→moA L a b k=namC L (reN L a b+k)) from ⟨rfl,fun h=>if_pos h,fun h=>if_neg (by simp [h])⟩);generalize hE:reE L a b=E at *
 generalize reN L a b=N at *
 have H0:=Lh (C11.start w vm vl a b [.int .i64 0,.int .i64 0]);have x0 := H0.out.bm.c2;have y0 := H0.out.ba.c2;clear hM hlen hV hE
 go_enter Tryz.func15,Tryz.ntmps15
 go_wp2_with (go_at_call 11; refine (HR.out _ (HM.out.next H0.out.bel)).mono ?_; rintro e w1 ⟨rfl,hb⟩; refine Hid.out ?_)
 have H1:=Lh (H0.out.next hb);clear hb H0 x0 y0 HR;have x0 := H1.out.bm.c2;have z0 := H1.out.br.c2;have f0 := H1.out.br.f2;have HP:=Lh (H1.out.put (.int .i64 0) (.int .i64 0));by_cases hE0:E=0
 ·subst hE0
  by_cases hk:10000<k∨k < -10000
  ·have hmo:moE L a b k=2:=by rw [HN.out.1,if_neg (by simp),if_pos hk]
   have HX:=Lh (And.intro hmo (HN.out.2.1 (by rw [hmo]; decide)));clear hmo HN HA;refine Lh ?_;rcases hk with hk | hk
   ·go_wp2_with fail
    have p0 := HP.out.br.c2;exact bodyPost_ret (v:=.tuple #[.agg #[.int .i64 0,.int .i64 0],.int .i64 2]) (by simp [results, Tryz.results15, go_sem, p0]) rfl ⟨by rw [HX.out.1,HX.out.2],HP.out.bel⟩
   ·have hk2:¬ 10000<k:=by omega
    go_wp2_with fail
    have p0 := HP.out.br.c2;exact bodyPost_ret (v:=.tuple #[.agg #[.int .i64 0,.int .i64 0],.int .i64 2]) (by simp [results, Tryz.results15, go_sem, p0]) rfl ⟨by rw [HX.out.1,HX.out.2],HP.out.bel⟩
  ·have hmo:moE L a b k=cuE L (N+k):=by rw [HN.out.1,if_neg (by simp),if_neg hk]
   have hma:moA L a b k=namC L (N+k):=by
    by_cases hc:cuE L (N+k)=0
    ·exact HN.out.2.2 (by rw [hmo,hc])
    ·rw [HN.out.2.1 (by rw [hmo]; exact hc)]
     unfold cuE at hc
     split at hc
     ·rename_i h
      exact (nam_end L (N+k) (by omega)).symm
     ·exact absurd rfl hc
   have HX:=Lh (And.intro hmo hma);have h1:¬ 10000<k:=by omega
   have h2:¬ k < -10000:=by omega
   have hwr:IntKind.i64.wrap (N+k)=N+k:=IntWalk.i64_in _ (by omega);have HAA:=Lh (fun W h=>HA.out (N+k) (by omega) (by omega) W h);clear hmo hma HN HA hk;generalize namC L (N+k)=q at *
   generalize cuE L (N+k)=E2 at *
   refine Lh ?_;go_wp2_with (go_at_call 8; refine (HAA.out _ (HM.out.next H1.out.bel)).mono ?_; rintro e w2 ⟨rfl,hb⟩; refine Hid.out ?_)
   have H2:=Lh (H1.out.next hb);clear H1 hb HP HAA x0 z0 f0;have z0 := H2.out.br.c2;have f0 := H2.out.br.f2;have HP:=Lh (H2.out.put q.1 q.2);refine Lh ?_;go_wp2_with fail
   have p0 := HP.out.br.c2;exact bodyPost_ret (v:=.tuple #[.agg #[q.1,q.2],E2]) (by simp [results, Tryz.results15, go_sem, p0]) rfl ⟨by rw [HX.out.1,HX.out.2],HP.out.bel⟩
 ·have hmo:moE L a b k=E:=by rw [HN.out.1,if_pos hE0]
  have HX:=Lh (And.intro hmo (HN.out.2.1 (by rw [hmo]; exact hE0)));clear hmo HN HA;refine Lh ?_;go_wp2_with fail
  have p0 := HP.out.br.c2;exact bodyPost_ret (v:=.tuple #[.agg #[.int .i64 0,.int .i64 0],E]) (by simp [results, Tryz.results15, go_sem, p0]) rfl ⟨by rw [HX.out.1,HX.out.2],HP.out.bel⟩
end Go.Proofs.YtifnijmienmmbaaGreatDoor
set_option maxRecDepth 100000
set_option maxHeartbeats 12800000
namespace Go.Proofs.YtifnijmienmmbaaGreatDoor
open Go Go.Proofs Go.RowKit
abbrev StF (c:Value):Prop:=∀ (W:World) (a:Addr) (m:Mode),(store a c m).run Tryz.prog W=match W.cell? a with
 | some _=>if W.frozen? a then .halt (.unsupported (.unsafePointer "a write to bytes that a string shares")) W else .ok () (W.setCell a c)
 | none=>match W.farStore Tryz.prog a c (m == .atomic) with
  | .ok (w',_)=>.ok () w'
  | .error h=>.halt h W
theorem st8 {c0 c1 c2 c3 c4 c5 c6 c7:Value} (h:∀ u∈[c0,c1,c2,c3,c4,c5,c6,c7],u.oneCell'=true):StF c0∧StF c1∧StF c2∧StF c3∧StF c4∧StF c5∧StF c6∧StF c7:=
 have k:∀ u∈[c0,c1,c2,c3,c4,c5,c6,c7],StF u:=fun u hu W a m=>run_store Tryz.prog W a u m (h u hu)
 ⟨k c0 (by simp),k c1 (by simp),k c2 (by simp),k c3 (by simp),k c4 (by simp),k c5 (by simp),k c6 (by simp),k c7 (by simp)⟩
structure L11 (w:World) (cs:List Value) (vm vl:Value) (z1 z2:List Value) (m l:List Oq) (W:World):Prop where
 bel:Below w.heap.size w W
 r1:Blk W w.heap.size z1 41
 r2:Blk W (w.heap.size+1) z2 44
 bv:Blk W (w.heap.size+1+1) cs 41
 bm:Blk W (w.heap.size+1+1+1) [vm,vl] 44
 iv:IsV W m l cs
 io:IsO W vm m
 il:IsO W vl l
theorem L11.next {w:World} {cs:List Value} {vm vl:Value} {z1 z2:List Value} {m l:List Oq} {W W':World} (h:L11 w cs vm vl z1 z2 m l W) (hb:Below W.heap.size W W'):L11 w cs vm vl z1 z2 m l W':=
 ⟨h.bel.trans (hb.mono h.bel.size),h.r1.next hb,h.r2.next hb,h.bv.next hb,h.bm.next hb,h.iv.next hb,h.io.next hb,h.il.next hb⟩
structure M11 (w:World) (ds:List Value) (vm vl:Value) (z1 z2:List Value) (m l:List Oq) (u v:Value) (W:World):Prop where
 bel:Below w.heap.size w W
 r1:Blk W w.heap.size z1 41
 r2:Blk W (w.heap.size+1) z2 44
 bv:Blk W (w.heap.size+1+1) ds 41
 bm:Blk W (w.heap.size+1+1+1) [vm,vl] 44
 iv:IsV W m l ds
 io:IsO W u m
 il:IsO W v l
theorem L11.setV {w:World} {c0 c1 c2 c3 c4 c5 c6 c7 d0 d1 d2 d3 d4 d5 d6 d7 vm vl u v:Value} {z1 z2:List Value} {m l m2 l2:List Oq} {W:World} (h:L11 w [c0,c1,c2,c3,c4,c5,c6,c7] vm vl z1 z2 m l W) (h1:IsV W m2 l2 [d0,d1,d2,d3,d4,d5,d6,d7]) (h2:IsO W u m2) (h3:IsO W v l2):
  M11 w [d0,d1,d2,d3,d4,d5,d6,d7] vm vl z1 z2 m2 l2 u v (setN W (w.heap.size+1+1) 0 [d0,d1,d2,d3,d4,d5,d6,d7]):=by
 have k:∀ t,41≠t→KT t W (setN W (w.heap.size+1+1) 0 [d0,d1,d2,d3,d4,d5,d6,d7]):=fun t ht=>KT.setN ht _ 0 h.bv
 exact ⟨setN_below (by omega) _ 0 h.bel,h.r1.setN (by omega) _ 0,k _ (by decide) _ _ h.r2,setN_blk [d0,d1,d2,d3,d4,d5,d6,d7] 0 h.bv,k _ (by decide) _ _ h.bm,h1.kt (k _ (by decide)) (k _ (by decide)) (k _ (by decide)) (Nat.le_of_eq (setN_size _ 0).symm),Sl.kt (k _ (by decide)) h2,Sl.kt (k _ (by decide)) h3⟩
theorem M11.setM {w:World} {ds:List Value} {vm vl u v:Value} {z1 z2:List Value} {m l:List Oq} {W:World} (h:M11 w ds vm vl z1 z2 m l u v W):L11 w ds u v z1 z2 m l (setN W (w.heap.size+1+1+1) 0 [u,v]):=by
 have k:∀ t,44≠t→KT t W (setN W (w.heap.size+1+1+1) 0 [u,v]):=fun t ht=>KT.setN ht _ 0 h.bm
 exact ⟨setN_below (by omega) _ 0 h.bel,k _ (by decide) _ _ h.r1,h.r2.setN (by omega) _ 0,k _ (by decide) _ _ h.bv,setN_blk [u,v] 0 h.bm,h.iv.kt (k _ (by decide)) (k _ (by decide)) (k _ (by decide)) (Nat.le_of_eq (setN_size _ 0).symm),Sl.kt (k _ (by decide)) h.io,Sl.kt (k _ (by decide)) h.il⟩
theorem L11.start (w:World):L11 w [.pointer none,.pointer none,.int .i64 0,.slice none 0 0,.int .i64 0,.int .i64 0,.complex .f64 0 0,.complex .f64 0 0] (.slice none 0 0) (.slice none 0 0) [.pointer none,.pointer none,.int .i64 0,.slice none 0 0,.int .i64 0,.int .i64 0,.complex .f64 0 0,.complex .f64 0 0] [.slice none 0 0,.slice none 0 0] [] []
  ((((w.alloc (.cells #[.pointer none,.pointer none,.int .i64 0,.slice none 0 0,.int .i64 0,.int .i64 0,.complex .f64 0 0,.complex .f64 0 0] 41)).alloc (.cells #[.slice none 0 0,.slice none 0 0] 44)).alloc (.cells #[.pointer none,.pointer none,.int .i64 0,.slice none 0 0,.int .i64 0,.int .i64 0,.complex .f64 0 0,.complex .f64 0 0] 41)).alloc (.cells #[.slice none 0 0,.slice none 0 0] 44)):=
 ⟨((((Below.refl _ _).alloc (Nat.le_refl _) _).alloc (by simp) _).alloc (by simp; omega) _).alloc (by simp; omega) _,(((Blk.startAt (b:=w.heap.size) rfl).alloc _).alloc _).alloc _,((Blk.startAt (b:=w.heap.size+1) (by simp)).alloc _).alloc _,(Blk.startAt (b:=w.heap.size+1+1) (by simp)).alloc _,Blk.startAt (b:=w.heap.size+1+1+1) (by simp),isv_nil _,.inl ⟨rfl,rfl⟩,.inl ⟨rfl,rfl⟩⟩
theorem L11.setR1 {w:World} {d0 d1 d2 d3 d4 d5 d6 d7 vm vl x0 x1 x2 x3 x4 x5 x6 x7:Value} {z2:List Value} {m l:List Oq} {W:World} (h:L11 w [d0,d1,d2,d3,d4,d5,d6,d7] vm vl [x0,x1,x2,x3,x4,x5,x6,x7] z2 m l W):
  L11 w [d0,d1,d2,d3,d4,d5,d6,d7] vm vl [d0,d1,d2,d3,d4,d5,d6,d7] z2 m l (setN W w.heap.size 0 [d0,d1,d2,d3,d4,d5,d6,d7]):=by
 have k:∀ t,41≠t→KT t W (setN W w.heap.size 0 [d0,d1,d2,d3,d4,d5,d6,d7]):=fun t ht=>KT.setN ht _ 0 h.r1
 exact ⟨setN_below (Nat.le_refl _) _ 0 h.bel,setN_blk [d0,d1,d2,d3,d4,d5,d6,d7] 0 h.r1,k _ (by decide) _ _ h.r2,h.bv.setN (by omega) _ 0,k _ (by decide) _ _ h.bm,h.iv.kt (k _ (by decide)) (k _ (by decide)) (k _ (by decide)) (Nat.le_of_eq (setN_size _ 0).symm),Sl.kt (k _ (by decide)) h.io,Sl.kt (k _ (by decide)) h.il⟩
theorem L11.setR2 {w:World} {cs z1:List Value} {vm vl x0 x1:Value} {m l:List Oq} {W:World} (h:L11 w cs vm vl z1 [x0,x1] m l W):L11 w cs vm vl z1 [vm,vl] m l (setN W (w.heap.size+1) 0 [vm,vl]):=by
 have k:∀ t,44≠t→KT t W (setN W (w.heap.size+1) 0 [vm,vl]):=fun t ht=>KT.setN ht _ 0 h.r2
 exact ⟨setN_below (by omega) _ 0 h.bel,k _ (by decide) _ _ h.r1,setN_blk [vm,vl] 0 h.r2,k _ (by decide) _ _ h.bv,h.bm.setN (by omega) _ 0,h.iv.kt (k _ (by decide)) (k _ (by decide)) (k _ (by decide)) (Nat.le_of_eq (setN_size _ 0).symm),Sl.kt (k _ (by decide)) h.io,Sl.kt (k _ (by decide)) h.il⟩
theorem played_any (H:VAll) (ad:Option Addr) (cap:Nat) (acts:List Act8) (w:World) (hl:acts.length≤40) (_:acts.length≤cap) (_:cap≤9223372036854775807)
  (hL:acts≠[]→∃ b off,ad=some ⟨b,off,none⟩∧b<w.heap.size∧LiesA w b off acts) (hp:Pows w) (ht:Tabs w):
  Calls Tryz.prog 6 #[.slice ad acts.length cap] w fun e w'=>Below w.heap.size w w'∧∃ d0 d1 d2 d3 d4 d5 d6 d7 vm vl m l,e=.returned (.tuple #[.agg #[d0,d1,d2,d3,d4,d5,d6,d7],.agg #[vm,vl],.bool true])∧(VOk m l acts.length∧Qt m l)∧IsV w' m l [d0,d1,d2,d3,d4,d5,d6,d7]∧IsO w' vm m∧IsO w' vl l:=by
 have HL:=Lh hL;have HPT:=Lh (And.intro hp ht);have HH:=Lh H;have H0:=Lh (L11.start w);clear hL hp ht H
 go_enter Tryz.func6,Tryz.ntmps6
 go_wp2_with fail
 go_loopg [12] acts.length (fun g ti wr=>∃ k:Nat,k≤acts.length∧g=acts.length-k∧ti=.int .i64 (k:Int)∧∃ (c0 c1 c2 c3 c4 c5 c6 c7 vm vl:Value) (m l:List Oq),(VOk m l k∧Qt m l)∧L11 w [c0,c1,c2,c3,c4,c5,c6,c7] vm vl [.pointer none,.pointer none,.int .i64 0,.slice none 0 0,.int .i64 0,.int .i64 0,.complex .f64 0 0,.complex .f64 0 0] [.slice none 0 0,.slice none 0 0] m l wr)
 case atStart=>exact ⟨0,Nat.zero_le _,rfl,rfl,_,_,_,_,_,_,_,_,_,_,[],[],⟨VOk.nil,qt_nil⟩,H0.out⟩
 case round=>
  obtain ⟨k,hk,rfl,rfl,c0,c1,c2,c3,c4,c5,c6,c7,vm,vl,m,l,hV,hP⟩:=hrel;clear H0;by_cases hlt:k<acts.length
  ·obtain ⟨bA,off,rfl,hbw,hLies⟩:=HL.out (fun e=>by rw [e] at hlt; cases hlt)
   have kk:∀ i,i<10→wr.cell? ⟨bA,off+k * 10+i,none⟩=(actL acts[k])[i]? := fun i hi=>(hP.bel.cell (p:=⟨bA,off+k * 10+i,none⟩) hbw).trans (hLies k hlt i hi)
   have k0:=kk 0 (by omega);have k1:=kk 1 (by omega);have k2:=kk 2 (by omega);have k3:=kk 3 (by omega);have k4:=kk 4 (by omega);have k5:=kk 5 (by omega);have k6:=kk 6 (by omega);have k7:=kk 7 (by omega);have k8:=kk 8 (by omega);have k9:=kk 9 (by omega);simp only [actL, List.getElem?_cons_zero, List.getElem?_cons_succ, Nat.add_zero] at k0 k1 k2 k3 k4 k5 k6 k7 k8 k9
   clear hLies kk;generalize acts[k]=x at *
   have hba:Below wr.heap.size wr (wr.alloc (.cells #[.int .u8 x.kd,x.o.k,x.o.c,x.o.s,x.o.a,x.o.n,.int .i32 x.o.ch,x.st,x.at_,.int .i32 x.ch] 75)):=(Below.refl _ _).alloc (Nat.le_refl _) _;have HP1:=Lh (hP.next hba);have HV:=Lh hV;have HDO:=Lh (fun y1 y2 W (h:L11 w [c0,c1,c2,c3,c4,c5,c6,c7] vm vl y1 y2 m l W)=>do8_any HH.out m l k HV.out.1 (by omega) x c0 c1 c2 c3 c4 c5 c6 c7 vm vl W h.iv h.io h.il (HPT.out.1.next h.bel) (HPT.out.2.next h.bel));clear hP hV hba;have v0 := HP1.out.bv.c8;have z0 := HP1.out.bm.c2;go_wp2_with (go_at_call 20; refine (HDO.out _ _ _ HP1.out).mono ?_; rintro e w1 ⟨hb,d0,d1,d2,d3,d4,d5,d6,d7,u,v,m2,l2,rfl,hv2,hiv,hio,hil⟩; obtain ⟨b1,p1,rfl,e1,e2⟩:=Sl.form hio; obtain ⟨b2,p2,rfl,e3,e4⟩:=Sl.form hil; refine Hid.out ?_)
   have HP2:=Lh (HP1.out.next hb);have HV2:=Lh (And.intro hv2.1 (hv2.2 HV.out.2));have hon:=hiv.one;obtain ⟨sd0,sd1,sd2,sd3,sd4,sd5,sd6,sd7⟩:=st8 hon;have HQ2:=Lh (HP2.out.setV hiv hio hil);clear HP1 HV HDO hb hiv hio hil hv2 hon k0 k1 k2 k3 k4 k5 k6 k7 k8 k9 v0 z0;have n0 := HP2.out.bv.c8;have fn0 := HP2.out.bv.f8;obtain ⟨w2,hw2⟩:∃ w2,w2=setN w1 (w.heap.size+1+1) 0 [d0,d1,d2,d3,d4,d5,d6,d7]:=⟨_,rfl⟩
   rw [←hw2] at HQ2;simp only [setN, Nat.zero_add, Nat.reduceAdd] at hw2
   have hW2:=hw2.symm;have HQ3:=Lh HQ2.out.setM;obtain ⟨w3,hw3⟩:∃ w3,w3=setN w2 (w.heap.size+1+1+1) 0 [.slice b1 m2.length p1,.slice b2 l2.length p2]:=⟨_,rfl⟩
   rw [←hw3] at HQ3;simp only [setN, Nat.zero_add] at hw3
   have hW3:=hw3.symm;have q0 := HQ2.out.bm.c2;have fq0 := HQ2.out.bm.f2;clear hw2 hw3;refine Lh ?_;go_wp2_with fail
   go_roundg (acts.length-(k+1))
   case measure=>omega
   case rel=>exact ⟨k+1,by omega,rfl,by go_num,_,_,_,_,_,_,_,_,_,_,m2,l2,HV2.out,HQ3.out⟩
  ·obtain rfl:k=acts.length:=by omega
   have HP:=Lh hP;have HV:=Lh hV;obtain ⟨b1,p1,rfl,e1,e2⟩:=Sl.form hP.io;obtain ⟨b2,p2,rfl,e3,e4⟩:=Sl.form hP.il;obtain ⟨sd0,sd1,sd2,sd3,sd4,sd5,sd6,sd7⟩:=st8 hP.iv.one;have HD:=Lh (hP.next bdq);clear hP hV HP;go_wp2_with fail
   refine rgH (fun W=>Cc8 W (w.heap.size+1+1) c0 c1 c2 c3 c4 c5 c6 c7 (Cz2 W (w.heap.size+1+1+1) (.slice b1 m.length p1) (.slice b2 l.length p2))) (HD.out.bv.d8 HD.out.bm.c2) fun hH=>?_
   generalize wr.drew=X9 at *
   refine tq 0 (.agg #[c0,c1,c2,c3,c4,c5,c6,c7]) hH ?_;refine tq 1 (.agg #[.slice b1 m.length p1,.slice b2 l.length p2]) hH ?_;refine rd1 2 (by kernel_rfl) rfl fun K hK=>?_
   have n0 := HD.out.r1.c8;have fn0 := HD.out.r1.f8;have HQ2:=Lh HD.out.setR1;obtain ⟨w2,hw2⟩:∃ w2,w2=setN X9 w.heap.size 0 [c0,c1,c2,c3,c4,c5,c6,c7]:=⟨_,rfl⟩
   rw [←hw2] at HQ2;simp only [setN, Nat.zero_add, Nat.reduceAdd] at hw2
   have HW2:=Lh hw2;clear hw2;go_simp
   go_wp2_with fail
   rw [←HW2.out];refine hK.out _ _ (HQ2.out.bv.d8 HQ2.out.bm.c2) ?_;clear hK K hH HW2 HD n0 fn0;intro hH
   try simp only [LAY]
   refine rd1 3 (by kernel_rfl) rfl fun K hK=>?_
   have n0 := HQ2.out.r2.c2;have fn0 := HQ2.out.r2.f2;have HQ3:=Lh HQ2.out.setR2;obtain ⟨w3,hw3⟩:∃ w3,w3=setN w2 (w.heap.size+1) 0 [.slice b1 m.length p1,.slice b2 l.length p2]:=⟨_,rfl⟩
   rw [←hw3] at HQ3;simp only [setN, Nat.zero_add] at hw3
   have HW3:=Lh hw3;clear hw3;go_simp
   go_wp2_with fail
   rw [←HW3.out];refine hK.out _ _ (HQ3.out.bv.d8 HQ3.out.bm.c2) ?_;clear hK K hH HW3 HQ2 n0 fn0;intro hH
   try simp only [LAY]
   refine tq 4 (.bool true) hH ?_;refine dnH ?_;clear hH;go_wp2_with fail
   have r0 := HQ3.out.r1.c8;have s0 := HQ3.out.r2.c2;refine bodyPost_ret (v:=.tuple #[.agg #[c0,c1,c2,c3,c4,c5,c6,c7],.agg #[.slice b1 m.length p1,.slice b2 l.length p2],.bool true]) (by simp [results, Tryz.results6, go_sem, s0, r0]) rfl ?_;exact ⟨HQ3.out.bel,_,_,_,_,_,_,_,_,_,_,m,l,rfl,HV.out,HQ3.out.iv,HQ3.out.io,HQ3.out.il⟩
end Go.Proofs.YtifnijmienmmbaaGreatDoor
namespace Go.Proofs.YtifnijmienmmbaaGreatDoor
open Go Go.Proofs Go.RowKit
def CAtOk:Prop:=∀ (m l:List Oq) (n:Nat) (k:Int) (c0 c1 c2 c3 c4 c5 c6 c7:Value) (w:World),VOk m l n→n≤50 → -9223372036854775808≤k→k≤9223372036854775807→IsV w m l [c0,c1,c2,c3,c4,c5,c6,c7] →
 Calls Tryz.prog 7 #[.agg #[c0,c1,c2,c3,c4,c5,c6,c7],k] w fun r w'=>r=.returned (.tuple #[.agg #[.int .i64 (namC (docR m) k).1,.int .i64 (namC (docR m) k).2],.int .i64 (cuE (docR m) k)])∧Below w.heap.size w w'
def CReOk:Prop:=∀ (m l:List Oq) (n:Nat) (a b:Int) (c0 c1 c2 c3 c4 c5 c6 c7:Value) (w:World),VOk m l n→n≤50→IsV w m l [c0,c1,c2,c3,c4,c5,c6,c7] →
 Calls Tryz.prog 10 #[.agg #[a,b],.agg #[c0,c1,c2,c3,c4,c5,c6,c7]] w fun r w'=>r=.returned (.tuple #[.int .i64 (reN (docR m) a b),.int .i64 (reE (docR m) a b)])∧Below w.heap.size w w'
def CMoOk:Prop:=∀ (m l:List Oq) (n:Nat) (a b k:Int) (c0 c1 c2 c3 c4 c5 c6 c7:Value) (w:World),VOk m l n→n≤50 → -9223372036854775808≤k→k≤9223372036854775807→IsV w m l [c0,c1,c2,c3,c4,c5,c6,c7] →
 Calls Tryz.prog 14 #[.agg #[a,b],.agg #[c0,c1,c2,c3,c4,c5,c6,c7],k] w fun r w'=>r=.returned (.tuple #[.agg #[.int .i64 (moA (docR m) a b k).1,.int .i64 (moA (docR m) a b k).2],.int .i64 (moE (docR m) a b k)])∧Below w.heap.size w w'
def CLiOk:Prop:=∀ (m l:List Oq) (n:Nat) (a b:Int) (c0 c1 c2 c3 c4 c5 c6 c7:Value) (w:World),VOk m l n→n≤50→IsV w m l [c0,c1,c2,c3,c4,c5,c6,c7] →
 Calls Tryz.prog 12 #[.agg #[a,b],.agg #[c0,c1,c2,c3,c4,c5,c6,c7]] w fun r w'=>r=.returned (.bool (liB (docR m) a b))∧Below w.heap.size w w'
structure CAll:Prop where
 at_:CAtOk
 re:CReOk
 mo:CMoOk
 li:CLiOk
def Awake11Ok:Prop:=∀ w:World,Pows w→Tabs w→Calls Tryz.prog 5 #[] w fun e w'=>e=.returned (.bool true)∧Below w.heap.size w w'
end Go.Proofs.YtifnijmienmmbaaGreatDoor
