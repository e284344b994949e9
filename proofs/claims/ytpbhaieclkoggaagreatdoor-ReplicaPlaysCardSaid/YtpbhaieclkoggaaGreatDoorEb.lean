import Derived.Test.YtpbhaieclkoggaaGreatDoorVd8
import Derived.Laws.Cover4
import Derived.Lib.DecodeN
import Derived.Test.YtpbhaieclkoggaaGreatDoorIs8
import Derived.Test.YtpbhaieclkoggaaGreatDoorPend
import Derived.Deep.CutRange
namespace Go.Proofs.YtpbhaieclkoggaaGreatDoor
open Go Go.Proofs Go.RowKit
theorem sl_split:∀ (L:List El) (k:Nat),k<(L.map El.al).sum→∃ (A B:List El) (x:El),L=A++x::B∧x.d=false∧(A.map El.al).sum=k∧slL L k=A.length
 | [],k,h=>by simp at h
 | x::L,k,h=>by
  cases hd:x.d with
  | true=>
   have e:El.al x=0:=by simp [El.al,hd]
   obtain ⟨A,B,y,h1,h2,h3,h4⟩:=sl_split L k (by simpa [e] using h);exact ⟨x::A,B,y,by rw [h1]; rfl,h2,by simp [e,h3],by unfold slL; rw [if_pos hd,h4]; rfl⟩
  | false=>
   have e:El.al x=1:=by simp [El.al,hd]
   by_cases hk:k=0
   ·subst hk
    exact ⟨[],L,x,rfl,hd,rfl,by unfold slL; rw [if_neg (by simp [hd]),if_pos rfl]; rfl⟩
   ·obtain ⟨A,B,y,h1,h2,h3,h4⟩:=sl_split L (k - 1) (by simp [e] at h; omega)
    exact ⟨x::A,B,y,by rw [h1]; rfl,h2,by simp [e,h3]; omega,by unfold slL; rw [if_neg (by simp [hd]),if_neg hk,h4]; rfl⟩
theorem sl_at (A B:List El) (x:El) (hd:x.d=false):slL (A++x::B) ((A.map El.al).sum)=A.length:=by
 induction A with
 | nil=>show slL (x::B) 0=0; unfold slL; rw [if_neg (by simp [hd]),if_pos rfl]
 | cons y A ih=>
  cases hy:y.d with
  | true=>
   have e:El.al y=0:=by simp [El.al,hy]
   rw [List.map_cons,List.sum_cons,e,Nat.zero_add,List.cons_append];unfold slL; rw [if_pos hy,ih]; rfl
  | false=>
   have e:El.al y=1:=by simp [El.al,hy]
   rw [List.map_cons,List.sum_cons,e,List.cons_append];unfold slL; rw [if_neg (by simp [hy]),if_neg (by omega),show 1+(A.map El.al).sum - 1=(A.map El.al).sum by omega,ih]; rfl
end Go.Proofs.YtpbhaieclkoggaaGreatDoor
namespace Go.Proofs.YtpbhaieclkoggaaGreatDoor
open Go Go.Proofs Go.RowKit
theorem Sl.kt {α:Type} {t:TypeId} {m:Nat} {f:α→List Value} {W W':World} (hk:KT t W W') {v:Value} {L:List α} (h:Sl t m f W v L):Sl t m f W' v L:=by
 rcases h with h | ⟨g,cap,cur,rfl,hg,h⟩
 ·exact .inl h
 ·exact .inr ⟨g,cap,cur,rfl,hk g cur.toList hg,h⟩
theorem IsV.kt {W W':World} {m l:List Oq} {cs:List Value} (h:IsV W m l cs) (h1:KT 217 W W') (h2:KT 223 W W') (h3:KT 55 W W') (hs:W.heap.size≤W'.heap.size):IsV W' m l cs:=by
 obtain ⟨p,q,T,P,s,a,b,c⟩:=h.ex;exact ⟨p,q,T,P,s,a.kt h1 h2 hs,Sl.kt h3 b,c⟩
theorem Sl.setZ {t:TypeId} {W:World} {b:Nat} (hB:Blk W b (oqL zeroO) t) {v:Value} {L:List Oq} (h:Sl t 6 oqL W v L) (hr:RmO L) (x:Oq):Sl t 6 oqL (setN W b 0 (oqL x)) v L:=by
 rcases h with h | ⟨g,cap,cur,rfl,hg,h1,h2,h3⟩
 ·exact .inl h
 ·by_cases hgb:g=b
  ·subst hgb
   cases L with
   | nil=>exact .inr ⟨g,cap,_,rfl,setN_blk (oqL x) 0 hB,h1,h2,rfl⟩
   | cons y L=>
    exfalso
    have hy:=hr y (List.mem_cons_self ..);unfold Blk at hB
    rw [hB] at hg;simp only [Option.some.injEq,Obj.cells.injEq] at hg
    obtain ⟨hg,_⟩:=hg;rw [←hg] at h3;have h5:(oqL zeroO).take ((y::L).length * 6)=oqL zeroO:=List.take_of_length_le (by rw [oqL_len,List.length_cons]; omega);have h6:oqL zeroO=(y::L).flatMap oqL:=h5.symm.trans h3;have h4:=congrArg (fun l:List Value=>l[1]?) h6;simp [oqL,zeroO] at h4
    rw [mayB] at hy;simp at hy
    omega
  ·exact .inr ⟨g,cap,cur,rfl,by rw [setN_other (oqL x) 0 hgb]; exact hg,h1,h2,h3⟩
theorem IsV.setO {W:World} {b:Nat} {m l:List Oq} {cs:List Value} (hB:Blk W b (oqL zeroO) 55) (h:IsV W m l cs) (hr:RmO l) (x:Oq):IsV (setN W b 0 (oqL x)) m l cs:=by
 obtain ⟨p,q,T,P,s,h1,h2,h3⟩:=h.ex;exact ⟨p,q,T,P,s,h1.kt (KT.setN (by decide) _ 0 hB) (KT.setN (by decide) _ 0 hB) (Nat.le_of_eq (setN_size _ 0).symm),Sl.setZ hB h2 hr x,h3⟩
end Go.Proofs.YtpbhaieclkoggaaGreatDoor
namespace Go.Proofs.YtpbhaieclkoggaaGreatDoor
open Go Go.Proofs Go.RowKit
structure VAll:Prop where
 rm:VRemoteOk
 ins:VInsertOk
 del:VDeleteOk
 txt:VTextOk
 len:VLenOk
 seq:VSeqOk
 wait:VWaitOk
 tal:VTallyOk
 bef:VBeforeOk
 nam:VNamedOk
theorem isv_nil (w:World):IsV w [] [] [.pointer none,.pointer none,.int .i64 0,.slice none 0 0,.int .i64 0,.int .i64 0,.complex .f64 0 0,.complex .f64 0 0]:=
 ⟨none,none,.nil,.nil,.slice none 0 0,StO.nil w,.inl ⟨rfl,rfl⟩,by
  have h:fl 0=0:=fl_zero;have hc:cnt .nil=0:=cnt_nil;have e:idsO []=[]:=rfl;rw [hc,e]
  show ([.pointer none,.pointer none,.int .i64 0,.slice none 0 0,.int .i64 0,.int .i64 0,.complex .f64 0 0,.complex .f64 0 0]:List Value)=[.pointer none,.pointer none,.int .i64 0,.slice none 0 0,.int .i64 0,.int .i64 0,.complex .f64 (fl 0) (fl 0),.complex .f64 (fl 0) (fl 0)]
  rw [h]⟩
def Awake8Ok:Prop:=∀ w:World,Pows w→Tabs w→Calls Tryz.prog 47 #[] w fun e w'=>e=.returned (.bool true)∧Below w.heap.size w w'
end Go.Proofs.YtpbhaieclkoggaaGreatDoor
namespace Go.Proofs.YtpbhaieclkoggaaGreatDoor
open Go Go.Proofs Go.RowKit
abbrev StF (c:Value):Prop:=∀ (W:World) (a:Addr) (m:Mode),(store a c m).run Tryz.prog W=match W.cell? a with
 | some _=>if W.frozen? a then .halt (.unsupported (.unsafePointer "a write to bytes that a string shares")) W else .ok () (W.setCell a c)
 | none=>match W.farStore Tryz.prog a c (m == .atomic) with
  | .ok (w',_)=>.ok () w'
  | .error h=>.halt h W
theorem st8 {c0 c1 c2 c3 c4 c5 c6 c7:Value} (h:∀ u∈[c0,c1,c2,c3,c4,c5,c6,c7],u.oneCell'=true):StF c0∧StF c1∧StF c2∧StF c3∧StF c4∧StF c5∧StF c6∧StF c7:=
 have k:∀ u∈[c0,c1,c2,c3,c4,c5,c6,c7],StF u:=fun u hu W a m=>run_store Tryz.prog W a u m (h u hu)
 ⟨k c0 (by simp),k c1 (by simp),k c2 (by simp),k c3 (by simp),k c4 (by simp),k c5 (by simp),k c6 (by simp),k c7 (by simp)⟩
end Go.Proofs.YtpbhaieclkoggaaGreatDoor
namespace Go.Proofs.YtpbhaieclkoggaaGreatDoor
open Go Go.Proofs Go.RowKit
def aliN (L:List El):Int:=(rkL L (L.length:Int):Int)
def cuE (L:List El) (k:Int):Int:=if k<0∨aliN L<k then 2 else 0
def reE (L:List El) (c s:Int):Int:=if noneB c s=true then 0 else if fnd (elB c s) L 0<0 then 6 else 0
def reN (L:List El) (c s:Int):Int:=if noneB c s=true then aliN L else (rkL L (fnd (elB c s) L 0):Int)
theorem ali_sum (L:List El):aliN L=((L.map El.al).sum:Int):=by unfold aliN; rw [rkL_len]
theorem nam_mid {A B:List El} {x:El} (hd:x.d=false):namC (A++x::B) ((A.map El.al).sum:Int)=(x.c,x.s):=by
 unfold namC
 rw [if_neg (by omega),Int.toNat_natCast,sl_at A B x hd,List.getElem?_append_right (Nat.le_refl _),Nat.sub_self];rfl
theorem sl_end:∀ (L:List El) (k:Nat),(L.map El.al).sum≤k→slL L k=L.length
 | [],_,_=>rfl
 | x::L,k,h=>by
  rw [List.map_cons,List.sum_cons] at h;unfold slL
  cases hd:x.d with
  | true=>rw [if_pos rfl,sl_end L k (by omega),List.length_cons]
  | false=>
   have ha:El.al x=1:=by simp [El.al,hd]
   rw [if_neg (by simp),if_neg (by omega),sl_end L (k - 1) (by omega),List.length_cons]
theorem nam_end (L:List El) (k:Int) (h:k<0∨aliN L≤k):namC L k=(0,0):=by
 unfold namC
 split
 ·rfl
 ·rename_i hk
  rw [ali_sum] at h;rw [sl_end L k.toNat (by omega),List.getElem?_eq_none (Nat.le_refl _)]
end Go.Proofs.YtpbhaieclkoggaaGreatDoor
set_option maxRecDepth 100000
set_option maxHeartbeats 12800000
namespace Go.Proofs.YtpbhaieclkoggaaGreatDoor
open Go Go.Proofs Go.RowKit
structure A11 (w:World) (vm vl:Value) (z:List Value) (W:World):Prop where
 bel:Below w.heap.size w W
 bm:Blk W w.heap.size [vm,vl] 47
 br:Blk W (w.heap.size+1) z 68
theorem A11.next {w:World} {vm vl:Value} {z:List Value} {W W':World} (h:A11 w vm vl z W) (hb:Below W.heap.size W W'):A11 w vm vl z W':=⟨h.bel.trans (hb.mono h.bel.size),h.bm.next hb,h.br.next hb⟩
theorem A11.start (w:World) (vm vl:Value) (z:List Value):A11 w vm vl z ((w.alloc (.cells #[vm,vl] 47)).alloc (.cells ⟨z⟩ 68)):=
 ⟨(bA).alloc (by simp) _,(Blk.start w [vm,vl] _).alloc _,Blk.startAt (by simp)⟩
theorem A11.put {w:World} {vm vl:Value} {z:List Value} {W:World} (h:A11 w vm vl z W) (x y:Value):A11 w vm vl ((z.set 0 x).set 1 y) ((W.setCell ⟨w.heap.size+1,0,none⟩ x).setCell ⟨w.heap.size+1,1,none⟩ y):=
 ⟨(h.bel.setCell (p:=⟨w.heap.size+1,0,none⟩) (by simp) x).setCell (p:=⟨w.heap.size+1,1,none⟩) (by simp) y,(h.bm.other _ (by simp) _).other _ (by simp) _,(h.br.set 0 x).set 1 y⟩
theorem rcAt_any {m l:List Oq} {n:Nat} (hV:VOk m l n) (hn:n≤60) (k:Int) (hk0 : -9223372036854775808≤k) (hk1:k≤9223372036854775807) (vm vl:Value) (w:World) (hM:IsO w vm m):
  Calls Tryz.prog 29 #[.agg #[vm,vl],k] w fun e w'=>e=.returned (.tuple #[.agg #[.int .i64 (namC (docR m) k).1,.int .i64 (namC (docR m) k).2],.int .i64 (cuE (docR m) k)])∧Below w.heap.size w w':=by
 have hlen:=hV.len;have hdl:(docR m).length≤100:=by rw [docR_len]; have:=row_len hV.ok.gd; omega
 have HF:=Lh (fun u v W h=>ref8List_any m (by omega) hV.ok.gd u v W h);have HM:=Lh hM;generalize docR m=L at *
 have HR:=Lh (fun v W (h:IsE W v L)=>refRank_any L (L.length:Int) v W h (by omega));have HS:=Lh (fun v W (h:IsE W v L)=>refSelect_any L k hk0 hk1 v W h (by omega));have hal:rkL L (L.length:Int)≤100:=by rw [rkL_len]; have:=alive_le L; omega
 obtain ⟨ax,hax⟩:∃ ax:Nat,ax=rkL L (L.length:Int):=⟨_,rfl⟩
 have HA:=Lh hax;rw [←hax] at HR hal;have H0:=Lh (A11.start w vm vl [.int .i64 0,.int .i64 0]);have x0 := H0.out.bm.c2;clear hM hlen hV hax
 go_enter Tryz.func29,Tryz.ntmps29
 go_wp2_with (go_at_call 27; refine (HF.out _ _ _ (HM.out.next H0.out.bel)).mono ?_; rintro e w1 ⟨v3,rfl,hE,hb⟩; obtain ⟨a,cap,rfl,hc1,hc2⟩:=Sl.form hE; refine Hid.out ?_)
 have H1:=Lh (H0.out.next hb);have HE:=Lh hE;clear hE hb H0 x0 HF HM;refine Lh ?_;go_wp2_with (go_at_call 28; refine (HR.out _ _ HE.out).mono ?_; rintro e w2 ⟨rfl,hb⟩; refine Hid.out ?_)
 have H2:=Lh (H1.out.next hb);have HE2:=Lh (HE.out.next hb);clear H1 HE hb HR;have y0 := H2.out.br.c2;have f0 := H2.out.br.f2;have HP:=Lh (H2.out.put (.int .i64 0) (.int .i64 0));refine Lh ?_;by_cases hbad:k<0∨(ax:Int)<k
 ·have hnm:namC L k=(0,0):=nam_end L k (by unfold aliN; rw [←HA.out]; omega)
  have hcu:cuE L k=2:=by unfold cuE aliN; rw [←HA.out,if_pos hbad]
  have HN:=Lh (And.intro hnm hcu);clear hnm hcu;rcases hbad with hbad | hbad
  ·go_wp2_with fail
   have p0 := HP.out.br.c2;exact bodyPost_ret (v:=.tuple #[.agg #[.int .i64 0,.int .i64 0],.int .i64 2]) (by simp [results, Tryz.results29, go_sem, p0]) rfl ⟨by rw [HN.out.1,HN.out.2],HP.out.bel⟩
  ·have hk:(decide (k<0))=false:=by simp; omega
   go_wp2_with fail
   have p0 := HP.out.br.c2;exact bodyPost_ret (v:=.tuple #[.agg #[.int .i64 0,.int .i64 0],.int .i64 2]) (by simp [results, Tryz.results29, go_sem, p0]) rfl ⟨by rw [HN.out.1,HN.out.2],HP.out.bel⟩
 have hb0:¬ k<0:=by omega
 have hb1:¬ (ax:Int)<k:=by omega
 have hcu:cuE L k=0:=by unfold cuE aliN; rw [←HA.out,if_neg hbad]
 by_cases hke:k=(ax:Int)
 ·have hnm:namC L k=(0,0):=nam_end L k (by unfold aliN; rw [←HA.out]; omega)
  have HN:=Lh (And.intro hnm hcu);clear hnm hcu;subst hke;go_wp2_with fail
  have p0 := HP.out.br.c2;exact bodyPost_ret (v:=.tuple #[.agg #[.int .i64 0,.int .i64 0],.int .i64 0]) (by simp [results, Tryz.results29, go_sem, p0]) rfl ⟨by rw [HN.out.1,HN.out.2],HP.out.bel⟩
 ·have hsum:(L.map El.al).sum=ax:=by rw [HA.out,rkL_len]
  obtain ⟨A,B,x,g1,g2,g3,g4⟩:=sl_split L k.toNat (by omega);have hkx:k=((A.map El.al).sum:Int):=by omega
  have hnm:namC L k=(x.c,x.s):=by rw [g1,hkx]; exact nam_mid g2
  have hAl:A.length<L.length:=by rw [g1]; simp
  have hget:L[A.length]=x:=by simp only [g1]; simp
  have HN:=Lh (And.intro hnm hcu);have HG:=Lh (And.intro g4 (And.intro hAl hget));obtain ⟨g,rfl,hgl,hC⟩:=IsE.at HE2.out A.length hAl;rw [hget] at hC;have HC:=Lh hC;generalize A.length=r at *
  clear hnm hcu g1 g2 g3 g4 hkx hsum hget hC;have hke':(k==(ax:Int))=false:=by simpa using hke
  clear hke;go_wp2_with (go_at_call 74; refine (HS.out _ _ HE2.out).mono ?_; rintro e w3 ⟨r',rfl,hr1,hr2,hb⟩; replace hr2:=Lh hr2; refine Hid.out ?_)
  obtain rfl:r'=r:=by have:=hr2.out (by omega); rw [this]; exact HG.out.1
  have H3:=Lh (H2.out.next hb);obtain ⟨e0,e1,e2,e3⟩:=HC.out _ hb;have hrl:r'<L.length:=HG.out.2.1;clear H2 HE2 hb y0 f0 HP hr1 hr2 HG HC HS;have y0 := H3.out.br.c2;have f0 := H3.out.br.f2;have HP:=Lh (H3.out.put x.c x.s);refine Lh ?_;go_wp2_with fail
  have p0 := HP.out.br.c2;exact bodyPost_ret (v:=.tuple #[.agg #[x.c,x.s],.int .i64 0]) (by simp [results, Tryz.results29, go_sem, p0]) rfl ⟨by rw [HN.out.1,HN.out.2],HP.out.bel⟩
structure B11 (w:World) (vm vl:Value) (a b:Int) (W:World):Prop where
 bel:Below w.heap.size w W
 bm:Blk W w.heap.size [vm,vl] 47
 ba:Blk W (w.heap.size+1) [a,b] 68
theorem B11.next {w:World} {vm vl:Value} {a b:Int} {W W':World} (h:B11 w vm vl a b W) (hb:Below W.heap.size W W'):B11 w vm vl a b W':=⟨h.bel.trans (hb.mono h.bel.size),h.bm.next hb,h.ba.next hb⟩
theorem B11.start (w:World) (vm vl:Value) (a b:Int):B11 w vm vl a b ((w.alloc (.cells #[vm,vl] 47)).alloc (.cells #[a,b] 68)):=
 ⟨(bA).alloc (by simp) _,(Blk.start w [vm,vl] _).alloc _,Blk.startAt (by simp)⟩
theorem none_cases (a b:Int):(noneB a b=true∧a=0∧b=0)∨(noneB a b=false∧¬ (a=0∧b=0)):=by
 by_cases h:a=0∧b=0
 ·exact .inl ⟨by rw [h.1,h.2]; rfl,h⟩
 ·refine .inr ⟨?_,h⟩
  simp only [noneB]
  simp
  intro e1 e2
  exact h ⟨e1,e2⟩
theorem rcRe_any {m l:List Oq} {n:Nat} (hV:VOk m l n) (hn:n≤60) (a b:Int) (vm vl:Value) (w:World) (hM:IsO w vm m):
  Calls Tryz.prog 31 #[.agg #[vm,vl],.agg #[a,b]] w fun e w'=>e=.returned (.tuple #[.int .i64 (reN (docR m) a b),.int .i64 (reE (docR m) a b)])∧Below w.heap.size w w':=by
 have hlen:=hV.len;have hdl:(docR m).length≤100:=by rw [docR_len]; have:=row_len hV.ok.gd; omega
 have HF:=Lh (fun u v W h=>ref8List_any m (by omega) hV.ok.gd u v W h);have HM:=Lh hM;generalize docR m=L at *
 have HR:=Lh (fun i v W (h:IsE W v L)=>refRank_any L i v W h (by omega));have HP:=Lh (fun v W (h:IsE W v L)=>refPlace_any a b L v W h);have H0:=Lh (B11.start w vm vl a b);have x0 := H0.out.bm.c2;clear hM hlen hV
 go_enter Tryz.func31,Tryz.ntmps31
 go_wp2_with (go_at_call 27; refine (HF.out _ _ _ (HM.out.next H0.out.bel)).mono ?_; rintro e w1 ⟨v3,rfl,hE,hb⟩; obtain ⟨a1,cap,rfl,hc1,hc2⟩:=Sl.form hE; refine Hid.out ?_)
 have H1:=Lh (H0.out.next hb);have HE:=Lh hE;clear hE hb H0 x0 HF HM;have y0 := H1.out.ba.c2;obtain ⟨hno,rfl,rfl⟩ | ⟨hno,hab⟩:=none_cases a b
 ·have HN:=Lh (show reN L 0 0=(rkL L (L.length:Int):Int)∧reE L 0 0=0 from ⟨rfl,rfl⟩)
  clear hno;refine Lh ?_;go_wp2_with (go_at_call 28; refine (HR.out _ _ _ HE.out).mono ?_; rintro e w2 ⟨rfl,hb⟩)
  go_ret2
  exact ⟨by rw [HN.out.1,HN.out.2]; rfl,H1.out.bel.trans (hb.mono H1.out.bel.size)⟩
 ·have hna:¬ (a=0)∨¬ (b=0):=by omega
  have HN:=Lh (show reN L a b=(rkL L (fnd (elB a b) L 0):Int)∧reE L a b=(if fnd (elB a b) L 0<0 then 6 else 0) from by unfold reN reE; rw [hno]; exact ⟨rfl,rfl⟩);generalize fnd (elB a b) L 0=f at *
  clear hno hna;have hcs:¬ a=0∨(a=0∧¬ b=0):=by omega
  clear hab;refine Lh ?_;rcases hcs with hq | ⟨rfl,hq⟩
  all_goals
   go_wp2_with (go_at_call 77; refine (HP.out _ _ HE.out).mono ?_; rintro e w2 ⟨rfl,hb⟩; refine Hid.out ?_)
   have H2:=Lh (H1.out.next hb);have HE2:=Lh (HE.out.next hb);clear H1 HE hb HP hq y0;by_cases hf:f<0
   ·have HN2:=Lh (show (if f<0 then (6:Int) else 0)=6∧(rkL L f:Int)=0 from ⟨if_pos hf,by rw [rkL_neg L (by omega)]; rfl⟩)
    clear HR HE2;refine Lh ?_;go_wp2_with fail
    go_ret2
    exact ⟨by rw [HN.out.1,HN.out.2,HN2.out.1,HN2.out.2]; rfl,H2.out.bel⟩
   ·have HN2:=Lh (show (if f<0 then (6:Int) else 0)=0 from if_neg hf)
    refine Lh ?_;go_wp2_with (go_at_call 28; refine (HR.out _ _ _ HE2.out).mono ?_; rintro e w3 ⟨rfl,hb⟩)
    go_ret2
    exact ⟨by rw [HN.out.1,HN.out.2,HN2.out]; rfl,H2.out.bel.trans (hb.mono H2.out.bel.size)⟩
end Go.Proofs.YtpbhaieclkoggaaGreatDoor
namespace Go.Proofs.YtpbhaieclkoggaaGreatDoor
open Go Go.Proofs Go.RowKit
def CAtOk:Prop:=∀ (m l:List Oq) (n:Nat) (k:Int) (c0 c1 c2 c3 c4 c5 c6 c7:Value) (w:World),VOk m l n→n≤50 → -9223372036854775808≤k→k≤9223372036854775807→IsV w m l [c0,c1,c2,c3,c4,c5,c6,c7] →
 Calls Tryz.prog 44 #[.agg #[c0,c1,c2,c3,c4,c5,c6,c7],k] w fun r w'=>r=.returned (.tuple #[.agg #[.int .i64 (namC (docR m) k).1,.int .i64 (namC (docR m) k).2],.int .i64 (cuE (docR m) k)])∧Below w.heap.size w w'
def CReOk:Prop:=∀ (m l:List Oq) (n:Nat) (a b:Int) (c0 c1 c2 c3 c4 c5 c6 c7:Value) (w:World),VOk m l n→n≤50→IsV w m l [c0,c1,c2,c3,c4,c5,c6,c7] →
 Calls Tryz.prog 46 #[.agg #[a,b],.agg #[c0,c1,c2,c3,c4,c5,c6,c7]] w fun r w'=>r=.returned (.tuple #[.int .i64 (reN (docR m) a b),.int .i64 (reE (docR m) a b)])∧Below w.heap.size w w'
structure CAll:Prop where
 at_:CAtOk
 re:CReOk
def Awake11Ok:Prop:=∀ w:World,Pows w→Tabs w→Calls Tryz.prog 20 #[] w fun e w'=>e=.returned (.bool true)∧Below w.heap.size w w'
end Go.Proofs.YtpbhaieclkoggaaGreatDoor
namespace Go.Proofs.YtpbhaieclkoggaaGreatDoor
open Go Go.Proofs Go.RowKit
theorem bel1 (w:World) (l:Array Value) (t:TypeId):Below w.heap.size w (w.alloc (.cells l t)):=bA
end Go.Proofs.YtpbhaieclkoggaaGreatDoor
namespace Go.Proofs.YtpbhaieclkoggaaGreatDoor
open Go Go.Proofs Go.RowKit
theorem bel2 (w:World) (l l':Array Value) (t t':TypeId):Below w.heap.size w ((w.alloc (.cells l t)).alloc (.cells l' t')):=(bel1 w l t).alloc (by simp) _
end Go.Proofs.YtpbhaieclkoggaaGreatDoor
