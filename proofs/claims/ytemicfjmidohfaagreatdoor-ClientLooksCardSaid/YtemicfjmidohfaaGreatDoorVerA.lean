import Derived.Test.YtemicfjmidohfaaGreatDoorVm8
set_option maxRecDepth 100000
set_option maxHeartbeats 12800000
namespace Go.Proofs.YtemicfjmidohfaaGreatDoor
open Go Go.Proofs Go.RowKit
theorem sl_kt {α:Type} {t:TypeId} {m:Nat} {f:α→List Value} {W W':World} (hk:KT t W W') {v:Value} {L:List α} (h:Sl t m f W v L):Sl t m f W' v L:=by
 rcases h with h | ⟨g,cap,cur,rfl,hg,h⟩
 ·exact .inl h
 ·exact .inr ⟨g,cap,cur,rfl,hk g cur.toList hg,h⟩
structure Kx (B:Nat) (W W':World):Prop where
 bel:Below B W W'
 kt:∀ t,297≠t→197≠t→KT t W W'
theorem Kx.of {B:Nat} {W W':World} (h:Below W.heap.size W W') (hB:B≤W.heap.size):Kx B W W':=⟨h.mono hB,fun _ _ _ _ _ hb=>hb.next h⟩
theorem Kx.trans {B:Nat} {W W' W'':World} (h:Kx B W W') (k:Kx B W' W''):Kx B W W'':=⟨h.bel.trans k.bel,fun t h1 h2=>(h.kt t h1 h2).trans (k.kt t h1 h2)⟩
theorem Kx.next {B:Nat} {W W' W'':World} (h:Kx B W W') (k:Below W'.heap.size W' W'') (hB:B≤W.heap.size):Kx B W W'':=h.trans (.of k (Nat.le_trans hB h.bel.size))
theorem Kx.put {B d:Nat} {W W':World} (h:Kx B W W') (hd:W.heap.size≤d) (hB:B≤W.heap.size) (i:Nat) (v:Value):Kx B W (W'.setCell ⟨d,i,none⟩ v):=
 ⟨h.bel.setCell (p:=⟨d,i,none⟩) (Nat.le_trans hB hd) v,fun t h1 h2 b vs hb=>(h.kt t h1 h2 b vs hb).other ⟨d,i,none⟩ (by have:=hb.lt; show b≠d; omega) v⟩
theorem Kx.putN {B d:Nat} {W:World} (hd:W.heap.size≤d) (hB:B≤W.heap.size):∀ (vs:List Value) (i:Nat) {W':World},Kx B W W'→Kx B W (setN W' d i vs)
 | [],_,_,h=>h
 | v::vs,i,_,h=>Kx.putN hd hB vs (i+1) (h.put hd hB i v)
theorem Kx.blk {B b:Nat} {vs:List Value} {t:TypeId} {W W':World} (h:Kx B W W') (hb:Blk W b vs t) (h1:297≠t) (h2:197≠t):Blk W' b vs t:=h.kt t h1 h2 b vs hb
theorem Kx.st {B:Nat} {W W':World} {m:List Oq} {p q:Option Addr} {T:Tr} {P:Pt} (h:Kx B W W') (hs:StO W m p q T P):StO W' m p q T P:=
 hs.kt (h.kt _ (by decide) (by decide)) (h.kt _ (by decide) (by decide)) h.bel.size
theorem Kx.room {B:Nat} {W W':World} {s:Value} {l:List Oq} (h:Kx B W W') (hs:IsP7 W s l):IsP7 W' s l:=sl_kt (h.kt _ (by decide) (by decide)) hs
structure Tel (B b:Nat) (L:List Chg) (W:World):Prop where
 ge:B≤b
 box:∃ v,Blk W b [v] 197∧W.ownsRow B 297 6 v L.length (L.flatMap chgL)
theorem Tel.next {B b:Nat} {L:List Chg} {W W':World} (h:Tel B b L W) (hb:Below W.heap.size W W'):Tel B b L W':=by
 obtain ⟨v,h1,h2⟩:=h.box;exact ⟨h.ge,v,h1.next hb,ownsRow_next h2 hb⟩
theorem Tel.lt {B b:Nat} {L:List Chg} {W:World} (h:Tel B b L W):b<W.heap.size:=by
 obtain ⟨v,h1,_⟩:=h.box;exact h1.lt
theorem Tel.putN {B b d:Nat} {L:List Chg} {us:List Value} {u:TypeId} {W:World} (h:Tel B b L W) (hd:Blk W d us u) (h1:u≠297) (h2:u≠197) (i:Nat) (xs:List Value):Tel B b L (setN W d i xs):=by
 obtain ⟨v,a,c⟩:=h.box;exact ⟨h.ge,v,KT.setN h2 xs i hd b _ a,own_kt c (KT.setN h1 xs i hd)⟩
theorem infoC:(Tryz.prog.info? 297).map (fun i=>(i.zero,i.size,i.bytes))=some (some (.agg #[.int .i64 0,.int .i64 0,.int .i64 0,.int .i64 0,.int .i32 0,.bool false]),6,40):=by kernel_rfl
def vcL (p q:Option Addr) (N:Int) (s:Value) (m:List Oq):List Value:=[.pointer p,.pointer q,.int .i64 N,s,.int .i64 (m.length:Int),.int .i64 (nL (idsO m)),.complex .f64 (fl (cL (idsO m))) (fl (sL (idsO m))),.complex .f64 (fl (rL (idsO m))) (fl (iL (idsO m)))]
theorem IsV.opened {W:World} {m l:List Oq} {cs:List Value} (h:IsV W m l cs):∃ (p q:Option Addr) (T:Tr) (P:Pt) (a:Option Addr) (cap:Nat),StO W m p q T P∧IsP7 W (.slice a l.length cap) l∧cs=vcL p q (cnt P) (.slice a l.length cap) m:=by
 obtain ⟨p,q,T,P,s,h1,h2,rfl⟩:=h.ex;obtain ⟨a,cap,rfl,-,-⟩:=h2.form;exact ⟨p,q,T,P,a,cap,h1,h2,rfl⟩
structure Vb8 (w:World) (cs:List Value) (W:World):Prop where
 bel:Below w.heap.size w W
 bv:Blk W w.heap.size cs 43
theorem Vb8.next {w:World} {cs:List Value} {W W':World} (h:Vb8 w cs W) (hb:Below W.heap.size W W'):Vb8 w cs W':=⟨h.bel.trans (hb.mono h.bel.size),h.bv.next hb⟩
theorem Vb8.start (w:World) (cs:List Value):Vb8 w cs (w.alloc (.cells ⟨cs⟩ 43)):=⟨bA,Blk.start w cs _⟩
structure Vc8 (w:World) (cs xs:List Value) (t:TypeId) (W:World):Prop where
 bel:Below w.heap.size w W
 bv:Blk W w.heap.size cs 43
 bx:Blk W (w.heap.size+1) xs t
theorem Vc8.next {w:World} {cs xs:List Value} {t:TypeId} {W W':World} (h:Vc8 w cs xs t W) (hb:Below W.heap.size W W'):Vc8 w cs xs t W':=⟨h.bel.trans (hb.mono h.bel.size),h.bv.next hb,h.bx.next hb⟩
theorem Vc8.start (w:World) (cs xs:List Value) (t:TypeId):Vc8 w cs xs t ((w.alloc (.cells ⟨cs⟩ 43)).alloc (.cells ⟨xs⟩ t)):=⟨(bA).alloc (by simp) _,(Blk.start w cs _).alloc _,Blk.startAt (by simp)⟩
theorem Vc8.putX {w:World} {cs xs:List Value} {t:TypeId} {W:World} (h:Vc8 w cs xs t W) (ys:List Value):Vc8 w cs (putN xs 0 ys) t (setN W (w.heap.size+1) 0 ys):=⟨setN_below (by omega) _ 0 h.bel,h.bv.setN (by omega) _ 0,setN_blk ys 0 h.bx⟩
theorem VOk.small {m l:List Oq} {n:Nat} (h:VOk m l n) (hn:n≤130):m.length≤130∧l.length≤16∧(rowO m).length≤130:=by
 have:=h.len;have:=row_len h.ok.gd;have:=h.l16;omega
theorem vtext_ok:VTextOk:=by
 intro m l n c0 c1 c2 c3 c4 c5 c6 c7 w hV hn hS ht
 obtain ⟨p,q,T,P,a,cap,hst,h7,e⟩:=hS.opened;obtain ⟨hm50,hl16,hr50⟩:=hV.small hn;have hsz:=hst.size;have hel:=hst.docR;simp only [vcL,List.cons.injEq,and_true] at e
 obtain ⟨rfl,rfl,rfl,rfl,rfl,rfl,rfl,rfl⟩:=e;have H0:=Lh (Vb8.start w [.pointer p,.pointer q,.int .i64 (cnt P),.slice a l.length cap,.int .i64 (m.length:Int),.int .i64 (nL (idsO m)),.complex .f64 (fl (cL (idsO m))) (fl (sL (idsO m))),.complex .f64 (fl (rL (idsO m))) (fl (iL (idsO m)))]);have HT:=Lh (fun W h=>text_any (p:=p) (T:=T) W (hst.tr.next h) (by omega));rw [hel] at HT;have HX:=Lh (show txtS (docR m)=⟨(txtL (docR m)).toArray⟩ from rfl);rw [HX.out];generalize (⟨(txtL (docR m)).toArray⟩:ByteArray)=tx at *
 clear hS hst h7 hel HX;have v0:=H0.out.bv.cell 0 rfl
 go_enter Tryz.func127,Tryz.ntmps127
 go_wp2_with fail;refine (HT.out _ H0.out.bel).mono ?_;rintro e w1 ⟨rfl,hb⟩
 have H1:=Lh (H0.out.next hb);clear H0 hb v0 HT;go_wp2_with fail
 go_ret
 exact ⟨rfl,H1.out.bel⟩
theorem vlen_ok:VLenOk:=by
 intro m l n c0 c1 c2 c3 c4 c5 c6 c7 w hV hn hS
 obtain ⟨p,q,T,P,a,cap,hst,h7,e⟩:=hS.opened;obtain ⟨hm50,hl16,hr50⟩:=hV.small hn;have hsz:=hst.size;have hel:=hst.docR;simp only [vcL,List.cons.injEq,and_true] at e
 obtain ⟨rfl,rfl,rfl,rfl,rfl,rfl,rfl,rfl⟩:=e;have H0:=Lh (Vb8.start w [.pointer p,.pointer q,.int .i64 (cnt P),.slice a l.length cap,.int .i64 (m.length:Int),.int .i64 (nL (idsO m)),.complex .f64 (fl (cL (idsO m))) (fl (sL (idsO m))),.complex .f64 (fl (rL (idsO m))) (fl (iL (idsO m)))]);have HT:=Lh (fun W h=>aliveRow_any (p:=p) (T:=T) W (hst.tr.next h));rw [rkL_len,←hel,←alive_els];generalize T.alive=al at *
 clear hS hst h7 hel hsz;have v0:=H0.out.bv.cell 0 rfl
 go_enter Tryz.func129,Tryz.ntmps129
 go_wp2_with fail;refine (HT.out _ H0.out.bel).mono ?_;rintro e w1 ⟨rfl,hb⟩
 have H1:=Lh (H0.out.next hb);clear H0 hb v0 HT;go_wp2_with fail
 go_ret
 exact ⟨rfl,H1.out.bel⟩
theorem vseq_ok:VSeqOk:=by
 intro m l n c0 c1 c2 c3 c4 c5 c6 c7 w hV hn hS
 obtain ⟨p,q,T,P,a,cap,hst,h7,e⟩:=hS.opened;obtain ⟨hm50,hl16,hr50⟩:=hV.small hn;have hsz:=hst.size;have hel:=hst.docR;simp only [vcL, List.cons.injEq, and_true] at e
 obtain ⟨rfl,rfl,rfl,rfl,rfl,rfl,rfl,rfl⟩:=e;have H0:=Lh (Vb8.start w [.pointer p,.pointer q,.int .i64 (cnt P),.slice a l.length cap,.int .i64 (m.length:Int),.int .i64 (nL (idsO m)),.complex .f64 (fl (cL (idsO m))) (fl (sL (idsO m))),.complex .f64 (fl (rL (idsO m))) (fl (iL (idsO m)))]);generalize (m.length:Int)=M at *
 clear hS hst h7 hel hsz;have v0 := H0.out.bv.c8
 go_enter Tryz.func119,Tryz.ntmps119
 go_wp2_with fail
 go_ret
 exact ⟨rfl,H0.out.bel⟩
theorem vtally_ok:VTallyOk:=by
 intro m l n c0 c1 c2 c3 c4 c5 c6 c7 w hV hn hS
 obtain ⟨p,q,T,P,a,cap,hst,h7,e⟩:=hS.opened;obtain ⟨hm50,hl16,hr50⟩:=hV.small hn;have hsz:=hst.size;have hel:=hst.docR;simp only [vcL, List.cons.injEq, and_true] at e
 obtain ⟨rfl,rfl,rfl,rfl,rfl,rfl,rfl,rfl⟩:=e;have sc:=st_complex;have H0:=Lh (Vc8.start w [.pointer p,.pointer q,.int .i64 (cnt P),.slice a l.length cap,.int .i64 (m.length:Int),.int .i64 (nL (idsO m)),.complex .f64 (fl (cL (idsO m))) (fl (sL (idsO m))),.complex .f64 (fl (rL (idsO m))) (fl (iL (idsO m)))] [.int .i64 (nL (idsO m)),.complex .f64 (fl (cL (idsO m))) (fl (sL (idsO m))),.complex .f64 (fl (rL (idsO m))) (fl (iL (idsO m)))] 41);generalize nL (idsO m)=t0 at *
 generalize fl (cL (idsO m))=x1 at *
 generalize fl (sL (idsO m))=x2 at *
 generalize fl (rL (idsO m))=x3 at *
 generalize fl (iL (idsO m))=x4 at *
 clear hS hst h7 hel hsz;have v0 := H0.out.bv.c8
 go_enter Tryz.func136,Tryz.ntmps136
 go_wp2_with fail
 exact bodyPost_ret (by simp [results, Tryz.results136, go_sem]) rfl ⟨rfl,H0.out.bel⟩
theorem vbefore_ok:VBeforeOk:=by
 intro m l n i j c0 c1 c2 c3 c4 c5 c6 c7 w hV hn hS
 obtain ⟨p,q,T,P,a,cap,hst,h7,e⟩:=hS.opened;obtain ⟨hm50,hl16,hr50⟩:=hV.small hn;have hsz:=hst.size;have hel:=hst.docR;simp only [vcL, List.cons.injEq, and_true] at e
 obtain ⟨rfl,rfl,rfl,rfl,rfl,rfl,rfl,rfl⟩:=e;have H0:=Lh (Vc8.start w [.pointer p,.pointer q,.int .i64 (cnt P),.slice a l.length cap,.int .i64 (m.length:Int),.int .i64 (nL (idsO m)),.complex .f64 (fl (cL (idsO m))) (fl (sL (idsO m))),.complex .f64 (fl (rL (idsO m))) (fl (iL (idsO m)))] [i,j] 71);have HF:=Lh (fun W h=>findO_ok (N:=130) (by omega) m i j p q T P W hm50 hV.ok (hst.next h));have HR:=Lh (fun k (hk:k≤9223372036854775807) W h=>rank_any (p:=p) (T:=T) k W (hst.tr.next h) (by omega) hk);have HE:=Lh (fun k=>rank_els T k);rw [hel] at HE;have HB:=Lh (show fnd (elB i j) (docR m) 0≤130 from by
  have hr:(docR m).length≤130:=by rw [docR_len]; exact hr50
  rcases fnd_spec (elB i j) (docR m) 0 with ⟨e,_⟩ | ⟨k,hk,e,_⟩
  ·rw [e]; omega
  ·rw [e]; omega)
 have HN:=Lh (fun k (hk:k≤0)=>rkL_neg (docR m) (i:=k) hk);generalize docR m=R at *
 generalize fnd (elB i j) R 0=f at *
 clear hS hst h7 hel hsz;obtain ⟨v0,v1,v2⟩:=H0.out.bv.c3;have y0 := H0.out.bx.c2;by_cases hf:0≤f
 ·have hd:decide (0≤f)=true:=decide_eq_true hf
  rw [hd];rw [hd] at HF;have HRf:=Lh (HR.out f (by have:=HB.out; omega));rw [HE.out f] at HRf;clear HR HE HN HB hf hd
  go_enter Tryz.func191,Tryz.ntmps191
  go_wp2_with fail;refine (HF.out _ H0.out.bel).mono ?_;rintro e w1 ⟨rfl,hb⟩
  have H1:=Lh (H0.out.next hb);clear H0 hb v0 v1 v2 y0 HF;have v0:=H1.out.bv.cell 0 rfl;go_wp2_with fail;refine (HRf.out _ H1.out.bel).mono ?_;rintro e w2 ⟨rfl,hb⟩
  have H2:=Lh (H1.out.next hb);clear H1 hb v0;go_wp2_with fail
  go_ret2
  exact ⟨rfl,H2.out.bel⟩
 ·have hd:decide (0≤f)=false:=decide_eq_false hf
  rw [hd];rw [hd] at HF;rw [HN.out f (by omega)];clear HR HE HN HB hf hd
  go_enter Tryz.func191,Tryz.ntmps191
  go_wp2_with fail;refine (HF.out _ H0.out.bel).mono ?_;rintro e w1 ⟨rfl,hb⟩
  have H1:=Lh (H0.out.next hb);clear H0 hb v0 v1 v2 y0 HF;go_wp2_with fail
  go_ret2
  exact ⟨rfl,H1.out.bel⟩
theorem select_no {p:Option Addr} {T:Tr} (k:Int) (w:World) (h:Is w p T) (hk:¬ (0≤k∧k<T.alive)):
  Calls Tryz.prog 216 #[.agg #[.pointer p],k] w (Rt (.tuple #[.int .i64 (T.size:Int),.bool false]) w):=by
 have hb0:=(Below.refl w.heap.size w).alloc (Nat.le_refl _) (.cells #[.pointer p] 30);have H0:=Lh (And.intro (h.next hb0) (And.intro hb0 (Blk.start w [.pointer p] 30)));clear h hb0;by_cases hk0:k<0
 ·have hc0:=H0.out.2.2.cell 0 rfl
  go_enter Tryz.func216,Tryz.ntmps216
  go_wp2_with fail;refine (len_any _ H0.out.1).mono ?_;rintro e w1 ⟨rfl,hb⟩
  have HB:=Lh (H0.out.2.1.trans (hb.mono H0.out.2.1.size));clear H0 hb hc0;go_wp2_with fail
  go_ret2
  exact ⟨rfl,HB.out⟩
 ·have hc0:=H0.out.2.2.cell 0 rfl
  have hkk:(T.alive:Int)≤k:=by omega
  go_enter Tryz.func216,Tryz.ntmps216
  go_wp2_with fail;refine (aliveRow_any _ H0.out.1).mono ?_;rintro e w1 ⟨rfl,hb⟩
  have H1:=Lh (And.intro (H0.out.1.next hb) (And.intro (H0.out.2.1.trans (hb.mono H0.out.2.1.size)) (H0.out.2.2.next hb)));clear H0 hb hc0;have hc0:=H1.out.2.2.cell 0 rfl;go_wp2_with fail;refine (len_any _ H1.out.1).mono ?_;rintro e w2 ⟨rfl,hb⟩
  have HB:=Lh (H1.out.2.1.trans (hb.mono H1.out.2.1.size));clear H1 hb hc0;go_wp2_with fail
  go_ret2
  exact ⟨rfl,HB.out⟩
theorem vnamed_ok:VNamedOk:=by
 intro m l n k c0 c1 c2 c3 c4 c5 c6 c7 w hV hn hk0 hk1 hS
 obtain ⟨p,q,T,P,a,cap,hst,h7,e⟩:=hS.opened;obtain ⟨hm50,hl16,hr50⟩:=hV.small hn;have hsz:=hst.size;have hel:=hst.docR;simp only [vcL, List.cons.injEq, and_true] at e
 obtain ⟨rfl,rfl,rfl,rfl,rfl,rfl,rfl,rfl⟩:=e;have H0:=Lh (Vc8.start w [.pointer p,.pointer q,.int .i64 (cnt P),.slice a l.length cap,.int .i64 (m.length:Int),.int .i64 (nL (idsO m)),.complex .f64 (fl (cL (idsO m))) (fl (sL (idsO m))),.complex .f64 (fl (rL (idsO m))) (fl (iL (idsO m)))] [.int .i64 0,.int .i64 0] 71);have hal:T.alive=((docR m).map El.al).sum:=by rw [←hel]; exact alive_els T
 by_cases hin:0≤k∧k<T.alive
 rotate_left
 ·have HS:=Lh (fun W h=>select_no (p:=p) (T:=T) k W (hst.tr.next h) hin)
  rw [nam_none (by rw [←hal]; exact hin)]
  show Calls _ _ _ _ fun r w'=>r=.returned (.tuple #[.agg #[.int .i64 0,.int .i64 0],.bool false])∧_
  have H1:=Lh (show Vc8 w _ [.int .i64 0,.int .i64 0] 71 (setN _ (w.heap.size+1) 0 [.int .i64 0,.int .i64 0]) from H0.out.putX [.int .i64 0,.int .i64 0]);clear hS hst h7 hel hsz hal hin H1;have v0:=H0.out.bv.cell 0 rfl
  go_enter Tryz.func181,Tryz.ntmps181
  go_wp2_with fail;refine (HS.out _ H0.out.bel).mono ?_;rintro e w1 ⟨rfl,hb⟩
  have H1:=Lh (H0.out.next hb);have H2:=Lh (show Vc8 w _ [.int .i64 0,.int .i64 0] 71 (setN w1 (w.heap.size+1) 0 [.int .i64 0,.int .i64 0]) from H1.out.putX [.int .i64 0,.int .i64 0]);clear H0 hb v0 HS;have z0 := H1.out.bx.c2;have fz0 := H1.out.bx.f2;obtain ⟨y0,y1⟩:=H2.out.bx.c2;go_wp2_with fail
  exact bodyPost_ret (by simp only [setN] at y0 y1; simp [results, Tryz.results181, go_sem, y0, y1]) rfl ⟨rfl,H2.out.bel⟩
 ·obtain ⟨x,hx,hxd,hnm⟩:=nam_some (L:=docR m) hin.1 (by rw [←hal]; exact hin.2)
  have hfl:=nam_flag hV.ok hin.1 (by rw [←hal]; exact hin.2);rw [hfl,hnm];have HS:=Lh (fun W h=>select_any (p:=p) (T:=T) k W (hst.tr.next h) (by omega) hin.1 hin.2);rw [sel_els T k hin.1 hin.2,hel] at HS;have hlt:slL (docR m) k.toNat<T.size:=by
   have:=(List.getElem?_eq_some_iff.1 hx).1;rw [docR_len,←hsz] at this; exact this
  have HA:=Lh (fun W h=>At_any (p:=p) (T:=T) (slL (docR m) k.toNat) x W (hst.tr.next h) (by omega) hlt (by rw [hel]; exact hx))
  show Calls _ _ _ _ fun r w'=>r=.returned (.tuple #[.agg #[x.c,x.s],.bool true])∧_
  generalize slL (docR m) k.toNat=i at *
  clear hS hst h7 hel hsz hal hin hfl hnm hx hlt hxd;have v0:=H0.out.bv.cell 0 rfl
  go_enter Tryz.func181,Tryz.ntmps181
  go_wp2_with fail;refine (HS.out _ H0.out.bel).mono ?_;rintro e w1 ⟨rfl,hb⟩
  have H1:=Lh (H0.out.next hb);clear H0 hb v0 HS;have v0:=H1.out.bv.cell 0 rfl;go_wp2_with fail;refine (HA.out _ H1.out.bel).mono ?_;rintro e w2 ⟨rfl,hb⟩
  have hbA:Below w2.heap.size w2 (w2.alloc (.cells x 322)):=bA;have H2:=Lh ((H1.out.next hb).next hbA);have H3:=Lh (show Vc8 w _ [x.c,x.s] 71 (setN (w2.alloc (.cells x 322)) (w.heap.size+1) 0 [x.c,x.s]) from H2.out.putX [x.c,x.s]);have hX:=Blk.start w2 x 322;have e0 := hX.c2;clear H1 hb v0 HA hbA hX;generalize hWA:World.alloc _ _=W2 at *
  have z0 := H2.out.bx.c2;have fz0 := H2.out.bx.f2;obtain ⟨y0,y1⟩:=H3.out.bx.c2;go_wp2_with fail
  exact bodyPost_ret (by simp only [setN] at y0 y1; simp [results, Tryz.results181, go_sem, y0, y1]) rfl ⟨rfl,H3.out.bel⟩
end Go.Proofs.YtemicfjmidohfaaGreatDoor
