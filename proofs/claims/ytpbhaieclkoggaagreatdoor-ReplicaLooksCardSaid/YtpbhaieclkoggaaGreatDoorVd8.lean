import Derived.Test.YtpbhaieclkoggaaGreatDoorRq
import Derived.Test.YtpbhaieclkoggaaGreatDoorRt8
import Derived.Test.YtpbhaieclkoggaaGreatDoorAwakeB
set_option maxRecDepth 100000
set_option maxHeartbeats 12800000
namespace Go.Proofs.YtpbhaieclkoggaaGreatDoor
open Go Go.Proofs Go.RowKit
def idsO (m:List Oq):List (Int×Int):=(m.filter fun x=>decide (x.k=0)).map fun x=>(x.c,x.s)
theorem ids_take {m:List Oq} {k:Nat} (h:k<m.length):idsO (m.take (k+1))=if m[k].k=0 then idsO (m.take k)++[(m[k].c,m[k].s)] else idsO (m.take k):=by
 unfold idsO
 rw [List.take_succ_eq_append_getElem h,List.filter_append,List.map_append];by_cases hk:m[k].k=0
 ·rw [if_pos hk]; simp [hk]
 ·rw [if_neg hk]; simp [hk]
theorem ids_may {m:List Oq} (h:RmO m):Mays (idsO m):=by
 intro x hx
 unfold idsO at hx
 obtain ⟨y,hy,rfl⟩:=List.mem_map.1 hx;exact h y (List.mem_filter.1 hy).1
theorem ids_len (m:List Oq):(idsO m).length≤m.length:=by
 unfold idsO; rw [List.length_map]; exact List.length_filter_le _ _
structure IsV (W:World) (m l:List Oq) (cs:List Value):Prop where
 ex:∃ (p q:Option Addr) (T:Tr) (P:Pt) (s:Value),StO W m p q T P∧IsP7 W s l∧cs=[.pointer p,.pointer q,.int .i64 (cnt P),s,.int .i64 (m.length:Int),.int .i64 (nL (idsO m)),.complex .f64 (fl (cL (idsO m))) (fl (sL (idsO m))),.complex .f64 (fl (rL (idsO m))) (fl (iL (idsO m)))]
theorem IsV.next {W W':World} {m l:List Oq} {cs:List Value} (h:IsV W m l cs) (hb:Below W.heap.size W W'):IsV W' m l cs:=by
 obtain ⟨p,q,T,P,s,h1,h2,h3⟩:=h.ex;exact ⟨p,q,T,P,s,h1.next hb,h2.next hb,h3⟩
theorem IsV.one {W:World} {m l:List Oq} {cs:List Value} (h:IsV W m l cs):∀ u∈cs,u.oneCell'=true:=by
 obtain ⟨p,q,T,P,s,h1,h2,rfl⟩:=h.ex;obtain ⟨a,c,rfl,-,-⟩:=h2.form;intro u hu
 simp only [List.mem_cons,List.not_mem_nil,or_false] at hu
 rcases hu with rfl | rfl | rfl | rfl | rfl | rfl | rfl | rfl <;> rfl
def IsVC (W:World) (v:Value) (L:List Chg):Prop:=Sl 109 6 chgL W v L
theorem IsVC.next {W W':World} {v:Value} {L:List Chg} (h:IsVC W v L) (hb:Below W.heap.size W W'):IsVC W' v L:=Sl.next h hb
def VTextOk:Prop:=∀ (m l:List Oq) (n:Nat) (c0 c1 c2 c3 c4 c5 c6 c7:Value) (w:World),VOk m l n→n≤50→IsV w m l [c0,c1,c2,c3,c4,c5,c6,c7]→Tabs w→Calls Tryz.prog 37 #[.agg #[c0,c1,c2,c3,c4,c5,c6,c7]] w fun r w'=>r=.returned (.string (txtS (docR m)))∧Below w.heap.size w w'
def VLenOk:Prop:=∀ (m l:List Oq) (n:Nat) (c0 c1 c2 c3 c4 c5 c6 c7:Value) (w:World),VOk m l n→n≤50→IsV w m l [c0,c1,c2,c3,c4,c5,c6,c7]→Calls Tryz.prog 38 #[.agg #[c0,c1,c2,c3,c4,c5,c6,c7]] w fun r w'=>r=.returned (.int .i64 (rkL (docR m) ((docR m).length:Int):Int))∧Below w.heap.size w w'
def VSeqOk:Prop:=∀ (m l:List Oq) (n:Nat) (c0 c1 c2 c3 c4 c5 c6 c7:Value) (w:World),VOk m l n→n≤50→IsV w m l [c0,c1,c2,c3,c4,c5,c6,c7]→Calls Tryz.prog 39 #[.agg #[c0,c1,c2,c3,c4,c5,c6,c7]] w fun r w'=>r=.returned (.int .i64 (m.length:Int))∧Below w.heap.size w w'
def VWaitOk:Prop:=∀ (m l:List Oq) (n:Nat) (c0 c1 c2 c3 c4 c5 c6 c7:Value) (w:World),VOk m l n→n≤50→IsV w m l [c0,c1,c2,c3,c4,c5,c6,c7]→Calls Tryz.prog 35 #[.agg #[c0,c1,c2,c3,c4,c5,c6,c7]] w fun r w'=>∃ s,r=.returned s∧IsP7 w' s l∧Below w.heap.size w w'
def VTallyOk:Prop:=∀ (m l:List Oq) (n:Nat) (c0 c1 c2 c3 c4 c5 c6 c7:Value) (w:World),VOk m l n→n≤50→IsV w m l [c0,c1,c2,c3,c4,c5,c6,c7]→Calls Tryz.prog 40 #[.agg #[c0,c1,c2,c3,c4,c5,c6,c7]] w fun r w'=>r=.returned (.agg #[.int .i64 (nL (idsO m)),.complex .f64 (fl (cL (idsO m))) (fl (sL (idsO m))),.complex .f64 (fl (rL (idsO m))) (fl (iL (idsO m)))])∧Below w.heap.size w w'
def VBeforeOk:Prop:=∀ (m l:List Oq) (n:Nat) (a b:Int) (c0 c1 c2 c3 c4 c5 c6 c7:Value) (w:World),VOk m l n→n≤50→IsV w m l [c0,c1,c2,c3,c4,c5,c6,c7]→Calls Tryz.prog 91 #[.agg #[c0,c1,c2,c3,c4,c5,c6,c7],.agg #[a,b]] w fun r w'=>r=.returned (.tuple #[.int .i64 (rkL (docR m) (fnd (elB a b) (docR m) 0):Int),.bool (decide (0≤fnd (elB a b) (docR m) 0))])∧Below w.heap.size w w'
def VNamedOk:Prop:=∀ (m l:List Oq) (n:Nat) (k:Int) (c0 c1 c2 c3 c4 c5 c6 c7:Value) (w:World),VOk m l n→n≤50 → -9223372036854775808≤k→k≤9223372036854775807→IsV w m l [c0,c1,c2,c3,c4,c5,c6,c7]→Calls Tryz.prog 89 #[.agg #[c0,c1,c2,c3,c4,c5,c6,c7],k] w fun r w'=>r=.returned (.tuple #[.agg #[.int .i64 (namC (docR m) k).1,.int .i64 (namC (docR m) k).2],.bool (!noneB (namC (docR m) k).1 (namC (docR m) k).2)])∧Below w.heap.size w w'
def VRemoteOk:Prop:=∀ (m l:List Oq) (n:Nat) (o:Oq) (c0 c1 c2 c3 c4 c5 c6 c7:Value) (w:World),VOk m l n→n≤50→IsV w m l [c0,c1,c2,c3,c4,c5,c6,c7]→Calls Tryz.prog 54 #[.agg #[c0,c1,c2,c3,c4,c5,c6,c7],.agg #[o.k,o.c,o.s,o.a,o.n,.int .i32 o.ch]] w fun r w'=>Below w.heap.size w w'∧∃ d0 d1 d2 d3 d4 d5 d6 d7 lc,r=.returned (.tuple #[.agg #[d0,d1,d2,d3,d4,d5,d6,d7],lc,.int .i64 (remE m l o)])∧IsV w' (remT m l o).1 (remT m l o).2.1 [d0,d1,d2,d3,d4,d5,d6,d7]∧IsVC w' lc (remT m l o).2.2
def VInsertOk:Prop:=∀ (m l:List Oq) (n:Nat) (site at_ ch:Int) (lo : -2147483648≤ch) (hi:ch≤2147483647) (c0 c1 c2 c3 c4 c5 c6 c7:Value) (w:World),VOk m l n→n≤50 → -9223372036854775808≤at_→at_≤9223372036854775807→IsV w m l [c0,c1,c2,c3,c4,c5,c6,c7]→Calls Tryz.prog 43 #[.agg #[c0,c1,c2,c3,c4,c5,c6,c7],site,at_,.int .i32 ch] w fun r w'=>Below w.heap.size w w'∧∃ d0 d1 d2 d3 d4 d5 d6 d7 lc x,x=opP (inE8 m l site at_ ch lo hi) (inV8 m l site at_ ch lo hi)∧r=.returned (.tuple #[.agg #[d0,d1,d2,d3,d4,d5,d6,d7],.agg #[x.k,x.c,x.s,x.a,x.n,.int .i32 x.ch],lc,.int .i64 (inE8 m l site at_ ch lo hi)])∧IsV w' (inT8 m l site at_ ch lo hi).1 (inT8 m l site at_ ch lo hi).2.1 [d0,d1,d2,d3,d4,d5,d6,d7]∧IsVC w' lc (inT8 m l site at_ ch lo hi).2.2
def VDeleteOk:Prop:=∀ (m l:List Oq) (n:Nat) (k:Int) (c0 c1 c2 c3 c4 c5 c6 c7:Value) (w:World),VOk m l n→n≤50 → -9223372036854775808≤k→k≤9223372036854775807→IsV w m l [c0,c1,c2,c3,c4,c5,c6,c7]→Calls Tryz.prog 45 #[.agg #[c0,c1,c2,c3,c4,c5,c6,c7],k] w fun r w'=>Below w.heap.size w w'∧∃ d0 d1 d2 d3 d4 d5 d6 d7 lc x,x=opP (deE8 m l k) (deV8 m k)∧r=.returned (.tuple #[.agg #[d0,d1,d2,d3,d4,d5,d6,d7],.agg #[x.k,x.c,x.s,x.a,x.n,.int .i32 x.ch],lc,.int .i64 (deE8 m l k)])∧IsV w' (deT8 m l k).1 (deT8 m l k).2.1 [d0,d1,d2,d3,d4,d5,d6,d7]∧IsVC w' lc (deT8 m l k).2.2
theorem ref8Text_any (m:List Oq) (hm:m.length≤1000) (g:Gd m) (vm vl:Value) (w:World) (hL:IsO w vm m):
  Calls Tryz.prog 26 #[.agg #[vm,vl]] w fun e w'=>e=.returned (.string (txtS (docR m)))∧Below w.heap.size w w':=by
 have HF:=Lh (fun (u v:Value) (W:World) (h:IsO W u m)=>ref8List_any m hm g u v W h);have HL:=Lh hL;have hdl:(docR m).length≤m.length:=by rw [docR_len]; exact row_len g
 have HT:=Lh (fun v W (h:IsE W v (docR m))=>refText_any (docR m) v W h (by omega));generalize docR m=L at *
 generalize txtS L=tx at *
 have H0:=Lh (V8.start w vm vl);have x0 := H0.out.bv.c2;clear hL
 go_enter Tryz.func26,Tryz.ntmps26
 go_wp2_with (go_at_call 27; refine (HF.out _ _ _ (HL.out.next H0.out.bel)).mono ?_; rintro e w1 ⟨v3,rfl,hE,hb⟩; refine Hid.out ?_)
 have HB:=Lh (H0.out.bel.trans (hb.mono H0.out.bel.size));have HE:=Lh hE;clear hE hb H0 x0;refine Lh ?_;go_wp2_with (go_at_call 72; refine (HT.out _ _ HE.out).mono ?_; rintro e w2 ⟨rfl,hb⟩)
 go_ret
 exact ⟨rfl,HB.out.trans (hb.mono HB.out.size)⟩
def CC (X:World) (g k:Nat) (y:Chg):Prop:=
 X.cell? ⟨g,k * 6,none⟩=some (.int .i64 y.q)∧X.cell? ⟨g,k * 6+1,none⟩=some (.int .i64 y.a)∧X.cell? ⟨g,k * 6+2,none⟩=some (.int .i64 y.c)∧X.cell? ⟨g,k * 6+3,none⟩=some (.int .i64 y.s)∧X.cell? ⟨g,k * 6+4,none⟩=some (.int .i32 y.ch)∧X.cell? ⟨g,k * 6+5,none⟩=some (.bool y.d)
theorem chg_cell {t:TypeId} {W:World} {a:Option Addr} {n cap:Nat} {L:List Chg} (h:Sl t 6 chgL W (.slice a n cap) L) (k:Nat) (hk:k<L.length):∃ g,a=some ⟨g,0,none⟩∧g<W.heap.size∧∀ X,Below W.heap.size W X→CC X g k L[k]:=by
 obtain ⟨g,e,hg,hj⟩:=Sl.cell chgL_len h k hk;refine ⟨g,e,hg,fun X hb=>?_⟩;have hj':∀ j,j<6→X.cell? ⟨g,k * 6+j,none⟩=(chgL L[k])[j]? := fun j h=>by rw [hb.cell (show (⟨g,k * 6+j,none⟩:Addr).block<_ from hg)]; exact hj j h
 exact ⟨hj' 0 (by omega),hj' 1 (by omega),hj' 2 (by omega),hj' 3 (by omega),hj' 4 (by omega),hj' 5 (by omega)⟩
structure Ch8 (w:World) (lc vc:Value) (L:List Chg) (W:World):Prop where
 bel:Below w.heap.size w W
 ic:IsVC W lc L
 rc:IsC W vc L
theorem Ch8.next {w:World} {lc vc:Value} {L:List Chg} {W W':World} (h:Ch8 w lc vc L W) (hb:Below W.heap.size W W'):Ch8 w lc vc L W':=⟨h.bel.trans (hb.mono h.bel.size),h.ic.next hb,h.rc.next hb⟩
theorem changes_any (L:List Chg) (lc vc:Value) (w:World) (h1:IsVC w lc L) (h2:IsC w vc L):
  Calls Tryz.prog 13 #[lc,vc] w fun e w'=>e=.returned (.bool true)∧Below w.heap.size w w':=by
 obtain ⟨a1,p1,rfl,e1,e2⟩:=h1.form;obtain ⟨a2,p2,rfl,e3,e4⟩:=h2.form;have H0:=Lh (show Ch8 w (.slice a1 L.length p1) (.slice a2 L.length p2) L w from ⟨Below.refl _ _,h1,h2⟩);clear h1 h2
 go_enter Tryz.func13,Tryz.ntmps13
 go_wp2_with fail
 go_loopg [14] L.length (fun g ti wr=>∃ k:Nat,k≤L.length∧g=L.length-k∧ti=.int .i64 (k:Int)∧Ch8 w (.slice a1 L.length p1) (.slice a2 L.length p2) L wr)
 case atStart=>exact ⟨0,Nat.zero_le _,rfl,rfl,H0.out⟩
 case round=>
  obtain ⟨k,hk,rfl,rfl,hI⟩:=hrel;clear H0;by_cases hlt:k<L.length
  ·obtain ⟨g1,rfl,hg1,hC1⟩:=chg_cell hI.ic k hlt
   obtain ⟨g2,rfl,hg2,hC2⟩:=chg_cell hI.rc k hlt;have HC2:=Lh (fun (X:World) (h:IsC X (.slice (some ⟨g2,0,none⟩) L.length p2) L)=>show CC X g2 k L[k] from by
    obtain ⟨g',e,_,hh⟩:=chg_cell h k hlt
    cases e
    exact hh X (Below.refl _ _))
   generalize L[k]=x at *
   have HI:=Lh hI;obtain ⟨x0,x1,x2,x3,x4,x5⟩:=hC1 wr (Below.refl _ _);have hbX:Below wr.heap.size wr (wr.alloc (.cells #[x.q,x.a,x.c,x.s,.int .i32 x.ch,.bool x.d] 109)):=bA;have HI1:=Lh (hI.next hbX);have hbx:Blk (wr.alloc (.cells #[x.q,x.a,x.c,x.s,.int .i32 x.ch,.bool x.d] 109)) wr.heap.size (chgL x) 109:=Blk.startAt rfl;clear hC1 hC2 hI;go_wp2_with fail
   generalize wr.alloc (.cells #[x.q,x.a,x.c,x.s,.int .i32 x.ch,.bool x.d] 109)=w2 at *
   have hdum:=trivial;clear x0 x1 x2 x3 x4 x5 hbX HI;refine rgH (fun W=>Cc6 W wr.heap.size x.q x.a x.c x.s (.int .i32 x.ch) (.bool x.d) (W.cell? ⟨g2,k * 6,none⟩=some (.int .i64 x.q)∧W.cell? ⟨g2,k * 6+1,none⟩=some (.int .i64 x.a)∧W.cell? ⟨g2,k * 6+2,none⟩=some (.int .i64 x.c)∧W.cell? ⟨g2,k * 6+3,none⟩=some (.int .i64 x.s)∧W.cell? ⟨g2,k * 6+4,none⟩=some (.int .i32 x.ch)∧W.cell? ⟨g2,k * 6+5,none⟩=some (.bool x.d)∧Ch8 w (.slice (some ⟨g1,0,none⟩) L.length p1) (.slice (some ⟨g2,0,none⟩) L.length p2) L W∧Blk W wr.heap.size (chgL x) 109)) (let h:=HI1.out.next bdq; let b:=hbx.next bdq; let c:=HC2.out _ h.rc; (b.d6 ⟨c.1,c.2.1,c.2.2.1,c.2.2.2.1,c.2.2.2.2.1,c.2.2.2.2.2,h,b⟩)) fun hH=>?_
   clear hdum HI1 hbx;refine tq 0 (.pointer (some ⟨wr.heap.size,0,none⟩)) hH ?_;refine tq 1 x.q hH ?_;refine tq 2 (.pointer (some ⟨wr.heap.size,1,none⟩)) hH ?_;refine tq 3 x.a hH ?_;refine tq 4 (.pointer (some ⟨wr.heap.size,2,none⟩)) hH ?_;refine tq 5 (.agg #[x.c,x.s]) hH ?_;refine tq 7 (.pointer (some ⟨wr.heap.size,4,none⟩)) hH ?_;refine tq 8 (.int .i32 x.ch) hH ?_;refine tq 9 (.pointer (some ⟨wr.heap.size,5,none⟩)) hH ?_;refine tq 10 (.bool x.d) hH ?_;refine tq 12 (.slice ((some ⟨g2,0,none⟩)) L.length p2) hH ?_;refine tq 13 (.int .i64 ((k:Int))) hH ?_;refine tq 14 (.pointer (some ⟨g2,k * 6,none⟩)) hH ?_;refine tq 15 (.agg #[x.q,x.a,x.c,x.s,.int .i32 x.ch,.bool x.d]) hH ?_;refine rd1 6 (by kernel_rfl) rfl fun KK hK=>?_
   go_simp
   refine (of_any x.c x.s _).mono ?_
   rintro e' u1 ⟨rfl,hb⟩
   go_wp2_with fail
   refine hK.out _ _ ((let h:=hH.2.2.2.2.2.2.2.2.2.2.2.2.1.next hb; let b:=hH.2.2.2.2.2.2.2.2.2.2.2.2.2.next hb; let c:=HC2.out _ h.rc; (b.d6 ⟨c.1,c.2.1,c.2.2.1,c.2.2.2.1,c.2.2.2.2.1,c.2.2.2.2.2,h,b⟩))) ?_;clear hK KK hH hb;intro hH
   try simp only [LAY]
   refine tq 11 (.agg #[x.q,x.a,x.c,x.s,.int .i32 x.ch,.bool x.d]) hH ?_;refine tq 16 (.bool false) hH ?_;refine dnH ?_;have HB:=Lh hH.2.2.2.2.2.2.2.2.2.2.2.2.1;clear hH;go_wp2_with fail
   go_roundg (L.length-(k+1))
   case measure=>omega
   case rel=>exact ⟨k+1,by omega,rfl,by go_num,HB.out⟩
  ·obtain rfl:k=L.length:=by omega
   have HI:=Lh hI;go_wp2_with fail
   go_ret
   exact ⟨rfl,HI.out.bel⟩
end Go.Proofs.YtpbhaieclkoggaaGreatDoor
