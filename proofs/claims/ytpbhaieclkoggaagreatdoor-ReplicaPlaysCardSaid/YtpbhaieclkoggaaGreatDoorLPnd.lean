import Derived.Test.YtpbhaieclkoggaaGreatDoorLCor
set_option maxRecDepth 100000
set_option maxHeartbeats 12800000
namespace Go.Proofs.YtpbhaieclkoggaaGreatDoor
open Go Go.Proofs Go.RowKit
def twB (o x:Oq):Bool:=sameB x o
def clB (o x:Oq):Bool:=decide (x.k=0∧o.k=0∧x.c=o.c∧x.s=o.s)
def addE (l:List Oq) (o:Oq):Int:=
 if chkE o.k o.c o.s o.a o.n o.ch≠0 then chkE o.k o.c o.s o.a o.n o.ch
 else if 0≤fnd (twB o) l 0 then 4 else if 0≤fnd (clB o) l 0 then 5 else if 16≤l.length then 7 else 0
def addL (l:List Oq) (o:Oq):List Oq:=if addE l o=0 then l++[o] else l
def nxB (m:List Oq) (x:Oq):Bool:=decide (wrongE m x≠6)
def nxI (m l:List Oq):Int:=fnd (nxB m) l 0
def topI (l:List Oq):Int:=l.foldl (fun n x=>if n<x.c then x.c else n) 0
section
variable {l:List Oq} {o:Oq}
theorem add_chk (h:chkE o.k o.c o.s o.a o.n o.ch≠0):addE l o=chkE o.k o.c o.s o.a o.n o.ch∧addL l o=l:=by
 have e:addE l o=chkE o.k o.c o.s o.a o.n o.ch:=by unfold addE; rw [if_pos h]
 exact ⟨e,by unfold addL; rw [if_neg (by rw [e]; exact h)]⟩
theorem add_tw (h:chkE o.k o.c o.s o.a o.n o.ch=0) (h1:0≤fnd (twB o) l 0):addE l o=4∧addL l o=l:=by
 have e:addE l o=4:=by unfold addE; rw [if_neg (by simp [h]),if_pos h1]
 exact ⟨e,by unfold addL; rw [if_neg (by rw [e]; decide)]⟩
theorem add_cl (h:chkE o.k o.c o.s o.a o.n o.ch=0) (h1:fnd (twB o) l 0<0) (h2:0≤fnd (clB o) l 0):addE l o=5∧addL l o=l:=by
 have e:addE l o=5:=by unfold addE; rw [if_neg (by simp [h]),if_neg (by omega),if_pos h2]
 exact ⟨e,by unfold addL; rw [if_neg (by rw [e]; decide)]⟩
theorem add_full (h:chkE o.k o.c o.s o.a o.n o.ch=0) (h1:fnd (twB o) l 0<0) (h2:fnd (clB o) l 0<0) (h3:16≤l.length):addE l o=7∧addL l o=l:=by
 have e:addE l o=7:=by unfold addE; rw [if_neg (by simp [h]),if_neg (by omega),if_neg (by omega),if_pos h3]
 exact ⟨e,by unfold addL; rw [if_neg (by rw [e]; decide)]⟩
theorem add_ok (h:chkE o.k o.c o.s o.a o.n o.ch=0) (h1:fnd (twB o) l 0<0) (h2:fnd (clB o) l 0<0) (h3:l.length<16):addE l o=0∧addL l o=l++[o]:=by
 have e:addE l o=0:=by unfold addE; rw [if_neg (by simp [h]),if_neg (by omega),if_neg (by omega),if_neg (by omega)]
 exact ⟨e,by unfold addL; rw [if_pos e]⟩
end
theorem add_len {l:List Oq} {o:Oq} (h:l.length≤16):(addL l o).length≤16:=by
 unfold addL
 split
 ·rename_i he
  have:l.length<16:=by
   rcases Nat.lt_or_ge l.length 16 with h1 | h1
   ·exact h1
   ·unfold addE at he
    split at he
    ·rename_i h2; exact absurd he h2
    ·split at he
     ·cases he
     ·split at he
      ·cases he
      ·first | omega | (split at he <;> first | cases he | omega)
  simp; omega
 ·exact h
theorem top_ge (l:List Oq):0≤topI l:=by
 have H:∀ (l:List Oq) (n:Int),n≤l.foldl (fun n x=>if n<x.c then x.c else n) n:=by
  intro l
  induction l with
  | nil=>intro n; exact Int.le_refl _
  | cons x l ih=>
   intro n
   simp only [List.foldl_cons]
   refine Int.le_trans ?_ (ih _);split <;> omega
 exact H l 0
theorem nx_lt {m l:List Oq} (h:0≤nxI m l):∃ i:Nat,nxI m l=(i:Int)∧i<l.length:=by
 rcases fnd_spec (nxB m) l 0 with ⟨h1,_⟩ | ⟨i,hi,h1,_⟩
 ·unfold nxI at h; omega
 ·exact ⟨i,by unfold nxI; rw [h1]; simp,hi⟩
def IsP7 (W:World) (v:Value) (L:List Oq):Prop:=Sl 55 6 oqL W v L
theorem IsP7.next {W W':World} {v:Value} {L:List Oq} (h:IsP7 W v L) (hb:Below W.heap.size W W'):IsP7 W' v L:=Sl.next h hb
theorem IsP7.at {W:World} {a:Option Addr} {n cap:Nat} {L:List Oq} (h:IsP7 W (.slice a n cap) L) (k:Nat) (hk:k<L.length):∃ g,a=some ⟨g,0,none⟩∧g<W.heap.size∧∀ X,Below W.heap.size W X→OC X g k L[k]:=by
 obtain ⟨g,e,hg,hj⟩:=Sl.cell oqL_len h k hk;refine ⟨g,e,hg,fun X hb=>?_⟩;have hj':∀ j,j<6→X.cell? ⟨g,k * 6+j,none⟩=(oqL L[k])[j]? := fun j h=>by rw [hb.cell (show (⟨g,k * 6+j,none⟩:Addr).block<_ from hg)]; exact hj j h
 exact ⟨hj' 0 (by omega),hj' 1 (by omega),hj' 2 (by omega),hj' 3 (by omega),hj' 4 (by omega),hj' 5 (by omega)⟩
theorem refNext_any (m l:List Oq) (hm:m.length≤1000) (vl vm:Value) (w:World) (hL:IsO w vl l) (hM:IsO w vm m):
  Calls Tryz.prog 70 #[vl,vm] w fun e w'=>e=.returned (.int .i64 (nxI m l))∧Below w.heap.size w w':=by
 have HL:=Lh hL;have HM:=Lh hM;obtain ⟨a,cap,rfl,hc1,hc2⟩:=hL.form;clear hL hM
 go_enter Tryz.func70,Tryz.ntmps70
 go_wp2_with fail
 go_loopg [5] l.length (fun g ti wr=>∃ k:Nat,k≤l.length∧g=l.length-k∧ti=.int .i64 (k:Int)∧fnd (nxB m) (l.drop k) k=nxI m l∧Below w.heap.size w wr)
 case atStart=>exact ⟨0,Nat.zero_le _,rfl,rfl,rfl,Below.refl _ _⟩
 case round=>
  obtain ⟨k,hk,rfl,rfl,hf,hb⟩:=hrel;have HB:=Lh hb;clear hb;by_cases hlt:k<l.length
  ·rw [List.drop_eq_getElem_cons hlt] at hf
   obtain ⟨g,rfl,hg,hC⟩:=HL.out.at k hlt;generalize l[k]=x at *
   obtain ⟨c0,c1,c2,c3,c4,c5⟩:=hC wr HB.out;have HF:=Lh hf;have HWR:=Lh (fun W (h:Below w.heap.size w W)=>refWrong_any m x hm vm W (HM.out.next h));clear hf hC;by_cases hw:wrongE m x=6
   ·rw [hw] at HWR
    have HX:=Lh (show nxB m x=false by simp [nxB,hw]);clear hw;go_wp2_with (go_at_call 67; refine (HWR.out _ HB.out).mono ?_; rintro e w1 ⟨rfl,hb⟩)
    go_roundg (l.length-(k+1))
    case measure=>omega
    case rel=>exact ⟨k+1,by omega,rfl,by go_num,by rw [←HF.out,fnd_no HX.out],HB.out.trans (hb.mono HB.out.size)⟩
   ·have HX:=Lh (show nxB m x=true by simp [nxB,hw])
    generalize wrongE m x=z at *
    have hz:(z==6)=false:=by simpa using hw
    clear hw;go_wp2_with (go_at_call 67; refine (HWR.out _ HB.out).mono ?_; rintro e w1 ⟨rfl,hb⟩)
    go_ret
    exact ⟨by rw [←HF.out,fnd_yes HX.out]; rfl,HB.out.trans (hb.mono HB.out.size)⟩
  ·obtain rfl:k=l.length:=by omega
   have HF:=Lh hf;clear hf;go_wp2_with fail
   go_ret
   exact ⟨by rw [←HF.out,List.drop_length]; rfl,HB.out⟩
theorem top_take {l:List Oq} {k:Nat} (h:k<l.length):topI (l.take (k+1))=if topI (l.take k)<l[k].c then l[k].c else topI (l.take k):=by
 unfold topI; rw [List.take_succ_eq_append_getElem h,List.foldl_append]; rfl
theorem refTop_any (l:List Oq) (vl:Value) (w:World) (hL:IsO w vl l):
  Calls Tryz.prog 103 #[vl] w fun e w'=>e=.returned (.int .i64 (topI l))∧Below w.heap.size w w':=by
 have HL:=Lh hL;obtain ⟨a,cap,rfl,hc1,hc2⟩:=hL.form;clear hL
 go_enter Tryz.func103,Tryz.ntmps103
 go_wp2_with fail
 go_loopg [3,4] l.length (fun g tn ti wr=>∃ k:Nat,k≤l.length∧g=l.length-k∧ti=.int .i64 (k:Int)∧tn=.int .i64 (topI (l.take k))∧Below w.heap.size w wr)
 case atStart=>exact ⟨0,Nat.zero_le _,rfl,rfl,rfl,Below.refl _ _⟩
 case round=>
  obtain ⟨k,hk,rfl,rfl,rfl,hb⟩:=hrel;have HB:=Lh hb;clear hb;by_cases hlt:k<l.length
  ·obtain ⟨g,rfl,hg,hC⟩:=HL.out.at k hlt
   have HT:=Lh (top_take hlt);generalize l[k]=x at *
   obtain ⟨c0,c1,c2,c3,c4,c5⟩:=hC wr HB.out;clear hC;generalize topI (l.take k)=t at *
   by_cases hx:t<x.c
   ·have HN:=Lh (show topI (l.take (k+1))=x.c by rw [HT.out,if_pos hx])
    go_wp2_with fail
    go_roundg (l.length-(k+1))
    case measure=>omega
    case rel=>exact ⟨k+1,by omega,rfl,by go_num,by rw [HN.out],HB.out⟩
   ·have HN:=Lh (show topI (l.take (k+1))=t by rw [HT.out,if_neg hx])
    go_wp2_with fail
    go_roundg (l.length-(k+1))
    case measure=>omega
    case rel=>exact ⟨k+1,by omega,rfl,by go_num,by rw [HN.out],HB.out⟩
  ·obtain rfl:k=l.length:=by omega
   rw [List.take_length];go_wp2_with fail
   go_ret
   exact ⟨rfl,HB.out⟩
theorem own_zero (w:World) (m:Nat) (t:TypeId):(w.alloc (.cells ⟨[]⟩ t)).ownsRow w.heap.size t m (.slice (some ⟨w.heap.size,0,none⟩) 0 0) 0 []:=
 ⟨by simp,.inr ⟨w.heap.size,0,⟨[]⟩,rfl,Nat.le_refl _,Blk.start w [] t,Nat.le_refl _,by unfold maxLen; omega,by simp,by simp⟩⟩
theorem take_news {W:World} {g n cap i:Nat} {L:List Oq} (h:IsO W (.slice (some ⟨g,0,none⟩) n cap) L):∀ W',Below W.heap.size W W'→∀ j u,((L.take i).flatMap oqL)[j]? = some u→W'.cell? ((⟨g,0,none⟩:Addr).add j)=some u:=by
 intro W' hb j u hu
 have h1:=Sl.news oqL_len (Sl.next h hb) 0 (Nat.zero_le _) j u;rw [List.drop_zero,Nat.zero_mul] at h1;refine h1 ?_;have hj:=(List.getElem?_eq_some_iff.1 hu).1;have e:(L.flatMap oqL)[j]? = ((L.take i).flatMap oqL)[j]? := by
  conv=>lhs; rw [←List.take_append_drop i L,List.flatMap_append]
  rw [List.getElem?_append_left hj]
 rw [e]; exact hu
theorem refWithout_any (l:List Oq) (i:Nat) (hi:i<l.length) (hl:l.length≤1000) (vl:Value) (w:World) (hL:IsO w vl l):
  Calls Tryz.prog 71 #[vl,.int .i64 (i:Int)] w fun e w'=>∃ v',e=.returned v'∧IsO w' v' (l.eraseIdx i)∧Below w.heap.size w w':=by
 obtain ⟨g,cap,rfl⟩:∃ g cap,vl=.slice (some ⟨g,0,none⟩) l.length cap:=by
  rcases hL with ⟨_,rfl⟩ | ⟨g,cap,cur,rfl,_⟩
  ·simp at hi
  ·exact ⟨g,cap,rfl⟩
 obtain ⟨_,_,hf,hc1,hc2⟩:=hL.form
 cases hf
 obtain ⟨j,hj⟩:∃ j,j=i+1:=⟨_,rfl⟩
 have HER:=Lh (show l.eraseIdx i=l.take i++l.drop j by rw [hj,List.eraseIdx_eq_take_drop_succ]);have HW:=Lh (show IntKind.i64.wrap ((i:Int)+1)=(j:Int) by rw [IntWalk.i64_in _ (by omega)]; omega);obtain ⟨ad,had,hnw⟩:=tail_news oqL_len hL j (by omega);have hst:=fun W=>slice_tail (P:=Tryz.prog) (t:=45) (e:=6) Tryz.underlying45 (by kernel_rfl) (some ⟨g,0,none⟩) l.length cap j (by omega) W
 rw [had] at hst;have HNW:=Lh hnw;have HST:=Lh hst;have HNH:=Lh (take_news (i:=i) hL);obtain ⟨i0,hi0,hz0,hz1,hz2⟩:=info_parts infoOq;have hW8:Below w.heap.size w w.drew:=bdq;have hdum:=trivial;have hij:i+1≤j:=by omega
 have hji:j≤i+1:=by omega
 clear had hnw hst hL hj
 go_enter Tryz.func71,Tryz.ntmps71
 go_wp2_with fail
 refine rgH (fun W=>Below w.heap.size w W) (hW8) fun hHeld=>?_
 clear hdum;generalize w.drew=W8 at *
 refine tq 1 (.slice ((some ⟨g,0,none⟩)) l.length cap) hHeld ?_;refine tq 2 (.int .i64 ((i:Int))) hHeld ?_;refine tk 3 (.slice (some ⟨g,0,none⟩) i cap) hHeld (fun w hSw=>?_) ?_
 ·(go_simp; try omega)
 try simp only [LAY]
 refine tq 5 (.slice ((some ⟨g,0,none⟩)) l.length cap) hHeld ?_;refine tq 6 (.int .i64 ((i:Int))) hHeld ?_;refine tk 7 (.int .i64 ((j:Int))) hHeld (fun w hSw=>?_) ?_
 ·(have hw:=HW.out; go_simp)
 try simp only [LAY]
 refine tk 8 (.slice (some ad) (l.length-j) (cap-j)) hHeld (fun w hSw=>?_) ?_
 ·(have hst:=HST.out; go_simp)
 try simp only [LAY]
 refine rd1 0 (by kernel_rfl) rfl fun KK hK=>?_
 go_simp
 go_wp2_with fail
 refine hK.out _ _ (hHeld.trans (((Below.refl W8.heap.size W8).alloc (Nat.le_refl _) _).mono hHeld.size)) ?_;clear hK KK hHeld;intro hHeld
 try simp only [LAY]
 have hXo:=own_zero W8 6 70;have hX9:(W8.alloc (.cells ⟨[]⟩ 70)).heap.size=W8.heap.size+1:=by simp
 have hX8:w.heap.size≤W8.heap.size:=hW8.size;have hHeld2:Below w.heap.size w (W8.alloc (.cells ⟨[]⟩ 70)):=hHeld
 change wpAnyH _ _ _ _ _ _ _ _ (W8.alloc (.cells ⟨[]⟩ 70))
 clear hHeld;have hHeld:=hHeld2;clear hHeld2;generalize (W8.alloc (.cells ⟨[]⟩ 70))=W9 at *
 generalize W8.heap.size=X at *
 refine rd1 4 (by kernel_rfl) rfl fun KK hK=>?_
 rw [if_pos (by rfl)];refine wp_append_at _ (.tmp 5) (.tmp 8) 45 rfl X 70 i0 zOq 6 48 Tryz.underlying45 hi0 hz0 hz1 hz2 rfl (by decide) _ 0 [] rfl hXo ⟨g,0,none⟩ i cap ((l.take i).flatMap oqL) rfl (by rw [flat_len oqL_len,List.length_take]; congr 1; omega) (HNH.out _ hHeld) (flat_one oq_one _) (by unfold maxLen; omega) (by omega) (by omega) ?_;intro v1 W1 ho1 hg1 _
 have hb1:Below w.heap.size _ W1:=(Below.of_grown hg1 (by omega) (fun r e=>by cases e; exact Nat.le_refl _)).mono hX8;go_wp2_with fail
 refine hK.out _ _ (hHeld.trans hb1) ?_;clear hK KK hHeld;intro hHeld
 try simp only [LAY]
 have HO1:=Lh ho1;have hs1:=hg1.size;clear ho1 hg1 hb1;refine rd1 9 (by kernel_rfl) rfl fun KK hK=>?_
 rw [if_pos (by rfl)];refine wp_append_at _ (.tmp 9) (.tmp 13) 45 rfl X 70 i0 zOq 6 48 Tryz.underlying45 hi0 hz0 hz1 hz2 rfl (by decide) _ (0+i) _ rfl HO1.out ad (l.length-j) (cap-j) ((l.drop j).flatMap oqL) rfl (by rw [flat_len oqL_len,List.length_drop]) (HNW.out _ hHeld) (flat_one oq_one _) (by unfold maxLen; omega) (by omega) (by omega) ?_;intro v2 W2 ho2 hg2 _
 have hb2:Below w.heap.size _ W2:=(Below.of_grown hg2 (by omega) (own_ge HO1.out)).mono hX8;go_wp2_with fail
 refine hK.out _ _ (hHeld.trans hb2) ?_;clear hK KK hHeld;intro hHeld
 try simp only [LAY]
 have HO2:=Lh ho2;clear ho2 hg2 hb2;refine tq 10 (v2) hHeld ?_;refine dnH ?_;have HB:=Lh hHeld;clear hHeld;go_wp2_with fail
 go_ret
 refine ⟨_,rfl,?_,HB.out⟩;have h:=HO2.out;rw [List.nil_append,←List.flatMap_append] at h;rw [HER.out];exact Sl.of (by rw [List.length_append,List.length_take,List.length_drop,show min i l.length+(l.length-j)=0+i+(l.length-j) by omega]; exact h)
theorem wp_append_sl {α:Type} {P:Program} (w:World) {o:Oper} {a:Act} {K:Act→World→Prop} {Q:Exit→Act→World→Prop} (s x:Operand) (t:TypeId)
  (ho:o.op=.call { callee:=.builtin .append,args := #[s,x],argTypes := #[t,t] })
  (base:Nat) (e:TypeId) (i:TypeInfo) (z:Value) (size bytes:Nat) (ht:P.underlying t=some (.slice e)) (hi:P.info? e=some i) (hz:i.zero=some z)
  (hsize:i.size=size) (hby:i.bytes=bytes) (hzs:z.cells.size=size) (hsz:0<size)
  (v:Value) (n:Nat) (xs:List Value) (hs:a.eval s=v) (hown:w.ownsRow base e size v n xs)
  {f:α→List Value} (hf:∀ x,(f x).length=size) (h1:∀ x,∀ u∈f x,u.oneCell'=true) (vl:Value) (l:List α) (hx:a.eval x=vl) (hl:Sl e size f w vl l)
  (h63:n+l.length≤maxLen) (hbytes:(n+l.length) * bytes≤140737488355328) (hbase:base≤w.heap.size)
  (h:∀ v' w',w'.ownsRow base e size v' (n+l.length) (xs++l.flatMap f)→w.grownBy w' v.ownBlock→K (a.put o.dst v') w'):o.wp P a w K Q:=by
 rcases hl with ⟨rfl,rfl⟩ | ⟨g,cap,cur,rfl,hg,hc,hm,hh⟩
 ·have hh:=h v w (by simpa using hown) (World.grownBy.refl _ _)
  rcases hown.2 with ⟨rfl,rfl⟩ | ⟨g,cap,cur,rfl,_,_,hc,_⟩
  ·exact wp_append_nil w s x t e ho i ht hi none 0 0 (Nat.le_refl _) hs hx hh
  ·exact wp_append_nil w s x t e ho i ht hi _ n cap hc hs hx hh
 ·have hn:=Sl.news hf (show Sl e size f w (.slice (some ⟨g,0,none⟩) l.length cap) l from .inr ⟨g,cap,cur,rfl,hg,hc,hm,hh⟩) 0 (Nat.zero_le _)
  rw [List.drop_zero,Nat.zero_mul] at hn;exact wp_append_at w s x t ho base e i z size bytes ht hi hz hsize hby hzs hsz v n xs hs hown ⟨g,0,none⟩ l.length cap (l.flatMap f) hx (flat_len hf l) hn (flat_one h1 l) h63 hbytes hbase (fun v' w' h2 h3 _=>h v' w' h2 h3)
theorem own_apart {W W':World} {b size n:Nat} {e:TypeId} {v:Value} {xs:List Value} {row:Option Nat} (h:W.ownsRow b e size v n xs) (hg:W.grownBy W' row) (hne:∀ r,v.ownBlock=some r→row≠some r):W'.ownsRow b e size v n xs:=by
 refine ⟨h.1,?_⟩;rcases h.2 with h | ⟨g,cap,cur,rfl,hb,hh,h⟩
 ·exact .inl h
 ·exact .inr ⟨g,cap,cur,rfl,hb,by rw [hg.block g (Array.getElem?_eq_some_iff.1 hh).1 (fun e'=>hne g rfl e'.symm)]; exact hh,h⟩
structure Ad7 (w:World) (o:Oq) (W:World):Prop where
 bel:Below w.heap.size w W
 bo:Blk W w.heap.size (oqL o) 70
theorem Ad7.next {w:World} {o:Oq} {W W':World} (h:Ad7 w o W) (hb:Below W.heap.size W W'):Ad7 w o W':=⟨h.bel.trans (hb.mono h.bel.size),h.bo.next hb⟩
theorem Ad7.grow {w:World} {o:Oq} {W W':World} {X:Nat} (h:Ad7 w o W) (hb:Below X W W') (hX:w.heap.size+1≤X):Ad7 w o W':=⟨h.bel.trans (hb.mono (by omega)),h.bo.below hb (by omega)⟩
theorem tw_no {o x:Oq} (h:¬ x=o):twB o x=false:=by
 unfold twB
 cases hb:sameB x o with
 | false=>rfl
 | true=>exact absurd (sameB_iff.1 hb) h
theorem refAdd_any (l:List Oq) (o:Oq) (hl:l.length≤1000) (vl:Value) (w:World) (hL:IsO w vl l):
  Calls Tryz.prog 68 #[vl,.agg #[o.k,o.c,o.s,o.a,o.n,.int .i32 o.ch]] w
   fun e w'=>∃ v',e=.returned (.tuple #[v',.int .i64 (addE l o)])∧IsO w' v' (addL l o)∧Below w.heap.size w w':=by
 have H0:=Lh (show Ad7 w o (w.alloc (.cells #[o.k,o.c,o.s,o.a,o.n,.int .i32 o.ch] 70)) from ⟨bA,Blk.start w (oqL o) _⟩);have HL:=Lh hL;obtain ⟨ad,cap,hvl,hc1,hc2⟩:=hL.form;clear hL;by_cases hck:chkE o.k o.c o.s o.a o.n o.ch=0
 rotate_left
 ·have HE:=Lh (add_chk (l:=l) hck)
  have HCK:=Lh (fun W=>refcheck_any o.k o.c o.s o.a o.n o.ch W);generalize chkE o.k o.c o.s o.a o.n o.ch=z at *
  have hz:(z==0)=false:=by simpa using hck
  clear hck hc1 hc2 hvl
  go_enter Tryz.func68,Tryz.ntmps68
  go_wp2_with (go_at_call 65; refine (HCK.out _).mono ?_; rintro e w1 ⟨rfl,hb⟩)
  exact bodyPost_ret (v:=.tuple #[vl,z]) (by simp [results,Tryz.results68,go_sem]) rfl ⟨vl,by rw [HE.out.1],by rw [HE.out.2]; exact HL.out.next (H0.out.next hb).bel,(H0.out.next hb).bel⟩
 have HCK:=Lh hck
 go_enter Tryz.func68,Tryz.ntmps68
 go_wp2_with (go_at_call 65; refine (refcheck_any _ _ _ _ _ _ _).mono ?_; rintro e w1 ⟨rfl,hb⟩; rw [hck]; refine Hid.out ?_)
 have HA:=Lh (H0.out.next hb);clear H0 hb hck;subst hvl;refine Lh ?_;go_wp2_with fail
 go_loopg [7] l.length (fun g ti wr=>∃ k:Nat,k≤l.length∧g=l.length-k∧ti=.int .i64 (k:Int)∧fnd (twB o) (l.drop k) k=fnd (twB o) l 0∧Ad7 w o wr)
 case atStart=>exact ⟨0,Nat.zero_le _,rfl,rfl,rfl,HA.out⟩
 case round=>
  obtain ⟨k,hk,rfl,rfl,hf,hA⟩:=hrel;clear HA;have HA:=Lh hA;clear hA;by_cases hlt:k<l.length
  ·rw [List.drop_eq_getElem_cons hlt] at hf
   obtain ⟨g,rfl,hg,hC⟩:=HL.out.at k hlt;generalize l[k]=x at *
   have HC:=Lh (fun (W:World) (hb:Below w.heap.size w W)=>hC W hb);have HF:=Lh hf;clear hf hC;go_wp2_with fail
   by_cases hx:x=o
   ·have hx':=hx.symm
    subst hx';clear hx;refine rgH (fun W=>W.cell? ⟨g,k * 6,none⟩=some (.int .i64 o.k)∧W.cell? ⟨g,k * 6+1,none⟩=some (.int .i64 o.c)∧W.cell? ⟨g,k * 6+2,none⟩=some (.int .i64 o.s)∧W.cell? ⟨g,k * 6+3,none⟩=some (.int .i64 o.a)∧W.cell? ⟨g,k * 6+4,none⟩=some (.int .i64 o.n)∧W.cell? ⟨g,k * 6+5,none⟩=some (.int .i32 o.ch)∧Cc6 W w.heap.size o.k o.c o.s o.a o.n (.int .i32 o.ch) (Ad7 w o W)) (let h:=HA.out.next bdq; let c:=HC.out _ h.bel; ⟨c.1,c.2.1,c.2.2.1,c.2.2.2.1,c.2.2.2.2.1,c.2.2.2.2.2,h.bo.d6 h⟩) fun hHeld=>?_
    clear HA;refine tq 0 (.slice ((some ⟨g,0,none⟩)) l.length cap) hHeld ?_;refine tq 1 (.int .i64 ((k:Int))) hHeld ?_;refine tq 2 (.pointer (some ⟨g,k * 6,none⟩)) hHeld ?_;refine tq 3 (.agg #[o.k,o.c,o.s,o.a,o.n,.int .i32 o.ch]) hHeld ?_;refine tq 4 (.agg #[o.k,o.c,o.s,o.a,o.n,.int .i32 o.ch]) hHeld ?_;refine tq 5 (.bool true) hHeld ?_;refine dnH ?_;have HA:=Lh hHeld.2.2.2.2.2.2.2.2.2.2.2.2;clear hHeld;go_wp2_with fail
    have hf:=HF.out;rw [fnd_yes (show twB o o=true from sameB_iff.2 rfl)] at hf;obtain ⟨h1,h2⟩:=add_tw HCK.out (l:=l) (by omega);exact bodyPost_ret (v:=.tuple #[.slice (some ⟨g,0,none⟩) l.length cap,.int .i64 4]) (by simp [results,Tryz.results68,go_sem]) rfl ⟨_,by rw [h1],by rw [h2]; exact HL.out.next HA.out.bel,HA.out.bel⟩
   ·have HX:=Lh (show ¬ (x.k=o.k∧x.c=o.c∧x.s=o.s∧x.a=o.a∧x.n=o.n∧x.ch=o.ch) from fun ⟨h1,h2,h3,h4,h5,h6⟩=>hx (Oq.same h1 h2 h3 h4 h5 h6))
    have HN:=Lh (tw_no hx);clear hx;refine rgH (fun W=>W.cell? ⟨g,k * 6,none⟩=some (.int .i64 x.k)∧W.cell? ⟨g,k * 6+1,none⟩=some (.int .i64 x.c)∧W.cell? ⟨g,k * 6+2,none⟩=some (.int .i64 x.s)∧W.cell? ⟨g,k * 6+3,none⟩=some (.int .i64 x.a)∧W.cell? ⟨g,k * 6+4,none⟩=some (.int .i64 x.n)∧W.cell? ⟨g,k * 6+5,none⟩=some (.int .i32 x.ch)∧Cc6 W w.heap.size o.k o.c o.s o.a o.n (.int .i32 o.ch) (Ad7 w o W)) (let h:=HA.out.next bdq; let c:=HC.out _ h.bel; ⟨c.1,c.2.1,c.2.2.1,c.2.2.2.1,c.2.2.2.2.1,c.2.2.2.2.2,h.bo.d6 h⟩) fun hHeld=>?_
    clear HA;refine tq 0 (.slice ((some ⟨g,0,none⟩)) l.length cap) hHeld ?_;refine tq 1 (.int .i64 ((k:Int))) hHeld ?_;refine tq 2 (.pointer (some ⟨g,k * 6,none⟩)) hHeld ?_;refine tq 3 (.agg #[x.k,x.c,x.s,x.a,x.n,.int .i32 x.ch]) hHeld ?_;refine tq 4 (.agg #[o.k,o.c,o.s,o.a,o.n,.int .i32 o.ch]) hHeld ?_;refine tk 5 (.bool false) hHeld (fun w hSw=>?_) ?_
    ·(go_simp; intro h1 h2 h3 h4 h5 h6; exact HX.out ⟨h1,h2,h3,h4,h5,h6⟩)
    try simp only [LAY]
    refine dnH ?_;have HA:=Lh hHeld.2.2.2.2.2.2.2.2.2.2.2.2;clear hHeld;go_wp2_with fail
    go_roundg (l.length-(k+1))
    case measure=>omega
    case rel=>exact ⟨k+1,by omega,rfl,by go_num,by rw [←HF.out,fnd_no HN.out],HA.out⟩
  ·obtain rfl:k=l.length:=by omega
   have HT:=Lh (show fnd (twB o) l 0<0 by rw [←hf,List.drop_length]; show (-1:Int)<0; omega);clear hf;go_wp2_with fail
   go_loopg [8] l.length (fun g ti wr=>∃ k:Nat,k≤l.length∧g=l.length-k∧ti=.int .i64 (k:Int)∧fnd (clB o) (l.drop k) k=fnd (clB o) l 0∧Ad7 w o wr)
   case atStart=>exact ⟨0,Nat.zero_le _,rfl,rfl,rfl,HA.out⟩
   case round=>
    obtain ⟨k,hk,rfl,rfl,hf,hA⟩:=hrel;clear HA;have HA:=Lh hA;clear hA;by_cases hlt:k<l.length
    ·rw [List.drop_eq_getElem_cons hlt] at hf
     obtain ⟨g,rfl,hg,hC⟩:=HL.out.at k hlt;generalize l[k]=x at *
     have HC:=Lh (fun (W:World) (hb:Below w.heap.size w W)=>hC W hb);have HF:=Lh hf;clear hf hC;go_wp2_with fail
     have hno:(clB o x=false→fnd (clB o) (l.drop (k+1)) (k+1)=fnd (clB o) l 0):=fun h=>by rw [←HF.out,fnd_no h]
     by_cases h0:x.k=0
     ·have he0:(x.k==0)=true:=by simpa using h0
      by_cases h1:o.k=0
      ·have he1:(o.k==0)=true:=by simpa using h1
       by_cases h2:x.c=o.c∧x.s=o.s
       ·have HQ:=Lh h2
        have HY:=Lh (show clB o x=true from decide_eq_true ⟨h0,h1,h2.1,h2.2⟩);clear h0 h1 h2 hno;refine rgH (fun W=>W.cell? ⟨g,k * 6,none⟩=some (.int .i64 x.k)∧W.cell? ⟨g,k * 6+1,none⟩=some (.int .i64 x.c)∧W.cell? ⟨g,k * 6+2,none⟩=some (.int .i64 x.s)∧W.cell? ⟨g,k * 6+3,none⟩=some (.int .i64 x.a)∧W.cell? ⟨g,k * 6+4,none⟩=some (.int .i64 x.n)∧W.cell? ⟨g,k * 6+5,none⟩=some (.int .i32 x.ch)∧Cc6 W w.heap.size o.k o.c o.s o.a o.n (.int .i32 o.ch) (Ad7 w o W)) (let h:=HA.out.next bdq; let c:=HC.out _ h.bel; ⟨c.1,c.2.1,c.2.2.1,c.2.2.2.1,c.2.2.2.2.1,c.2.2.2.2.2,h.bo.d6 h⟩) fun hHeld=>?_
        clear HA;refine tq 0 (.slice ((some ⟨g,0,none⟩)) l.length cap) hHeld ?_;refine tq 1 (.int .i64 ((k:Int))) hHeld ?_;refine tq 2 (.pointer (some ⟨g,k * 6,none⟩)) hHeld ?_;refine tq 3 (.pointer (some ⟨g,k * 6,none⟩)) hHeld ?_;refine tq 4 x.k hHeld ?_;refine tq 5 (.bool true) hHeld ?_;refine tq 6 (.bool true) hHeld ?_;refine tq 7 (.pointer (some ⟨w.heap.size,0,none⟩)) hHeld ?_;refine tq 8 o.k hHeld ?_;refine tq 9 (.bool true) hHeld ?_;refine tq 10 (.bool true) hHeld ?_;refine tq 11 (.bool true) hHeld ?_;refine tq 12 (.slice ((some ⟨g,0,none⟩)) l.length cap) hHeld ?_;refine tq 13 (.int .i64 ((k:Int))) hHeld ?_;refine tq 14 (.pointer (some ⟨g,k * 6,none⟩)) hHeld ?_;refine tq 15 (.pointer (some ⟨g,k * 6+1,none⟩)) hHeld ?_;refine tq 16 (.agg #[x.c,x.s]) hHeld ?_;refine tq 17 (.pointer (some ⟨w.heap.size,1,none⟩)) hHeld ?_;refine tq 18 (.agg #[o.c,o.s]) hHeld ?_;refine tk 19 (.bool true) hHeld (fun w hSw=>?_) ?_
        ·(go_simp; simp [HQ.out])
        try simp only [LAY]
        refine tq 20 (.bool true) hHeld ?_;refine dnH ?_;have HA:=Lh hHeld.2.2.2.2.2.2.2.2.2.2.2.2;clear hHeld;go_wp2_with fail
        have hf:=HF.out;rw [fnd_yes HY.out] at hf;obtain ⟨h1,h2⟩:=add_cl HCK.out (l:=l) HT.out (by omega);exact bodyPost_ret (v:=.tuple #[.slice (some ⟨g,0,none⟩) l.length cap,.int .i64 5]) (by simp [results,Tryz.results68,go_sem]) rfl ⟨_,by rw [h1],by rw [h2]; exact HL.out.next HA.out.bel,HA.out.bel⟩
       ·have HQ:=Lh h2
        have HN:=Lh (hno (decide_eq_false fun h=>h2 h.2.2));clear h0 h1 h2 hno;refine rgH (fun W=>W.cell? ⟨g,k * 6,none⟩=some (.int .i64 x.k)∧W.cell? ⟨g,k * 6+1,none⟩=some (.int .i64 x.c)∧W.cell? ⟨g,k * 6+2,none⟩=some (.int .i64 x.s)∧W.cell? ⟨g,k * 6+3,none⟩=some (.int .i64 x.a)∧W.cell? ⟨g,k * 6+4,none⟩=some (.int .i64 x.n)∧W.cell? ⟨g,k * 6+5,none⟩=some (.int .i32 x.ch)∧Cc6 W w.heap.size o.k o.c o.s o.a o.n (.int .i32 o.ch) (Ad7 w o W)) (let h:=HA.out.next bdq; let c:=HC.out _ h.bel; ⟨c.1,c.2.1,c.2.2.1,c.2.2.2.1,c.2.2.2.2.1,c.2.2.2.2.2,h.bo.d6 h⟩) fun hHeld=>?_
        clear HA;refine tq 0 (.slice ((some ⟨g,0,none⟩)) l.length cap) hHeld ?_;refine tq 1 (.int .i64 ((k:Int))) hHeld ?_;refine tq 2 (.pointer (some ⟨g,k * 6,none⟩)) hHeld ?_;refine tq 3 (.pointer (some ⟨g,k * 6,none⟩)) hHeld ?_;refine tq 4 x.k hHeld ?_;refine tq 5 (.bool true) hHeld ?_;refine tq 6 (.bool true) hHeld ?_;refine tq 7 (.pointer (some ⟨w.heap.size,0,none⟩)) hHeld ?_;refine tq 8 o.k hHeld ?_;refine tq 9 (.bool true) hHeld ?_;refine tq 10 (.bool true) hHeld ?_;refine tq 11 (.bool true) hHeld ?_;refine tq 12 (.slice ((some ⟨g,0,none⟩)) l.length cap) hHeld ?_;refine tq 13 (.int .i64 ((k:Int))) hHeld ?_;refine tq 14 (.pointer (some ⟨g,k * 6,none⟩)) hHeld ?_;refine tq 15 (.pointer (some ⟨g,k * 6+1,none⟩)) hHeld ?_;refine tq 16 (.agg #[x.c,x.s]) hHeld ?_;refine tq 17 (.pointer (some ⟨w.heap.size,1,none⟩)) hHeld ?_;refine tq 18 (.agg #[o.c,o.s]) hHeld ?_;refine tk 19 (.bool false) hHeld (fun w hSw=>?_) ?_
        ·(go_simp; intro h1 h2; exact HQ.out ⟨h1,h2⟩)
        try simp only [LAY]
        refine tq 20 (.bool false) hHeld ?_;refine dnH ?_;have HA:=Lh hHeld.2.2.2.2.2.2.2.2.2.2.2.2;clear hHeld;go_wp2_with fail
        go_roundg (l.length-(k+1))
        case measure=>omega
        case rel=>exact ⟨k+1,by omega,rfl,by go_num,HN.out,HA.out⟩
      ·have he1:(o.k==0)=false:=by simpa using h1
       have HN:=Lh (hno (decide_eq_false fun h=>h1 h.2.1));clear h0 h1 hno;refine rgH (fun W=>W.cell? ⟨g,k * 6,none⟩=some (.int .i64 x.k)∧W.cell? ⟨g,k * 6+1,none⟩=some (.int .i64 x.c)∧W.cell? ⟨g,k * 6+2,none⟩=some (.int .i64 x.s)∧W.cell? ⟨g,k * 6+3,none⟩=some (.int .i64 x.a)∧W.cell? ⟨g,k * 6+4,none⟩=some (.int .i64 x.n)∧W.cell? ⟨g,k * 6+5,none⟩=some (.int .i32 x.ch)∧Cc6 W w.heap.size o.k o.c o.s o.a o.n (.int .i32 o.ch) (Ad7 w o W)) (let h:=HA.out.next bdq; let c:=HC.out _ h.bel; ⟨c.1,c.2.1,c.2.2.1,c.2.2.2.1,c.2.2.2.2.1,c.2.2.2.2.2,h.bo.d6 h⟩) fun hHeld=>?_
       clear HA;refine tq 0 (.slice ((some ⟨g,0,none⟩)) l.length cap) hHeld ?_;refine tq 1 (.int .i64 ((k:Int))) hHeld ?_;refine tq 2 (.pointer (some ⟨g,k * 6,none⟩)) hHeld ?_;refine tq 3 (.pointer (some ⟨g,k * 6,none⟩)) hHeld ?_;refine tq 4 x.k hHeld ?_;refine tq 5 (.bool true) hHeld ?_;refine tq 6 (.bool true) hHeld ?_;refine tq 7 (.pointer (some ⟨w.heap.size,0,none⟩)) hHeld ?_;refine tq 8 o.k hHeld ?_;refine tq 9 (.bool false) hHeld ?_;refine tq 10 (.bool false) hHeld ?_;refine tq 11 (.bool false) hHeld ?_;refine sk 12 hHeld ?_
       try simp only [LAY]
       refine sk 13 hHeld ?_
       try simp only [LAY]
       refine sk 14 hHeld ?_
       try simp only [LAY]
       refine sk 15 hHeld ?_
       try simp only [LAY]
       refine sk 16 hHeld ?_
       try simp only [LAY]
       refine sk 17 hHeld ?_
       try simp only [LAY]
       refine sk 18 hHeld ?_
       try simp only [LAY]
       refine sk 19 hHeld ?_
       try simp only [LAY]
       refine tq 20 (.bool false) hHeld ?_;refine dnH ?_;have HA:=Lh hHeld.2.2.2.2.2.2.2.2.2.2.2.2;clear hHeld;go_wp2_with fail
       go_roundg (l.length-(k+1))
       case measure=>omega
       case rel=>exact ⟨k+1,by omega,rfl,by go_num,HN.out,HA.out⟩
     ·have he0:(x.k==0)=false:=by simpa using h0
      have HN:=Lh (hno (decide_eq_false fun h=>h0 h.1));clear h0 hno;refine rgH (fun W=>W.cell? ⟨g,k * 6,none⟩=some (.int .i64 x.k)∧W.cell? ⟨g,k * 6+1,none⟩=some (.int .i64 x.c)∧W.cell? ⟨g,k * 6+2,none⟩=some (.int .i64 x.s)∧W.cell? ⟨g,k * 6+3,none⟩=some (.int .i64 x.a)∧W.cell? ⟨g,k * 6+4,none⟩=some (.int .i64 x.n)∧W.cell? ⟨g,k * 6+5,none⟩=some (.int .i32 x.ch)∧Cc6 W w.heap.size o.k o.c o.s o.a o.n (.int .i32 o.ch) (Ad7 w o W)) (let h:=HA.out.next bdq; let c:=HC.out _ h.bel; ⟨c.1,c.2.1,c.2.2.1,c.2.2.2.1,c.2.2.2.2.1,c.2.2.2.2.2,h.bo.d6 h⟩) fun hHeld=>?_
      clear HA;refine tq 0 (.slice ((some ⟨g,0,none⟩)) l.length cap) hHeld ?_;refine tq 1 (.int .i64 ((k:Int))) hHeld ?_;refine tq 2 (.pointer (some ⟨g,k * 6,none⟩)) hHeld ?_;refine tq 3 (.pointer (some ⟨g,k * 6,none⟩)) hHeld ?_;refine tq 4 x.k hHeld ?_;refine tq 5 (.bool false) hHeld ?_;refine tq 6 (.bool false) hHeld ?_;refine sk 7 hHeld ?_
      try simp only [LAY]
      refine sk 8 hHeld ?_
      try simp only [LAY]
      refine sk 9 hHeld ?_
      try simp only [LAY]
      refine tq 10 (.bool false) hHeld ?_;refine tq 11 (.bool false) hHeld ?_;refine sk 12 hHeld ?_
      try simp only [LAY]
      refine sk 13 hHeld ?_
      try simp only [LAY]
      refine sk 14 hHeld ?_
      try simp only [LAY]
      refine sk 15 hHeld ?_
      try simp only [LAY]
      refine sk 16 hHeld ?_
      try simp only [LAY]
      refine sk 17 hHeld ?_
      try simp only [LAY]
      refine sk 18 hHeld ?_
      try simp only [LAY]
      refine sk 19 hHeld ?_
      try simp only [LAY]
      refine tq 20 (.bool false) hHeld ?_;refine dnH ?_;have HA:=Lh hHeld.2.2.2.2.2.2.2.2.2.2.2.2;clear hHeld;go_wp2_with fail
      go_roundg (l.length-(k+1))
      case measure=>omega
      case rel=>exact ⟨k+1,by omega,rfl,by go_num,HN.out,HA.out⟩
    ·obtain rfl:k=l.length:=by omega
     have HT2:=Lh (show fnd (clB o) l 0<0 by rw [←hf,List.drop_length]; show (-1:Int)<0; omega);clear hf;by_cases hful:16≤l.length
     ·have HE:=Lh (add_full HCK.out HT.out HT2.out hful)
      have hfi:(16:Int)≤(l.length:Int):=by omega
      go_wp2_with fail
      exact bodyPost_ret (v:=.tuple #[.slice ad l.length cap,.int .i64 7]) (by simp [results,Tryz.results68,go_sem]) rfl ⟨_,by rw [HE.out.1],by rw [HE.out.2]; exact HL.out.next HA.out.bel,HA.out.bel⟩
     ·have HE:=Lh (add_ok HCK.out HT.out HT2.out (by omega))
      have hfi:¬ (16:Int)≤(l.length:Int):=by omega
      obtain ⟨i0,hi0,hz0,hz1,hz2⟩:=info_parts infoOq;go_wp2_with fail
      have HA8:=Lh (HA.out.next bdq);have hdum:=trivial;clear HA;refine rgH (fun W=>Cc6 W w.heap.size o.k o.c o.s o.a o.n (.int .i32 o.ch) (Ad7 w o W)) (let h:=HA8.out; (h.bo.d6 h)) fun hHeld=>?_
      clear hdum;generalize wr.drew=W8 at *
      refine tq 1 (.slice ad l.length cap) hHeld ?_;refine tq 3 (.agg #[o.k,o.c,o.s,o.a,o.n,.int .i32 o.ch]) hHeld ?_;refine wpAnyH_ready (rs:=[0,4]) (by kernel_rfl) (by simp) ?_;refine cons1 rfl (fun KK hK=>?_) (cons1 rfl (fun KK hK=>?_) AllReadyH.nil)
      ·go_simp
       go_wp2_with fail
       refine hK.out _ _ ((let h:=HA8.out.next ((Below.refl W8.heap.size W8).alloc (Nat.le_refl _) (.cells ⟨[]⟩ 70)); (h.bo.d6 h))) ?_;clear hK KK hHeld;intro hHeld
       try simp only [LAY]
       have hXo:=own_zero W8 6 70;have HA2:=Lh (HA8.out.next ((Below.refl W8.heap.size W8).alloc (Nat.le_refl _) (.cells ⟨[]⟩ 70)));have hsX:=HA8.out.bo.lt;have hzX:W8.heap.size+1≤(W8.alloc (.cells ⟨[]⟩ 70)).heap.size:=by simp
       have hH2:(fun W=>Cc6 W w.heap.size o.k o.c o.s o.a o.n (.int .i32 o.ch) (Ad7 w o W)) (W8.alloc (.cells ⟨[]⟩ 70)):=hHeld
       change wpAnyH _ _ _ _ _ _ _ _ (W8.alloc (.cells ⟨[]⟩ 70))
       clear hHeld HA8;have hHeld:=hH2;have HA8:=HA2;clear hH2 HA2;generalize (W8.alloc (.cells ⟨[]⟩ 70))=W9 at *
       generalize W8.heap.size=X at *
       refine wpAnyH_ready (rs:=[2,4]) (by kernel_rfl) (by simp) ?_;refine cons1 rfl (fun KK hK=>?_) (cons1 rfl (fun KK hK=>?_) AllReadyH.nil)
       ·rw [if_pos (by rfl)]
        refine wp_append_sl _ (.tmp 60) (.tmp 61) 45 rfl X 70 i0 zOq 6 48 Tryz.underlying45 hi0 hz0 hz1 hz2 rfl (by decide) _ 0 [] rfl hXo oqL_len oq_one _ l rfl (HL.out.next HA8.out.bel) (by unfold maxLen; omega) (by omega) (by omega) ?_;intro v1 W10 ho1 hg1
        have hb1:Below X W9 W10:=Below.of_grown hg1 (by omega) (own_ge hXo);go_wp2_with fail
        refine hK.out _ _ ((let h:=HA8.out.grow hb1 (by omega); (h.bo.d6 h))) ?_;clear hK KK hHeld;intro hHeld
        try simp only [LAY]
        have HO1:=Lh ho1;have hs1:=hg1.size;have HA2:=Lh (HA8.out.grow hb1 (by omega));clear HA8;have HA8:=HA2;clear ho1 hg1 hb1 HA2 hXo;refine rd1 4 (by kernel_rfl) rfl fun KK hK=>?_
        go_simp
        go_wp2_with fail
        refine hK.out _ _ ((let h:=HA8.out.next ((Below.refl W10.heap.size W10).alloc (Nat.le_refl _) (.cells ⟨oqL o⟩ 70)); (h.bo.d6 h))) ?_;clear hK KK hHeld;intro hHeld
        try simp only [LAY]
        have HO1h:=HO1.out;clear HO1;have hYo:=own_new W10 (oqL o) 6 rfl 70;have HA2:=Lh (HA8.out.next ((Below.refl W10.heap.size W10).alloc (Nat.le_refl _) (.cells ⟨oqL o⟩ 70)));have hsY:=HA8.out.bo.lt;have hzY:W10.heap.size+1≤(W10.alloc (.cells ⟨oqL o⟩ 70)).heap.size:=by simp
        have HO1h2:=ownsRow_next HO1h ((Below.refl W10.heap.size W10).alloc (Nat.le_refl _) (.cells ⟨oqL o⟩ 70));have hH2:(fun W=>Cc6 W w.heap.size o.k o.c o.s o.a o.n (.int .i32 o.ch) (Ad7 w o W)) (W10.alloc (.cells ⟨oqL o⟩ 70)):=hHeld
        change wpAnyH _ _ _ _ _ _ _ _ (W10.alloc (.cells ⟨oqL o⟩ 70))
        clear hHeld HA8 HO1h;have hHeld:=hH2;have HA8:=HA2;clear hH2 HA2;have HO1h:=HO1h2;clear HO1h2;generalize (W10.alloc (.cells ⟨oqL o⟩ 70))=W11 at *
        generalize W10.heap.size=Y at *
        have HO1:=Lh HO1h;clear HO1h;refine rd1 5 (by kernel_rfl) rfl fun KK hK=>?_
        rw [if_pos (by rfl)];refine wp_append_at _ (.tmp 62) (.tmp 64) 45 rfl X 70 i0 zOq 6 48 Tryz.underlying45 hi0 hz0 hz1 hz2 rfl (by decide) _ (0+l.length) _ rfl HO1.out ⟨Y,0,none⟩ 1 1 (oqL o) rfl rfl (hYo.cells rfl) (oq_one o) (by unfold maxLen; omega) (by omega) (by omega) ?_;intro v2 W12 ho2 hg2 _
        have hb2:Below X W11 W12:=Below.of_grown hg2 (by omega) (own_ge HO1.out);go_wp2_with fail
        refine hK.out _ _ ((let h:=HA8.out.grow hb2 (by omega); (h.bo.d6 h))) ?_;clear hK KK hHeld;intro hHeld
        try simp only [LAY]
        have HO2:=Lh ho2;have HA2:=Lh (HA8.out.grow hb2 (by omega));clear HA8 ho2 hg2 hb2;refine tq 6 (v2) hHeld ?_;refine tq 7 (.int .i64 0) hHeld ?_;refine dnH ?_;clear hHeld;go_wp2_with fail
        have h:=HO2.out;rw [List.nil_append] at h;refine bodyPost_ret (v:=.tuple #[v2,.int .i64 0]) (by simp [results,Tryz.results68,go_sem]) rfl ⟨v2,by rw [HE.out.1],?_,HA2.out.bel⟩;rw [HE.out.2];exact Sl.of (by rw [List.length_append,List.flatMap_append,show l.length+[o].length=0+l.length+1 by simp]; simpa using h)
       ·go_simp
        go_wp2_with fail
        refine hK.out _ _ ((let h:=HA8.out.next ((Below.refl W9.heap.size W9).alloc (Nat.le_refl _) (.cells ⟨oqL o⟩ 70)); (h.bo.d6 h))) ?_;clear hK KK hHeld;intro hHeld
        try simp only [LAY]
        have hYo:=own_new W9 (oqL o) 6 rfl 70;have HA2:=Lh (HA8.out.next ((Below.refl W9.heap.size W9).alloc (Nat.le_refl _) (.cells ⟨oqL o⟩ 70)));have hsY:=HA8.out.bo.lt;have hzY:W9.heap.size+1≤(W9.alloc (.cells ⟨oqL o⟩ 70)).heap.size:=by simp
        have hXo2:=ownsRow_next hXo ((Below.refl W9.heap.size W9).alloc (Nat.le_refl _) (.cells ⟨oqL o⟩ 70));have hXY:X<W9.heap.size:=own_lt hXo _ rfl;have hH2:(fun W=>Cc6 W w.heap.size o.k o.c o.s o.a o.n (.int .i32 o.ch) (Ad7 w o W)) (W9.alloc (.cells ⟨oqL o⟩ 70)):=hHeld
        change wpAnyH _ _ _ _ _ _ _ _ (W9.alloc (.cells ⟨oqL o⟩ 70))
        clear hHeld HA8 hXo;have hHeld:=hH2;have HA8:=HA2;clear hH2 HA2;have hXo:=hXo2;clear hXo2;generalize (W9.alloc (.cells ⟨oqL o⟩ 70))=W10 at *
        generalize W9.heap.size=Y at *
        refine rd1 2 (by kernel_rfl) rfl fun KK hK=>?_
        rw [if_pos (by rfl)];refine wp_append_sl _ (.tmp 60) (.tmp 61) 45 rfl X 70 i0 zOq 6 48 Tryz.underlying45 hi0 hz0 hz1 hz2 rfl (by decide) _ 0 [] rfl hXo oqL_len oq_one _ l rfl (HL.out.next HA8.out.bel) (by unfold maxLen; omega) (by omega) (by omega) ?_;intro v1 W11 ho1 hg1
        have hb1:Below X W10 W11:=Below.of_grown hg1 (by omega) (own_ge hXo);go_wp2_with fail
        refine hK.out _ _ ((let h:=HA8.out.grow hb1 (by omega); (h.bo.d6 h))) ?_;clear hK KK hHeld;intro hHeld
        try simp only [LAY]
        have HO1:=Lh ho1;have hs1:=hg1.size;have HA2:=Lh (HA8.out.grow hb1 (by omega));clear HA8;have HA8:=HA2;have hY2:=own_apart hYo hg1 (fun r e1 e2=>by cases e1; cases e2; omega);clear hYo;have hYo:=hY2;clear hY2;clear ho1 hg1 hb1 HA2 hXo;refine rd1 5 (by kernel_rfl) rfl fun KK hK=>?_
        rw [if_pos (by rfl)];refine wp_append_at _ (.tmp 62) (.tmp 64) 45 rfl X 70 i0 zOq 6 48 Tryz.underlying45 hi0 hz0 hz1 hz2 rfl (by decide) _ (0+l.length) _ rfl HO1.out ⟨Y,0,none⟩ 1 1 (oqL o) rfl rfl (hYo.cells rfl) (oq_one o) (by unfold maxLen; omega) (by omega) (by omega) ?_;intro v2 W12 ho2 hg2 _
        have hb2:Below X W11 W12:=Below.of_grown hg2 (by omega) (own_ge HO1.out);go_wp2_with fail
        refine hK.out _ _ ((let h:=HA8.out.grow hb2 (by omega); (h.bo.d6 h))) ?_;clear hK KK hHeld;intro hHeld
        try simp only [LAY]
        have HO2:=Lh ho2;have HA2:=Lh (HA8.out.grow hb2 (by omega));clear HA8 ho2 hg2 hb2;refine tq 6 (v2) hHeld ?_;refine tq 7 (.int .i64 0) hHeld ?_;refine dnH ?_;clear hHeld;go_wp2_with fail
        have h:=HO2.out;rw [List.nil_append] at h;refine bodyPost_ret (v:=.tuple #[v2,.int .i64 0]) (by simp [results,Tryz.results68,go_sem]) rfl ⟨v2,by rw [HE.out.1],?_,HA2.out.bel⟩;rw [HE.out.2];exact Sl.of (by rw [List.length_append,List.flatMap_append,show l.length+[o].length=0+l.length+1 by simp]; simpa using h)
      ·go_simp
       go_wp2_with fail
       refine hK.out _ _ ((let h:=HA8.out.next ((Below.refl W8.heap.size W8).alloc (Nat.le_refl _) (.cells ⟨oqL o⟩ 70)); (h.bo.d6 h))) ?_;clear hK KK hHeld;intro hHeld
       try simp only [LAY]
       have hYo:=own_new W8 (oqL o) 6 rfl 70;have HA2:=Lh (HA8.out.next ((Below.refl W8.heap.size W8).alloc (Nat.le_refl _) (.cells ⟨oqL o⟩ 70)));have hsY:=HA8.out.bo.lt;have hzY:W8.heap.size+1≤(W8.alloc (.cells ⟨oqL o⟩ 70)).heap.size:=by simp
       have hH2:(fun W=>Cc6 W w.heap.size o.k o.c o.s o.a o.n (.int .i32 o.ch) (Ad7 w o W)) (W8.alloc (.cells ⟨oqL o⟩ 70)):=hHeld
       change wpAnyH _ _ _ _ _ _ _ _ (W8.alloc (.cells ⟨oqL o⟩ 70))
       clear hHeld HA8;have hHeld:=hH2;have HA8:=HA2;clear hH2 HA2;generalize (W8.alloc (.cells ⟨oqL o⟩ 70))=W9 at *
       generalize W8.heap.size=Y at *
       refine rd1 0 (by kernel_rfl) rfl fun KK hK=>?_
       go_simp
       go_wp2_with fail
       refine hK.out _ _ ((let h:=HA8.out.next ((Below.refl W9.heap.size W9).alloc (Nat.le_refl _) (.cells ⟨[]⟩ 70)); (h.bo.d6 h))) ?_;clear hK KK hHeld;intro hHeld
       try simp only [LAY]
       have hXo:=own_zero W9 6 70;have HA2:=Lh (HA8.out.next ((Below.refl W9.heap.size W9).alloc (Nat.le_refl _) (.cells ⟨[]⟩ 70)));have hsX:=HA8.out.bo.lt;have hzX:W9.heap.size+1≤(W9.alloc (.cells ⟨[]⟩ 70)).heap.size:=by simp
       have hYo2:=ownsRow_next hYo ((Below.refl W9.heap.size W9).alloc (Nat.le_refl _) (.cells ⟨[]⟩ 70));have hXY:Y<W9.heap.size:=own_lt hYo _ rfl;have hH2:(fun W=>Cc6 W w.heap.size o.k o.c o.s o.a o.n (.int .i32 o.ch) (Ad7 w o W)) (W9.alloc (.cells ⟨[]⟩ 70)):=hHeld
       change wpAnyH _ _ _ _ _ _ _ _ (W9.alloc (.cells ⟨[]⟩ 70))
       clear hHeld HA8 hYo;have hHeld:=hH2;have HA8:=HA2;clear hH2 HA2;have hYo:=hYo2;clear hYo2;generalize (W9.alloc (.cells ⟨[]⟩ 70))=W10 at *
       generalize W9.heap.size=X at *
       refine rd1 2 (by kernel_rfl) rfl fun KK hK=>?_
       rw [if_pos (by rfl)];refine wp_append_sl _ (.tmp 60) (.tmp 61) 45 rfl X 70 i0 zOq 6 48 Tryz.underlying45 hi0 hz0 hz1 hz2 rfl (by decide) _ 0 [] rfl hXo oqL_len oq_one _ l rfl (HL.out.next HA8.out.bel) (by unfold maxLen; omega) (by omega) (by omega) ?_;intro v1 W11 ho1 hg1
       have hb1:Below X W10 W11:=Below.of_grown hg1 (by omega) (own_ge hXo);go_wp2_with fail
       refine hK.out _ _ ((let h:=HA8.out.grow hb1 (by omega); (h.bo.d6 h))) ?_;clear hK KK hHeld;intro hHeld
       try simp only [LAY]
       have HO1:=Lh ho1;have hs1:=hg1.size;have HA2:=Lh (HA8.out.grow hb1 (by omega));clear HA8;have HA8:=HA2;have hY2:=own_apart hYo hg1 (fun r e1 e2=>by cases e1; cases e2; omega);clear hYo;have hYo:=hY2;clear hY2;clear ho1 hg1 hb1 HA2 hXo;refine rd1 5 (by kernel_rfl) rfl fun KK hK=>?_
       rw [if_pos (by rfl)];refine wp_append_at _ (.tmp 62) (.tmp 64) 45 rfl X 70 i0 zOq 6 48 Tryz.underlying45 hi0 hz0 hz1 hz2 rfl (by decide) _ (0+l.length) _ rfl HO1.out ⟨Y,0,none⟩ 1 1 (oqL o) rfl rfl (hYo.cells rfl) (oq_one o) (by unfold maxLen; omega) (by omega) (by omega) ?_;intro v2 W12 ho2 hg2 _
       have hb2:Below X W11 W12:=Below.of_grown hg2 (by omega) (own_ge HO1.out);go_wp2_with fail
       refine hK.out _ _ ((let h:=HA8.out.grow hb2 (by omega); (h.bo.d6 h))) ?_;clear hK KK hHeld;intro hHeld
       try simp only [LAY]
       have HO2:=Lh ho2;have HA2:=Lh (HA8.out.grow hb2 (by omega));clear HA8 ho2 hg2 hb2;refine tq 6 (v2) hHeld ?_;refine tq 7 (.int .i64 0) hHeld ?_;refine dnH ?_;clear hHeld;go_wp2_with fail
       have h:=HO2.out;rw [List.nil_append] at h;refine bodyPost_ret (v:=.tuple #[v2,.int .i64 0]) (by simp [results,Tryz.results68,go_sem]) rfl ⟨v2,by rw [HE.out.1],?_,HA2.out.bel⟩;rw [HE.out.2];exact Sl.of (by rw [List.length_append,List.flatMap_append,show l.length+[o].length=0+l.length+1 by simp]; simpa using h)
def PLenOk:Prop:=∀ (l:List Oq) (s:Value) (w:World),l.length≤16→IsP7 w s l→Calls Tryz.prog 128 #[.agg #[s]] w fun r w'=>r=.returned (.int .i64 (l.length:Int))∧Below w.heap.size w w'
def PTopOk:Prop:=∀ (l:List Oq) (s:Value) (w:World),l.length≤16→IsP7 w s l→Calls Tryz.prog 118 #[.agg #[s]] w fun r w'=>r=.returned (.int .i64 (topI l))∧Below w.heap.size w w'
def PAllOk:Prop:=∀ (l:List Oq) (s:Value) (w:World),l.length≤16→IsP7 w s l→Calls Tryz.prog 78 #[.agg #[s]] w fun r w'=>∃ s',r=.returned s'∧IsP7 w' s' l∧(0<l.length→w'.ownsRow w.heap.size 55 6 s' l.length (l.flatMap oqL))∧Below w.heap.size w w'
def PAddOk:Prop:=∀ (l:List Oq) (o:Oq) (s:Value) (w:World),l.length≤16→IsP7 w s l →
 Calls Tryz.prog 125 #[.agg #[s],.agg #[o.k,o.c,o.s,o.a,o.n,.int .i32 o.ch]] w fun r w'=>Below w.heap.size w w'∧∃ s',r=.returned (.tuple #[.agg #[s'],.int .i64 (addE l o)])∧IsP7 w' s' (addL l o)
def zeroOq:Oq:=⟨0,0,0,0,0,0,by decide,by decide⟩
def PNextOk (N:Nat):Prop:=∀ (m l:List Oq) (s:Value) (p q:Option Addr) (T:Tr) (P:Pt) (w:World),m.length≤N→OkO m→StO w m p q T P→l.length≤16→IsP7 w s l →
 Calls Tryz.prog 126 #[.agg #[s],.agg #[.pointer p,.pointer q,.int .i64 (cnt P)]] w fun r w'=>Below w.heap.size w w'∧∃ (s':Value) (l':List Oq) (x:Oq),
  r=.returned (.tuple #[.agg #[s'],.agg #[x.k,x.c,x.s,x.a,x.n,.int .i32 x.ch],.bool (decide (0≤nxI m l))])∧IsP7 w' s' l' ∧
  ((nxI m l<0∧l'=l∧x=zeroOq)∨∃ (i:Nat) (hi:i<l.length),nxI m l=(i:Int)∧x=l[i]∧l'=l.eraseIdx i)
structure I7 (w:World) (s:Value) (W:World):Prop where
 bel:Below w.heap.size w W
 bs:Blk W w.heap.size [s] 34
end Go.Proofs.YtpbhaieclkoggaaGreatDoor
