import Derived.Test.YtemicfjmidohfaaGreatDoorVerC
import Derived.Test.YtemicfjmidohfaaGreatDoorEb
set_option maxRecDepth 100000
set_option maxHeartbeats 12800000
namespace Go.Proofs.YtemicfjmidohfaaGreatDoor
open Go Go.Proofs Go.RowKit
theorem isv_mk {W:World} {m l:List Oq} {p q:Option Addr} {T:Tr} {P:Pt} {s:Value} {t0:Int} {x1 x2 x3 x4:Nat} {M:Int} (hs:StO W m p q T P) (h7:IsP7 W s l) (ht:Tc (idsO m) t0 x1 x2 x3 x4) (hM:M=(m.length:Int)):
  IsV W m l [.pointer p,.pointer q,.int .i64 (cnt P),s,M,t0,.complex .f64 x1 x2,.complex .f64 x3 x4]:=by
 obtain ⟨rfl,rfl,rfl,rfl,rfl⟩:=ht;subst hM;exact ⟨p,q,T,P,s,hs,h7,rfl⟩
theorem isv_set {W:World} {m l:List Oq} {cs:List Value} (h:IsV W m l cs) {d:Nat} {us:List Value} {u:TypeId} (hd:Blk W d us u) (h1:u≠363) (h2:u≠353) (h3:u≠73) (i:Nat) (xs:List Value):IsV (setN W d i xs) m l cs:=by
 obtain ⟨p,q,T,P,s,a,b,c⟩:=h.ex;exact ⟨p,q,T,P,s,kt_set_st a hd h1 h2 i xs,sl_kt (KT.setN h3 xs i hd) b,c⟩
theorem isvc_set {W:World} {L:List Chg} {v:Value} (h:IsVC W v L) {d:Nat} {us:List Value} {u:TypeId} (hd:Blk W d us u) (h1:u≠297) (i:Nat) (xs:List Value):IsVC (setN W d i xs) v L:=sl_kt (KT.setN h1 xs i hd) h
theorem vremote_ok:VRemoteOk:=by
 intro m l n o c0 c1 c2 c3 c4 c5 c6 c7 w hV hn hS
 obtain ⟨p,q,T,P,a,cap,hst,h7,e⟩:=hS.opened;obtain ⟨t0,x1,x2,x3,x4,hTC⟩:∃ t0 x1 x2 x3 x4,Tc (idsO m) t0 x1 x2 x3 x4:=⟨_,_,_,_,_,rfl,rfl,rfl,rfl,rfl⟩
 simp only [vcL, List.cons.injEq, and_true, ←hTC.e0, ←hTC.e1, ←hTC.e2, ←hTC.e3, ←hTC.e4] at e
 obtain ⟨rfl,rfl,rfl,rfl,rfl,rfl,rfl,rfl⟩:=e;have hb4:Below w.heap.size w ((((w.alloc (.cells #[.pointer p,.pointer q,.int .i64 (cnt P),.slice a l.length cap,.int .i64 (m.length:Int),t0,.complex .f64 x1 x2,.complex .f64 x3 x4] 43)).alloc (.cells o 73)).alloc (.cells #[.pointer none,.pointer none,.int .i64 0,.slice none 0 0,.int .i64 0,.int .i64 0,.complex .f64 0 0,.complex .f64 0 0] 43)).alloc (.cells #[.slice none 0 0] 197)):=(below3 w _ _ _ _ _ _).alloc (by simp; omega) _;have H0:=Lh (show Ap8 w.heap.size (w.heap.size+1+1+1) w [] [.pointer p,.pointer q,.int .i64 (cnt P),.slice a l.length cap,.int .i64 (m.length:Int),t0,.complex .f64 x1 x2,.complex .f64 x3 x4] o [.pointer none,.pointer none,.int .i64 0,.slice none 0 0,.int .i64 0,.int .i64 0,.complex .f64 0 0,.complex .f64 0 0] ((((w.alloc (.cells #[.pointer p,.pointer q,.int .i64 (cnt P),.slice a l.length cap,.int .i64 (m.length:Int),t0,.complex .f64 x1 x2,.complex .f64 x3 x4] 43)).alloc (.cells o 73)).alloc (.cells #[.pointer none,.pointer none,.int .i64 0,.slice none 0 0,.int .i64 0,.int .i64 0,.complex .f64 0 0,.complex .f64 0 0] 43)).alloc (.cells #[.slice none 0 0] 197)) from
  ⟨Nat.le_refl _,.of hb4 (Nat.le_refl _),(((Blk.start w [.pointer p,.pointer q,.int .i64 (cnt P),.slice a l.length cap,.int .i64 (m.length:Int),t0,.complex .f64 x1 x2,.complex .f64 x3 x4] _).alloc _).alloc _).alloc _,((Blk.startAt (by simp)).alloc _).alloc _,(Blk.startAt (vs:=[.pointer none,.pointer none,.int .i64 0,.slice none 0 0,.int .i64 0,.int .i64 0,.complex .f64 0 0,.complex .f64 0 0]) (by simp)).alloc _,by omega,_,Blk.startAt (by simp),World.ownsRow_nil _ _ _ _⟩)
 have HTK:=Lh (vtake_ok w.heap.size (w.heap.size+1+1+1) m l n o p q T P a cap t0 x1 x2 x3 x4 _ hV hn hTC (hst.next hb4) (Sl.next h7 hb4) H0.out.kx.bel.size H0.out.tel);have HK:=Lh (And.intro hst (And.intro h7 (And.intro hTC hV)));have sc:=st_complex;have hmf:∀ (fn:Fn) (first cap:Array Value) (w:World),(Instr.makeFunc fn first cap).run Tryz.prog w=.ok (.func fn first cap) w:=fun _ _ _ _=>rfl
 have HEQ:=Lh (show remE m l o=(if wrongE m o=6 then addE l o else wrongE m o)∧remT m l o=(if wrongE m o=6 then (m,addL l o,[]) else if wrongE m o=0 then casG l.length (m++[o]) l [chgO m o] else (m,l,[])) from ⟨rfl,rfl⟩);generalize remE m l o=RE at *
 generalize remT m l o=RT at *
 generalize hz:wrongE m o=z at *
 clear hz hV hn hTC hst h7 hb4 hS;have v0 := H0.out.bv.c8;have o0 := H0.out.bo.c6
 go_enter Tryz.func124,Tryz.ntmps124
 go_wp2_with fail;refine (HTK.out).mono ?_;rintro e w1 ⟨hkx,p2,q2,T2,P2,a2,cap2,m2,l2,L2,t2,u1,u2,u3,u4,rfl,hst2,htc,h72,htl,hd⟩
 have hbA:Below w1.heap.size w1 (w1.alloc (.cells #[.pointer p2,.pointer q2,.int .i64 (cnt P2),.slice a2 l2.length cap2,.int .i64 (m2.length:Int),t2,.complex .f64 u1 u2,.complex .f64 u3 u4] 43)):=bA;have HD:=Lh hd;have H1:=Lh ((H0.out.told hkx htl).next hbA);have HV1:=Lh (show IsV (w1.alloc (.cells #[.pointer p2,.pointer q2,.int .i64 (cnt P2),.slice a2 l2.length cap2,.int .i64 (m2.length:Int),t2,.complex .f64 u1 u2,.complex .f64 u3 u4] 43)) m2 l2 [.pointer p2,.pointer q2,.int .i64 (cnt P2),.slice a2 l2.length cap2,.int .i64 (m2.length:Int),t2,.complex .f64 u1 u2,.complex .f64 u3 u4] from (isv_mk hst2 h72 htc rfl).next hbA);have HD1:=Lh (Blk.start w1 [.pointer p2,.pointer q2,.int .i64 (cnt P2),.slice a2 l2.length cap2,.int .i64 (m2.length:Int),t2,.complex .f64 u1 u2,.complex .f64 u3 u4] 43);have hDlt:w.heap.size+1+1+1<w1.heap.size:=htl.lt;clear H0 HTK hkx hst2 htc h72 htl hd hbA v0 o0;generalize hWA:World.alloc _ _=W1 at *
 generalize hDD:w1.heap.size=D at *
 by_cases hz6:z=6
 ·have hq:(z==6)=true:=by simpa using hz6
  have HD2:=Lh (show L2=[] from by
   rcases HD.out with ⟨_,_,_,h⟩ | ⟨h,_⟩
   ·exact h
   ·omega)
  have HEQ2:=Lh (show RE=addE l o∧RT=(m,addL l o,[]) from ⟨by rw [HEQ.out.1,if_pos hz6],by rw [HEQ.out.2,if_pos hz6]⟩);have HWT:=Lh (fun W (h:IsP7 W (.slice a l.length cap) l)=>wait_any l o HK.out.2.2.2.l16 p q a cap (cnt P) (m.length:Int) t0 x1 x2 x3 x4 W h);have HR1:=Lh (H1.out.kx.room HK.out.2.1);clear HD HEQ HV1 hz6;have v0 := H1.out.bv.c8;have o0 := H1.out.bo.c6;go_wp2_with fail;refine (HWT.out _ HR1.out).mono ?_;rintro e w2 ⟨hb,a',n',cap',rfl,rfl,h7'⟩
  have H2:=Lh (H1.out.next hb);have HE2:=Lh (HD1.out.next hb);have H3:=Lh (show Ap8 w.heap.size (w.heap.size+1+1+1) w L2 [.pointer p,.pointer q,.int .i64 (cnt P),.slice a l.length cap,.int .i64 (m.length:Int),t0,.complex .f64 x1 x2,.complex .f64 x3 x4] o [.pointer none,.pointer none,.int .i64 0,.slice none 0 0,.int .i64 0,.int .i64 0,.complex .f64 0 0,.complex .f64 0 0] (setN w2 D 0 [.pointer p,.pointer q,.int .i64 (cnt P),.slice a' (addL l o).length cap',.int .i64 (m.length:Int),t0,.complex .f64 x1 x2,.complex .f64 x3 x4]) from H2.out.putO HE2.out (Nat.lt_of_succ_lt hDlt) (by decide) (by decide) 0 _);have HD3:=Lh (show Blk (setN w2 D 0 [.pointer p,.pointer q,.int .i64 (cnt P),.slice a' (addL l o).length cap',.int .i64 (m.length:Int),t0,.complex .f64 x1 x2,.complex .f64 x3 x4]) D [.pointer p,.pointer q,.int .i64 (cnt P),.slice a' (addL l o).length cap',.int .i64 (m.length:Int),t0,.complex .f64 x1 x2,.complex .f64 x3 x4] 43 from setN_blk [.pointer p,.pointer q,.int .i64 (cnt P),.slice a' (addL l o).length cap',.int .i64 (m.length:Int),t0,.complex .f64 x1 x2,.complex .f64 x3 x4] 0 HE2.out);have HV3:=Lh (show IsV (setN w2 D 0 [.pointer p,.pointer q,.int .i64 (cnt P),.slice a' (addL l o).length cap',.int .i64 (m.length:Int),t0,.complex .f64 x1 x2,.complex .f64 x3 x4]) m (addL l o) [.pointer p,.pointer q,.int .i64 (cnt P),.slice a' (addL l o).length cap',.int .i64 (m.length:Int),t0,.complex .f64 x1 x2,.complex .f64 x3 x4] from isv_set (isv_mk (H2.out.kx.st HK.out.1) h7' HK.out.2.2.1 rfl) HE2.out (by decide) (by decide) (by decide) 0 _);clear H1 HD1 HR1 HWT hb h7' hWA hDD v0 o0;have d0:=HE2.out.cell 0 rfl;have fd0:=HE2.out.free 0;have d1:=HE2.out.cell 1 rfl;have fd1:=HE2.out.free 1;have d2:=HE2.out.cell 2 rfl;have fd2:=HE2.out.free 2;have d3:=HE2.out.cell 3 rfl;have fd3:=HE2.out.free 3;have d4:=HE2.out.cell 4 rfl;have fd4:=HE2.out.free 4;have d5:=HE2.out.cell 5 rfl;have fd5:=HE2.out.free 5;have d6:=HE2.out.cell 6 rfl;have fd6:=HE2.out.free 6;have d7:=HE2.out.cell 7 rfl;have fd7:=HE2.out.free 7;clear H2 HE2;simp only [setN] at H3 HD3 HV3
  go_wp2_with fail
  generalize (((((((w2.setCell ⟨D,0,none⟩ (.pointer p)).setCell ⟨D,1,none⟩ (.pointer q)).setCell ⟨D,2,none⟩ (.int .i64 (cnt P))).setCell ⟨D,3,none⟩ (.slice a' (addL l o).length cap')).setCell ⟨D,4,none⟩ (.int .i64 (m.length:Int))).setCell ⟨D,5,none⟩ t0).setCell ⟨D,6,none⟩ (.complex .f64 x1 x2)).setCell ⟨D,7,none⟩ (.complex .f64 x3 x4)=W5 at *
  generalize addE l o=z2 at *
  clear d0 d1 d2 d3 d4 d5 d6 d7 fd0 fd1 fd2 fd3 fd4 fd5 fd6 fd7;obtain ⟨lc,hbx,hown⟩:=H3.out.tel.box;obtain ⟨a3,n3,c3,hv3⟩:∃ a3 n3 c3,lc=.slice a3 n3 c3:=by
   rcases hown.2 with ⟨h,_⟩ | ⟨g,cap,cur,h,_⟩
   ·exact ⟨_,_,_,h⟩
   ·exact ⟨_,_,_,h⟩
  subst hv3;have HX5:=Lh hbx;have HV5:=Lh (show IsV W5 m (addL l o) [.pointer p,.pointer q,.int .i64 (cnt P),.slice a' (addL l o).length cap',.int .i64 (m.length:Int),t0,.complex .f64 x1 x2,.complex .f64 x3 x4]∧IsVC W5 (.slice a3 n3 c3) L2 from And.intro HV3.out (Sl.of hown));have H5:=H3;have HD5:=HD3;clear H3 HD3 HV3 hbx hown;have H6:=Lh (H5.out.next bdq);have HD6:=Lh (HD5.out.next bdq);have HX6:=Lh (HX5.out.next bdq);have HV6:=Lh (And.intro (HV5.out.1.next bdq) (HV5.out.2.next bdq));have hdum:=trivial;refine rgH (fun W=>Cc8 W D (.pointer p) (.pointer q) (.int .i64 (cnt P)) (.slice a' (addL l o).length cap') (.int .i64 (m.length:Int)) t0 (.complex .f64 x1 x2) (.complex .f64 x3 x4) (Ce W (w.heap.size+1+1+1) 0 (.slice a3 n3 c3))) (let d:=HD5.out; let x:=HX5.out; (d.d8 (x.cell 0 rfl))) fun hH=>?_
  clear hdum H5 HD5 HX5 HV5;generalize W5.drew=W55 at *
  have zz0 := H6.out.br.c8;have fz0 := H6.out.br.f8;have H7:=Lh (show Ap8 w.heap.size (w.heap.size+1+1+1) w L2 [.pointer p,.pointer q,.int .i64 (cnt P),.slice a l.length cap,.int .i64 (m.length:Int),t0,.complex .f64 x1 x2,.complex .f64 x3 x4] o [.pointer p,.pointer q,.int .i64 (cnt P),.slice a' (addL l o).length cap',.int .i64 (m.length:Int),t0,.complex .f64 x1 x2,.complex .f64 x3 x4] (setN W55 (w.heap.size+1+1) 0 [.pointer p,.pointer q,.int .i64 (cnt P),.slice a' (addL l o).length cap',.int .i64 (m.length:Int),t0,.complex .f64 x1 x2,.complex .f64 x3 x4])∧IsV (setN W55 (w.heap.size+1+1) 0 [.pointer p,.pointer q,.int .i64 (cnt P),.slice a' (addL l o).length cap',.int .i64 (m.length:Int),t0,.complex .f64 x1 x2,.complex .f64 x3 x4]) m (addL l o) [.pointer p,.pointer q,.int .i64 (cnt P),.slice a' (addL l o).length cap',.int .i64 (m.length:Int),t0,.complex .f64 x1 x2,.complex .f64 x3 x4]∧IsVC (setN W55 (w.heap.size+1+1) 0 [.pointer p,.pointer q,.int .i64 (cnt P),.slice a' (addL l o).length cap',.int .i64 (m.length:Int),t0,.complex .f64 x1 x2,.complex .f64 x3 x4]) (.slice a3 n3 c3) L2 from And.intro (H6.out.putR [.pointer p,.pointer q,.int .i64 (cnt P),.slice a' (addL l o).length cap',.int .i64 (m.length:Int),t0,.complex .f64 x1 x2,.complex .f64 x3 x4]) (And.intro (isv_set HV6.out.1 H6.out.br (by decide) (by decide) (by decide) 0 _) (isvc_set HV6.out.2 H6.out.br (by decide) 0 _)));have HB7:=Lh (show Blk (setN W55 (w.heap.size+1+1) 0 [.pointer p,.pointer q,.int .i64 (cnt P),.slice a' (addL l o).length cap',.int .i64 (m.length:Int),t0,.complex .f64 x1 x2,.complex .f64 x3 x4]) D [.pointer p,.pointer q,.int .i64 (cnt P),.slice a' (addL l o).length cap',.int .i64 (m.length:Int),t0,.complex .f64 x1 x2,.complex .f64 x3 x4] 43∧Blk (setN W55 (w.heap.size+1+1) 0 [.pointer p,.pointer q,.int .i64 (cnt P),.slice a' (addL l o).length cap',.int .i64 (m.length:Int),t0,.complex .f64 x1 x2,.complex .f64 x3 x4]) (w.heap.size+1+1+1) [.slice a3 n3 c3] 197 from And.intro (HD6.out.setN (by omega) _ 0) (HX6.out.setN (by omega) _ 0));simp only [setN] at H7 HB7
  clear H6 HD6 HX6 HV6;refine ta 0 hH ?_;refine ta 1 hH ?_;refine ta 2 hH ?_;refine rd1 3 (by kernel_rfl) rfl fun KK hK=>?_
  go_simp
  go_wp2_with fail
  refine hK.out _ _ ((let d:=HB7.out.1; let x:=HB7.out.2; (d.d8 (x.cell 0 rfl)))) ?_;clear hK KK hH;intro hH
  try simp only [LAY]
  clear HB7 zz0 fz0;generalize ((((((((W55.setCell ⟨w.heap.size+1+1,0,none⟩ (.pointer p)).setCell ⟨w.heap.size+1+1,1,none⟩ (.pointer q)).setCell ⟨w.heap.size+1+1,2,none⟩ (.int .i64 (cnt P))).setCell ⟨w.heap.size+1+1,3,none⟩ (.slice a' (addL l o).length cap')).setCell ⟨w.heap.size+1+1,4,none⟩ (.int .i64 (m.length:Int))).setCell ⟨w.heap.size+1+1,5,none⟩ t0).setCell ⟨w.heap.size+1+1,6,none⟩ (.complex .f64 x1 x2)).setCell ⟨w.heap.size+1+1,7,none⟩ (.complex .f64 x3 x4))=W7 at *
  refine ta 4 hH ?_;refine ta 5 hH ?_;refine dnH ?_;clear hH;go_wp2_with fail
  have y0 := H7.out.1.br.c8;exact bodyPost_ret (v:=.tuple #[.agg #[.pointer p,.pointer q,.int .i64 (cnt P),.slice a' (addL l o).length cap',.int .i64 (m.length:Int),t0,.complex .f64 x1 x2,.complex .f64 x3 x4],.slice a3 n3 c3,z2]) (by simp [results, Tryz.results124, go_sem, y0]) rfl ⟨H7.out.1.kx.bel,_,_,_,_,_,_,_,_,_,by rw [HEQ2.out.1],by rw [HEQ2.out.2]; exact H7.out.2.1,by rw [HEQ2.out.2,←HD2.out]; exact H7.out.2.2⟩
 ·have hq:(z==6)=false:=by simpa using hz6
  have HEQ2:=Lh (show RE=z∧RT=(m2,l2,L2) from by
   refine ⟨by rw [HEQ.out.1,if_neg hz6],?_⟩;rw [HEQ.out.2,if_neg hz6];rcases HD.out with ⟨h0,h1,h2,h3⟩ | ⟨h0,h1⟩
   ·rw [if_neg h0,h1,h2,h3]
   ·rw [if_pos h0,h1])
  clear HD HEQ HK hz6;go_wp2_with fail
  clear hWA hDD;obtain ⟨lc,hbx,hown⟩:=H1.out.tel.box;obtain ⟨a3,n3,c3,hv3⟩:∃ a3 n3 c3,lc=.slice a3 n3 c3:=by
   rcases hown.2 with ⟨h,_⟩ | ⟨g,cap,cur,h,_⟩
   ·exact ⟨_,_,_,h⟩
   ·exact ⟨_,_,_,h⟩
  subst hv3;have HX5:=Lh hbx;have HV5:=Lh (show IsV W1 m2 l2 [.pointer p2,.pointer q2,.int .i64 (cnt P2),.slice a2 l2.length cap2,.int .i64 (m2.length:Int),t2,.complex .f64 u1 u2,.complex .f64 u3 u4]∧IsVC W1 (.slice a3 n3 c3) L2 from And.intro HV1.out (Sl.of hown));have H5:=H1;have HD5:=HD1;clear H1 HD1 HV1 hbx hown;generalize W1=W5 at *
  have H6:=Lh (H5.out.next bdq);have HD6:=Lh (HD5.out.next bdq);have HX6:=Lh (HX5.out.next bdq);have HV6:=Lh (And.intro (HV5.out.1.next bdq) (HV5.out.2.next bdq));have hdum:=trivial;refine rgH (fun W=>Cc8 W D (.pointer p2) (.pointer q2) (.int .i64 (cnt P2)) (.slice a2 l2.length cap2) (.int .i64 (m2.length:Int)) t2 (.complex .f64 u1 u2) (.complex .f64 u3 u4) (Ce W (w.heap.size+1+1+1) 0 (.slice a3 n3 c3))) (let d:=HD5.out; let x:=HX5.out; (d.d8 (x.cell 0 rfl))) fun hH=>?_
  clear hdum H5 HD5 HX5 HV5;generalize W5.drew=W55 at *
  have zz0 := H6.out.br.c8;have fz0 := H6.out.br.f8;have H7:=Lh (show Ap8 w.heap.size (w.heap.size+1+1+1) w L2 [.pointer p,.pointer q,.int .i64 (cnt P),.slice a l.length cap,.int .i64 (m.length:Int),t0,.complex .f64 x1 x2,.complex .f64 x3 x4] o [.pointer p2,.pointer q2,.int .i64 (cnt P2),.slice a2 l2.length cap2,.int .i64 (m2.length:Int),t2,.complex .f64 u1 u2,.complex .f64 u3 u4] (setN W55 (w.heap.size+1+1) 0 [.pointer p2,.pointer q2,.int .i64 (cnt P2),.slice a2 l2.length cap2,.int .i64 (m2.length:Int),t2,.complex .f64 u1 u2,.complex .f64 u3 u4])∧IsV (setN W55 (w.heap.size+1+1) 0 [.pointer p2,.pointer q2,.int .i64 (cnt P2),.slice a2 l2.length cap2,.int .i64 (m2.length:Int),t2,.complex .f64 u1 u2,.complex .f64 u3 u4]) m2 l2 [.pointer p2,.pointer q2,.int .i64 (cnt P2),.slice a2 l2.length cap2,.int .i64 (m2.length:Int),t2,.complex .f64 u1 u2,.complex .f64 u3 u4]∧IsVC (setN W55 (w.heap.size+1+1) 0 [.pointer p2,.pointer q2,.int .i64 (cnt P2),.slice a2 l2.length cap2,.int .i64 (m2.length:Int),t2,.complex .f64 u1 u2,.complex .f64 u3 u4]) (.slice a3 n3 c3) L2 from And.intro (H6.out.putR [.pointer p2,.pointer q2,.int .i64 (cnt P2),.slice a2 l2.length cap2,.int .i64 (m2.length:Int),t2,.complex .f64 u1 u2,.complex .f64 u3 u4]) (And.intro (isv_set HV6.out.1 H6.out.br (by decide) (by decide) (by decide) 0 _) (isvc_set HV6.out.2 H6.out.br (by decide) 0 _)));have HB7:=Lh (show Blk (setN W55 (w.heap.size+1+1) 0 [.pointer p2,.pointer q2,.int .i64 (cnt P2),.slice a2 l2.length cap2,.int .i64 (m2.length:Int),t2,.complex .f64 u1 u2,.complex .f64 u3 u4]) D [.pointer p2,.pointer q2,.int .i64 (cnt P2),.slice a2 l2.length cap2,.int .i64 (m2.length:Int),t2,.complex .f64 u1 u2,.complex .f64 u3 u4] 43∧Blk (setN W55 (w.heap.size+1+1) 0 [.pointer p2,.pointer q2,.int .i64 (cnt P2),.slice a2 l2.length cap2,.int .i64 (m2.length:Int),t2,.complex .f64 u1 u2,.complex .f64 u3 u4]) (w.heap.size+1+1+1) [.slice a3 n3 c3] 197 from And.intro (HD6.out.setN (by omega) _ 0) (HX6.out.setN (by omega) _ 0));simp only [setN] at H7 HB7
  clear H6 HD6 HX6 HV6;refine ta 0 hH ?_;refine ta 1 hH ?_;refine ta 2 hH ?_;refine rd1 3 (by kernel_rfl) rfl fun KK hK=>?_
  go_simp
  go_wp2_with fail
  refine hK.out _ _ ((let d:=HB7.out.1; let x:=HB7.out.2; (d.d8 (x.cell 0 rfl)))) ?_;clear hK KK hH;intro hH
  try simp only [LAY]
  clear HB7 zz0 fz0;generalize ((((((((W55.setCell ⟨w.heap.size+1+1,0,none⟩ (.pointer p2)).setCell ⟨w.heap.size+1+1,1,none⟩ (.pointer q2)).setCell ⟨w.heap.size+1+1,2,none⟩ (.int .i64 (cnt P2))).setCell ⟨w.heap.size+1+1,3,none⟩ (.slice a2 l2.length cap2)).setCell ⟨w.heap.size+1+1,4,none⟩ (.int .i64 (m2.length:Int))).setCell ⟨w.heap.size+1+1,5,none⟩ t2).setCell ⟨w.heap.size+1+1,6,none⟩ (.complex .f64 u1 u2)).setCell ⟨w.heap.size+1+1,7,none⟩ (.complex .f64 u3 u4))=W7 at *
  refine ta 4 hH ?_;refine ta 5 hH ?_;refine dnH ?_;clear hH;go_wp2_with fail
  have y0 := H7.out.1.br.c8;exact bodyPost_ret (v:=.tuple #[.agg #[.pointer p2,.pointer q2,.int .i64 (cnt P2),.slice a2 l2.length cap2,.int .i64 (m2.length:Int),t2,.complex .f64 u1 u2,.complex .f64 u3 u4],.slice a3 n3 c3,z]) (by simp [results, Tryz.results124, go_sem, y0]) rfl ⟨H7.out.1.kx.bel,_,_,_,_,_,_,_,_,_,by rw [HEQ2.out.1],by rw [HEQ2.out.2]; exact H7.out.2.1,by rw [HEQ2.out.2]; exact H7.out.2.2⟩
end Go.Proofs.YtemicfjmidohfaaGreatDoor
set_option maxRecDepth 100000
set_option maxHeartbeats 12800000
namespace Go.Proofs.YtemicfjmidohfaaGreatDoor
open Go Go.Proofs Go.RowKit
theorem nextCtr_any (m l:List Oq) (n':Nat) (c0 c1 c2 c3 c4 c5 c6 c7:Value) (w:World) (hV:VOk m l n') (_:n'≤130) (hS:IsV w m l [c0,c1,c2,c3,c4,c5,c6,c7]):
  Calls Tryz.prog 176 #[.agg #[c0,c1,c2,c3,c4,c5,c6,c7]] w (Rt (.int .i64 (ctrI m l)) w):=by
 obtain ⟨p,q,T,P,a,cap,hst,h7,e⟩:=hS.opened;have hctr:=ctr_in hV.ok hV.rl;have hcm:=ctr_max (l:=l) hV.ok hst.mels hst.full;simp only [vcL, List.cons.injEq, and_true] at e;obtain ⟨rfl,rfl,rfl,rfl,rfl,rfl,rfl,rfl⟩:=e;have HLA:=Lh (fun W h=>Last_any (p:=q) (T:=P) (cnt P) W (hst.ma.next h) hst.full);have HTO:=Lh (fun W h=>ptop_ok l (.slice a l.length cap) W hV.l16 (Sl.next h7 h));have H0:=Lh (Vb8.start w [.pointer p,.pointer q,.int .i64 (cnt P),.slice a l.length cap,.int .i64 (m.length:Int),.int .i64 (nL (idsO m)),.complex .f64 (fl (cL (idsO m))) (fl (sL (idsO m))),.complex .f64 (fl (rL (idsO m))) (fl (iL (idsO m)))]);have fI:∀ (W:World) (c s:Int),(Instr.field 71 (.agg #[c,s]) 0).run Tryz.prog W=.ok c W:=fun _ _ _=>rfl
 have hdum:=trivial;generalize cnt P=N at *;generalize lastC P=lc at *;generalize lastS P=ls at *;generalize topI l=tp at *;generalize l.length=n at *;generalize ctrI m l=X at *;have HX:=Lh hcm;clear hV hst h7 hS;by_cases hlt:lc<tp
 focus
  rw [if_pos hlt] at hcm;have s0:IntKind.i64.wrap (1+tp)=1+tp:=IntWalk.i64_in _ (by omega);have HE:=Lh (show X=1+tp by omega);clear hcm HX hctr;have v0 := H0.out.bv.c8;go_enter Tryz.func176,Tryz.ntmps176;go_wp2_with fail;clear v0;generalize w.alloc _=W0 at *;refine rgH (fun W=>Ce W w.heap.size 1 (.pointer q)∧Ce W w.heap.size 2 N∧Ce W w.heap.size 3 (.slice a n cap)) (let h:=H0.out; ⟨h.bv.cell 1 rfl,h.bv.cell 2 rfl,h.bv.cell 3 rfl⟩) fun hH=>?_
  clear hdum;have H1:=Lh (H0.out.next bdq);clear H0;generalize W0.drew=W00 at *;refine ta 0 hH ?_;refine ta 1 hH ?_;refine ta 2 hH ?_;refine ta 5 hH ?_;refine ta 6 hH ?_;refine rc 3 (HLA.out _ H1.out.bel) ?_;rintro e' W1 ⟨rfl,hb⟩;refine rp ((let h:=(H1.out.next hb); ⟨h.bv.cell 1 rfl,h.bv.cell 2 rfl,h.bv.cell 3 rfl⟩)) ?_;clear hH;intro hH;have H2:=Lh (H1.out.next hb);clear hb H1;refine ta 4 hH ?_;refine rc 7 (HTO.out _ H2.out.bel) ?_;rintro e' W2 ⟨rfl,hb⟩;refine rp ((let h:=(H2.out.next hb); ⟨h.bv.cell 1 rfl,h.bv.cell 2 rfl,h.bv.cell 3 rfl⟩)) ?_;clear hH;intro hH;have H3:=Lh (H2.out.next hb);clear hb H2;refine tk 8 tp hH (fun w hSw=>?_) ?_
  ·(go_simp; first | omega | (rw [Int.max_def]; split <;> omega))
 rotate_left
 focus
  rw [if_neg hlt] at hcm;have s0:IntKind.i64.wrap (1+lc)=1+lc:=IntWalk.i64_in _ (by omega);have HE:=Lh (show X=1+lc by omega);clear hcm HX hctr;have v0 := H0.out.bv.c8;go_enter Tryz.func176,Tryz.ntmps176;go_wp2_with fail;clear v0;generalize w.alloc _=W0 at *;refine rgH (fun W=>Ce W w.heap.size 1 (.pointer q)∧Ce W w.heap.size 2 N∧Ce W w.heap.size 3 (.slice a n cap)) (let h:=H0.out; ⟨h.bv.cell 1 rfl,h.bv.cell 2 rfl,h.bv.cell 3 rfl⟩) fun hH=>?_
  clear hdum;have H1:=Lh (H0.out.next bdq);clear H0;generalize W0.drew=W00 at *;refine ta 0 hH ?_;refine ta 1 hH ?_;refine ta 2 hH ?_;refine ta 5 hH ?_;refine ta 6 hH ?_;refine rc 3 (HLA.out _ H1.out.bel) ?_;rintro e' W1 ⟨rfl,hb⟩;refine rp ((let h:=(H1.out.next hb); ⟨h.bv.cell 1 rfl,h.bv.cell 2 rfl,h.bv.cell 3 rfl⟩)) ?_;clear hH;intro hH;have H2:=Lh (H1.out.next hb);clear hb H1;refine ta 4 hH ?_;refine rc 7 (HTO.out _ H2.out.bel) ?_;rintro e' W2 ⟨rfl,hb⟩;refine rp ((let h:=(H2.out.next hb); ⟨h.bv.cell 1 rfl,h.bv.cell 2 rfl,h.bv.cell 3 rfl⟩)) ?_;clear hH;intro hH;have H3:=Lh (H2.out.next hb);clear hb H2;refine tk 8 lc hH (fun w hSw=>?_) ?_
  ·(go_simp; first | omega | (rw [Int.max_def]; split <;> omega))
 rotate_left
 all_goals
  try simp only [LAY]
  refine ta 9 hH ?_;refine ta 10 hH ?_;refine dnH ?_;clear hH;go_wp2_with fail;go_ret;exact ⟨by rw [HE.out]; rfl,H3.out.bel⟩
theorem vanchor_any (m l:List Oq) (n:Nat) (k:Int) (c0 c1 c2 c3 c4 c5 c6 c7:Value) (w:World) (hV:VOk m l n) (hn:n≤130) (hk0:0≤k) (hk1:k≤9223372036854775807) (hS:IsV w m l [c0,c1,c2,c3,c4,c5,c6,c7]):
  Calls Tryz.prog 177 #[.agg #[c0,c1,c2,c3,c4,c5,c6,c7],k] w (Rt (.agg #[.int .i64 (namC (docR m) (k - 1)).1,.int .i64 (namC (docR m) (k - 1)).2]) w):=by
 have H0:=Lh (Vc8.start w [c0,c1,c2,c3,c4,c5,c6,c7] [.int .i64 0,.int .i64 0] 71);have HN:=Lh (fun W h=>vnamed_ok m l n (k - 1) c0 c1 c2 c3 c4 c5 c6 c7 W hV hn (by omega) (by omega) (hS.next h));have s0:IntKind.i64.wrap (k - 1)=k - 1:=IntWalk.i64_in _ (by omega);generalize namC (docR m) (k - 1)=g at *
 obtain ⟨g1,g2⟩:=g
 dsimp only at HN ⊢
 generalize (!noneB g1 g2)=fl at *
 clear hV hn hk0 hk1 hS;have v0 := H0.out.bv.c8
 go_enter Tryz.func177,Tryz.ntmps177
 go_wp2_with fail;refine (HN.out _ H0.out.bel).mono ?_;rintro e w1 ⟨rfl,hb⟩
 have hbA:Below w1.heap.size w1 (w1.alloc (.cells #[g1,g2] 71)):=bA;have H2:=Lh ((H0.out.next hb).next hbA);have e0 := (Blk.start w1 [g1,g2] 71).c2;clear H0 hb HN hbA v0;generalize hWA:w1.alloc (.cells #[g1,g2] 71)=W2 at *
 have H3:=Lh (show Vc8 w _ [g1,g2] 71 (setN W2 (w.heap.size+1) 0 [g1,g2]) from H2.out.putX [g1,g2]);have z0 := H2.out.bx.c2;have fz0 := H2.out.bx.f2;go_wp2_with fail
 obtain ⟨y0,y1⟩:=H3.out.bx.c2;exact bodyPost_ret (by simp only [setN] at y0 y1; simp [results, Tryz.results177, go_sem, y0, y1]) rfl ⟨rfl,H3.out.bel⟩
theorem least_chk (site ch:Int):chkE 0 1 site 0 0 ch=if site<1∨1000<site then 2 else if charB ch=true then 1 else 0:=by
 have e1:idE 1 site=if site<1∨1000<site then 2 else 0:=by
  unfold idE
  by_cases h:site<1∨1000<site
  ·rw [if_pos h,if_neg]; simp only [mayB,decide_eq_true_eq]; omega
  ·rw [if_neg h,if_pos]; simp only [mayB,decide_eq_true_eq]; omega
 have e5:chrE 0 ch=if charB ch=true then 1 else 0:=by
  unfold chrE
  by_cases h:charB ch=true
  ·have h':=h
   simp only [charB,decide_eq_true_eq] at h'
   rw [if_pos h,if_pos (⟨rfl,by simp only [runeB,decide_eq_false_iff_not]; omega⟩)]
  ·have h':=h
   simp only [charB,decide_eq_true_eq] at h'
   rw [if_neg h,if_neg (fun e=>by have e2:=e.2; simp only [runeB,decide_eq_false_iff_not] at e2; omega)]
 unfold chkE kindE ancE ordE
 rw [e1,e5];by_cases h:site<1∨1000<site
 ·rw [if_pos h,if_pos h]; rfl
 ·rw [if_neg h,if_neg h]
  by_cases h2:charB ch=true
  ·rw [if_pos h2]; rfl
  ·rw [if_neg h2]; rfl
theorem checkIns8_any (m l:List Oq) (n:Nat) (site at_ ch:Int) (c0 c1 c2 c3 c4 c5 c6 c7:Value) (w:World) (hV:VOk m l n) (hn:n≤130) (hS:IsV w m l [c0,c1,c2,c3,c4,c5,c6,c7]):
  Calls Tryz.prog 175 #[.agg #[c0,c1,c2,c3,c4,c5,c6,c7],site,at_,.int .i32 ch] w (Rt (.int .i64 (inC8 m l site at_ ch)) w):=by
 have H0:=Lh (Vb8.start w [c0,c1,c2,c3,c4,c5,c6,c7]);have HL:=Lh (fun W h=>vlen_ok m l n c0 c1 c2 c3 c4 c5 c6 c7 W hV hn (hS.next h));have HC:=Lh (fun W=>opcheck_any 0 1 site 0 0 ch W);rw [least_chk] at HC;have HK:=Lh (fun W h=>nextCtr_any m l n c0 c1 c2 c3 c4 c5 c6 c7 W hV hn (hS.next h));have HI:=Lh (show inC8 m l site at_ ch=if site<1∨1000<site∨at_<0∨(rkL (docR m) ((docR m).length:Int):Int)<at_ then 2 else if charB ch=true then 1 else if 1048576<ctrI m l then 7 else 0 from rfl);generalize inC8 m l site at_ ch=X at *
 generalize ctrI m l=ct at *
 by_cases h0:at_<0
 ·have HX:=Lh (show X=2 by rw [HI.out,if_pos (.inr (.inr (.inl h0)))])
  clear HI HC HK HL hV hn hS;have v0 := H0.out.bv.c8
  go_enter Tryz.func175,Tryz.ntmps175
  go_wp2_with fail
  go_ret
  exact ⟨by rw [HX.out]; rfl,H0.out.bel⟩
 by_cases h1:(rkL (docR m) ((docR m).length:Int):Int)<at_
 ·have HX:=Lh (show X=2 by rw [HI.out,if_pos (.inr (.inr (.inr h1)))])
  clear HI HC HK hV hn hS;generalize (rkL (docR m) ((docR m).length:Int):Int)=al at *
  have v0 := H0.out.bv.c8
  go_enter Tryz.func175,Tryz.ntmps175
  go_wp2_with fail;refine (HL.out _ H0.out.bel).mono ?_;rintro e w1 ⟨rfl,hb⟩
  have H1:=Lh (H0.out.next hb);clear H0 hb HL v0;go_wp2_with fail
  go_ret
  exact ⟨by rw [HX.out]; rfl,H1.out.bel⟩
 have HX:=Lh (show X=(if (if site<1∨1000<site then 2 else if charB ch=true then 1 else 0:Int)=0 then (if 1048576<ct then 7 else 0) else (if site<1∨1000<site then 2 else if charB ch=true then 1 else 0)) from by
  rw [HI.out];by_cases g:site<1∨1000<site
  ·rw [if_pos (by omega),if_pos g]; rfl
  ·rw [if_neg (by omega),if_neg g]
   by_cases g2:charB ch=true
   ·rw [if_pos g2,if_pos g2]; rfl
   ·rw [if_neg g2,if_neg g2,if_pos rfl])
 generalize (if site<1∨1000<site then 2 else if charB ch=true then 1 else 0:Int)=E at *
 obtain ⟨p,q,T,P,a,cap,hst,h7,e⟩:=hS.opened;obtain ⟨hm50,-,hr50⟩:=hV.small hn;have hsz:=hst.size;simp only [vcL, List.cons.injEq, and_true] at e
 obtain ⟨rfl,rfl,rfl,rfl,rfl,rfl,rfl,rfl⟩:=e;have HT:=Lh (fun W h=>len_any (p:=p) (T:=T) W (hst.tr.next h));have hT50:(T.size:Int)≤130:=by omega
 generalize (T.size:Int)=ts at *
 generalize (rkL (docR m) ((docR m).length:Int):Int)=al at *
 generalize cnt P=N at *
 generalize (m.length:Int)=M at *
 generalize nL (idsO m)=t0 at *
 generalize fl (cL (idsO m))=x1 at *
 generalize fl (sL (idsO m))=x2 at *
 generalize fl (rL (idsO m))=x3 at *
 generalize fl (iL (idsO m))=x4 at *
 generalize l.length=ll at *
 clear HI hV hn hS hst h7 hsz hm50 hr50;have hbA:∀ w1:World,Below w1.heap.size w1 (w1.alloc (.cells #[.int .i64 0,.int .i64 1,site,.int .i64 0,.int .i64 0,.int .i32 ch] 73)):=fun w1=>bA
 by_cases hE:E=0
 rotate_left
 ·have hz:(E==0)=false:=by simpa using hE
  rw [if_neg hE] at HX;clear hE HK HT;have v0 := H0.out.bv.c8
  go_enter Tryz.func175,Tryz.ntmps175
  go_wp2_with fail;refine (HL.out _ H0.out.bel).mono ?_;rintro e w1 ⟨rfl,hb⟩
  have H1:=Lh ((H0.out.next hb).next (hbA w1));have HO1:=Lh (Blk.start w1 [.int .i64 0,.int .i64 1,site,.int .i64 0,.int .i64 0,.int .i32 ch] 73);clear H0 hb HL v0;generalize hWA:World.alloc _ _=W1 at *
  have o0 := HO1.out.c6;go_wp2_with fail;refine (HC.out _).mono ?_;rintro e w2 ⟨rfl,hb⟩
  have H2:=Lh (H1.out.next hb);clear H1 HO1 hb HC hWA o0;go_wp2_with fail
  go_ret
  exact ⟨by rw [HX.out]; rfl,H2.out.bel⟩
 ·subst hE
  rw [if_pos rfl] at HX;have v0 := H0.out.bv.c8
  go_enter Tryz.func175,Tryz.ntmps175
  go_wp2_with fail;refine (HL.out _ H0.out.bel).mono ?_;rintro e w1 ⟨rfl,hb⟩
  have H1:=Lh ((H0.out.next hb).next (hbA w1));have HO1:=Lh (Blk.start w1 [.int .i64 0,.int .i64 1,site,.int .i64 0,.int .i64 0,.int .i32 ch] 73);clear H0 hb HL v0;generalize hWA:World.alloc _ _=W1 at *
  have o0 := HO1.out.c6;go_wp2_with fail;refine (HC.out _).mono ?_;rintro e w2 ⟨rfl,hb⟩
  have H2:=Lh (H1.out.next hb);clear H1 HO1 hb HC hWA o0;have v0 := H2.out.bv.c8;have hlt:¬ (4096:Int)≤ts:=by omega
  go_wp2_with fail;refine (HT.out _ H2.out.bel).mono ?_;rintro e w3 ⟨rfl,hb⟩
  have H3:=Lh (H2.out.next hb);clear H2 hb HT v0;have v0 := H3.out.bv.c8;go_wp2_with fail;refine (HK.out _ H3.out.bel).mono ?_;rintro e w4 ⟨rfl,hb⟩
  have H4:=Lh (H3.out.next hb);clear H3 hb HK v0;by_cases hc:1048576<ct
  ·rw [if_pos hc] at HX
   go_wp2_with fail
   go_ret
   exact ⟨by rw [HX.out]; rfl,H4.out.bel⟩
  ·rw [if_neg hc] at HX
   go_wp2_with fail
   go_ret
   exact ⟨by rw [HX.out]; rfl,H4.out.bel⟩
end Go.Proofs.YtemicfjmidohfaaGreatDoor
set_option maxRecDepth 100000
set_option maxHeartbeats 12800000
namespace Go.Proofs.YtemicfjmidohfaaGreatDoor
open Go Go.Proofs Go.RowKit
structure Ow8 (w:World) (vc oc rc xc:List Value) (W:World):Prop where
 bel:Below w.heap.size w W
 bv:Blk W w.heap.size vc 43
 bo:Blk W (w.heap.size+1) oc 73
 br:Blk W (w.heap.size+1+1) rc 43
 bx:Blk W (w.heap.size+1+1+1) xc 73
theorem Ow8.next {w:World} {vc oc rc xc:List Value} {W W':World} (h:Ow8 w vc oc rc xc W) (hb:Below W.heap.size W W'):Ow8 w vc oc rc xc W':=⟨h.bel.trans (hb.mono h.bel.size),h.bv.next hb,h.bo.next hb,h.br.next hb,h.bx.next hb⟩
theorem Ow8.start (w:World) (vc oc rc xc:List Value):Ow8 w vc oc rc xc ((((w.alloc (.cells ⟨vc⟩ 43)).alloc (.cells ⟨oc⟩ 73)).alloc (.cells ⟨rc⟩ 43)).alloc (.cells ⟨xc⟩ 73)):=
 ⟨(below3 w _ _ _ _ _ _).alloc (by simp; omega) _,(((Blk.start w vc _).alloc _).alloc _).alloc _,((Blk.startAt (by simp)).alloc _).alloc _,(Blk.startAt (vs:=rc) (by simp)).alloc _,Blk.startAt (by simp)⟩
theorem Ow8.putR {w:World} {vc oc rc xc:List Value} {W:World} (h:Ow8 w vc oc rc xc W) (xs:List Value):Ow8 w vc oc (putN rc 0 xs) xc (setN W (w.heap.size+1+1) 0 xs):=⟨setN_below (by omega) xs 0 h.bel,h.bv.setN (by omega) xs 0,h.bo.setN (by omega) xs 0,setN_blk xs 0 h.br,h.bx.setN (by omega) xs 0⟩
theorem Ow8.putX {w:World} {vc oc rc xc:List Value} {W:World} (h:Ow8 w vc oc rc xc W) (xs:List Value):Ow8 w vc oc rc (putN xc 0 xs) (setN W (w.heap.size+1+1+1) 0 xs):=⟨setN_below (by omega) xs 0 h.bel,h.bv.setN (by omega) xs 0,h.bo.setN (by omega) xs 0,h.br.setN (by omega) xs 0,setN_blk xs 0 h.bx⟩
structure In8 (w:World) (vc rc xc:List Value) (W:World):Prop where
 bel:Below w.heap.size w W
 bv:Blk W w.heap.size vc 43
 br:Blk W (w.heap.size+1) rc 43
 bx:Blk W (w.heap.size+1+1) xc 73
theorem In8.next {w:World} {vc rc xc:List Value} {W W':World} (h:In8 w vc rc xc W) (hb:Below W.heap.size W W'):In8 w vc rc xc W':=⟨h.bel.trans (hb.mono h.bel.size),h.bv.next hb,h.br.next hb,h.bx.next hb⟩
theorem In8.start (w:World) (vc rc xc:List Value):In8 w vc rc xc (((w.alloc (.cells ⟨vc⟩ 43)).alloc (.cells ⟨rc⟩ 43)).alloc (.cells ⟨xc⟩ 73)):=
 ⟨below3 w _ _ _ _ _ _,((Blk.start w vc _).alloc _).alloc _,(Blk.startAt (by simp)).alloc _,Blk.startAt (by simp)⟩
theorem In8.putR {w:World} {vc rc xc:List Value} {W:World} (h:In8 w vc rc xc W) (xs:List Value):In8 w vc (putN rc 0 xs) xc (setN W (w.heap.size+1) 0 xs):=⟨setN_below (by omega) xs 0 h.bel,h.bv.setN (by omega) xs 0,setN_blk xs 0 h.br,h.bx.setN (by omega) xs 0⟩
theorem In8.putX {w:World} {vc rc xc:List Value} {W:World} (h:In8 w vc rc xc W) (xs:List Value):In8 w vc rc (putN xc 0 xs) (setN W (w.heap.size+1+1) 0 xs):=⟨setN_below (by omega) xs 0 h.bel,h.bv.setN (by omega) xs 0,h.br.setN (by omega) xs 0,setN_blk xs 0 h.bx⟩
theorem own_any (m l:List Oq) (n:Nat) (o:Oq) (c0 c1 c2 c3 c4 c5 c6 c7:Value) (w:World) (hV:VOk m l n) (hn:n≤130) (hS:IsV w m l [c0,c1,c2,c3,c4,c5,c6,c7]):
  Calls Tryz.prog 178 #[.agg #[c0,c1,c2,c3,c4,c5,c6,c7],.agg o] w fun r w'=>Below w.heap.size w w'∧∃ d0 d1 d2 d3 d4 d5 d6 d7 lc,r=.returned (.tuple #[.agg #[d0,d1,d2,d3,d4,d5,d6,d7],.agg o,lc,.int .i64 (remE m l o)])∧IsV w' (remT m l o).1 (remT m l o).2.1 [d0,d1,d2,d3,d4,d5,d6,d7]∧IsVC w' lc (remT m l o).2.2:=by
 have H0:=Lh (Ow8.start w [c0,c1,c2,c3,c4,c5,c6,c7] o [.pointer none,.pointer none,.int .i64 0,.slice none 0 0,.int .i64 0,.int .i64 0,.complex .f64 0 0,.complex .f64 0 0] [.int .i64 0,.int .i64 0,.int .i64 0,.int .i64 0,.int .i64 0,.int .i32 0]);have HR:=Lh (fun W h=>vremote_ok m l n o c0 c1 c2 c3 c4 c5 c6 c7 W hV hn (hS.next h));have HRL:=Lh (hV.rem o).rl;generalize remE m l o=E at *
 generalize remT m l o=RT at *
 clear hV hn hS;have v0 := H0.out.bv.c8;have oo0 := H0.out.bo.c6
 go_enter Tryz.func178,Tryz.ntmps178
 go_wp2_with fail;refine (HR.out _ H0.out.bel).mono ?_;rintro e w1 ⟨hb,d0,d1,d2,d3,d4,d5,d6,d7,lc,rfl,hiv,hic⟩
 obtain ⟨al,pl,rfl,hd1,hd2⟩:=hic.form;generalize RT.2.2.length=n3 at *
 have hbA:Below w1.heap.size w1 (w1.alloc (.cells #[d0,d1,d2,d3,d4,d5,d6,d7] 43)):=bA;have H1:=Lh ((H0.out.next hb).next hbA);have HV1:=Lh (And.intro (hiv.next hbA) (hic.next hbA));have HD1:=Lh (Blk.start w1 [d0,d1,d2,d3,d4,d5,d6,d7] 43);have hDlt:w.heap.size+1+1+1<w1.heap.size:=(H0.out.next hb).bx.lt;have hon:=hiv.one;have sdd0:=so (hon d0 (by simp))
 have sdd1:=so (hon d1 (by simp))
 have sdd2:=so (hon d2 (by simp))
 have sdd3:=so (hon d3 (by simp))
 have sdd4:=so (hon d4 (by simp))
 have sdd5:=so (hon d5 (by simp))
 have sdd6:=so (hon d6 (by simp))
 have sdd7:=so (hon d7 (by simp))
 clear hon;clear H0 HR hb hiv hic hbA hd1 hd2 v0 oo0;generalize hWA:World.alloc _ _=W1 at *
 generalize hDD:w1.heap.size=D at *
 go_wp2_with fail
 clear hWA hDD;have H6:=Lh (H1.out.next bdq);have HD6:=Lh (HD1.out.next bdq);have HV6:=Lh (And.intro (HV1.out.1.next bdq) (HV1.out.2.next bdq));have hdum:=trivial;refine rgH (fun W=>Cc8 W D d0 d1 d2 d3 d4 d5 d6 d7 (Cz6 W (w.heap.size+1) o.k o.c o.s o.a o.n (.int .i32 o.ch))) (let h:=H1.out; let d:=HD1.out; (d.d8 h.bo.c6)) fun hH=>?_
 clear hdum H1 HD1 HV1;generalize W1.drew=W55 at *
 have zz0 := H6.out.br.c8;have fz0 := H6.out.br.f8;have HA7:=Lh (show Ow8 w [c0,c1,c2,c3,c4,c5,c6,c7] o [d0,d1,d2,d3,d4,d5,d6,d7] [.int .i64 0,.int .i64 0,.int .i64 0,.int .i64 0,.int .i64 0,.int .i32 0] (setN W55 (w.heap.size+1+1) 0 [d0,d1,d2,d3,d4,d5,d6,d7])∧Blk (setN W55 (w.heap.size+1+1) 0 [d0,d1,d2,d3,d4,d5,d6,d7]) D [d0,d1,d2,d3,d4,d5,d6,d7] 43∧IsV (setN W55 (w.heap.size+1+1) 0 [d0,d1,d2,d3,d4,d5,d6,d7]) RT.1 RT.2.1 [d0,d1,d2,d3,d4,d5,d6,d7]∧IsVC (setN W55 (w.heap.size+1+1) 0 [d0,d1,d2,d3,d4,d5,d6,d7]) (.slice al n3 pl) RT.2.2 from And.intro (H6.out.putR [d0,d1,d2,d3,d4,d5,d6,d7]) (And.intro (HD6.out.setN (by omega) _ 0) (And.intro (isv_set HV6.out.1 H6.out.br (by decide) (by decide) (by decide) 0 _) (isvc_set HV6.out.2 H6.out.br (by decide) 0 _))));simp only [setN] at HA7
 clear H6 HD6 HV6;refine ta 0 hH ?_;refine ta 1 hH ?_;refine ta 2 hH ?_;refine ta 3 hH ?_;refine rd1 4 (by kernel_rfl) rfl fun KK hK=>?_
 go_simp
 go_wp2_with fail
 refine hK.out _ _ ((let h:=HA7.out.1; let d:=HA7.out.2.1; (d.d8 h.bo.c6))) ?_;clear hK KK hH;intro hH
 try simp only [LAY]
 clear zz0 fz0;generalize ((((((((W55.setCell ⟨w.heap.size+1+1,0,none⟩ (d0)).setCell ⟨w.heap.size+1+1,1,none⟩ (d1)).setCell ⟨w.heap.size+1+1,2,none⟩ (d2)).setCell ⟨w.heap.size+1+1,3,none⟩ (d3)).setCell ⟨w.heap.size+1+1,4,none⟩ (d4)).setCell ⟨w.heap.size+1+1,5,none⟩ (d5)).setCell ⟨w.heap.size+1+1,6,none⟩ (d6)).setCell ⟨w.heap.size+1+1,7,none⟩ (d7))=W7 at *
 have xx0 := HA7.out.1.bx.c6;have fx0 := HA7.out.1.bx.f6;have HB7:=Lh (show Ow8 w [c0,c1,c2,c3,c4,c5,c6,c7] o [d0,d1,d2,d3,d4,d5,d6,d7] o (setN W7 (w.heap.size+1+1+1) 0 (oqL o))∧Blk (setN W7 (w.heap.size+1+1+1) 0 (oqL o)) D [d0,d1,d2,d3,d4,d5,d6,d7] 43∧IsV (setN W7 (w.heap.size+1+1+1) 0 (oqL o)) RT.1 RT.2.1 [d0,d1,d2,d3,d4,d5,d6,d7]∧IsVC (setN W7 (w.heap.size+1+1+1) 0 (oqL o)) (.slice al n3 pl) RT.2.2 from And.intro (HA7.out.1.putX (oqL o)) (And.intro (HA7.out.2.1.setN (by omega) _ 0) (And.intro (IsV.setO HA7.out.1.bx HA7.out.2.2.1 HRL.out o) (isvc_set HA7.out.2.2.2 HA7.out.1.bx (by decide) 0 _))));simp only [setN, oqL] at HB7
 clear HA7;refine rd1 5 (by kernel_rfl) rfl fun KK hK=>?_
 go_simp
 go_wp2_with fail
 refine hK.out _ _ ((let h:=HB7.out.1; let d:=HB7.out.2.1; (d.d8 h.bo.c6))) ?_;clear hK KK hH;intro hH
 try simp only [LAY]
 clear xx0 fx0;generalize ((((((W7.setCell ⟨w.heap.size+1+1+1,0,none⟩ o.k).setCell ⟨w.heap.size+1+1+1,1,none⟩ o.c).setCell ⟨w.heap.size+1+1+1,2,none⟩ o.s).setCell ⟨w.heap.size+1+1+1,3,none⟩ o.a).setCell ⟨w.heap.size+1+1+1,4,none⟩ o.n).setCell ⟨w.heap.size+1+1+1,5,none⟩ (.int .i32 o.ch))=W8 at *
 refine ta 6 hH ?_;refine ta 7 hH ?_;refine dnH ?_;clear hH;go_wp2_with fail
 have y0 := HB7.out.1.br.c8;have u0 := HB7.out.1.bx.c6;exact bodyPost_ret (by simp [results, Tryz.results178, go_sem, y0, u0]) rfl ⟨HB7.out.1.bel,d0,d1,d2,d3,d4,d5,d6,d7,_,rfl,HB7.out.2.2.1,HB7.out.2.2.2⟩
theorem vdelete_ok:VDeleteOk:=by
 intro m l n k c0 c1 c2 c3 c4 c5 c6 c7 w hV hn hk0 hk1 hS
 have H0:=Lh (In8.start w [c0,c1,c2,c3,c4,c5,c6,c7] [.pointer none,.pointer none,.int .i64 0,.slice none 0 0,.int .i64 0,.int .i64 0,.complex .f64 0 0,.complex .f64 0 0] [.int .i64 0,.int .i64 0,.int .i64 0,.int .i64 0,.int .i64 0,.int .i32 0]);have HN:=Lh (fun W h=>vnamed_ok m l n k c0 c1 c2 c3 c4 c5 c6 c7 W hV hn hk0 hk1 (hS.next h));by_cases hnm:namC (docR m) k=(0,0)
 ·have hE1:deE8 m l k=2:=by unfold deE8; rw [if_pos hnm]
  have hE2:deT8 m l k=(m,l,[]):=by unfold deT8; rw [if_pos hnm]
  rw [hE1];have HE:=Lh (And.intro (show opP 2 (deV8 m k)=zeroO from rfl) hE2);clear hE1 hE2;have HRL:=Lh hV.rl;have HVS:=Lh hS;rw [hnm] at HN;generalize deT8 m l k=RT at *
  generalize deV8 m k=dv at *
  have HN:=Lh (fun W h=>HN.out W h)
  dsimp only [noneB] at HN
  clear hV hn hk0 hk1 hnm;have hon:=hS.one;have sdc0:=so (hon c0 (by simp))
  have sdc1:=so (hon c1 (by simp))
  have sdc2:=so (hon c2 (by simp))
  have sdc3:=so (hon c3 (by simp))
  have sdc4:=so (hon c4 (by simp))
  have sdc5:=so (hon c5 (by simp))
  have sdc6:=so (hon c6 (by simp))
  have sdc7:=so (hon c7 (by simp))
  clear hon;clear hS;have v0 := H0.out.bv.c8
  go_enter Tryz.func122,Tryz.ntmps122
  go_wp2_with fail;refine (HN.out _ H0.out.bel).mono ?_;rintro e w1 ⟨rfl,hb⟩
  have H1:=Lh (H0.out.next hb);have HV1:=Lh ((HVS.out.next H0.out.bel).next hb);have hlt2:w.heap.size+1+1<w1.heap.size:=(H0.out.next hb).bx.lt;have hlt1:w.heap.size+1<w1.heap.size:=by omega
  have hlt0:w.heap.size<w1.heap.size:=by omega
  have hbA:∀ W:World,Below W.heap.size W (W.alloc (.cells #[.int .i64 0,.int .i64 0] 71)):=fun W=>bA
  clear H0 HN hb HVS v0;have HA7:=Lh (show In8 w [c0,c1,c2,c3,c4,c5,c6,c7] [c0,c1,c2,c3,c4,c5,c6,c7] [.int .i64 0,.int .i64 0,.int .i64 0,.int .i64 0,.int .i64 0,.int .i32 0] (setN (setN w1 (w.heap.size+1) 0 [c0,c1,c2,c3,c4,c5,c6,c7]) (w.heap.size+1+1) 0 [.int .i64 0,.int .i64 0,.int .i64 0,.int .i64 0,.int .i64 0,.int .i32 0])∧IsV (setN (setN w1 (w.heap.size+1) 0 [c0,c1,c2,c3,c4,c5,c6,c7]) (w.heap.size+1+1) 0 [.int .i64 0,.int .i64 0,.int .i64 0,.int .i64 0,.int .i64 0,.int .i32 0]) m l [c0,c1,c2,c3,c4,c5,c6,c7] from And.intro ((H1.out.putR [c0,c1,c2,c3,c4,c5,c6,c7]).putX [.int .i64 0,.int .i64 0,.int .i64 0,.int .i64 0,.int .i64 0,.int .i32 0]) (IsV.setO (x:=zeroO) (H1.out.putR [c0,c1,c2,c3,c4,c5,c6,c7]).bx (isv_set HV1.out H1.out.br (by decide) (by decide) (by decide) 0 _) HRL.out));simp only [setN] at HA7
  have HA8:=Lh (And.intro (HA7.out.1.next (hbA _)) (HA7.out.2.next (hbA _)));clear hbA;have v0 := H1.out.bv.c8;have zz0 := H1.out.br.c8;have fz0 := H1.out.br.f8;have xx0 := H1.out.bx.c6;have fx0 := H1.out.bx.f6;go_wp2_with fail
  have y0 := HA8.out.1.br.c8;have u0 := HA8.out.1.bx.c6;exact bodyPost_ret (v:=.tuple #[.agg #[c0,c1,c2,c3,c4,c5,c6,c7],.agg #[.int .i64 0,.int .i64 0,.int .i64 0,.int .i64 0,.int .i64 0,.int .i32 0],.slice none 0 0,.int .i64 2]) (by simp [results, Tryz.results122, go_sem, y0, u0]) rfl ⟨HA8.out.1.bel,c0,c1,c2,c3,c4,c5,c6,c7,_,zeroO,by rw [HE.out.1],rfl,by rw [HE.out.2]; exact HA8.out.2,by rw [HE.out.2]; exact .inl ⟨rfl,rfl⟩⟩
 ·have hE1:deE8 m l k=0:=by unfold deE8; rw [if_neg hnm,del_w hV.ok hnm]
  have hE2:deT8 m l k=remT m l (deV8 m k):=by unfold deT8; rw [if_neg hnm]
  rw [hE1];have HE:=Lh (show opP 0 (deV8 m k)=deV8 m k from rfl);have HRL:=Lh (hV.rem (deV8 m k)).rl;have hy:=nam_yes hnm;have hfl:=nam_flag hV.ok hy.1 hy.2;rw [hfl] at HN;have HO:=Lh (fun W (h:Below w.heap.size w W)=>own_any m l n (deV8 m k) c0 c1 c2 c3 c4 c5 c6 c7 W hV hn (hS.next h));rw [del_w hV.ok hnm] at HO;rw [←hE2] at HO HRL;clear hE1 hE2;have hdk:(deV8 m k).k=1:=rfl;have hdc:(deV8 m k).c=(namC (docR m) k).1:=rfl;have hds:(deV8 m k).s=(namC (docR m) k).2:=rfl;have hda:(deV8 m k).a=0:=rfl;have hdn:(deV8 m k).n=0:=rfl;have hdh:(deV8 m k).ch=0:=rfl;rw [hdk,hdc,hds,hda,hdn,hdh] at HO;generalize deT8 m l k=RT at *
  have HQ:=Lh (And.intro hdk (And.intro hdc (And.intro hds (And.intro hda (And.intro hdn hdh)))));generalize deV8 m k=dv at *
  generalize (namC (docR m) k).1=g1 at *
  generalize (namC (docR m) k).2=g2 at *
  clear hV hn hk0 hk1 hnm hfl hy hS hdk hdc hds hda hdn hdh;have v0 := H0.out.bv.c8
  go_enter Tryz.func122,Tryz.ntmps122
  go_wp2_with fail;refine (HN.out _ H0.out.bel).mono ?_;rintro e w1 ⟨rfl,hb⟩
  have hbA:Below w1.heap.size w1 (w1.alloc (.cells #[g1,g2] 71)):=bA;have H1:=Lh ((H0.out.next hb).next hbA);have e0 := (Blk.start w1 [g1,g2] 71).c2;clear H0 HN hb hbA v0;generalize hWA:w1.alloc (.cells #[g1,g2] 71)=W1 at *
  have v0 := H1.out.bv.c8;go_wp2_with fail;refine (HO.out _ H1.out.bel).mono ?_;rintro e w4 ⟨hb,d0,d1,d2,d3,d4,d5,d6,d7,lc,rfl,hiv,hic⟩
  obtain ⟨al,pl,rfl,hd1,hd2⟩:=hic.form;generalize RT.2.2.length=n3 at *
  have H4:=Lh (H1.out.next hb);have HV4:=Lh (And.intro hiv hic);have hon:=hiv.one;have sdd0:=so (hon d0 (by simp))
  have sdd1:=so (hon d1 (by simp))
  have sdd2:=so (hon d2 (by simp))
  have sdd3:=so (hon d3 (by simp))
  have sdd4:=so (hon d4 (by simp))
  have sdd5:=so (hon d5 (by simp))
  have sdd6:=so (hon d6 (by simp))
  have sdd7:=so (hon d7 (by simp))
  clear hon;clear H1 HO hb hiv hic hd1 hd2 hWA e0 v0;have HA7:=Lh (show In8 w [c0,c1,c2,c3,c4,c5,c6,c7] [d0,d1,d2,d3,d4,d5,d6,d7] (oqL ⟨1,g1,g2,0,0,0,by decide,by decide⟩) (setN (setN w4 (w.heap.size+1) 0 [d0,d1,d2,d3,d4,d5,d6,d7]) (w.heap.size+1+1) 0 (oqL ⟨1,g1,g2,0,0,0,by decide,by decide⟩))∧IsV (setN (setN w4 (w.heap.size+1) 0 [d0,d1,d2,d3,d4,d5,d6,d7]) (w.heap.size+1+1) 0 (oqL ⟨1,g1,g2,0,0,0,by decide,by decide⟩)) RT.1 RT.2.1 [d0,d1,d2,d3,d4,d5,d6,d7]∧IsVC (setN (setN w4 (w.heap.size+1) 0 [d0,d1,d2,d3,d4,d5,d6,d7]) (w.heap.size+1+1) 0 (oqL ⟨1,g1,g2,0,0,0,by decide,by decide⟩)) (.slice al n3 pl) RT.2.2 from And.intro ((H4.out.putR [d0,d1,d2,d3,d4,d5,d6,d7]).putX (oqL ⟨1,g1,g2,0,0,0,by decide,by decide⟩)) (And.intro (IsV.setO (H4.out.putR [d0,d1,d2,d3,d4,d5,d6,d7]).bx (isv_set HV4.out.1 H4.out.br (by decide) (by decide) (by decide) 0 _) HRL.out ⟨1,g1,g2,0,0,0,by decide,by decide⟩) (isvc_set (isvc_set HV4.out.2 H4.out.br (by decide) 0 _) (H4.out.putR [d0,d1,d2,d3,d4,d5,d6,d7]).bx (by decide) 0 _)));simp only [setN, oqL] at HA7
  have zz0 := H4.out.br.c8;have fz0 := H4.out.br.f8;have xx0 := H4.out.bx.c6;have fx0 := H4.out.bx.f6;go_wp2_with fail
  have y0 := HA7.out.1.br.c8;have u0 := HA7.out.1.bx.c6;exact bodyPost_ret (v:=.tuple #[.agg #[d0,d1,d2,d3,d4,d5,d6,d7],.agg #[.int .i64 1,g1,g2,.int .i64 0,.int .i64 0,.int .i32 0],.slice al n3 pl,.int .i64 0]) (by simp [results, Tryz.results122, go_sem, y0, u0]) rfl ⟨HA7.out.1.bel,d0,d1,d2,d3,d4,d5,d6,d7,_,dv,by rw [HE.out],by rw [HQ.out.1,HQ.out.2.1,HQ.out.2.2.1,HQ.out.2.2.2.1,HQ.out.2.2.2.2.1,HQ.out.2.2.2.2.2],HA7.out.2.1,HA7.out.2.2⟩
end Go.Proofs.YtemicfjmidohfaaGreatDoor
