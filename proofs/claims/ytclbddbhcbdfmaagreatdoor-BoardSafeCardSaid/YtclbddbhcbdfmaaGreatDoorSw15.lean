import Derived.Test.YtclbddbhcbdfmaaGreatDoorWa
import Derived.Test.YtclbddbhcbdfmaaGreatDoorRo
import Derived.Deep.CutBlock
set_option maxRecDepth 100000
set_option maxHeartbeats 12800000
namespace Go.Proofs.YtclbddbhcbdfmaaGreatDoor
open Go Go.Proofs Go.RowKit
structure S15 (w:World) (g m:Nat) (st:Int) (n k:Nat) (b:Brd) (cs:List Value) (F:Int→Value) (W:World):Prop where
 bel:Below w.heap.size w W
 ge:w.heap.size≤g
 gm:w.heap.size≤m
 bb:Blk W g cs 51
 ib:IsBd W (fun c=>c=m) b cs
 ok:BOk b n
 sf:BSf b
 ln:(b.st.length:Int)=st
 mp:∃ K,MapI Tryz.prog 3 m k (.int .i64 0) F K W
theorem S15.next {w:World} {g m:Nat} {st:Int} {n k:Nat} {b:Brd} {cs:List Value} {F:Int→Value} {W W':World} (h:S15 w g m st n k b cs F W) (hb:Below W.heap.size W W'):S15 w g m st n k b cs F W':=by
 obtain ⟨K,hm⟩:=h.mp;exact ⟨h.bel.trans (hb.mono h.bel.size),h.ge,h.gm,h.bb.next hb,h.ib.next hb,h.ok,h.sf,h.ln,⟨K,hm.next hb⟩⟩
theorem S15.old {w:World} {g m:Nat} {st:Int} {n k:Nat} {b:Brd} {cs:List Value} {F:Int→Value} {W:World} (h:S15 w g m st n k b cs F W):Old (fun c=>c=m) W:=fun c e=>by
 obtain ⟨K,hm⟩:=h.mp
 cases e; exact hm.lt
theorem S15.ge0 {w:World} {g m:Nat} {st:Int} {n k:Nat} {b:Brd} {cs:List Value} {F:Int→Value} {W:World} (h:S15 w g m st n k b cs F W):w.heap.size≤W.heap.size:=h.bel.size
theorem S15.put {w:World} {g m:Nat} {st:Int} {n n' k:Nat} {b b':Brd} {cs cs':List Value} {F:Int→Value} {W:World} (h:S15 w g m st n k b cs F W) (hI:IsBd W (fun c=>c=m) b' cs') (hk:BOk b' n') (hs:BSf b') (hl:b'.st.length=b.st.length):S15 w g m st n' k b' cs' F (setN W g 0 cs'):=by
 obtain ⟨K,hm⟩:=h.mp;have hT:51∉bTy:=by decide
 exact ⟨setN_below h.ge _ 0 h.bel,h.ge,h.gm,setN_all h.bb (by rw [hI.len,h.ib.len]),hI.setN h.bb hT _,hk,hs,by rw [hl]; exact h.ln,⟨K,hm.setN h.bb _⟩⟩
theorem S15.mark {w:World} {g m:Nat} {st:Int} {n k:Nat} {b:Brd} {cs:List Value} {F:Int→Value} {W:World} (h:S15 w g m st n k b cs F W) (hk:k≤1000) (j:Int) (h0:0≤j) (h1:j≤800) (v:Value):
  ∃ W',(Instr.mapUpdate 82 (.map (some m)) j v).run Tryz.prog W=.ok () W'∧S15 w g m st n (k+1) b cs (fun i=>if i=j then v else F i) W'∧∀ c us u,Blk W c us u→Blk W' c us u:=by
 obtain ⟨K,hm⟩:=h.mp;obtain ⟨W',hr,hm',hg⟩:=hm.put Tryz.underlying3 Tryz.underlying82 (by omega) (i:=j) (by simp [Lit.wf]; exact ⟨by show -9223372036854775808≤j; omega,by show j≤9223372036854775807; omega⟩) v;have ho:∃ o:Obj,W.heap[m]? = some o∧o.isCells=false:=by
  obtain ⟨D,⟨es,cl,hb,_⟩,_⟩:=hm;exact ⟨_,hb,rfl⟩
 obtain ⟨o,ho,hc⟩:=ho;exact ⟨W',hr,⟨h.bel.trans (Below.of_grown hg h.bel.size fun r e=>by cases e; exact h.gm),h.ge,h.gm,h.bb.grown hg (fun r e=>by cases e; exact ⟨o,ho,hc⟩),h.ib.grown hg ho hc rfl,h.ok,h.sf,h.ln,⟨_,hm'⟩⟩,fun _ _ _ hb=>hb.grown hg (fun r e=>by cases e; exact ⟨o,ho,hc⟩)⟩
theorem s15_box {w:World} {g m:Nat} {st:Int} {n k:Nat} {b b5:Brd} {cs cs5 aa:List Value} {F:Int→Value} {W5 w6:World} {X:Nat→Prop} {ga:Nat} {t:TypeId} (H:S15 w g m st n k b cs F W5) (hI:IsBd W5 X b5 cs5) (hA:Blk W5 ga aa t) (h6:w6=setN (W5.alloc (.cells ⟨zBd⟩ 51)) W5.heap.size 0 cs5):
  Hid (S15 w g m st n k b cs F w6)∧Hid (IsBd w6 X b5 cs5)∧Hid (Blk w6 W5.heap.size cs5 51)∧Hid (Blk w6 ga aa t):=by
 have hb:Below W5.heap.size W5 w6:=by rw [h6]; exact setN_below (Nat.le_refl _) cs5 0 (bl1 W5 zBd _)
 exact ⟨Lh (H.next hb),Lh (hI.next hb),Lh (by rw [h6]; exact setN_all (Blk.start W5 zBd _) (by rw [hI.len]; rfl)),Lh (hA.next hb)⟩
theorem BOk.fetch2 {b:Brd} {n:Nat} (h:BOk b n) (t k:Int):BOk (fetchB (filledB b t k) t k) (n+1):=by
 have h1:=h.did (l:=[⟨t,2,3000+k⟩,⟨t,0,100+k⟩]) (by simp);have h2:=h1.tr;exact ⟨h1.st,h1.r0,h1.r1,h1.q,h1.t0,h1.t1,h1.rp,h1.sl,by
  show ((b.tr++[⟨t,2,3000+k⟩])++[⟨t,0,100+k⟩]:List Ac).length≤4 * (n+1)
  have:(b.tr++[⟨t,2,3000+k⟩,⟨t,0,100+k⟩]:List Ac).length≤4 * (n+1):=h2;simp at this ⊢; omega⟩
theorem rng_mid {W:World} {b:Nat} {A B C:List Value} {t:TypeId} (h:Blk W b (A++(B++C)) t):W.rangeAt b A.length B:=fun i u hu=>
 h.cell (A.length+i) (by rw [List.getElem?_append_right (by omega),Nat.add_sub_cancel_left,List.getElem?_append_left (List.getElem?_eq_some_iff.1 hu).1]; exact hu)
def zA15:List Value:=[.int .u8 0,.int .i64 0,.int .i64 0,.int .i64 0,.int .i64 0,.int .i64 0,.int .i32 0,.int .i64 0,.int .i64 0,.int .i64 0,.int .i64 0,.int .i64 0,.int .i32 0,.int .i64 0,.int .i64 0,.int .i64 0,.int .i64 0]
theorem BOk.unlock {b:Brd} {n:Nat} (h:BOk b n) (t s:Int):BOk (unlockB b t s) (n+1):=BOk.did (l:=[⟨t,3,1000+s⟩]) (h.set s (x:={ b.at s with h := -1 }) (h.at s)) (by simp)
theorem BOk.seal {b:Brd} {n:Nat} (h:BOk b n) (t s:Int):BOk (sealB b t s) (n+1):=BOk.did (l:=[⟨t,1,s⟩]) (h.set s (x:={ b.at s with z:=true }) (h.at s)) (by simp)
theorem lock_sl {b:Brd} {t s:Int}:(lockB b t s).sl=b.sl∧(lockB b t s).st.length=b.st.length:=by
 unfold lockB; split
 ·exact ⟨rfl,rfl⟩
 ·exact ⟨rfl,List.length_set⟩
theorem push_sl {b:Brd} {t s k:Int} {c:Cal}:(pushB b t s k c).sl=b.sl∧(pushB b t s k c).st.length=b.st.length:=by
 unfold pushB; split
 ·exact ⟨rfl,rfl⟩
 ·exact ⟨rfl,List.length_set⟩
theorem pop_sl {b:Brd} {t s k:Int}:(popB b t s k).sl=b.sl∧(popB b t s k).st.length=b.st.length:=by
 unfold popB; split
 ·exact ⟨rfl,rfl⟩
 ·exact ⟨rfl,List.length_set⟩
def MF (F:Int→Value) (b:Brd):Prop:=∀ i,0≤i→F i=.int .i64 (if filledA b i=true then 1 else 0)
theorem MF.fill {F:Int→Value} {b:Brd} {t k:Int} {x:Ans} (h:MF F b) (_:0≤k):MF (fun i=>if i=k then .int .i64 1 else F i) (fillB b t k x):=fun i hi=>by
 rw [filled_fill]
 show (if i=k then Value.int .i64 1 else F i)=_
 by_cases e:i=k
 ·rw [if_pos e,if_pos e]; rfl
 ·rw [if_neg e,if_neg e]; exact h i hi
theorem MF.sl {F:Int→Value} {b b':Brd} (h:MF F b) (e:b'.sl=b.sl):MF F b':=fun i hi=>by rw [h i hi]; unfold filledA; rw [e]
def fndB (n:Nat):Code→Option Code
 | .block m c=>if m=n then some (.block m c) else fndB n c
 | .seq a b=>match fndB n a with
  | some c=>some c
  | none=>fndB n b
 | .cond _ a b=>match fndB n a with
  | some c=>some c
  | none=>fndB n b
 | .loop c=>fndB n c
 | .scope c=>fndB n c
 | _=>none
noncomputable def swc:Code:=(fndB 2 (Tryz.f4.body.getD .skip)).getD .skip
def Sw15 (c:Int→Int→Int→Prop):Prop:=∀ (w w4:World) (g m ga:Nat) (st:Int) (n j:Nat) (b:Brd) (cs':List Value) (F:Int→Value) (a:A15) (ak hd:Int) (Q:Exit→Act→World→Prop) {u0 u1 u2 u3 u4 u6 u8 u12 u13 u14 u15 u16 u17 u18 u19 u20 u21 u22 u23 u24 u25 u26 u27 u28 u29 u30 u31 u32 u33 u34 u35 u36 u37 u38 u39 u40 u41 u42 u43 u44 u45 u46 u47 u48 u49 u50 u51 u52 u53 u54 u55 u56 u57 u58 u59 u60 u61 u62 u63 u64 u65 u66 u67 u68 u69 u70 u71 u72 u73 u74 u75 u76 u77 u78 u79 u80 u81 u82 u83 u84 u85 u86 u87 u88 u89 u90 u91 u92 u93 u94 u95 u96 u97 u98 u99 u100 u101 u102 u103 u104 u105 u106 u107 u108 u109 u110 u111 u112 u113 u114 u115 u116 u117 u118 u119 u120 u121 u122 u123 u124 u125 u126 u127 u128 u129 u130 u131 u132 u133 u134 u135 u136 u137 u138 u139 u140 u141 u142 u143 u144 u145 u146 u147 u148 u149 u150 u151 u152 u153 u154 u155 u156 u157 u158 u159 u160 u161 u162 u163 u164 u165 u166 u167 u168 u169 u170 u171 u172 u173 u174 u175 u176 u177 u178 u179 u180 u181 u182 u183 u184 u185 u186 u187 u188 u189 u190 u191 u192 u193 u194 u195 u196:Value},
 BAll∧S15 w g m st n j b cs' F w4∧MF F b∧Blk w4 ga [.int .u8 ak,a.t,a.s,a.j,a.c.k,a.c.p,.int .i32 a.c.ch,a.c.o.k,a.c.o.c,a.c.o.s,a.c.o.a,a.c.o.n,.int .i32 a.c.o.ch,a.c.a,a.c.b,a.tk,a.o] 77∧hd=(b.at a.s).h∧(0≤a.t∧a.t≤15)∧(0≤a.s∧a.s<(b.st.length:Int))∧(0≤a.j∧a.j≤800)∧n≤990∧j≤990∧c ak hd a.t →
 (∀ {v11 v12 v13 v52 v53 v54 v55 v56 v57 v58 v59 v60 v61 v62 v63 v64 v65 v66 v67 v68 v69 v70 v71 v72 v73 v74 v75 v76 v77 v78 v79 v80 v81 v82 v83 v84 v85 v86 v87 v88 v89 v90 v91 v92 v93 v94 v95 v96 v97 v98 v99 v100 v101 v102 v103 v104 v105 v106 v107 v108 v109 v110 v111 v112 v113 v114 v115 v116 v117 v118 v119 v120 v121 v122 v123 v124 v125 v126 v127 v128 v129 v130 v131 v132 v133 v134 v135 v136 v137 v138 v139 v140 v141 v142 v143 v144 v145 v146 v147 v148 v149 v150 v151 v152 v153 v154 v155 v156 v157 v158 v159 v160 v161 v162 v163 v164 v165 v166 v167 v168 v169 v170 v171 v172 v173 v174 v175 v176 v177 v178 v179 v180 v181 v182 v183:Value} {w':World} {n' j':Nat} {b':Brd} {cs'':List Value} {F':Int→Value},n'≤n+1→j'≤j+1→S15 w g m st n' j' b' cs'' F' w'→MF F' b'→Q .normal { tmps:=(u0::u1::u2::u3::u4::.pointer (some ⟨g,0,none⟩)::u6::.map (some m)::u8::.pointer (some ⟨ga,0,none⟩)::.int .i64 a.t::v11::v12::v13::u14::u15::u16::u17::u18::u19::u20::u21::u22::u23::u24::u25::u26::u27::u28::u29::u30::u31::u32::u33::u34::u35::u36::u37::u38::u39::u40::u41::u42::u43::u44::u45::u46::u47::u48::u49::u50::u51::v52::v53::v54::v55::v56::v57::v58::v59::v60::v61::v62::v63::v64::v65::v66::v67::v68::v69::v70::v71::v72::v73::v74::v75::v76::v77::v78::v79::v80::v81::v82::v83::v84::v85::v86::v87::v88::v89::v90::v91::v92::v93::v94::v95::v96::v97::v98::v99::v100::v101::v102::v103::v104::v105::v106::v107::v108::v109::v110::v111::v112::v113::v114::v115::v116::v117::v118::v119::v120::v121::v122::v123::v124::v125::v126::v127::v128::v129::v130::v131::v132::v133::v134::v135::v136::v137::v138::v139::v140::v141::v142::v143::v144::v145::v146::v147::v148::v149::v150::v151::v152::v153::v154::v155::v156::v157::v158::v159::v160::v161::v162::v163::v164::v165::v166::v167::v168::v169::v170::v171::v172::v173::v174::v175::v176::v177::v178::v179::v180::v181::v182::v183::u184::u185::u186::u187::u188::u189::u190::u191::u192::u193::u194::u195::u196::[]).toArray,defers:=[] } w') →
 Code.wp Tryz.prog swc Q { tmps:=(u0::u1::u2::u3::u4::.pointer (some ⟨g,0,none⟩)::u6::.map (some m)::u8::.pointer (some ⟨ga,0,none⟩)::.int .i64 a.t::.bool (hd==a.t)::u12::u13::u14::u15::u16::u17::u18::u19::u20::u21::u22::u23::u24::u25::u26::u27::u28::u29::u30::u31::u32::u33::u34::u35::u36::u37::u38::u39::u40::u41::u42::u43::u44::u45::u46::u47::u48::u49::u50::u51::u52::u53::u54::u55::u56::u57::u58::u59::u60::u61::u62::u63::u64::u65::u66::u67::u68::u69::u70::u71::u72::u73::u74::u75::u76::u77::u78::u79::u80::u81::u82::u83::u84::u85::u86::u87::u88::u89::u90::u91::u92::u93::u94::u95::u96::u97::u98::u99::u100::u101::u102::u103::u104::u105::u106::u107::u108::u109::u110::u111::u112::u113::u114::u115::u116::u117::u118::u119::u120::u121::u122::u123::u124::u125::u126::u127::u128::u129::u130::u131::u132::u133::u134::u135::u136::u137::u138::u139::u140::u141::u142::u143::u144::u145::u146::u147::u148::u149::u150::u151::u152::u153::u154::u155::u156::u157::u158::u159::u160::u161::u162::u163::u164::u165::u166::u167::u168::u169::u170::u171::u172::u173::u174::u175::u176::u177::u178::u179::u180::u181::u182::u183::u184::u185::u186::u187::u188::u189::u190::u191::u192::u193::u194::u195::u196::[]).toArray,defers:=[] } w4
theorem sw15_a:Sw15 fun ak _ _=>ak=2∨ak=10∨ak=12:=by
 intro w w4 g m ga st n j b cs' F a ak hd Q
 intros
 rename_i HX0 hQ
 obtain ⟨H,hS,hF,hA,hhd,⟨q0,q1⟩,⟨q2,hsl⟩,⟨q4,q5⟩,hn9,hj9,hc⟩:=HX0
 try dsimp only at hc
 have HH:=Lh (And.intro H True.intro);have HS4:=Lh hS;have HF:=Lh hF;have HA4:=Lh hA;have HHD:=Lh hhd;have y0:=hA.cell 0 rfl;have y2:=hA.cell 2 rfl;have y3:=hA.cell 3 rfl;have hn1:n≤1000:=by omega
 have HU:=Lh (And.intro hS.ok.st (And.intro hsl (And.intro (And.intro q0 q1) (And.intro q2 (And.intro q4 q5)))));have HX:=Lh (And.intro a.u0 a.u1);clear H hS hF hA hhd
 conv=>arg 2; whnf
 by_cases e2:ak=2
 ·subst e2
  have HC:=Lh (HH.out.1.lock b a.t a.s q2 hsl n (fun c=>c=m) cs' w4 HS4.out.ok hn1 HS4.out.ib HS4.out.old q0 q1);go_wp2_with (first | (refine kst (n:=nBd) H5.out.bb H5.out.ib.len HI5.out.len HI5.out.one (fun w6 hw6=>?_)) | (refine kld (n:=nBd) HS4.out.bb HS4.out.ib.len ?_) | (go_at_call 13; refine HC.out.mono ?_; rintro e w5 ⟨hb5,cs5,rfl,hI5⟩; have H5:=Lh (HS4.out.next hb5); have HI5:=Lh hI5; clear hb5 hI5 HC))
  exact hQ (b':=lockB b a.t a.s) (Nat.le_refl (n+1)) (Nat.le_succ j) (by rw [hw6.out]; exact H5.out.put HI5.out (HS4.out.ok.lock _ _) (HS4.out.sf.lock HU.out.2.2.1 q2 hsl) (lock_sl.2)) (HF.out.sl (lock_sl.1))
 by_cases e10:ak=10
 ·subst e10
  obtain ⟨K,hm⟩:=HS4.out.mp;have hlk:=(hm.look Tryz.underlying3 Tryz.underlying82 (show (zeroValue 3).run Tryz.prog w4=.ok (.int .i64 0) w4 from by kernel_rfl) (i:=a.j) (by simp [Lit.wf]; exact ⟨by show -9223372036854775808≤a.j; omega,by show a.j≤9223372036854775807; omega⟩)).1;rw [HF.out a.j q4] at hlk;clear hm;by_cases hfl:filledA b a.j=true
  ·rw [if_pos hfl] at hlk
   clear hfl;go_wp2_with fail
   exact hQ (Nat.le_succ n) (Nat.le_succ j) HS4.out HF.out
  rw [if_neg hfl] at hlk;have HFL:=Lh (Bool.not_eq_true _▸hfl:filledA b a.j=false);clear hfl;obtain ⟨W5,hup,hS5,hK5⟩:=HS4.out.mark (by omega) a.j q4 q5 (.int .i64 1);have HS5:=Lh hS5;have HC:=Lh (HH.out.1.fill b a.t a.j ⟨0,0,⟨#[]⟩⟩ q4 q5 n (fun c=>c=m) cs' W5 HS5.out.ok hn1 HS5.out.ib HS5.out.old q0 q1);have HA5:=Lh (show Blk W5 ga [.int .u8 10,a.t,a.s,a.j,a.c.k,a.c.p,.int .i32 a.c.ch,a.c.o.k,a.c.o.c,a.c.o.s,a.c.o.a,a.c.o.n,.int .i32 a.c.o.ch,a.c.a,a.c.b,a.tk,a.o] 77 from hK5 _ _ _ HA4.out);clear hS5 hK5;have z1:=HA5.out.cell 3 rfl;go_wp2_with (first | (refine kst (n:=nBd) H5.out.bb H5.out.ib.len HI5.out.len HI5.out.one (fun w6 hw6=>?_)) | (refine kld (n:=nBd) HS5.out.bb HS5.out.ib.len ?_) | (go_at_call 19; refine HC.out.mono ?_; rintro e w5 ⟨hb5,cs5,rfl,hI5⟩; have H5:=Lh (HS5.out.next hb5); have HI5:=Lh hI5; clear hb5 hI5 HC))
  exact hQ (b':=fillB b a.t a.j ⟨0,0,⟨#[]⟩⟩) (Nat.le_refl (n+1)) (Nat.le_refl (j+1)) (by rw [hw6.out]; exact H5.out.put HI5.out (HS5.out.ok.fill _ _ _) (HS5.out.sf.fill HU.out.2.2.1 q4 HFL.out) rfl) (HF.out.fill q4)
 by_cases e12:ak=12
 ·subst e12
  have HC:=Lh (HH.out.1.filled b a.t a.j q4 q5 n (fun c=>c=m) cs' w4 HS4.out.ok hn1 HS4.out.ib HS4.out.old q0 q1);obtain ⟨fv,hfv⟩:∃ fv,fv=filledA b a.j:=⟨_,rfl⟩
  rw [←hfv] at HC;have HFV:=Lh hfv;clear hfv
  go_upto_region 29 with (first | (refine kst (n:=nBd) (Blk.start _ zBd _) rfl HI5.out.len HI5.out.one (fun w6 hw6=>?_)) | (refine kld (n:=nBd) HS4.out.bb HS4.out.ib.len ?_) | (go_at_call 20; refine HC.out.mono ?_; rintro e w5 ⟨hb5,cs5,rfl,hI5⟩; have H5:=Lh (HS4.out.next hb5); have HI5:=Lh hI5; have HA5:=Lh (HA4.out.next hb5); clear hb5 hI5 HC))
  obtain ⟨H6,HI6,HB6,HA6⟩:=s15_box H5.out HI5.out HA5.out hw6.out;clear hw6 HI5 HA5 H5;generalize w5.heap.size=gb at *
  go_upto_region 30 with (first | (refine kst (n:=nBd) H6.out.bb H6.out.ib.len HI6.out.len HI6.out.one (fun w7 hw7=>?_)) | (refine kld (n:=nBd) HB6.out HI6.out.len ?_))
  have H7:=Lh (show S15 w g m st (n+1) j (filledB b a.t a.j) cs5 F w7 from by rw [hw7.out]; exact H6.out.put HI6.out (HS4.out.ok.did (l:=[_]) (by simp)) (HS4.out.sf.look HU.out.2.2.1) rfl);have HA7:=Lh (show Blk w7 ga [.int .u8 12,a.t,a.s,a.j,a.c.k,a.c.p,.int .i32 a.c.ch,a.c.o.k,a.c.o.c,a.c.o.s,a.c.o.a,a.c.o.n,.int .i32 a.c.o.ch,a.c.a,a.c.b,a.tk,a.o] 77 from by rw [hw7.out]; exact KT.setN (show 51≠77 by decide) cs5 0 H6.out.bb _ _ HA6.out);clear hw7 H6 HI6 HB6 HA6
  cases fv
  ·go_wp2_with fail
   exact hQ (b':=filledB b a.t a.j) (Nat.le_refl (n+1)) (Nat.le_succ j) H7.out (HF.out.sl rfl)
  have z3:=HA7.out.cell 3 rfl;have HC:=Lh (HH.out.1.fetch (filledB b a.t a.j) a.t a.j q4 q5 (n+1) (fun c=>c=m) cs5 w7 H7.out.ok (by omega) H7.out.ib H7.out.old q0 q1);go_wp2_with (first | (refine kst (n:=nBd) H8.out.bb H8.out.ib.len HI8.out.len HI8.out.one (fun w9 hw9=>?_)) | (refine kld (n:=nBd) H7.out.bb H7.out.ib.len ?_) | (go_at_call 21; refine HC.out.mono ?_; rintro e w8 ⟨hb8,cs8,rfl,hI8⟩; have H8:=Lh (H7.out.next hb8); have HI8:=Lh hI8; clear hb8 hI8 HC))
  exact hQ (b':=fetchB (filledB b a.t a.j) a.t a.j) (Nat.le_refl (n+1)) (Nat.le_succ j) (by rw [hw9.out]; exact H8.out.put HI8.out (HS4.out.ok.fetch2 _ _) (HS4.out.sf.fetch HU.out.2.2.1 q4 HFV.out.symm) rfl) (HF.out.sl rfl)
 omega
theorem sw15_b:Sw15 fun ak hd t=>(¬ ak=2∧¬ ak=10∧¬ ak=12)∧¬ hd=t:=by
 intro w w4 g m ga st n j b cs' F a ak hd Q
 intros
 rename_i HX0 hQ
 obtain ⟨H,hS,hF,hA,hhd,⟨q0,q1⟩,⟨q2,hsl⟩,⟨q4,q5⟩,hn9,hj9,hc⟩:=HX0
 try dsimp only at hc
 have HH:=Lh (And.intro H True.intro);have HS4:=Lh hS;have HF:=Lh hF;have HA4:=Lh hA;have HHD:=Lh hhd;have y0:=hA.cell 0 rfl;have y2:=hA.cell 2 rfl;have y3:=hA.cell 3 rfl;have hn1:n≤1000:=by omega
 have HU:=Lh (And.intro hS.ok.st (And.intro hsl (And.intro (And.intro q0 q1) (And.intro q2 (And.intro q4 q5)))));have HX:=Lh (And.intro a.u0 a.u1);clear H hS hF hA hhd
 conv=>arg 2; whnf
 have hh1:(hd==a.t)=false:=by simpa using hc.2
 have hk:ak=3∨ak=4∨ak=5∨ak=6∨ak=7∨(¬ ak=3∧¬ ak=4∧¬ ak=5∧¬ ak=6∧¬ ak=7):=by omega
 have n2:(ak==2)=false:=by simpa using hc.1.1
 have n10:(ak==10)=false:=by simpa using hc.1.2.1
 have n12:(ak==12)=false:=by simpa using hc.1.2.2
 clear hc;rcases hk with rfl | rfl | rfl | rfl | rfl | ⟨n3,n4,n5,n6,n7⟩
 all_goals
  try have m3:(ak==3)=false:=by simpa using n3
  try have m4:(ak==4)=false:=by simpa using n4
  try have m5:(ak==5)=false:=by simpa using n5
  try have m6:(ak==6)=false:=by simpa using n6
  try have m7:(ak==7)=false:=by simpa using n7
  try clear n3 n4 n5 n6 n7
  go_wp2_with fail
  exact hQ (Nat.le_succ n) (Nat.le_succ j) HS4.out HF.out
theorem sw15_c:Sw15 fun ak hd t=>(¬ ak=2∧¬ ak=10∧¬ ak=12)∧hd=t:=by
 intro w w4 g m ga st n j b cs' F a ak hd Q
 intros
 rename_i HX0 hQ
 obtain ⟨H,hS,hF,hA,hhd,⟨q0,q1⟩,⟨q2,hsl⟩,⟨q4,q5⟩,hn9,hj9,hc⟩:=HX0
 try dsimp only at hc
 have HH:=Lh (And.intro H True.intro);have HS4:=Lh hS;have HF:=Lh hF;have HA4:=Lh hA;have HHD:=Lh hhd;have y0:=hA.cell 0 rfl;have y2:=hA.cell 2 rfl;have y3:=hA.cell 3 rfl;have hn1:n≤1000:=by omega
 have HU:=Lh (And.intro hS.ok.st (And.intro hsl (And.intro (And.intro q0 q1) (And.intro q2 (And.intro q4 q5)))));have HX:=Lh (And.intro a.u0 a.u1);clear H hS hF hA hhd
 conv=>arg 2; whnf
 have hh:hd=a.t:=hc.2;have e2:¬ ak=2:=hc.1.1;have e10:¬ ak=10:=hc.1.2.1;have e12:¬ ak=12:=hc.1.2.2;have hh1:(hd==a.t)=true:=by simpa using hh
 clear hc;by_cases e3:ak=3
 ·subst e3
  have HC:=Lh (HH.out.1.unlock b a.t a.s q2 hsl n (fun c=>c=m) cs' w4 HS4.out.ok hn1 HS4.out.ib HS4.out.old q0 q1);go_wp2_with (first | (refine kst (n:=nBd) H5.out.bb H5.out.ib.len HI5.out.len HI5.out.one (fun w6 hw6=>?_)) | (refine kld (n:=nBd) HS4.out.bb HS4.out.ib.len ?_) | (go_at_call 14; refine HC.out.mono ?_; rintro e w5 ⟨hb5,cs5,rfl,hI5⟩; have H5:=Lh (HS4.out.next hb5); have HI5:=Lh hI5; clear hb5 hI5 HC))
  exact hQ (b':=unlockB b a.t a.s) (Nat.le_refl (n+1)) (Nat.le_succ j) (by rw [hw6.out]; exact H5.out.put HI5.out (HS4.out.ok.unlock _ _) (HS4.out.sf.unlock HU.out.2.2.1 q2 hsl (HHD.out.symm.trans hh)) (List.length_set)) (HF.out.sl (rfl))
 by_cases e4:ak=4
 ·subst e4
  have HQC:=Lh (fun W (h:Blk W ga [.int .u8 4,a.t,a.s,a.j,a.c.k,a.c.p,.int .i32 a.c.ch,a.c.o.k,a.c.o.c,a.c.o.s,a.c.o.a,a.c.o.n,.int .i32 a.c.o.ch,a.c.a,a.c.b,a.tk,a.o] 77)=>rng_mid (A:=[.int .u8 4,.int .i64 a.t,.int .i64 a.s,.int .i64 a.j]) (B:=calL a.c) (C:=[.int .i64 a.tk,.int .i64 a.o]) h);have HC:=Lh (HH.out.1.push b a.t a.s a.j a.c q2 hsl q4 q5 n (fun c=>c=m) cs' w4 HS4.out.ok hn1 HS4.out.ib HS4.out.old q0 q1);go_wp2_with (first | (refine kst (n:=nBd) H5.out.bb H5.out.ib.len HI5.out.len HI5.out.one (fun w6 hw6=>?_)) | (refine kld (n:=nBd) HS4.out.bb HS4.out.ib.len ?_) | (refine kldm (n:=11) (HQC.out _ HA4.out) rfl ?_) | (go_at_call 15; refine HC.out.mono ?_; rintro e w5 ⟨hb5,cs5,rfl,hI5⟩; have H5:=Lh (HS4.out.next hb5); have HI5:=Lh hI5; clear hb5 hI5 HC))
  exact hQ (b':=pushB b a.t a.s a.j a.c) (Nat.le_refl (n+1)) (Nat.le_succ j) (by rw [hw6.out]; exact H5.out.put HI5.out (HS4.out.ok.push _ _ _ _) (HS4.out.sf.push HU.out.2.2.1 q2 hsl HU.out.1 (HHD.out.symm.trans hh)) (push_sl.2)) (HF.out.sl (push_sl.1))
 by_cases e5:ak=5
 ·subst e5
  have y5:=HA4.out.cell 15 rfl;have HC:=Lh (HH.out.1.pop b a.t a.s a.tk q2 hsl HX.out.1 HX.out.2 n (fun c=>c=m) cs' w4 HS4.out.ok hn1 HS4.out.ib HS4.out.old q0 q1);go_wp2_with (first | (refine kst (n:=nBd) H5.out.bb H5.out.ib.len HI5.out.len HI5.out.one (fun w6 hw6=>?_)) | (refine kld (n:=nBd) HS4.out.bb HS4.out.ib.len ?_) | (go_at_call 16; refine HC.out.mono ?_; rintro e w5 ⟨hb5,cs5,rfl,hI5⟩; have H5:=Lh (HS4.out.next hb5); have HI5:=Lh hI5; clear hb5 hI5 HC))
  exact hQ (b':=popB b a.t a.s a.tk) (Nat.le_refl (n+1)) (Nat.le_succ j) (by rw [hw6.out]; exact H5.out.put HI5.out (HS4.out.ok.pop _ _ _) (HS4.out.sf.pop HU.out.2.2.1 q2 hsl HU.out.1 (HHD.out.symm.trans hh)) (pop_sl.2)) (HF.out.sl (pop_sl.1))
 by_cases e6:ak=6
 ·subst e6
  have HC:=Lh (HH.out.1.sl b a.t a.s q2 hsl n (fun c=>c=m) cs' w4 HS4.out.ok hn1 HS4.out.ib HS4.out.old q0 q1);go_wp2_with (first | (refine kst (n:=nBd) H5.out.bb H5.out.ib.len HI5.out.len HI5.out.one (fun w6 hw6=>?_)) | (refine kld (n:=nBd) HS4.out.bb HS4.out.ib.len ?_) | (go_at_call 17; refine HC.out.mono ?_; rintro e w5 ⟨hb5,cs5,rfl,hI5⟩; have H5:=Lh (HS4.out.next hb5); have HI5:=Lh hI5; clear hb5 hI5 HC))
  exact hQ (b':=sealB b a.t a.s) (Nat.le_refl (n+1)) (Nat.le_succ j) (by rw [hw6.out]; exact H5.out.put HI5.out (HS4.out.ok.seal _ _) (HS4.out.sf.seal HU.out.2.2.1 q2 hsl HU.out.1 (HHD.out.symm.trans hh)) (List.length_set)) (HF.out.sl (rfl))
 by_cases e7:ak=7
 ·subst e7
  have HC:=Lh (HH.out.1.empty b a.t a.s q2 hsl n (fun c=>c=m) cs' w4 HS4.out.ok hn1 HS4.out.ib HS4.out.old q0 q1);go_wp2_with (first | (refine kst (n:=nBd) H5.out.bb H5.out.ib.len HI5.out.len HI5.out.one (fun w6 hw6=>?_)) | (refine kld (n:=nBd) HS4.out.bb HS4.out.ib.len ?_) | (go_at_call 18; refine HC.out.mono ?_; rintro e w5 ⟨hb5,cs5,rfl,hI5⟩; have H5:=Lh (HS4.out.next hb5); have HI5:=Lh hI5; clear hb5 hI5 HC))
  exact hQ (b':=emptyB b a.t a.s) (Nat.le_refl (n+1)) (Nat.le_succ j) (by rw [hw6.out]; exact H5.out.put HI5.out (HS4.out.ok.did (l:=[_]) (by simp)) (HS4.out.sf.read HU.out.2.2.1 q2 (by have:=HU.out.1; omega) (HHD.out.symm.trans hh)) (rfl)) (HF.out.sl (rfl))
 have n2:(ak==2)=false:=by simpa using e2
 have n3:(ak==3)=false:=by simpa using e3
 have n4:(ak==4)=false:=by simpa using e4
 have n5:(ak==5)=false:=by simpa using e5
 have n6:(ak==6)=false:=by simpa using e6
 have n7:(ak==7)=false:=by simpa using e7
 have n10:(ak==10)=false:=by simpa using e10
 have n12:(ak==12)=false:=by simpa using e12
 clear e2 e3 e4 e5 e6 e7 e10 e12 hh;go_wp2_with fail
 exact hQ (Nat.le_succ n) (Nat.le_succ j) HS4.out HF.out
theorem sw15_all:Sw15 fun _ _ _=>True:=by
 intro w w4 g m ga st n j b cs' F a ak hd Q
 intros
 rename_i HX0 hQ
 obtain ⟨h1,h2,h3,h4,h5,h6,h7,h8,h9,h10,-⟩:=HX0;by_cases hc:ak=2∨ak=10∨ak=12
 ·exact sw15_a w w4 g m ga st n j b cs' F a ak hd Q ⟨h1,h2,h3,h4,h5,h6,h7,h8,h9,h10,hc⟩ hQ
 ·have hc2:¬ ak=2∧¬ ak=10∧¬ ak=12:=by omega
  by_cases hh:hd=a.t
  ·exact sw15_c w w4 g m ga st n j b cs' F a ak hd Q ⟨h1,h2,h3,h4,h5,h6,h7,h8,h9,h10,hc2,hh⟩ hQ
  ·exact sw15_b w w4 g m ga st n j b cs' F a ak hd Q ⟨h1,h2,h3,h4,h5,h6,h7,h8,h9,h10,hc2,hh⟩ hQ
end Go.Proofs.YtclbddbhcbdfmaaGreatDoor
