import Derived.Test.YtpbhaieclkoggaaGreatDoorFrameH
import Derived.Test.YtpbhaieclkoggaaGreatDoorDc
import Derived.Deep.CutRange
import Derived.Test.YtpbhaieclkoggaaGreatDoorEb
set_option maxRecDepth 100000
namespace Go.Proofs.YtpbhaieclkoggaaGreatDoor
open Go Go.Proofs Go.ChangeShapes Go.WideShapes Go.ChangeAt Go.RowKit Go.Joins Go.Deep
def laidP:List (String×DataW Unit):=laidR [("selvedge/replica.words",Rows.laid_selvedge_replica_words),("internal/strconv.leftcheats",Rows.laid_internal_strconv_leftcheats),("internal/strconv.pow10Tab",Rows.laid_internal_strconv_pow10Tab)]
theorem gWds:Tryz.prog.globalNamed "selvedge/replica.words" = some 0:=by kernel_rfl
theorem tWds:(Tryz.prog.globals[0]?).map (·.type)=some 121:=by kernel_rfl
theorem wds_at {W:World} {L:List (String×DataW Unit)} (h:laidMet Tryz.prog L W) (hm:("selvedge/replica.words",Rows.laid_selvedge_replica_words)∈L):Wd W:=by
 intro i hi
 obtain ⟨g,t,cs,fuel,p,hg,ht,hvar,hd⟩:=Lib.laidMet.reads h hm;obtain rfl:=Option.some.inj (gWds.symm.trans hg);obtain rfl:=Option.some.inj (tWds.symm.trans ht);obtain ⟨xs,m,_,hx,_,hxl,hat⟩:=DataW.trod_array Tryz.underlying121 hd;have hel:=hat i hi;rw [show Tryz.prog.cellsOf 9=1 by kernel_rfl] at hel;obtain ⟨x,hxi⟩:∃ x,xs[i]? = some x:=⟨xs[i]'(by omega),List.getElem?_eq_getElem _⟩
 rw [hxi] at hel;obtain ⟨s,hc,hs,_⟩:=DataW.trod_string Tryz.underlying9 hel;have e2:(xs.map (·.1))[i]? = some (.lit (.string s.data.toList)):=by rw [List.getElem?_map,hxi,hs]; rfl
 have e1:xs.map (·.1)=(List.range 9).map fun (k:Nat)=>(DataW.lit (.string (wordA k).data.toList):DataW Unit):=by
  have:=congrArg Prod.fst hx;have hp:Rows.laid_selvedge_replica_words (H:=Unit)=DataW.agg ((List.range 9).map fun (k:Nat)=>(DataW.lit (.string (wordA k).data.toList):DataW Unit)):=by rfl
  rw [hp] at this;exact (DataW.agg.inj this).symm
 rw [e1] at e2;have hs2:s=wordA i:=by
  have:(wordA i).data.toList=s.data.toList:=by simpa [hi] using e2
  cases s; cases hq:wordA i; rw [hq] at this; simp only [ByteArray.mk.injEq]; exact (Array.toList_inj.1 this).symm
 have v0:=World.var?_cell gWds hvar i;have c0:=congrArg (·[0]?) hc;simp only [List.getElem?_take,List.getElem?_drop] at c0
 simp at c0
 rw [←hs2];exact v0.trans c0
theorem libsP_of_laid {W:World} (h0:laidMetH Tryz.prog laidP W):(Pows W∧Tabs W)∧Wd W:=by
 have h:laidMet Tryz.prog laidP W:=by rw [MakeChecks.laidMetH_plain _ _ _ (by kernel_rfl)] at h0; exact h0
 exact ⟨libs8_at h (by simp),wds_at h (by simp [laidP,laidR])⟩
theorem all_metP (os:Os) (args:Array Value):laidMetH Tryz.prog laidP ((World.laidAll Tryz.prog os laidP).forCall (fun _ _=>0) ⟨#[],args,[]⟩).memory:=by
 rw [MakeChecks.laidMetH_plain _ _ _ (by kernel_rfl)];exact laidMet_laidAll _ (by kernel_rfl) (by kernel_rfl)
theorem cellsCal:Tryz.prog.cellsOf 57=11:=by kernel_rfl
theorem cellsCK:Tryz.prog.cellsOf 50=1:=by kernel_rfl
instance:Inhabited Cal:=⟨⟨0,0,0,zeroO,0,0,by decide,by decide,by decide,by decide,by decide,by decide⟩⟩
section
variable {H:Type} {enc:TypeId×Value→H} {W:World} {base:Nat}
theorem call_cells {sp:Nat→Bool} {held:Bool} {n:Nat} {cs:List Value} {y:DataW H×List MemPlace} (h:DataW.trod enc Tryz.prog W base sp held n 57 cs=some y):∃ x:Cal,cs=calL x:=by
 obtain ⟨y0,y1,y2,y3,y4,m,hl,g0,g1,g2,g3,g4⟩:=trod_five Tryz.underlying57 h;rw [cellsCal] at hl
 match cs,hl with
 | [c0,c1,c2,c3,c4,c5,c6,c7,c8,c9,c10],_=>
   simp only [cellsCK,cellsOp,cellsInt,cellsI32,cellsId,List.drop_zero,List.drop_succ_cons,List.take_succ_cons,List.take_zero] at g0 g1 g2 g3 g4
   obtain ⟨k,e0,d0,_⟩:=DataW.trod_int Tryz.underlying50 g0;obtain ⟨p,e1,d1,_⟩:=DataW.trod_int Tryz.underlying3 g1;obtain ⟨ch,e2,d2,_⟩:=DataW.trod_int Tryz.underlying21 g2;obtain ⟨o,e3⟩:=op_cells g3;obtain ⟨a,b,e4⟩:=id_cells g4;simp only [oqL,List.cons.injEq,and_true] at e0 e1 e2 e3 e4
   obtain ⟨rfl,rfl,rfl,rfl,rfl,rfl⟩:=e3;obtain ⟨rfl,rfl⟩:=e4;have w1:=wf_i64 (n:=p) (by first | exact d1 | exact d1.1 | assumption);have w0:=wf_i64 (n:=k) (by first | exact d0 | exact d0.1 | assumption);have w2:=wf_i32 (n:=ch) (by first | exact d2 | exact d2.1 | assumption);exact ⟨⟨k,p,ch,o,a,b,w2.1,w2.2,w1.1,w1.2,w0.1,w0.2⟩,by rw [e0,e1,e2]; rfl⟩
theorem open_call {r:Reach} {b0:Nat} {v:Value} {d:DataW H} {p:List MemPlace} {sp:Nat→Bool} {held:Bool}
  (hv:Value.okWide Tryz.prog W r b0 57 v) (h:DataW.Trod enc Tryz.prog W base sp held 57 v d p):∃ x:Cal,v=.agg ⟨calL x⟩:=by
 obtain ⟨⟨cs⟩,rfl,hsz⟩:=okWide_struct Tryz.underlying57 hv;obtain ⟨fuel,hf⟩:=h;obtain ⟨x,hx⟩:=call_cells hf;have hx':cs=calL x:=by simpa [Value.cells] using hx
 exact ⟨x,by rw [hx']⟩
theorem open_cals {a:Option Addr} {len cap:Nat} {d:DataW H} {p:List MemPlace} {sp:Nat→Bool} {held:Bool}
  (h:DataW.Trod enc Tryz.prog W base sp held 22 (.slice a len cap) d p):∃ l:List Cal,IsCals W (.slice a len cap) l:=by
 obtain ⟨fuel,hf⟩:=h;rcases open_slice Tryz.underlying22 hf with ⟨hcs,_⟩ | ⟨x,len',cap',m,n,D,Pl,hcs,_,hl,hm,hmm,_,hx⟩
 ·simp [Value.cells] at hcs
  obtain ⟨rfl,rfl,rfl⟩:=hcs;exact ⟨[],none,0,rfl,Nat.le_refl _,by omega,fun h=>absurd rfl h⟩
 ·simp [Value.cells] at hcs
  obtain ⟨rfl,rfl,rfl⟩:=hcs;have hlm:len≤m:=by rw [hmm]; split <;> omega
  have each:∀ i,i<len→∃ q:Cal,∀ j,j<11→W.cell? (x.add (i * 11+j))=(calL q)[j]? := fun i hi=>by
   obtain ⟨cs',h1,h2⟩:=hx i (by omega);rw [cellsCal] at h1;obtain ⟨q,rfl⟩:=call_cells h2;obtain ⟨_,_,hcell⟩:=World.cells?_some h1;refine ⟨q,fun j hj=>?_⟩;have:=hcell j hj;rw [add_add] at this;exact this
  obtain ⟨q,hq⟩:=choose_lt each;refine ⟨(List.range len).map q,some x,cap,by simp,by simpa using hl,by unfold maxLen at hm; omega,fun hne=>?_⟩;have hpos:0<len:=by
   rcases Nat.eq_zero_or_pos len with h | h
   ·subst h; simp at hne
   ·exact h
  obtain ⟨b,off,spot⟩:=x;have h00:=hq 0 hpos 0 (by omega);have hspot:spot=none:=by simpa [Addr.add] using World.cell?_spot h00
  subst hspot;simp only [add_plain] at hq h00
  refine ⟨b,off,rfl,World.block_lt_of_cell? _ _ h00,fun j hj=>?_⟩;have hj':j<len:=by simpa using hj
  have:=hq j hj';simp only [List.getElem_map,List.getElem_range]
  intro i hi10
  have h:=this i hi10
  simpa [Nat.add_assoc] using h
end
end Go.Proofs.YtpbhaieclkoggaaGreatDoor
set_option maxRecDepth 100000
set_option maxHeartbeats 12800000
namespace Go.Proofs.YtpbhaieclkoggaaGreatDoor
open Go Go.Proofs Go.RowKit
theorem said12_any (x:Ans) (w:World):
  Calls Tryz.prog 11 #[.agg #[x.e,x.n,.string x.t]] w fun e w'=>e=.returned (.agg #[x.e,x.n,.string x.t])∧Below w.heap.size w w':=by
 have HB:=Lh (bl2 w [x.e,x.n,.string x.t] [x.e,x.n,.string x.t] 59 64);have H1:Blk ((w.alloc (.cells #[x.e,x.n,.string x.t] 59)).alloc (.cells #[.int .i64 0,.int .i64 0,.string ⟨#[]⟩] 64)) w.heap.size [x.e,x.n,.string x.t] 59:=(Blk.start w _ _).alloc _;have x0 := H1.c3;clear H1
 go_enter Tryz.func11,Tryz.ntmps11
 go_wp2_with fail
 exact bodyPost_ret (v:=.agg #[x.e,x.n,.string x.t]) (by simp [results, Tryz.results11, go_sem]) rfl ⟨rfl,HB.out⟩
structure O12 (w:World) (c:Cal) (W:World):Prop where
 bel:Below w.heap.size w W
 bc:Blk W w.heap.size [c.k,c.p,.int .i32 c.ch,c.o.k,c.o.c,c.o.s,c.o.a,c.o.n,.int .i32 c.o.ch,c.a,c.b] 57
 b2:∃ a0 a1 a2 a3 a4 a5 a6 a7 a8 a9 a10:Value,Blk W (w.heap.size+1) [a0,a1,a2,a3,a4,a5,a6,a7,a8,a9,a10] 72
theorem O12.put {w:World} {c:Cal} {W:World} (h:O12 w c W):O12 w c (setN W (w.heap.size+1) 0 [c.k,c.p,.int .i32 c.ch,c.o.k,c.o.c,c.o.s,c.o.a,c.o.n,.int .i32 c.o.ch,c.a,c.b])∧Blk (setN W (w.heap.size+1) 0 [c.k,c.p,.int .i32 c.ch,c.o.k,c.o.c,c.o.s,c.o.a,c.o.n,.int .i32 c.o.ch,c.a,c.b]) (w.heap.size+1) [c.k,c.p,.int .i32 c.ch,c.o.k,c.o.c,c.o.s,c.o.a,c.o.n,.int .i32 c.o.ch,c.a,c.b] 72:=by
 obtain ⟨a0,a1,a2,a3,a4,a5,a6,a7,a8,a9,a10,h2⟩:=h.b2;have h3:=setN_blk [c.k,c.p,.int .i32 c.ch,c.o.k,c.o.c,c.o.s,c.o.a,c.o.n,.int .i32 c.o.ch,c.a,c.b] 0 h2;exact ⟨⟨setN_below (by omega) _ 0 h.bel,h.bc.setN (by omega) _ 0,_,_,_,_,_,_,_,_,_,_,_,h3⟩,h3⟩
theorem O12.next {w:World} {c:Cal} {W W':World} (h:O12 w c W) (hb:Below W.heap.size W W'):O12 w c W':=⟨h.bel.trans (hb.mono h.bel.size),h.bc.next hb,by obtain ⟨a0,a1,a2,a3,a4,a5,a6,a7,a8,a9,a10,h2⟩:=h.b2; exact ⟨_,_,_,_,_,_,_,_,_,_,_,h2.next hb⟩⟩
theorem of12_any (c:Cal) (w:World):
  Calls Tryz.prog 9 #[.agg #[c.k,c.p,.int .i32 c.ch,c.o.k,c.o.c,c.o.s,c.o.a,c.o.n,.int .i32 c.o.ch,c.a,c.b]] w fun e w'=>e=.returned (.agg #[c.k,c.p,.int .i32 c.ch,c.o.k,c.o.c,c.o.s,c.o.a,c.o.n,.int .i32 c.o.ch,c.a,c.b])∧Below w.heap.size w w':=by
 have H0:=Lh (show O12 w c ((w.alloc (.cells #[c.k,c.p,.int .i32 c.ch,c.o.k,c.o.c,c.o.s,c.o.a,c.o.n,.int .i32 c.o.ch,c.a,c.b] 57)).alloc (.cells #[.int .i64 0,.int .i64 0,.int .i32 0,.int .i64 0,.int .i64 0,.int .i64 0,.int .i64 0,.int .i64 0,.int .i32 0,.int .i64 0,.int .i64 0] 72)) from ⟨bl2 _ _ _ _ _,(Blk.start w _ _).alloc _,_,_,_,_,_,_,_,_,_,_,_,Blk.startAt (by simp)⟩)
 go_enter Tryz.func9,Tryz.ntmps9
 go_wp2_with fail
 refine rgH (fun W=>Cc11 W w.heap.size c.k c.p (.int .i32 c.ch) c.o.k c.o.c c.o.s c.o.a c.o.n (.int .i32 c.o.ch) c.a c.b (O12 w c W)) (let h:=H0.out.next bdq; h.bc.d11 h) fun hH=>?_
 clear H0;refine tq 0 (.pointer (some ⟨w.heap.size,0,none⟩)) hH ?_;refine tq 1 c.k hH ?_;refine tq 2 (.pointer (some ⟨w.heap.size,1,none⟩)) hH ?_;refine tq 3 c.p hH ?_;refine tq 4 (.pointer (some ⟨w.heap.size,2,none⟩)) hH ?_;refine tq 5 (.int .i32 c.ch) hH ?_;refine tq 6 (.pointer (some ⟨w.heap.size,3,none⟩)) hH ?_;refine tq 7 (.agg #[c.o.k,c.o.c,c.o.s,c.o.a,c.o.n,.int .i32 c.o.ch]) hH ?_;refine tq 9 (.pointer (some ⟨w.heap.size,9,none⟩)) hH ?_;refine tq 10 (.agg #[c.a,c.b]) hH ?_;refine rd1 8 (by kernel_rfl) rfl fun K hK=>?_
 go_simp
 refine (of5_any _ _ _ _ _ _ _).mono ?_
 rintro e u ⟨rfl,hb⟩
 go_wp2_with fail
 refine hK.out _ _ (let h:=hH.2.2.2.2.2.2.2.2.2.2.2.next hb; h.bc.d11 h) ?_;clear hK K hH;intro hH
 try simp only [LAY]
 refine rd1 11 (by kernel_rfl) rfl fun K hK=>?_
 go_simp
 refine (of_any _ _ _).mono ?_
 rintro e u ⟨rfl,hb2⟩
 go_wp2_with fail
 refine hK.out _ _ (let h:=hH.2.2.2.2.2.2.2.2.2.2.2.next hb2; h.bc.d11 h) ?_;clear hK K hH;intro hH
 try simp only [LAY]
 refine tq 12 (.agg #[c.k,c.p,.int .i32 c.ch,c.o.k,c.o.c,c.o.s,c.o.a,c.o.n,.int .i32 c.o.ch,c.a,c.b]) hH ?_;have HQ:=Lh hH.2.2.2.2.2.2.2.2.2.2.2;obtain ⟨a0,a1,a2,a3,a4,a5,a6,a7,a8,a9,a10,hb2⟩:=HQ.out.b2;have n0 := hb2.c11;have fn0 := hb2.f11;have HP:=Lh HQ.out.put;generalize hX:u=X at *
 obtain ⟨w2,hw2⟩:∃ w2,w2=setN X (w.heap.size+1) 0 [c.k,c.p,.int .i32 c.ch,c.o.k,c.o.c,c.o.s,c.o.a,c.o.n,.int .i32 c.o.ch,c.a,c.b]:=⟨_,rfl⟩
 rw [←hw2] at HP;simp only [setN, Nat.zero_add, Nat.reduceAdd] at hw2
 have HW2:=Lh hw2;clear hw2 hX;refine rd1 13 (by kernel_rfl) rfl fun K hK=>?_
 go_simp
 go_wp2_with fail
 rw [←HW2.out];refine hK.out _ _ (let h:=HP.out.1; h.bc.d11 h) (fun hH2=>?_);clear hK K hH HW2 HQ hb2 n0 fn0
 try simp only [LAY]
 refine dnH ?_;have p0 := HP.out.2.c11;have HB:=Lh HP.out.1.bel;clear HP hH2;go_wp2_with fail
 exact bodyPost_ret (v:=.agg #[c.k,c.p,.int .i32 c.ch,c.o.k,c.o.c,c.o.s,c.o.a,c.o.n,.int .i32 c.o.ch,c.a,c.b]) (by simp [results, Tryz.results9, go_sem, p0]) rfl ⟨rfl,HB.out⟩
end Go.Proofs.YtpbhaieclkoggaaGreatDoor
set_option maxRecDepth 100000
set_option maxHeartbeats 12800000
namespace Go.Proofs.YtpbhaieclkoggaaGreatDoor
open Go Go.Proofs Go.RowKit
structure S12 (w:World) (vm vl:Value) (m:List Oq) (i:List (Int×Int)) (W:World):Prop where
 bel:Below w.heap.size w W
 bm:Blk W w.heap.size [vm,vl] 47
 bs:Blk W (w.heap.size+1) [.int .i64 (nL i),.int .i64 (cL i),.int .i64 (sL i),.int .i64 (rL i),.int .i64 (iL i)] 114
 io:IsO W vm m
theorem S12.next {w:World} {vm vl:Value} {m:List Oq} {i:List (Int×Int)} {W W':World} (h:S12 w vm vl m i W) (hb:Below W.heap.size W W'):S12 w vm vl m i W':=⟨h.bel.trans (hb.mono h.bel.size),h.bm.next hb,h.bs.next hb,h.io.next hb⟩
theorem S12.put {w:World} {vm vl:Value} {m:List Oq} {i j:List (Int×Int)} {W:World} (h:S12 w vm vl m i W):S12 w vm vl m j (setN W (w.heap.size+1) 0 [.int .i64 (nL j),.int .i64 (cL j),.int .i64 (sL j),.int .i64 (rL j),.int .i64 (iL j)]):=
 ⟨setN_below (by omega) _ 0 h.bel,h.bm.setN (by omega) _ 0,setN_blk [.int .i64 (nL j),.int .i64 (cL j),.int .i64 (sL j),.int .i64 (rL j),.int .i64 (iL j)] 0 h.bs,Sl.kt (KT.setN (by decide) _ 0 h.bs) h.io⟩
theorem refSum12_any (m l:List Oq) (n:Nat) (hV:VOk m l n) (hn:n≤60) (vm vl:Value) (w:World) (hM:IsO w vm m):
  Calls Tryz.prog 32 #[.agg #[vm,vl]] w fun e w'=>e=.returned (.string (sumT m))∧Below w.heap.size w w':=by
 have hlen:=hV.len;have HRM:=Lh hV.rm;obtain ⟨ad,cap,rfl,hc1,hc2⟩:=hM.form;have H0:=Lh (show S12 w (.slice ad m.length cap) vl m [] ((w.alloc (.cells #[.slice ad m.length cap,vl] 47)).alloc (.cells #[.int .i64 0,.int .i64 0,.int .i64 0,.int .i64 0,.int .i64 0] 114)) from
  ⟨bl2 w [.slice ad m.length cap,vl] [.int .i64 0,.int .i64 0,.int .i64 0,.int .i64 0,.int .i64 0] _ _,(Blk.start w _ _).alloc _,Blk.startAt (by simp),hM.next (bl2 w [.slice ad m.length cap,vl] [.int .i64 0,.int .i64 0,.int .i64 0,.int .i64 0,.int .i64 0] _ _)⟩)
 clear hM hV
 go_enter Tryz.func32,Tryz.ntmps32
 go_wp2_with fail
 go_loopg [4] m.length (fun g ti wr=>∃ k:Nat,k≤m.length∧g=m.length-k∧ti=.int .i64 (k:Int)∧S12 w (.slice ad m.length cap) vl m (idsO (m.take k)) wr)
 case atStart=>exact ⟨0,Nat.zero_le _,rfl,rfl,H0.out⟩
 case round=>
  obtain ⟨k,hk,rfl,rfl,hJ⟩:=hrel;clear H0;have HJ:=Lh hJ;clear hJ;by_cases hlt:k<m.length
  ·obtain ⟨g,rfl,hg,hC⟩:=HJ.out.io.at k hlt
   have HID:=Lh (ids_take hlt);have HMX:=Lh (show mayB m[k].c m[k].s=true from HRM.out _ (List.getElem_mem hlt));have HMI:=Lh (show Mays (idsO (m.take k)) from ids_may (fun x hx=>HRM.out x (List.mem_of_mem_take hx)));have hil:(idsO (m.take k)).length≤900:=by have:=ids_len (m.take k); rw [List.length_take] at this; omega
   have HCA:=Lh (fun W (h:IsO W (.slice (some ⟨g,0,none⟩) m.length cap) m)=>show W.cell? ⟨g,k * 6+1,none⟩=some (.int .i64 m[k].c)∧W.cell? ⟨g,k * 6+2,none⟩=some (.int .i64 m[k].s) from by
    obtain ⟨g',e,hg',hC'⟩:=h.at k hlt
    cases e
    obtain ⟨y0,y1,y2,y3,y4,y5⟩:=hC' _ (Below.refl _ _);exact ⟨y1,y2⟩)
   generalize m[k]=x at *
   obtain ⟨y0,y1,y2,y3,y4,y5⟩:=hC _ (Below.refl _ _);have x0 := HJ.out.bm.c2;generalize idsO (m.take k)=i0 at *
   clear hC y1 y2 y3 y4 y5;by_cases hx0:x.k=0
   ·have hk0:(x.k==0)=true:=by simpa using hx0
    have HI2:=Lh (show idsO (m.take (k+1))=i0++[(x.c,x.s)] by rw [HID.out,if_pos hx0]);have HPU:=Lh (fun W=>ref2Put_any (l:=i0) (x:=(x.c,x.s)) W HMI.out HMX.out (by omega));obtain ⟨j0,hj0⟩:∃ j0,j0=i0++[(x.c,x.s)]:=⟨_,rfl⟩
    rw [←hj0] at HPU HI2
    dsimp only at HPU
    clear hx0 HID hj0;go_wp2_with fail
    have HD:=Lh (HJ.out.next bdq);refine rgH (fun W=>Ce W w.heap.size 0 (.slice (some ⟨g,0,none⟩) m.length cap)∧Ce W g (k * 6+1) x.c∧Ce W g (k * 6+2) x.s∧∃ i,S12 w (.slice (some ⟨g,0,none⟩) m.length cap) vl m i W) (let h:=HD.out; ⟨h.bm.cell 0 rfl,(HCA.out _ h.io).1,(HCA.out _ h.io).2,_,h⟩) fun hH=>?_
    generalize wr.drew=X9 at *
    clear HJ x0 y0;refine tq 1 (.pointer (some ⟨w.heap.size,0,none⟩)) hH ?_;refine tq 2 (.slice (some ⟨g,0,none⟩) m.length cap) hH ?_;refine tq 3 (.int .i64 (k:Int)) hH ?_;refine tq 4 (.pointer (some ⟨g,k * 6,none⟩)) hH ?_;refine tq 5 (.pointer (some ⟨g,k * 6+1,none⟩)) hH ?_;refine tq 6 (.agg #[x.c,x.s]) hH ?_;have t0 := HD.out.bs.c5;refine rd1 0 (by kernel_rfl) rfl fun K hK=>?_
    go_simp
    go_wp2_with fail
    refine hK.out _ _ hH (fun hH2=>?_);clear hK K hH hH2 t0
    try simp only [LAY]
    refine rd1 7 (by kernel_rfl) rfl fun K hK=>?_
    go_simp
    refine (HPU.out _).mono ?_
    rintro e u ⟨rfl,hb⟩
    go_wp2_with fail
    have HQ:=Lh (HD.out.next hb);refine hK.out _ _ (let h:=HQ.out; ⟨h.bm.cell 0 rfl,(HCA.out _ h.io).1,(HCA.out _ h.io).2,_,h⟩) ?_;clear hK K HD hb;intro hH
    try simp only [LAY]
    refine tq 8 (.tuple #[.agg #[.int .i64 (nL j0),.int .i64 (cL j0),.int .i64 (sL j0),.int .i64 (rL j0),.int .i64 (iL j0)],.int .i64 0]) hH ?_;refine tq 9 (.agg #[.int .i64 (nL j0),.int .i64 (cL j0),.int .i64 (sL j0),.int .i64 (rL j0),.int .i64 (iL j0)]) hH ?_;refine tq 10 (.int .i64 0) hH ?_;have n0 := HQ.out.bs.c5;have fn0 := HQ.out.bs.f5;have HP:=Lh (HQ.out.put (j:=j0));obtain ⟨w2,hw2⟩:∃ w2,w2=setN u (w.heap.size+1) 0 [.int .i64 (nL j0),.int .i64 (cL j0),.int .i64 (sL j0),.int .i64 (rL j0),.int .i64 (iL j0)]:=⟨_,rfl⟩
    rw [←hw2] at HP;simp only [setN, Nat.zero_add, Nat.reduceAdd] at hw2
    have HW2:=Lh hw2;clear hw2;refine rd1 11 (by kernel_rfl) rfl fun K hK=>?_
    go_simp
    go_wp2_with fail
    rw [←HW2.out];refine hK.out _ _ (let h:=HP.out; ⟨h.bm.cell 0 rfl,(HCA.out _ h.io).1,(HCA.out _ h.io).2,_,h⟩) (fun hH2=>?_);clear hK K hH hH2 HW2 HQ n0 fn0
    try simp only [LAY]
    refine dnH ?_;go_wp2_with fail
    go_roundg (m.length-(k+1))
    case measure=>omega
    case rel=>exact ⟨k+1,by omega,rfl,by go_num,by rw [HI2.out]; exact HP.out⟩
   ·have hk0:(x.k==0)=false:=by simpa using hx0
    have HI2:=Lh (show idsO (m.take (k+1))=i0 by rw [HID.out,if_neg hx0]);clear hx0 HID;go_wp2_with fail
    go_roundg (m.length-(k+1))
    case measure=>omega
    case rel=>exact ⟨k+1,by omega,rfl,by go_num,by rw [HI2.out]; exact HJ.out⟩
  ·obtain rfl:k=m.length:=by omega
   rw [List.take_length] at HJ;have hMI:Mays (idsO m):=ids_may HRM.out;have hil:(idsO m).length≤900:=by have:=ids_len m; omega
   have hSU:=sums_L hMI (by omega);have hn0:nL (idsO m)=((idsO m).length:Int):=rfl;have HR2:=Lh (fun W=>ref2Text_any (N:=nL (idsO m)) (small_of (by omega) (by omega)) hSU.1 hSU.2.1 hSU.2.2.1 hSU.2.2.2 W);have HTS:=Lh (show tT [nL (idsO m),cL (idsO m),sL (idsO m),rL (idsO m),iL (idsO m)]=sumT m from rfl);rw [HTS.out] at HR2;clear hMI hil hSU hn0 HTS;generalize idsO m=i9 at *
   have x0 := HJ.out.bm.c2;have t0 := HJ.out.bs.c5;have HB:=Lh HJ.out.bel;clear HJ;go_wp2_with (go_at_call 42; refine (HR2.out _).mono ?_; rintro e w5 ⟨rfl,hb⟩)
   go_ret
   exact ⟨rfl,HB.out.trans (hb.mono HB.out.size)⟩
end Go.Proofs.YtpbhaieclkoggaaGreatDoor
set_option maxRecDepth 100000
set_option maxHeartbeats 12800000
namespace Go.Proofs.YtpbhaieclkoggaaGreatDoor
open Go Go.Proofs Go.RowKit
theorem refWord_any (k:Int) (w:World):
  Calls Tryz.prog 18 #[k] w fun e w'=>e=.returned (.string (wordA k))∧Below w.heap.size w w':=by
 by_cases h0:k<0
 ·have hw:wordA k=⟨#[110,111,110,101]⟩:=by
   unfold wordA
   rw [if_neg (by omega),if_neg (by omega),if_neg (by omega),if_neg (by omega),if_neg (by omega),if_neg (by omega),if_neg (by omega),if_neg (by omega),if_neg (by omega)]
  have HW:=Lh hw;clear hw
  go_enter Tryz.func18,Tryz.ntmps18
  go_wp2_with fail
  go_ret
  exact ⟨by rw [HW.out]; rfl,bA⟩
 by_cases h8:8<k
 ·have hw:wordA k=⟨#[110,111,110,101]⟩:=by
   unfold wordA
   rw [if_neg (by omega),if_neg (by omega),if_neg (by omega),if_neg (by omega),if_neg (by omega),if_neg (by omega),if_neg (by omega),if_neg (by omega),if_neg (by omega)]
  have HW:=Lh hw;clear hw
  go_enter Tryz.func18,Tryz.ntmps18
  go_wp2_with fail
  go_ret
  exact ⟨by rw [HW.out]; rfl,bA⟩
 rcases (show k=0∨k=1∨k=2∨k=3∨k=4∨k=5∨k=6∨k=7∨k=8 by omega) with rfl | rfl | rfl | rfl | rfl | rfl | rfl | rfl | rfl
 all_goals
  clear h0 h8
  go_enter Tryz.func18,Tryz.ntmps18
  go_wp2_with fail
  go_ret
  exact ⟨rfl,bA⟩
end Go.Proofs.YtpbhaieclkoggaaGreatDoor
set_option maxRecDepth 100000
set_option maxHeartbeats 12800000
namespace Go.Proofs.YtpbhaieclkoggaaGreatDoor
open Go Go.Proofs Go.RowKit
theorem awake11_any (H:VAll) (HC:CAll) (hA8:Awake8Ok):Awake11Ok:=by
 intro w hp ht
 have HPT:=Lh (And.intro hp ht);have HI1:=Lh (H.ins [] [] 0 1 0 97 (by decide) (by decide) (.pointer none) (.pointer none) (.int .i64 0) (.slice none 0 0) (.int .i64 0) (.int .i64 0) (.complex .f64 0 0) (.complex .f64 0 0) w VOk.nil (by omega) (by decide) (by decide) (isv_nil w));rw [ex8_i1.1,ex8_i1.2] at HI1;have hv1:VOk (exM 1) [] 1:=by have h:=VOk.nil.ins 1 0 97 (by decide) (by decide); rw [ex8_i1.2] at h; exact h
 have hv2:VOk (exM 2) [] 2:=by have h:=hv1.ins 1 1 98 (by decide) (by decide); rw [ex8_i2.2] at h; exact h
 have hv3:VOk (exM 2++[exD]) [] 3:=by have h:=hv2.del 0; rw [ex8_del.2] at h; exact h
 have HI2:=Lh (fun (d0 d1 d2 d3 d4 d5 d6 d7:Value) W (h:IsV W (exM 1) [] [d0,d1,d2,d3,d4,d5,d6,d7])=>H.ins (exM 1) [] 1 1 1 98 (by decide) (by decide) d0 d1 d2 d3 d4 d5 d6 d7 W hv1 (by omega) (by decide) (by decide) h);have hx2:opP (inE8 (exM 1) [] 1 1 98 (by decide) (by decide)) (inV8 (exM 1) [] 1 1 98 (by decide) (by decide))=exO 1:=by rw [ex8_i2.1]; show inV8 (exM 1) [] 1 1 98 _ _=exO 1; unfold inV8; rw [ex8_d1]; rfl
 rw [hx2,ex8_i2.1,ex8_i2.2] at HI2;have HI3:=Lh (fun (d0 d1 d2 d3 d4 d5 d6 d7:Value) W (h:IsV W (exM 2) [] [d0,d1,d2,d3,d4,d5,d6,d7])=>H.del (exM 2) [] 2 0 d0 d1 d2 d3 d4 d5 d6 d7 W hv2 (by omega) (by decide) (by decide) h);rw [ex8_del.1,ex8_del.2] at HI3;have HAT:=Lh (fun (d0 d1 d2 d3 d4 d5 d6 d7:Value) W (h:IsV W (exM 2) [] [d0,d1,d2,d3,d4,d5,d6,d7])=>HC.at_ (exM 2) [] 2 1 d0 d1 d2 d3 d4 d5 d6 d7 W hv2 (by omega) (by decide) (by decide) h);have hn:namC (docR (exM 2)) 1=(2,1)∧cuE (docR (exM 2)) 1=0:=by rw [ex8_d2]; exact ⟨rfl,by decide⟩
 rw [hn.1,hn.2] at HAT;have HRE:=Lh (fun (d0 d1 d2 d3 d4 d5 d6 d7:Value) W (h:IsV W (exM 2++[exD]) [] [d0,d1,d2,d3,d4,d5,d6,d7])=>HC.re (exM 2++[exD]) [] 3 2 1 d0 d1 d2 d3 d4 d5 d6 d7 W hv3 (by omega) h);have hr:reN (docR (exM 2++[exD])) 2 1=0∧reE (docR (exM 2++[exD])) 2 1=0:=by rw [ex8_d3]; exact ⟨by decide,by decide⟩
 rw [hr.1,hr.2] at HRE;have HA8:=Lh hA8
 dsimp only at HI1 HI2 HI3
 clear H HC hp ht hA8 hv1 hv2 hv3 hx2 hn hr;generalize chgO (exM 2) exD=cg at *
 generalize chgO [] (exO 0)=cg1 at *
 generalize chgO (exM 1) (exO 1)=cg2 at *
 have HY:=Lh (show (exO 1).c=2∧(exO 1).s=1 from ⟨rfl,rfl⟩);generalize exO 1=y2 at *
 generalize exM 2++[exD]=M3 at *
 generalize exM 2=M2 at *
 generalize exM 1=M1 at *
 go_enter Tryz.func20,Tryz.ntmps20
 go_wp2_with (go_at_call 43; refine HI1.out.mono ?_; rintro e w1 ⟨hb,d0,d1,d2,d3,d4,d5,d6,d7,lc,x,-,rfl,hiv,hic⟩; obtain ⟨al,pl,rfl,hd1,hd2⟩:=hic.form; refine Hid.out ?_)
 obtain ⟨sd0,sd1,sd2,sd3,sd4,sd5,sd6,sd7⟩:=st8 hiv.one;have hbA:=bel2 w1 #[d0,d1,d2,d3,d4,d5,d6,d7] #[x.k,x.c,x.s,x.a,x.n,.int .i32 x.ch] 39 55;have HA:=Lh (show A8 w w1.heap.size [d0,d1,d2,d3,d4,d5,d6,d7] M1 [] ((w1.alloc (.cells #[d0,d1,d2,d3,d4,d5,d6,d7] 39)).alloc (.cells #[x.k,x.c,x.s,x.a,x.n,.int .i32 x.ch] 55)) from ⟨hb.trans (hbA.mono hb.size),hb.size,(Blk.start w1 [d0,d1,d2,d3,d4,d5,d6,d7] _).alloc _,hiv.next hbA⟩);clear hb hiv hic hbA HI1;refine Lh ?_
 go_upto_region 2 with fail
 generalize (w1.alloc (.cells #[d0,d1,d2,d3,d4,d5,d6,d7] 39)).alloc (.cells #[x.k,x.c,x.s,x.a,x.n,.int .i32 x.ch] 55)=w2 at *
 generalize w1.heap.size=bV at *
 clear sd0 sd1 sd2 sd3 sd4 sd5 sd6 sd7;have v0 := HA.out.bv.c8;go_wp2_with (go_at_call 43; refine (HI2.out _ _ _ _ _ _ _ _ _ HA.out.iv).mono ?_; rintro e w3 ⟨hb,c0,c1,c2,c3,c4,c5,c6,c7,lc2,x2,rfl,rfl,hiv,hic⟩; obtain ⟨al2,pl2,rfl,hd3,hd4⟩:=hic.form; refine Hid.out ?_)
 obtain ⟨sd0,sd1,sd2,sd3,sd4,sd5,sd6,sd7⟩:=st8 hiv.one;have HA2:=Lh (HA.out.next hb);have HIV:=Lh hiv;clear HA hb hiv hic HI2 v0;have n0 := HA2.out.bv.c8;have fn0 := HA2.out.bv.f8;have hlt:bV<w3.heap.size:=HA2.out.bv.lt;have hne:bV≠w3.heap.size:=by omega
 have HA3:=Lh (HA2.out.put HIV.out);obtain ⟨w4,hw4⟩:∃ w4,w4=setN w3 bV 0 [c0,c1,c2,c3,c4,c5,c6,c7]:=⟨_,rfl⟩
 rw [←hw4] at HA3;have hsz:w4.heap.size=w3.heap.size:=by rw [hw4]; exact setN_size _ _
 simp only [setN, Nat.zero_add, Nat.reduceAdd] at hw4
 have hW4:=hw4.symm;clear hw4;refine Lh ?_
 go_upto_region 3 with fail
 have hA4:=bel1 w4 #[x2.k,x2.c,x2.s,x2.a,x2.n,.int .i32 x2.ch] 55;have HA4:=Lh (And.intro (HA3.out.next hA4) (show Blk (w4.alloc (.cells #[x2.k,x2.c,x2.s,x2.a,x2.n,.int .i32 x2.ch] 55)) w3.heap.size [x2.k,x2.c,x2.s,x2.a,x2.n,.int .i32 x2.ch] 55 from Blk.startAt hsz.symm));clear hA4 HA3 HA2 HIV hW4 hsz hlt hne n0 fn0 sd0 sd1 sd2 sd3 sd4 sd5 sd6 sd7;generalize w4.alloc (.cells #[x2.k,x2.c,x2.s,x2.a,x2.n,.int .i32 x2.ch] 55)=W4 at *
 generalize w3.heap.size=bO at *
 have v0 := HA4.out.1.bv.c8;go_wp2_with (go_at_call 44; refine (HAT.out _ _ _ _ _ _ _ _ _ HA4.out.1.iv).mono ?_; rintro e w5 ⟨rfl,hb⟩; refine Hid.out ?_)
 have hA5:=bel1 w5 #[.int .i64 2,.int .i64 1] 126;have HA5:=Lh (And.intro ((HA4.out.1.next hb).next hA5) (And.intro ((HA4.out.2.next hb).next hA5) (Blk.start w5 [.int .i64 2,.int .i64 1] 126)));clear hA5 HA4 hb HAT v0;refine Lh ?_
 go_upto_region 4 with fail
 generalize w5.alloc (.cells #[.int .i64 2,.int .i64 1] 126)=W5 at *
 generalize w5.heap.size=bC at *
 have v0 := HA5.out.1.bv.c8;go_wp2_with (go_at_call 45; refine (HI3.out _ _ _ _ _ _ _ _ _ HA5.out.1.iv).mono ?_; rintro e w6 ⟨hb,d0,d1,d2,d3,d4,d5,d6,d7,lc3,x3,-,rfl,hiv,hic⟩; obtain ⟨al3,pl3,rfl,hd5,hd6⟩:=hic.form; refine Hid.out ?_)
 obtain ⟨sd0,sd1,sd2,sd3,sd4,sd5,sd6,sd7⟩:=st8 hiv.one;have HA6:=Lh (And.intro (HA5.out.1.next hb) (And.intro (HA5.out.2.1.next hb) (HA5.out.2.2.next hb)));have HIV:=Lh hiv;clear HA5 hb hiv hic HI3 v0;have n0 := HA6.out.1.bv.c8;have fn0 := HA6.out.1.bv.f8;have HA7:=Lh (And.intro (HA6.out.1.put HIV.out) (And.intro (HA6.out.1.ktV [d0,d1,d2,d3,d4,d5,d6,d7] (by decide) _ _ HA6.out.2.1) (HA6.out.1.ktV [d0,d1,d2,d3,d4,d5,d6,d7] (by decide) _ _ HA6.out.2.2)));obtain ⟨w7,hw7⟩:∃ w7,w7=setN w6 bV 0 [d0,d1,d2,d3,d4,d5,d6,d7]:=⟨_,rfl⟩
 rw [←hw7] at HA7;simp only [setN, Nat.zero_add, Nat.reduceAdd] at hw7
 have hW7:=hw7.symm;clear hw7;refine Lh ?_
 go_upto_region 5 with fail
 clear hW7 HA6 HIV n0 fn0 sd0 sd1 sd2 sd3 sd4 sd5 sd6 sd7;have v0 := HA7.out.1.bv.c8;have g0 := HA7.out.2.2.c2;go_wp2_with (go_at_call 46; refine (HRE.out _ _ _ _ _ _ _ _ _ HA7.out.1.iv).mono ?_; rintro e w8 ⟨rfl,hb⟩; refine Hid.out ?_)
 have HA8b:=Lh (And.intro (HA7.out.1.next hb) (And.intro (HA7.out.2.1.next hb) (HA7.out.2.2.next hb)));clear HA7 hb HRE v0 g0;refine Lh ?_;go_wp2_with (go_at_call 47; refine (HA8.out _ (HPT.out.1.next HA8b.out.1.bel) (HPT.out.2.next HA8b.out.1.bel)).mono ?_; rintro e w9 ⟨rfl,hb⟩; refine Hid.out ?_)
 have HF:=Lh (HA8b.out.1.bel.trans (hb.mono HA8b.out.1.bel.size));have g0 := (HA8b.out.2.2.next hb).c2;obtain ⟨o0,o1,o2,o3,o4,o5⟩:=(HA8b.out.2.1.next hb).c6;rw [HY.out.1] at o1;rw [HY.out.2] at o2;clear HA8b hb;refine Lh ?_;go_wp2_with fail
 go_ret
 exact ⟨rfl,HF.out⟩
end Go.Proofs.YtpbhaieclkoggaaGreatDoor
set_option maxRecDepth 100000
set_option maxHeartbeats 12800000
namespace Go.Proofs.YtpbhaieclkoggaaGreatDoor
open Go Go.Proofs Go.RowKit
theorem res_txt (x y:Value) (t:ByteArray) (w:World):(Instr.field 59 (.agg #[x,y,.string t]) 2).run Tryz.prog w=.ok (.string t) w:=by kernel_rfl
attribute [local go_sem] res_txt
structure A12 (w:World) (b:Nat) (r:Rpl) (cs:List Value) (W:World):Prop where
 bel:Below w.heap.size w W
 ge:w.heap.size≤b
 br:Blk W b cs 41
 ir:IsRp W r cs
theorem A12.next {w:World} {b:Nat} {r:Rpl} {cs:List Value} {W W':World} (h:A12 w b r cs W) (hb:Below W.heap.size W W'):A12 w b r cs W':=⟨h.bel.trans (hb.mono h.bel.size),h.ge,h.br.next hb,h.ir.next hb⟩
theorem A12.put {w:World} {b:Nat} {r q:Rpl} {c0 c1 c2 c3 c4 c5 c6 c7 c8 c9 d0 d1 d2 d3 d4 d5 d6 d7 d8 d9:Value} {W:World} (h:A12 w b r [c0,c1,c2,c3,c4,c5,c6,c7,c8,c9] W) (h':IsRp W q [d0,d1,d2,d3,d4,d5,d6,d7,d8,d9]):A12 w b q [d0,d1,d2,d3,d4,d5,d6,d7,d8,d9] (setN W b 0 [d0,d1,d2,d3,d4,d5,d6,d7,d8,d9]):=
 ⟨setN_below h.ge _ 0 h.bel,h.ge,setN_blk [d0,d1,d2,d3,d4,d5,d6,d7,d8,d9] 0 h.br,h'.setN h.br (by decide) (by decide) (by decide) _⟩
theorem awake12_any (H:PAll) (h11:Awake11Ok):Awake12Ok:=by
 intro w hp ht
 have HN:Hid (∀ W:World,Calls Tryz.prog 6 #[.int .i64 1] W fun e w'=>Below W.heap.size W w'∧∃ d0 d1 d2 d3 d4 d5 d6 d7 d8 d9,e=.returned (.tuple #[.agg #[d0,d1,d2,d3,d4,d5,d6,d7,d8,d9],.int .i64 0])∧IsRp w' ⟨1,[],[],false⟩ [d0,d1,d2,d3,d4,d5,d6,d7,d8,d9]):=Lh (fun W=>H.new 1 W);have HDO:=Lh (fun d0 d1 d2 d3 d4 d5 d6 d7 d8 d9 (W:World) (h:IsRp W ⟨1,[],[],false⟩ [d0,d1,d2,d3,d4,d5,d6,d7,d8,d9]) (hb:Below w.heap.size w W)=>show Calls Tryz.prog 10 #[.agg #[d0,d1,d2,d3,d4,d5,d6,d7,d8,d9],.agg #[.int .i64 0,.int .i64 0,.int .i32 97,.int .i64 0,.int .i64 0,.int .i64 0,.int .i64 0,.int .i64 0,.int .i32 0,.int .i64 0,.int .i64 0]] W fun e w'=>Below W.heap.size W w'∧∃ s0 s1 s2 s3 s4 s5 s6 s7 s8 s9,e=.returned (.tuple #[.agg #[s0,s1,s2,s3,s4,s5,s6,s7,s8,s9],.agg #[.int .i64 0,.int .i64 1,.string ⟨#[43,49,46,49,32,45,32,54,49]⟩]])∧IsRp w' ⟨1,exM 1,[],false⟩ [s0,s1,s2,s3,s4,s5,s6,s7,s8,s9] from by have h1:=H.do_ ⟨1,[],[],false⟩ 0 ex12A d0 d1 d2 d3 d4 d5 d6 d7 d8 d9 W (newR_ok 1) (by omega) h (hp.next hb) (ht.next hb); rw [ex12_a] at h1; exact h1);have HLK:=Lh (fun d0 d1 d2 d3 d4 d5 d6 d7 d8 d9 (W:World) (h:IsRp W ⟨1,exM 1,[],false⟩ [d0,d1,d2,d3,d4,d5,d6,d7,d8,d9]) (hb:Below w.heap.size w W)=>show Calls Tryz.prog 12 #[.agg #[d0,d1,d2,d3,d4,d5,d6,d7,d8,d9],.agg #[.int .i64 3,.int .i64 0,.int .i32 0,.int .i64 0,.int .i64 0,.int .i64 0,.int .i64 0,.int .i64 0,.int .i32 0,.int .i64 0,.int .i64 0]] W fun e w'=>e=.returned (.agg #[.int .i64 0,.int .i64 0,.string ⟨#[97]⟩])∧Below W.heap.size W w' from by have h1:=H.look ⟨1,exM 1,[],false⟩ 1 ex12R d0 d1 d2 d3 d4 d5 d6 d7 d8 d9 W ex12_ok (by omega) h (hp.next hb) (ht.next hb); rw [ex12_r] at h1; exact h1);have HAW:=Lh (fun (W:World) (hb:Below w.heap.size w W)=>h11 W (hp.next hb) (ht.next hb));clear H h11 hp ht;generalize exM 1=M1 at *
 go_enter Tryz.func5,Tryz.ntmps5
 go_wp2_with (go_at_call 6; refine (HN.out _).mono ?_; rintro e w1 ⟨hb,d0,d1,d2,d3,d4,d5,d6,d7,d8,d9,rfl,hir⟩; refine Hid.out ?_)
 obtain ⟨sd0,sd1,sd2,sd3,sd4,sd5,sd6,sd7,sd8,sd9⟩:=st10 hir.one;have HA:=Lh (show A12 w w1.heap.size ⟨1,[],[],false⟩ [d0,d1,d2,d3,d4,d5,d6,d7,d8,d9] (w1.alloc (.cells #[d0,d1,d2,d3,d4,d5,d6,d7,d8,d9] 41)) from ⟨hb.trans ((bl1 w1 _ _).mono hb.size),hb.size,Blk.start w1 _ _,hir.next (bl1 _ _ _)⟩);clear hb hir HN;refine Lh ?_
 go_upto_region 2 with fail
 generalize w1.alloc (.cells #[d0,d1,d2,d3,d4,d5,d6,d7,d8,d9] 41)=W1 at *
 generalize w1.heap.size=bV at *
 clear sd0 sd1 sd2 sd3 sd4 sd5 sd6 sd7 sd8 sd9;have v0 := HA.out.br.c10;go_wp2_with (go_at_call 10; refine (HDO.out d0 d1 d2 d3 d4 d5 d6 d7 d8 d9 _ HA.out.ir HA.out.bel).mono ?_; rintro e w3 ⟨hb,s0,s1,s2,s3,s4,s5,s6,s7,s8,s9,rfl,hir⟩; refine Hid.out ?_)
 obtain ⟨sd0,sd1,sd2,sd3,sd4,sd5,sd6,sd7,sd8,sd9⟩:=st10 hir.one;have HA2:=Lh (HA.out.next hb);have HIR:=Lh hir;clear HA hb hir HDO v0;have n0 := HA2.out.br.c10;have fn0 := HA2.out.br.f10;have hlt:bV<w3.heap.size:=HA2.out.br.lt;have hne:bV≠w3.heap.size:=by omega
 have HA3:=Lh (HA2.out.put HIR.out);obtain ⟨w4,hw4⟩:∃ w4,w4=setN w3 bV 0 [s0,s1,s2,s3,s4,s5,s6,s7,s8,s9]:=⟨_,rfl⟩
 rw [←hw4] at HA3;have hsz:w4.heap.size=w3.heap.size:=by rw [hw4]; exact setN_size _ _
 simp only [setN, Nat.zero_add, Nat.reduceAdd] at hw4
 have hW4:=hw4.symm;clear hw4;refine Lh ?_
 go_upto_region 3 with fail
 have hA4:=bl1 w4 [.int .i64 0,.int .i64 1,.string ⟨#[43,49,46,49,32,45,32,54,49]⟩] 59;have HA4:=Lh (And.intro (HA3.out.next hA4) (show Blk (w4.alloc (.cells #[.int .i64 0,.int .i64 1,.string ⟨#[43,49,46,49,32,45,32,54,49]⟩] 59)) w3.heap.size [.int .i64 0,.int .i64 1,.string ⟨#[43,49,46,49,32,45,32,54,49]⟩] 59 from Blk.startAt hsz.symm));clear hA4 HA3 HA2 HIR hW4 hsz hlt hne n0 fn0 sd0 sd1 sd2 sd3 sd4 sd5 sd6 sd7 sd8 sd9;generalize w4.alloc (.cells #[.int .i64 0,.int .i64 1,.string ⟨#[43,49,46,49,32,45,32,54,49]⟩] 59)=W4 at *
 generalize w3.heap.size=bO at *
 go_wp2_with (go_at_call 20; refine (HAW.out _ HA4.out.1.bel).mono ?_; rintro e w5 ⟨rfl,hb⟩; refine Hid.out ?_)
 have HA5:=Lh (And.intro (HA4.out.1.next hb) (HA4.out.2.next hb));clear HA4 hb;have v0 := HA5.out.1.br.c10;have g0 := HA5.out.2.c3;refine Lh ?_;go_wp2_with (go_at_call 12; refine (HLK.out s0 s1 s2 s3 s4 s5 s6 s7 s8 s9 _ HA5.out.1.ir HA5.out.1.bel).mono ?_; rintro e w6 ⟨rfl,hb⟩; refine Hid.out ?_)
 have HF:=Lh (HA5.out.1.bel.trans (hb.mono HA5.out.1.bel.size));clear HA5 hb;refine Lh ?_;go_wp2_with fail
 go_ret
 exact ⟨rfl,HF.out⟩
end Go.Proofs.YtpbhaieclkoggaaGreatDoor
