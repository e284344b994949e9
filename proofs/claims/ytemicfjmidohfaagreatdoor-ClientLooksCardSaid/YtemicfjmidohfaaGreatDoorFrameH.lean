import Derived.Test.YtemicfjmidohfaaGreatDoorTie
import Derived.Test.YtemicfjmidohfaaGreatDoorCards
import Derived.Test.YtemicfjmidohfaaGreatDoorAb
import Derived.ProofKit
import Derived.LaidMore
import Derived.OpenShut
import Derived.Stop.Joined
import Derived.Stop.LaidErr
import Derived.Lib.SmallJoins
import Derived.Lib.LaidU8
import Derived.Deep.Slices
import Derived.Deep.Strs
import Derived.Deep.SlicePairs
import Derived.ChangeSame
import Derived.ChangeOld
import Derived.Lay
set_option maxRecDepth 100000
namespace Go.Proofs.YtemicfjmidohfaaGreatDoor
open Go Go.Proofs Go.ChangeShapes Go.WideShapes Go.ChangeAt Go.RowKit Go.Joins Go.Deep
theorem own:ownKnob Tryz.prog.godebug=none:=by kernel_rfl
theorem laidOut:laidOutB Tryz.prog=true:=by kernel_rfl
theorem cellsOp:Tryz.prog.cellsOf 73=6:=by kernel_rfl
theorem cellsKind:Tryz.prog.cellsOf 69=1:=by kernel_rfl
theorem cellsId:Tryz.prog.cellsOf 71=2:=by kernel_rfl
theorem cellsInt:Tryz.prog.cellsOf 3=1:=by kernel_rfl
theorem cellsI64:Tryz.prog.cellsOf 2=1:=by kernel_rfl
theorem cellsI32:Tryz.prog.cellsOf 21=1:=by kernel_rfl
def laidR (R:List (String×DataW Unit)):List (String×DataW Unit):=("math/bits.deBruijn32tab",Rows.laid_math_bits_deBruijn32tab)::("math/bits.deBruijn64tab",Rows.laid_math_bits_deBruijn64tab)::("internal/strconv.optimize",Rows.laid_internal_strconv_optimize)::("internal/strconv.uint64pow10",Rows.laid_internal_strconv_uint64pow10)::R
theorem tTab:(Tryz.prog.globals[1]?).map (·.type)=some 378:=by kernel_rfl
theorem tab_of_laid {W:World} {R:List (String×DataW Unit)} (h:laidMet Tryz.prog (laidR R) W):Tab W:=by
 have h2:=laidMet.tail (laidMet.tail (laidMet.tail h));exact Lib.tabIs_of_head gTab tTab Tryz.underlying378 Tryz.underlying357 (by kernel_rfl) (by kernel_rfl) h2
theorem gPow:Tryz.prog.globalNamed "internal/strconv.pow10Tab" = some 6:=by kernel_rfl
theorem tPow:(Tryz.prog.globals[6]?).map (·.type)=some 448:=by kernel_rfl
theorem gOpt:Tryz.prog.globalNamed "internal/strconv.optimize" = some 3:=by kernel_rfl
theorem tOpt:(Tryz.prog.globals[3]?).map (·.type)=some 4:=by kernel_rfl
theorem pow_at {W:World} {L:List (String×DataW Unit)} (h:laidMet Tryz.prog L W) (hm:("internal/strconv.pow10Tab",Rows.laid_internal_strconv_pow10Tab)∈L) (i:Nat) (hi:i<696) (a b:Nat) (ha:Pinned.pow10Rows[i]? = some (a,b)):
  W.cell? ⟨6,i * 2,none⟩=some (.int .u64 a)∧W.cell? ⟨6,i * 2+1,none⟩=some (.int .u64 b):=by
 obtain ⟨g,t,cs,fuel,p,hg,ht,hvar,hd⟩:=Lib.laidMet.reads h hm;obtain rfl:=Option.some.inj (gPow.symm.trans hg);obtain rfl:=Option.some.inj (tPow.symm.trans ht);obtain ⟨xs,m,_,hx,_,hxl,hat⟩:=DataW.trod_array Tryz.underlying448 hd;have e1:xs.map (·.1)=Pinned.pow10Rows.map fun x=>(DataW.agg [.lit (.int .u64 x.1),.lit (.int .u64 x.2)]:DataW Unit):=by
  have:=congrArg Prod.fst hx;have hp:Rows.laid_internal_strconv_pow10Tab=DataW.agg (Pinned.pow10Rows.map fun x=>.agg [.lit (.int .u64 x.1),.lit (.int .u64 x.2)]):=rfl;rw [hp] at this;exact (DataW.agg.inj this).symm
 have e2:(xs.map (·.1))[i]? = some (DataW.agg [.lit (.int .u64 a),.lit (.int .u64 b)]):=by rw [e1,List.getElem?_map,ha]; rfl
 rw [List.getElem?_map] at e2;obtain ⟨x,hxi,hx1⟩:=Option.map_eq_some_iff.1 e2;have hel:=hat i hi;rw [hxi,show Tryz.prog.cellsOf 447=2 by kernel_rfl] at hel;have hel2:DataW.trod (fun _=>()) Tryz.prog W 0 (fun _=>true) false m 447 ((cs.toList.drop (i * 2)).take 2)=some (.agg ([(a:Int),(b:Int)].map fun z=>.lit (.int .u64 z)),x.2):=by
  rw [hel]; exact congrArg some (Prod.ext hx1 rfl)
 have hc:=Lib.ints_of_struct Tryz.underlying447 (fun j f hj=>by
  rcases j with _ | _ | j
  ·obtain rfl:=Option.some.inj hj; exact ⟨Tryz.underlying357,rfl,by kernel_rfl⟩
  ·obtain rfl:=Option.some.inj hj; exact ⟨Tryz.underlying357,rfl,by kernel_rfl⟩
  ·simp at hj) (by kernel_rfl) hel2
 have c0:=congrArg (·[0]?) hc;have c1:=congrArg (·[1]?) hc;simp only [List.getElem?_take,List.getElem?_drop] at c0 c1
 simp at c0 c1
 have v0:=World.var?_cell gPow hvar (i * 2);have v1:=World.var?_cell gPow hvar (i * 2+1);exact ⟨v0.trans c0,v1.trans c1⟩
theorem opt_at {W:World} {L:List (String×DataW Unit)} (h:laidMet Tryz.prog L W) (hm:("internal/strconv.optimize",Rows.laid_internal_strconv_optimize)∈L):W.cell? ⟨3,0,none⟩=some (.bool true):=by
 obtain ⟨g,t,cs,fuel,p,hg,ht,hvar,hd⟩:=Lib.laidMet.reads h hm;obtain rfl:=Option.some.inj (gOpt.symm.trans hg);obtain rfl:=Option.some.inj (tOpt.symm.trans ht);obtain ⟨b,hc,hx⟩:=DataW.trod_bool Tryz.underlying4 hd;have hb:b=true:=by
  have:=congrArg Prod.fst hx;have e:Rows.laid_internal_strconv_optimize (H:=Unit)=.lit (.bool true):=rfl;rw [e] at this
  simpa using this.symm
 subst hb;have v0:=World.var?_cell gOpt hvar 0;rw [v0,←Array.getElem?_toList,hc];rfl
theorem gZer:Tryz.prog.globalNamed "math/bits.deBruijn64tab" = some 5:=by kernel_rfl
theorem tZer:(Tryz.prog.globals[5]?).map (·.type)=some 427:=by kernel_rfl
def zerTab:List Int:=[0,1,56,2,57,49,28,3,61,58,42,50,38,29,17,4,62,47,59,36,45,43,51,22,53,39,33,30,24,18,12,5,63,55,48,27,60,41,37,16,46,35,44,21,52,32,23,11,54,26,40,15,34,20,31,10,25,14,19,9,13,8,7,6]
theorem libs8_at {W:World} {R:List (String×DataW Unit)} (h:laidMet Tryz.prog (laidR R) W) (hm:("internal/strconv.pow10Tab",Rows.laid_internal_strconv_pow10Tab)∈R):Pows W∧Tabs W:=by
 have hp:("internal/strconv.pow10Tab",Rows.laid_internal_strconv_pow10Tab)∈laidR R:=by simp [laidR,hm]
 obtain ⟨a0,a1⟩:=pow_at h hp 348 (by decide) 9223372036854775808 0 (by kernel_rfl);obtain ⟨b0,b1⟩:=pow_at h hp 349 (by decide) 11529215046068469760 0 (by kernel_rfl);have hz:Lib.TabIs Tryz.prog W "math/bits.deBruijn64tab" .u8 zerTab:=Lib.tabIs_of_head gZer tZer Tryz.underlying427 Tryz.underlying5 (by kernel_rfl) (by kernel_rfl) (laidMet.tail h);exact ⟨⟨a0,a1,b0,b1,opt_at h (by simp [laidR])⟩,tab_of_laid h,Lib.TabIs.cell hz gZer 15 (by decide)⟩
section
variable {H:Type} {enc:TypeId×Value→H} {W:World} {base:Nat}
theorem id_cells {sp:Nat→Bool} {held:Bool} {n:Nat} {cs:List Value} {y:DataW H×List MemPlace} (h:DataW.trod enc Tryz.prog W base sp held n 71 cs=some y):∃ c s:Int,cs=[.int .i64 c,.int .i64 s]:=by
 obtain ⟨u0,u1,k3,_,hl,f0,f1⟩:=trod_struct2 Tryz.underlying71 h;rw [cellsId] at hl
 match cs,hl with
 | [v0,v1],_=>
  simp only [cellsInt,cellsI64,List.drop_zero,List.drop_succ_cons,List.take_succ_cons,List.take_zero] at f0 f1
  obtain ⟨c,e2,_,_⟩:=DataW.trod_int Tryz.underlying2 f0;obtain ⟨s,e3,_,_⟩:=DataW.trod_int Tryz.underlying3 f1;simp only [List.cons.injEq,and_true] at e2 e3
  exact ⟨c,s,by rw [e2,e3]⟩
theorem wf_i32 {n:Int} (h:(Lit.int .i32 n).wf=true) : -2147483648≤n∧n≤2147483647:=by
 have:IntKind.i32.min≤n∧n≤IntKind.i32.max:=by simpa [Lit.wf] using h
 exact this
instance:Inhabited Oq:=⟨⟨0,0,0,0,0,0,by decide,by decide⟩⟩
theorem op_cells {sp:Nat→Bool} {held:Bool} {n:Nat} {cs:List Value} {y:DataW H×List MemPlace} (h:DataW.trod enc Tryz.prog W base sp held n 73 cs=some y):∃ x:Oq,cs=oqL x:=by
 obtain ⟨y0,y1,y2,y3,m,_,hl,g0,g1,g2,g3⟩:=trod_struct4 Tryz.underlying73 h;rw [cellsOp] at hl
 match cs,hl with
 | [v0,v1,v2,v3,v4,v5],_=>
  simp only [cellsKind,cellsI32,cellsId,List.drop_zero,List.drop_succ_cons,List.take_succ_cons,List.take_zero] at g0 g1 g2 g3
  obtain ⟨k,e0,_,_⟩:=DataW.trod_int Tryz.underlying69 g0;obtain ⟨c,s,e1⟩:=id_cells g1;obtain ⟨a,n,e2⟩:=id_cells g2;obtain ⟨ch,e3,hd,_⟩:=DataW.trod_int Tryz.underlying21 g3;simp only [List.cons.injEq,and_true] at e0 e1 e2 e3
  obtain ⟨rfl,rfl⟩:=e1;obtain ⟨rfl,rfl⟩:=e2;have hw:=wf_i32 (n:=ch) (by first | exact hd | exact hd.1 | assumption);exact ⟨⟨k,c,s,a,n,ch,hw.1,hw.2⟩,by rw [e0,e3]; rfl⟩
theorem wf_i64 {n:Int} (h:(Lit.int .i64 n).wf=true) : -9223372036854775808≤n∧n≤9223372036854775807:=by
 have:IntKind.i64.min≤n∧n≤IntKind.i64.max:=by simpa [Lit.wf] using h
 exact this
theorem trod_five {sp:Nat→Bool} {held:Bool} {t:TypeId} {f0 f1 f2 f3 f4:Field} {k:Nat} {cs:List Value} {x:DataW H×List MemPlace} (ht:Tryz.prog.underlying t=some (.struct #[f0,f1,f2,f3,f4])) (h:DataW.trod enc Tryz.prog W base sp held k t cs=some x):
  ∃ y0 y1 y2 y3 y4 n,cs.length=Tryz.prog.cellsOf t∧DataW.trod enc Tryz.prog W base sp held n f0.type ((cs.drop f0.offset).take (Tryz.prog.cellsOf f0.type))=some y0∧DataW.trod enc Tryz.prog W base sp held n f1.type ((cs.drop f1.offset).take (Tryz.prog.cellsOf f1.type))=some y1 ∧
   DataW.trod enc Tryz.prog W base sp held n f2.type ((cs.drop f2.offset).take (Tryz.prog.cellsOf f2.type))=some y2∧DataW.trod enc Tryz.prog W base sp held n f3.type ((cs.drop f3.offset).take (Tryz.prog.cellsOf f3.type))=some y3∧DataW.trod enc Tryz.prog W base sp held n f4.type ((cs.drop f4.offset).take (Tryz.prog.cellsOf f4.type))=some y4:=by
 obtain ⟨zs,n,_,_,hl,hlen,hf⟩:=DataW.trod_struct ht h
 match zs,hlen with
 | [y0,y1,y2,y3,y4],_=>exact ⟨y0,y1,y2,y3,y4,n,hl,by simpa using hf 0 f0 rfl,by simpa using hf 1 f1 rfl,by simpa using hf 2 f2 rfl,by simpa using hf 3 f3 rfl,by simpa using hf 4 f4 rfl⟩
end
end Go.Proofs.YtemicfjmidohfaaGreatDoor
