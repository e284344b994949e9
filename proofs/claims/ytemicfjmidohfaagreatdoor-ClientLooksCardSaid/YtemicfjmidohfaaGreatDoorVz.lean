import Derived.Test.YtemicfjmidohfaaGreatDoorLBase
import Derived.Deep.CutRange
import Derived.Deep.MidRow
import Derived.ChangeKeysEq
import Derived.Deep.DeepCutAuto
import Derived.Deep.OwnRows
import Derived.Laws.IdiomCopy
namespace Go.Proofs.YtemicfjmidohfaaGreatDoor
open Go Go.Proofs Go.RowKit
abbrev arL (M:List Int):List Value:=M.map (Value.int .i64)
def IsL (W:World) (v:Value) (A:List Int):Prop:=∃ ad cap,v=.slice ad A.length cap∧A.length≤cap∧cap≤9223372036854775807 ∧
 (A≠[]→∃ b off,ad=some ⟨b,off,none⟩∧b<W.heap.size∧∀ j (hj:j<A.length),W.cell? ⟨b,off+j,none⟩=some (.int .i64 A[j]))
theorem IsL.next {W W':World} {v:Value} {A:List Int} (h:IsL W v A) (hb:Below W.heap.size W W'):IsL W' v A:=by
 obtain ⟨ad,cap,e,h1,h2,h3⟩:=h;refine ⟨ad,cap,e,h1,h2,fun hA=>?_⟩;obtain ⟨b,off,e2,h4,h5⟩:=h3 hA;exact ⟨b,off,e2,Nat.lt_of_lt_of_le h4 hb.size,fun j hj=>(hb.cell (p:=⟨b,off+j,none⟩) h4).trans (h5 j hj)⟩
def MayA (A:List Int):Prop:=A.length≤16∧∀ x∈A,0≤x∧x≤1099511627776
def mayL (A:List Int):Bool:=decide (A.length≤16)&&A.all fun x=>decide (0≤x)&&decide (x≤1099511627776)
theorem may_iff {A:List Int}:mayL A=true↔MayA A:=by simp [mayL,MayA,List.all_eq_true]
def leqL (M N:List Int):Bool:=(List.range 16).all fun j=>decide (M.getD j 0≤N.getD j 0)
theorem leq_iff {M N:List Int}:leqL M N=true↔∀ j,j<16→M.getD j 0≤N.getD j 0:=by simp only [leqL,List.all_eq_true,List.mem_range,decide_eq_true_eq]
theorem ar_cell {W:World} {b:Nat} {M:List Int} {t:TypeId} (h:Blk W b (arL M) t) (k:Nat) (hk:k<M.length):W.cell? ⟨b,k,none⟩=some (.int .i64 (M.getD k 0)):=by
 refine h.cell k ?_;rw [List.getElem?_map,List.getElem?_eq_getElem hk,List.getD_eq_getElem?_getD,List.getElem?_eq_getElem hk];rfl
def pad (A:List Int):List Int:=A++List.replicate (16-A.length) 0
theorem pad_len {A:List Int} (h:A.length≤16):(pad A).length=16:=by simp [pad]; omega
theorem pad_step {A:List Int} {k:Nat} (hk:k<A.length) (hl:A.length≤16):(A.take k++List.replicate (16-k) 0).set k A[k]=A.take (k+1)++List.replicate (16-(k+1)) 0:=by
 rw [List.take_succ_eq_append_getElem hk,show 16-k=(16-(k+1))+1 by omega,List.replicate_succ,List.set_append_right _ _ (by simp; omega),show k-(A.take k).length=0 by simp; omega,List.set_cons_zero,List.append_assoc];rfl
end Go.Proofs.YtemicfjmidohfaaGreatDoor
namespace Go.Proofs.YtemicfjmidohfaaGreatDoor
open Go Go.Proofs Go.RowKit
theorem blk_range {W:World} {b:Nat} {vs:List Value} {t:TypeId} (h:Blk W b vs t):W.rangeAt b 0 vs:=fun j v hv=>by rw [Nat.zero_add]; exact h.cell j hv
theorem blk_there {W:World} {b:Nat} {vs:List Value} {t:TypeId} (h:Blk W b vs t):W.there b 0 vs.length:=fun j hj=>by
 rw [Nat.zero_add]; exact ⟨by rw [h.cell j (List.getElem?_eq_getElem hj)]; rfl,h.free j⟩
theorem setM_mid (v:Value) (vs zs:List Value) (i:Nat) (h:i+(v::vs).length≤zs.length):(zs.set i v).take (i+1)++vs++(zs.set i v).drop (i+1+vs.length)=zs.take i++(v::vs)++zs.drop (i+(v::vs).length):=by
 rw [List.length_cons] at h ⊢;have hi:i<zs.length:=by omega
 rw [List.drop_set_of_lt (by omega),List.take_set,List.take_succ_eq_append_getElem hi,List.set_append_right _ _ (by simp; omega)];simp [show i+1+vs.length=i+(vs.length+1) by omega,Nat.min_eq_left (Nat.le_of_lt hi)]
theorem blkC {b:Nat} {t:TypeId}:∀ (vs zs:List Value) (i:Nat) (W:World),Blk W b zs t→i+vs.length≤zs.length→Blk (W.setCells b i vs) b (zs.take i++vs++zs.drop (i+vs.length)) t
 | [],zs,i,W,h,_=>by simpa [World.setCells] using h
 | v::vs,zs,i,W,h,hl=>by
  have:=blkC vs (zs.set i v) (i+1) _ (h.set i v) (by rw [List.length_set]; rw [List.length_cons] at hl; omega)
  rwa [setM_mid v vs zs i hl] at this
theorem blkC0 {b:Nat} {t:TypeId} {vs zs:List Value} {W:World} (h:Blk W b zs t) (hl:vs.length=zs.length):Blk (W.setCells b 0 vs) b vs t:=by
 have:=blkC vs zs 0 W h (by omega)
 simpa [hl] using this
theorem belC {B b:Nat} {W0:World} (hb:B≤b):∀ (vs:List Value) (i:Nat) {W:World},Below B W0 W→Below B W0 (W.setCells b i vs)
 | [],_,_,h=>h
 | v::vs,i,_,h=>belC hb vs (i+1) (h.setCell (p:=⟨b,i,none⟩) hb v)
theorem blkCo {b c:Nat} {t:TypeId} {zs:List Value} (hc:c≠b):∀ (vs:List Value) (i:Nat) {W:World},Blk W c zs t→Blk (W.setCells b i vs) c zs t
 | [],_,_,h=>h
 | v::vs,i,_,h=>blkCo hc vs (i+1) (h.other ⟨b,i,none⟩ hc v)
theorem bDN {B n:Nat} {w W:World} (h:Below B w W):Below B w (W.drewN n):=⟨h.os,h.tape,h.output,h.size,h.block⟩
theorem ar_one (M:List Int):∀ v∈arL M,v.oneCell'=true:=by
 intro v hv; simp only [arL,List.mem_map] at hv; obtain ⟨x,_,rfl⟩:=hv; rfl
theorem ld_blk {P:Program} {ops:Array Oper} {rest:List Oper} {op:Oper} {a:Act} {w:World} {Q:Exit→Act→World→Prop} {b:Nat} {vs:List Value} {t ty e:TypeId} {x:Operand} {n:Nat} (hB:Blk w b vs t) (hw:Region.wanted op (yielded ops a.tmps)=true) (ho:op.op=.load ty x) (hx:a.eval x=.pointer (some ⟨b,0,none⟩))
  (hu:P.underlying ty=some (.array n e)) (hi:(P.info? ty).map (·.size)=some vs.length) (h:wpList P ops Q rest (a.put op.dst (.agg vs.toArray)) w):wpList P ops Q (op::rest) a w:=
 wpList_step fun _ hK=>by
  simp only [hw,if_true]
  exact wp_load_mid ty x ho b 0 hx vs _ (blk_range hB) hu rfl hi (hK _ _ h)
theorem st_blk {P:Program} {ops:Array Oper} {rest:List Oper} {op:Oper} {a:Act} {w:World} {Q:Exit→Act→World→Prop} {b:Nat} {zs:List Value} {t ty:TypeId} {x y:Operand} {M:List Int} (hB:Blk w b zs t) (hg:op.guard=none) (ho:op.op=.store ty x y) (hx:a.eval x=.pointer (some ⟨b,0,none⟩)) (hy:a.eval y=.agg (arL M).toArray)
  (hl:zs.length=(arL M).length) (hi:(P.info? ty).map (·.size)=some (arL M).length) (h:∀ w2,Hid (w2=w.setCells b 0 (arL M))→wpList P ops Q rest (a.put op.dst undef) w2):wpList P ops Q (op::rest) a w:=
 wpList_store_mid hg ty x y ho b 0 (arL M).toArray hx hy (by have:=blk_there hB; rw [hl] at this; simpa using this) (by simpa using hi) (all_oneCell_toArray (ar_one M)) (by simpa using h _ (Lh rfl))
theorem ldy {P:Program} {op:Oper} {a:Act} {w:World} {b:Nat} {vs:List Value} {t ty e:TypeId} {x:Operand} {n:Nat} (ho:op.op=.load ty x) (hx:a.eval x=.pointer (some ⟨b,0,none⟩)) (hB:Blk w b vs t)
  (hu:P.underlying ty=some (.array n e)) (hi:(P.info? ty).map (·.size)=some vs.length):(execOp a.eval op).run P w=.ok (.value (.agg vs.toArray)) w:=by
 unfold execOp
 simp only [ho,hx,Instr.loadAt,Instr.sureAddr,Sem.run_bind,Sem.run_pure,Result.andThen_ok,run_loadVar_mid w b 0 ty vs _ (blk_range hB) hu rfl hi]
theorem res_arr {P:Program} {fn:Func} {tmps:Array Value} {w:World} {b:Nat} {ty e:TypeId} {vs:List Value} {t:TypeId} {n:Nat} {x:Tmp} (hB:Blk w b vs t) (hf:fn.results = #[.cell x ty]) (hx:tmps.getD x undef=.pointer (some ⟨b,0,none⟩)) (hu:P.underlying ty=some (.array n e)) (hi:(P.info? ty).map (·.size)=some vs.length):
  (results fn tmps).run P w=.ok (.agg vs.toArray) w:=by
 have h:=run_loadVar_mid w b 0 ty vs _ (blk_range hB) hu rfl hi;have hx2:tmps[x]?.getD undef=.pointer (some ⟨b,0,none⟩):=by rw [←hx,Array.getD_eq_getD_getElem?]
 simp [results,hf,hx2,asAddr,h]
theorem eq_items {P:Program} (d:Nat) (e:TypeId) (M N:List Int) (w:World) (hu:P.underlying e=some (.int .i64)) (hs:P.cellsOf e=1):∀ (is:List Nat),(∀ i∈is,i<M.length∧i<N.length) →
  (Op.eqItems (d+1) e (P.cellsOf e) (arL M).toArray (arL N).toArray is).run P w=.ok (is.all fun i=>decide (M.getD i 0=N.getD i 0)) w
 | [],_=>by simp [Op.eqItems]
 | i::is,h=>by
  obtain ⟨h1,h2⟩:=h i (by simp);have ih:=eq_items d e M N w hu hs is (fun j hj=>h j (by simp [hj]));have hpk:P.plainKey e=true:=by simp [Program.plainKey,hu]
  have hp:∀ (L:List Int),i<L.length→(part e (arL L).toArray (i * P.cellsOf e)).run P w=.ok (.int .i64 (L.getD i 0)) w:=fun L hL=>by
   refine run_part_plain w hpk ?_;rw [hs,Nat.mul_one,List.getElem?_toArray,List.getElem?_map,List.getElem?_eq_getElem hL,List.getD_eq_getElem?_getD,List.getElem?_eq_getElem hL]; rfl
  have p1:=hp M h1;have p2:=hp N h2;simp only [Op.eqItems,Sem.run_bind,p1,p2,Result.andThen_ok,run_equalIn_int w d e .i64 .i64 _ _ hu]
  by_cases hc:M.getD i 0=N.getD i 0
  ·rw [hc]; simp only [beq_self_eq_true,Bool.not_true,Bool.false_eq_true,if_false,ih,List.all_cons,hc,decide_true,Bool.true_and]
  ·rw [show (M.getD i 0==N.getD i 0)=false by simpa using hc]
   simp only [Bool.not_false,if_true,Sem.run_pure,List.all_cons,decide_eq_false hc,Bool.false_and]
theorem eq_arr {P:Program} (d:Nat) {t e:TypeId} {M N:List Int} (hM:M.length=16) (hN:N.length=16) (hu:P.underlying t=some (.array 16 e)) (he:P.underlying e=some (.int .i64)) (hs:P.cellsOf e=1) (hi:(P.info? e).isSome=true) (w:World):
  (Op.equalIn (d+2) t (.agg (arL M).toArray) (.agg (arL N).toArray)).run P w=.ok (decide (M=N)) w:=by
 obtain ⟨i,hi⟩:=Option.isSome_iff_exists.1 hi;rw [run_equalIn_array w (d+1) _ _ hu hi,eq_items d e M N w he hs _ (fun j hj=>by rw [List.mem_range] at hj; omega)]
 congr 1
 rw [Bool.eq_iff_iff];simp only [List.all_eq_true,List.mem_range,decide_eq_true_eq]
 constructor
 ·intro h
  refine List.ext_getElem (by omega) fun j h1 h2=>?_
  have:=h j (by omega)
  rwa [List.getD_eq_getElem?_getD,List.getD_eq_getElem?_getD,List.getElem?_eq_getElem h1,List.getElem?_eq_getElem h2] at this
 ·rintro rfl j _; rfl
def tickL (M:List Int) (i:Int):List Int:=if 0≤i∧i<16 then M.set i.toNat (M.getD i.toNat 0+1) else M
theorem tick_len {M:List Int} (h:M.length=16) (i:Int):(tickL M i).length=16:=by unfold tickL; split <;> simp [h]
def joinL (M N:List Int):List Int:=List.zipWith (fun x y=>if x<y then y else x) M N
def joinK (M N:List Int) (k:Nat):List Int:=(joinL M N).take k++M.drop k
theorem join_len {M N:List Int} (h:M.length=16) (h2:N.length=16):(joinL M N).length=16:=by unfold joinL; simp [h,h2]
theorem joinK_len {M N:List Int} (h:M.length=16) (h2:N.length=16) {k:Nat} (hk:k≤16):(joinK M N k).length=16:=by unfold joinK; simp [join_len h h2,h]; omega
theorem join_at {M N:List Int} (h:M.length=16) (h2:N.length=16) {k:Nat} (hk:k<16):(joinL M N).getD k 0=if M.getD k 0<N.getD k 0 then N.getD k 0 else M.getD k 0:=by
 unfold joinL
 simp [List.getD_eq_getElem?_getD,List.getElem?_zipWith,List.getElem?_eq_getElem (show k<M.length by omega),List.getElem?_eq_getElem (show k<N.length by omega)]
theorem joinK_at {M N:List Int} (h:M.length=16) (h2:N.length=16) {k:Nat} (hk:k<16):(joinK M N k).getD k 0=M.getD k 0:=by
 unfold joinK
 rw [List.getD_eq_getElem?_getD,List.getElem?_append_right (by rw [List.length_take,join_len h h2]; omega),List.getElem?_drop,List.length_take,join_len h h2,show k+(k-min k 16)=k by omega,List.getD_eq_getElem?_getD]
theorem joinK_step {M N:List Int} (h:M.length=16) (h2:N.length=16) {k:Nat} (hk:k<16):(joinK M N k).set k ((joinL M N).getD k 0)=joinK M N (k+1):=by
 have hl:k<(joinL M N).length:=by rw [join_len h h2]; omega
 have hg:(joinL M N).getD k 0=(joinL M N)[k]:=by rw [List.getD_eq_getElem?_getD,List.getElem?_eq_getElem hl]; rfl
 unfold joinK
 rw [hg,List.take_succ_eq_append_getElem hl,List.set_append_right _ _ (by rw [List.length_take]; omega),show k-((joinL M N).take k).length=0 by simp; omega,show M.drop k=M[k]::M.drop (k+1) from List.drop_eq_getElem_cons (by omega),List.set_cons_zero,List.append_assoc];rfl
theorem joinK_stay {M N:List Int} (h:M.length=16) (h2:N.length=16) {k:Nat} (hk:k<16) (hc:¬ M.getD k 0<N.getD k 0):joinK M N k=joinK M N (k+1):=by
 rw [←joinK_step h h2 hk,join_at h h2 hk,if_neg hc];refine List.ext_getElem? fun j=>?_
 rw [List.getElem?_set];split
 ·rename_i e
  subst e;have hl:=joinK_len h h2 (k:=k) (by omega);rw [if_pos (by omega),←joinK_at h h2 hk,List.getD_eq_getElem?_getD,List.getElem?_eq_getElem (show k<(joinK M N k).length by omega)]; rfl
 ·rfl
theorem joinK_end {M N:List Int} (h:M.length=16) (h2:N.length=16):joinK M N 16=joinL M N:=by
 unfold joinK; rw [List.take_of_length_le (by rw [join_len h h2]; omega),List.drop_eq_nil_of_le (by omega),List.append_nil]
end Go.Proofs.YtemicfjmidohfaaGreatDoor
namespace Go.Proofs.YtemicfjmidohfaaGreatDoor
open Go Go.Proofs Go.RowKit
abbrev zs16:List Int:=List.replicate 16 0
end Go.Proofs.YtemicfjmidohfaaGreatDoor
namespace Go.Proofs.YtemicfjmidohfaaGreatDoor
open Go Go.Proofs Go.RowKit
def OwnL (B:Nat) (W:World) (v:Value) (A:List Int):Prop:=∃ ad cap,v=.slice ad A.length cap∧A.length≤cap∧cap≤9223372036854775807 ∧
 (A≠[]→∃ b off cells t,ad=some ⟨b,off,none⟩∧B≤b∧Blk W b cells t∧∀ j (hj:j<A.length),cells[off+j]? = some (.int .i64 A[j]))
theorem OwnL.isL {B:Nat} {W:World} {v:Value} {A:List Int} (h:OwnL B W v A):IsL W v A:=by
 obtain ⟨ad,cap,e,h1,h2,h3⟩:=h;refine ⟨ad,cap,e,h1,h2,fun hA=>?_⟩;obtain ⟨b,off,cells,t,e2,_,hb,hc⟩:=h3 hA;exact ⟨b,off,e2,hb.lt,fun j hj=>hb.cell _ (hc j hj)⟩
theorem OwnL.next {B:Nat} {W W':World} {v:Value} {A:List Int} (h:OwnL B W v A) (hb:Below W.heap.size W W'):OwnL B W' v A:=by
 obtain ⟨ad,cap,e,h1,h2,h3⟩:=h;refine ⟨ad,cap,e,h1,h2,fun hA=>?_⟩;obtain ⟨b,off,cells,t,e2,h4,hB,hc⟩:=h3 hA;exact ⟨b,off,cells,t,e2,h4,hB.next hb,hc⟩
theorem OwnL.mono {B B':Nat} {W:World} {v:Value} {A:List Int} (h:OwnL B W v A) (hB:B'≤B):OwnL B' W v A:=by
 obtain ⟨ad,cap,e,h1,h2,h3⟩:=h;refine ⟨ad,cap,e,h1,h2,fun hA=>?_⟩;obtain ⟨b,off,cells,t,e2,h4,r⟩:=h3 hA;exact ⟨b,off,cells,t,e2,Nat.le_trans hB h4,r⟩
def atL (A:List Int) (i:Int):Int:=if 0≤i then A.getD i.toNat 0 else 0
def MedA (A:List Int):Prop:=A.length≤16∧∀ x∈A,0≤x∧x≤2199023255552
theorem MayA.med {A:List Int} (h:MayA A):MedA A:=⟨h.1,fun x hx=>⟨(h.2 x hx).1,by have:=(h.2 x hx).2; omega⟩⟩
def VAtOk:Prop:=∀ (A:List Int) (v:Value) (i:Int) (w:World),-9223372036854775808≤i→i≤9223372036854775807→MedA A→IsL w v A→Calls Tryz.prog 200 #[v,i] w (Rt (.int .i64 (atL A i)) w)
def VTickOk:Prop:=∀ (A:List Int) (v:Value) (i:Int) (w:World),-9223372036854775808≤i→i≤9223372036854775807→MedA A→IsL w v A→Calls Tryz.prog 198 #[v,i] w fun e w'=>∃ u T,e=.returned u∧T.length≤16∧pad T=tickL (pad A) i∧OwnL w.heap.size w' u T∧Below w.heap.size w w'
def VJoinOk:Prop:=∀ (A B:List Int) (v u:Value) (w:World),MedA A→MedA B→IsL w v A→IsL w u B→Calls Tryz.prog 147 #[v,u] w fun e w'=>∃ x T,e=.returned x∧T.length≤16∧pad T=joinL (pad A) (pad B)∧OwnL w.heap.size w' x T∧Below w.heap.size w w'
def VLeqOk:Prop:=∀ (A B:List Int) (v u:Value) (w:World),MedA A→MedA B→IsL w v A→IsL w u B→Calls Tryz.prog 149 #[v,u] w (Rt (.bool (leqL (pad A) (pad B))) w)
def VSameOk:Prop:=∀ (A B:List Int) (v u:Value) (w:World),MedA A→MedA B→IsL w v A→IsL w u B→Calls Tryz.prog 148 #[v,u] w (Rt (.bool (decide (pad A=pad B))) w)
structure VCAll:Prop where
 at_:VAtOk
 tick:VTickOk
 join:VJoinOk
 leq:VLeqOk
 same:VSameOk
theorem pad_at {A:List Int} (_:A.length≤16) (k:Nat):(pad A).getD k 0=A.getD k 0:=by
 unfold pad
 rw [List.getD_eq_getElem?_getD,List.getD_eq_getElem?_getD];by_cases hk:k<A.length
 ·rw [List.getElem?_append_left hk]
 ·rw [List.getElem?_append_right (by omega),List.getElem?_eq_none (by omega:A.length≤k)]
  cases h2:(List.replicate (16-A.length) (0:Int))[k-A.length]? with
  | none=>rfl
  | some x=>rw [List.getElem?_replicate] at h2; split at h2 <;> simp_all
theorem ext16 {M N:List Int} (hM:M.length=16) (hN:N.length=16) (h:∀ j,j<16→M.getD j 0=N.getD j 0):M=N:=by
 refine List.ext_getElem (by omega) fun j h1 h2=>?_
 have:=h j (by omega)
 rwa [List.getD_eq_getElem?_getD,List.getD_eq_getElem?_getD,List.getElem?_eq_getElem h1,List.getElem?_eq_getElem h2] at this
end Go.Proofs.YtemicfjmidohfaaGreatDoor
namespace Go.Proofs.YtemicfjmidohfaaGreatDoor
open Go Go.Proofs Go.RowKit
theorem med_pad {T:List Int} (h:T.length≤16) (hp:∀ x∈pad T,0≤x∧x≤2199023255552):MedA T:=⟨h,fun x hx=>hp x (List.mem_append_left _ hx)⟩
theorem pad_in {A:List Int} (h:MayA A):∀ x∈pad A,0≤x∧x≤1099511627776:=by
 intro x hx
 unfold pad at hx
 rcases List.mem_append.1 hx with hx | hx
 ·exact h.2 x hx
 ·rw [(List.mem_replicate.1 hx).2]; omega
theorem getD_mem {L:List Int} {k:Nat} (h:k<L.length):L.getD k 0∈L:=by
 rw [List.getD_eq_getElem?_getD,List.getElem?_eq_getElem h]; exact List.getElem_mem h
theorem tick_in {L:List Int} (hL:L.length=16) (h:∀ x∈L,0≤x∧x≤1099511627776) (i:Int):∀ x∈tickL L i,0≤x∧x≤2199023255552:=by
 intro x hx
 unfold tickL at hx
 split at hx
 ·rename_i hi
  rcases List.mem_or_eq_of_mem_set hx with hx | hx
  ·have:=h x hx; omega
  ·have:=h _ (getD_mem (L:=L) (k:=i.toNat) (by omega)); omega
 ·have:=h x hx; omega
theorem join_in {L M:List Int} {c:Int} (h:∀ x∈L,0≤x∧x≤c) (h2:∀ x∈M,0≤x∧x≤c):∀ x∈joinL L M,0≤x∧x≤c:=by
 intro x hx
 unfold joinL at hx
 rw [List.mem_iff_getElem] at hx;obtain ⟨j,hj,rfl⟩:=hx;rw [List.getElem_zipWith];have a:=h _ (List.getElem_mem (show j<L.length by simp at hj; omega));have b:=h2 _ (List.getElem_mem (show j<M.length by simp at hj; omega));split <;> omega
theorem leq_of {M N:List Int} (h:∀ j,j<16→M.getD j 0≤N.getD j 0):leqL M N=true:=leq_iff.2 h
theorem leq_join1 {M N:List Int} (h:M.length=16) (h2:N.length=16):leqL M (joinL M N)=true:=leq_of fun j hj=>by rw [join_at h h2 hj]; split <;> omega
theorem leq_join2 {M N:List Int} (h:M.length=16) (h2:N.length=16):leqL N (joinL M N)=true:=leq_of fun j hj=>by rw [join_at h h2 hj]; split <;> omega
theorem join_least {M N F:List Int} (h:M.length=16) (h2:N.length=16) (a:leqL M F=true) (b:leqL N F=true):leqL (joinL M N) F=true:=leq_of fun j hj=>by
 have a:=leq_iff.1 a j hj;have b:=leq_iff.1 b j hj;rw [join_at h h2 hj]; split <;> omega
theorem join_comm {M N:List Int} (h:M.length=16) (h2:N.length=16):joinL M N=joinL N M:=ext16 (join_len h h2) (join_len h2 h) fun j hj=>by
 rw [join_at h h2 hj,join_at h2 h hj]; split <;> split <;> omega
theorem tick_at {M:List Int} (h:M.length=16) {i:Int} (h0:0≤i) (h1:i<16) (j:Nat) (hj:j<16):(tickL M i).getD j 0=if j=i.toNat then M.getD j 0+1 else M.getD j 0:=by
 unfold tickL
 rw [if_pos ⟨h0,h1⟩,List.getD_eq_getElem?_getD,List.getElem?_set];by_cases e:i.toNat=j
 ·subst e; rw [if_pos rfl,if_pos (by omega),if_pos rfl]; rfl
 ·rw [if_neg e,if_neg (fun h=>e h.symm),List.getD_eq_getElem?_getD]
theorem leq_tick {M:List Int} (h:M.length=16) {i:Int} (h0:0≤i) (h1:i<16):leqL M (tickL M i)=true:=leq_of fun j hj=>by rw [tick_at h h0 h1 j hj]; split <;> omega
theorem tick_nle {M:List Int} (h:M.length=16) {i:Int} (h0:0≤i) (h1:i<16):leqL (tickL M i) M=false:=by
 rw [←Bool.not_eq_true,leq_iff];intro hh
 have:=hh i.toNat (by omega);rw [tick_at h h0 h1 _ (by omega),if_pos rfl] at this;omega
def Awake13Ok:Prop:=∀ w:World,Calls Tryz.prog 87 #[] w (Rt (.bool true) w)
theorem onto {f:FuncId} {args:Array Value} {v:Value} {w W:World} (hb:Below w.heap.size w W) (h:Calls Tryz.prog f args W (Rt v W)):Calls Tryz.prog f args W fun e W'=>e=.returned v∧Below w.heap.size w W':=
 h.mono fun _ _ ⟨e,k⟩=>⟨e,hb.trans (k.mono hb.size)⟩
structure Lq (B:World) (v u:Value) (r:Bool):Prop where
 go:∀ W,Below B.heap.size B W→Calls Tryz.prog 149 #[v,u] W fun e W'=>e=.returned (.bool r)∧Below B.heap.size B W'
def OwnU (B C:Nat) (W:World) (v:Value) (A:List Int):Prop:=∃ ad cap,v=.slice ad A.length cap∧A.length≤cap∧cap≤9223372036854775807 ∧
 (A≠[]→∃ b off cells t,ad=some ⟨b,off,none⟩∧(B≤b∧b<C)∧Blk W b cells t∧∀ j (hj:j<A.length),cells[off+j]? = some (.int .i64 A[j]))
theorem OwnL.upto {B:Nat} {W:World} {v:Value} {A:List Int} (h:OwnL B W v A):OwnU B W.heap.size W v A:=by
 obtain ⟨ad,cap,e,h1,h2,h3⟩:=h;refine ⟨ad,cap,e,h1,h2,fun hA=>?_⟩;obtain ⟨b,off,cells,t,e2,h4,hB,hc⟩:=h3 hA;exact ⟨b,off,cells,t,e2,⟨h4,hB.lt⟩,hB,hc⟩
theorem OwnU.next {B C:Nat} {W W':World} {v:Value} {A:List Int} (h:OwnU B C W v A) (hb:Below W.heap.size W W'):OwnU B C W' v A:=by
 obtain ⟨ad,cap,e,h1,h2,h3⟩:=h;refine ⟨ad,cap,e,h1,h2,fun hA=>?_⟩;obtain ⟨b,off,cells,t,e2,h4,hB,hc⟩:=h3 hA;exact ⟨b,off,cells,t,e2,h4,hB.next hb,hc⟩
theorem OwnU.other {B C:Nat} {W:World} {v:Value} {A:List Int} (h:OwnU B C W v A) {b:Nat} (hb:b<B∨C≤b) (i:Nat) (x:Value):OwnU B C (W.setCell ⟨b,i,none⟩ x) v A:=by
 obtain ⟨ad,cap,e,h1,h2,h3⟩:=h;refine ⟨ad,cap,e,h1,h2,fun hA=>?_⟩;obtain ⟨g,off,cells,t,e2,h4,hB,hc⟩:=h3 hA;exact ⟨g,off,cells,t,e2,h4,hB.other ⟨b,i,none⟩ (by show g≠b; omega) x,hc⟩
theorem OwnU.tick {B C:Nat} {W:World} {ad:Option Addr} {cap n k:Nat} {A:List Int} (hn:A.length=n) (h:OwnU B C W (.slice ad n cap) A) (hk:k<n):∃ b off x,ad=some ⟨b,off,none⟩∧(B≤b∧b<C)∧W.cell? ⟨b,off+k,none⟩=some (.int .i64 x)∧W.frozen? ⟨b,off+k,none⟩=false∧∀ y:Int,OwnU B C (W.setCell ⟨b,off+k,none⟩ y) (.slice ad n cap) (A.set k y):=by
 subst hn;obtain ⟨ad',cap',e,h1,h2,h3⟩:=h;simp only [Value.slice.injEq,true_and] at e
 obtain ⟨rfl,rfl⟩:=e;obtain ⟨b,off,cells,t,e2,h4,hB,hc⟩:=h3 (fun e=>by subst e; cases hk);refine ⟨b,off,A[k],e2,h4,hB.cell _ (hc k hk),hB.free _,fun y=>⟨ad,cap,by rw [List.length_set],by rw [List.length_set]; exact h1,h2,fun _=>⟨b,off,_,t,e2,h4,hB.set _ _,fun j hj=>?_⟩⟩⟩;rw [List.length_set] at hj;have hlt:off+k<cells.length:=(List.getElem?_eq_some_iff.1 (hc k hk)).1;by_cases e:k=j
 ·subst e; rw [List.getElem?_set_self hlt,List.getElem_set_self]
 ·rw [List.getElem?_set_ne (by omega),hc j hj,List.getElem_set_ne e]
theorem OwnL.other {B:Nat} {W:World} {v:Value} {A:List Int} (h:OwnL B W v A) {b:Nat} (hb:b<B) (i:Nat) (x:Value):OwnL B (W.setCell ⟨b,i,none⟩ x) v A:=by
 obtain ⟨ad,cap,e,h1,h2,h3⟩:=h;refine ⟨ad,cap,e,h1,h2,fun hA=>?_⟩;obtain ⟨g,off,cells,t,e2,h4,hB,hc⟩:=h3 hA;exact ⟨g,off,cells,t,e2,h4,hB.other ⟨b,i,none⟩ (by show g≠b; omega) x,hc⟩
structure Cq (B:World) (f:FuncId) (args:Array Value) (r:Value):Prop where
 go:∀ W,Below B.heap.size B W→Calls Tryz.prog f args W fun e W'=>e=.returned r∧Below B.heap.size B W'
end Go.Proofs.YtemicfjmidohfaaGreatDoor
set_option maxRecDepth 100000
set_option maxHeartbeats 12800000
namespace Go.Proofs.YtemicfjmidohfaaGreatDoor
open Go Go.Proofs Go.RowKit
theorem isl_blk {W:World} {b:Nat} {M:List Int} {t:TypeId} (h:Blk W b (arL M) t) (hl:M.length≤100):IsL W (.slice (some ⟨b,0,none⟩) M.length M.length) M:=
 ⟨_,_,rfl,Nat.le_refl _,by omega,fun _=>⟨b,0,rfl,h.lt,fun j hj=>by rw [Nat.zero_add]; exact h.cell j (by rw [List.getElem?_map,List.getElem?_eq_getElem hj]; rfl)⟩⟩
theorem med_small {M:List Int} (h:(decide (M.length≤16)&&M.all fun x=>decide (0≤x∧x≤2199023255552))=true):MedA M:=by
 rw [Bool.and_eq_true,decide_eq_true_eq,List.all_eq_true] at h;exact ⟨h.1,fun x hx=>by have:=h.2 x hx; simpa using this⟩
theorem isl_one (W:World) (M:List Int) (t:TypeId) (hl:M.length≤100):IsL (W.alloc (.cells ⟨arL M⟩ t)) (.slice (some ⟨W.heap.size,0,none⟩) M.length M.length) M∧Below W.heap.size W (W.alloc (.cells ⟨arL M⟩ t)):=
 ⟨isl_blk (Blk.start W _ _) hl,bA⟩
theorem isl_two (W:World) (M N:List Int) (t:TypeId) (hl:M.length≤100) (hn:N.length≤100):IsL ((W.alloc (.cells ⟨arL M⟩ t)).alloc (.cells ⟨arL N⟩ t)) (.slice (some ⟨W.heap.size,0,none⟩) M.length M.length) M∧IsL ((W.alloc (.cells ⟨arL M⟩ t)).alloc (.cells ⟨arL N⟩ t)) (.slice (some ⟨W.heap.size+1,0,none⟩) N.length N.length) N∧Below W.heap.size W ((W.alloc (.cells ⟨arL M⟩ t)).alloc (.cells ⟨arL N⟩ t)):=
 ⟨isl_blk ((Blk.start W _ _).alloc _) hl,isl_blk (Blk.startAt (by simp)) hn,(bA).alloc (by simp) _⟩
theorem awake13_of (HC:VCAll):Awake13Ok:=by
 intro w
 have HJ:=Lh (HC.join [1,0,2] [0,3] _ _ _ (med_small (by decide)) (med_small (by decide)) (isl_two w [1,0,2] [0,3] 3 (by decide) (by decide)).1 (isl_two w [1,0,2] [0,3] 3 (by decide) (by decide)).2.1);have HB:=Lh (isl_two w [1,0,2] [0,3] 3 (by decide) (by decide)).2.2;have HC:=Lh HC
 go_enter Tryz.func87,Tryz.ntmps87
 go_wp2_with fail;refine HJ.out.mono ?_;rintro e w1 ⟨y,T,rfl,t1,t2,t3,hb⟩
 have mT:MedA T:=med_pad t1 (by rw [t2]; exact join_in (c:=2199023255552) (by decide) (by decide));have HY:=Lh t3.isL;have HS:=Lh (HC.out.same T [1,3,2] y _ _ mT (med_small (by decide)) (HY.out.next (isl_one w1 [1,3,2] 3 (by decide)).2) (isl_one w1 [1,3,2] 3 (by decide)).1);have hd:decide (pad T=pad [1,3,2])=true:=by rw [t2]; decide
 rw [hd] at HS;have HB1:=Lh (HB.out.trans ((hb.trans ((isl_one w1 [1,3,2] 3 (by decide)).2.mono hb.size)).mono HB.out.size));clear hd t1 t2 t3 mT HY HJ hb HB;go_wp2_with fail;refine HS.out.mono ?_;rintro e w2 ⟨rfl,hb⟩
 have HL:=Lh (HC.out.leq [1] [0,9] _ _ _ (med_small (by decide)) (med_small (by decide)) (isl_two w2 [1] [0,9] 3 (by decide) (by decide)).1 (isl_two w2 [1] [0,9] 3 (by decide) (by decide)).2.1);rw [show leqL (pad [1]) (pad [0,9])=false by decide] at HL;have HB2:=Lh (HB1.out.trans ((hb.trans ((isl_two w2 [1] [0,9] 3 (by decide) (by decide)).2.2.mono hb.size)).mono HB1.out.size));clear hb HS HB1;go_wp2_with (go_at_call 149; refine HL.out.mono ?_; rintro e w3 ⟨rfl,hb⟩)
 go_ret
 exact ⟨rfl,HB2.out.trans (hb.mono HB2.out.size)⟩
end Go.Proofs.YtemicfjmidohfaaGreatDoor
namespace Go.Proofs.YtemicfjmidohfaaGreatDoor
open Go Go.Proofs Go.RowKit
theorem mk_nums (n:Nat) (hn:n≤100000) (W:World):(Instr.makeSlice 242 (.int .i64 (n:Int)) (.int .i64 (n:Int))).run Tryz.prog W=.ok (.slice (some ⟨W.heap.size,0,none⟩) n n) (W.alloc (.cells ⟨arL (List.replicate n 0)⟩ 3)):=by
 have h:=run_make_row' (P:=Tryz.prog) 242 3 (.int .i64 0) 8 Tryz.underlying242 (by kernel_rfl) rfl .i64 .i64 n (by omega) (by omega) W;have e:madeCells #[Value.int .i64 0] n=⟨arL (List.replicate n 0)⟩:=by
  apply Array.ext
  ·simp [size_madeCells,arL]
  ·intro i h1 h2; simp [madeCells,Nat.mod_one,arL]
 rw [h,e]
theorem wpl_cpy {P:Program} {w:World} {ops:Array Oper} {rest:List Oper} {o:Oper} {a:Act} {Q:Exit→Act→World→Prop} {x y:Operand} {t t':TypeId} (hgd:o.guard=none)
  (ho:o.op=.call { callee:=.builtin .copy,args := #[x,y],argTypes := #[t,t'] }) {u v v':Value} {w':World} (hx:a.eval x=u) (hy:a.eval y=v)
  (hr:(Builtin.copy_ #[t,t'] o.type #[u,v]).run P w=.ok v' w') (h:wpList P ops Q rest (a.put o.dst v') w'):wpList P ops Q (o::rest) a w:=
 wpList_plain hgd fun _ hK=>by
  unfold Oper.wp execOp
  simp only [ho,resolve,invoke,builtin,Sem.run_bind,Sem.run_pure,Result.andThen_ok,List.map_toArray,List.map_cons,List.map_nil,hx,hy,hr]
  exact hK _ _ h
theorem cp_nums {A Z:List Int} {n g:Nat} {v:Value} {W:World} {t:TypeId} (hA:IsL W v A) (hB:Blk W g (arL Z) t) (hZ:Z.length=n) (hl:A.length≤n):∃ W2 r,(∀ ty,(Builtin.copy_ #[242,242] ty #[.slice (some ⟨g,0,none⟩) n n,v]).run Tryz.prog W=.ok r W2)∧Blk W2 g (arL (A++Z.drop A.length)) t∧(∀ B w0,B≤g→Below B w0 W→Below B w0 W2)∧W2.heap.size=W.heap.size:=by
 obtain ⟨ad,cap,rfl,h1,h2,h3⟩:=hA;rcases Nat.eq_zero_or_pos A.length with h0 | h0
 ·have hA0:=List.length_eq_zero_iff.1 h0
  subst hA0;exact ⟨W,_,fun ty=>run_copy_none W _ _ ty 3 _ _ n n 0 cap Tryz.underlying242 (by kernel_rfl) (by simp),by simpa using hB,fun _ _ _ h=>h,rfl⟩
 ·obtain ⟨b,off,rfl,hb,hc⟩:=h3 (List.length_pos_iff.1 h0)
  have hlz:(arL A).length≤(arL Z).length:=by simp [arL]; omega
  refine ⟨W.setCells g 0 (arL A),_,fun ty=>run_copy_cells W _ _ ty 3 g 0 n n ⟨b,off,none⟩ A.length cap (arL A) Tryz.underlying242 (by kernel_rfl) (by simp [arL]; exact (Nat.min_eq_left hl).symm) ?_ ?_ (fun j _=>hB.free _) (ar_one A),?_,fun B w0 hg h=>belC hg _ 0 h,?_⟩
  ·intro j u hu
   rw [Addr.add_mid];have hj:j<A.length:=by have:=(List.getElem?_eq_some_iff.1 hu).1; simpa [arL] using this
   rw [hc j hj];simp only [arL,List.getElem?_map,List.getElem?_eq_getElem hj,Option.map_some] at hu
   exact hu
  ·intro j hj
   rw [Nat.zero_add,hB.cell j (List.getElem?_eq_getElem (by omega))]; rfl
  ·have h:=blkC (arL A) (arL Z) 0 W hB (by omega)
   simpa [arL] using h
  ·have:∀ (vs:List Value) (i:Nat) (W:World),(W.setCells g i vs).heap.size=W.heap.size:=by
    intro vs
    induction vs with
    | nil=>intro i W; rfl
    | cons v vs ih=>intro i W; simp only [World.setCells]; rw [ih]; simp
   exact this _ _ _
end Go.Proofs.YtemicfjmidohfaaGreatDoor
set_option maxRecDepth 100000
set_option maxHeartbeats 12800000
namespace Go.Proofs.YtemicfjmidohfaaGreatDoor
open Go Go.Proofs Go.RowKit
theorem atL_nat {A:List Int} (k:Nat):atL A (k:Int)=A.getD k 0:=by unfold atL; rw [if_pos (by omega),Int.toNat_natCast]
theorem vat_ok:VAtOk:=by
 intro A v i w hi0 hi1 hA h;obtain ⟨ad,cap,rfl,h1,h2,h3⟩:=h;have hl:=hA.1;go_enter Tryz.func200,Tryz.ntmps200;by_cases c1:i<0
 ·have HE:=Lh (show atL A i=0 from if_neg (by omega));clear h3;go_wp2_with fail;go_ret;exact ⟨by rw [HE.out]; rfl,Below.refl _ _⟩
 obtain ⟨k,rfl⟩:∃ k:Nat,i=(k:Int):=⟨i.toNat,by omega⟩;have HE:=Lh (atL_nat (A:=A) k);by_cases c2:k<A.length;obtain ⟨b,off,rfl,hb,hc⟩:=h3 (fun e=>by rw [e] at c2; cases c2);have hk:=hc k c2;have HG:=Lh (show A.getD k 0=A[k] by rw [List.getD_eq_getElem?_getD,List.getElem?_eq_getElem c2]; rfl);generalize A[k]=x at *;clear h3 hc;rotate_left;have HG:=Lh (show A.getD k 0=0 by rw [List.getD_eq_getElem?_getD,List.getElem?_eq_none (by omega)]; rfl);clear h3;rotate_left
 all_goals
  go_wp2_with fail;go_ret;exact ⟨by rw [HE.out,HG.out]; rfl,Below.refl _ _⟩
theorem vleq_ok:VLeqOk:=by
 intro A B v u w hA hB h hu
 have HU:=Lh (fun i h0 h1 W (hb:Below w.heap.size w W)=>vat_ok B u i W h0 h1 hB (hu.next hb));have HW:=Lh (fun i h0 h1 W (hb:Below w.heap.size w W)=>vat_ok A v i W h0 h1 hA (h.next hb));obtain ⟨ad,cap,rfl,h1,h2,-⟩:=h;obtain ⟨bd,cap2,rfl,g1,g2,-⟩:=hu;have hl:=hA.1;have hl2:=hB.1;have HPA:=Lh (fun k=>pad_at hA.1 k);have HPB:=Lh (fun k=>pad_at hB.1 k);obtain ⟨n,hna,hnb,hn16,hnc⟩:∃ n,A.length≤n∧B.length≤n∧n≤16∧(A.length<B.length∧n=B.length∨B.length≤A.length∧n=A.length):=by
  by_cases e:A.length<B.length
  ·exact ⟨B.length,by omega,Nat.le_refl _,hl2,.inl ⟨e,rfl⟩⟩
  ·exact ⟨A.length,Nat.le_refl _,by omega,hl,.inr ⟨by omega,rfl⟩⟩
 obtain ⟨nn,hnn⟩:∃ nn,nn=n:=⟨_,rfl⟩
 have HN:=Lh (And.intro hnn (And.intro hna (And.intro hnb hn16)));clear hnn
 go_enter Tryz.func149,Tryz.ntmps149
 rcases hnc with ⟨hle,rfl⟩ | ⟨hle,rfl⟩
 all_goals
  go_wp2_with fail
  go_loopg [11] nn (fun g t11 wr=>∃ k:Nat,k≤nn∧g=nn-k∧t11=.int .i64 (k:Int)∧Hid (∀ j,j<k→A.getD j 0≤B.getD j 0)∧Below w.heap.size w wr)
  case atStart=>exact ⟨0,Nat.zero_le _,rfl,rfl,Lh (fun j hj=>by omega),Below.refl _ _⟩
  case round=>
   obtain ⟨k,hk,rfl,rfl,HT,hb⟩:=hrel;by_cases hlt:k<nn
   ·have hlt2:=hlt
    rw [HN.out.1] at hlt2;have hk16:k<16:=by have:=HN.out.2.2.2; omega
    have HAA:=Lh (fun W hb=>HW.out (k:Int) (by omega) (by omega) W hb);have HAT:=Lh (fun W hb=>HU.out (k:Int) (by omega) (by omega) W hb);rw [atL_nat] at HAT HAA;have HX:=Lh (fun (h:B.getD k 0<A.getD k 0)=>show leqL (pad A) (pad B)=false by
     rw [←Bool.not_eq_true,leq_iff]; intro h2; have h3:=h2 k hk16; rw [HPA.out,HPB.out] at h3; omega)
    have HY:=Lh (fun (h:A.getD k 0≤B.getD k 0)=>show ∀ j,j<k+1→A.getD j 0≤B.getD j 0 by
     intro j hj
     by_cases e:j=k
     ·subst e; omega
     ·exact HT.out j (by omega))
    have HB:=Lh hb;generalize A.getD k 0=x at *
    generalize B.getD k 0=y at *
    clear hb;by_cases hc:y<x
    ·have HN:=Lh (HX.out hc)
     go_wp2_with (go_at_call 200; first | (refine (HAA.out _ HB.out).mono ?_; clear HAA; rintro e w1 ⟨rfl,hb1⟩; have H2:=Lh (HB.out.trans (hb1.mono HB.out.size)); clear HB hb1) | (refine (HAT.out _ H2.out).mono ?_; clear HAT; rintro e w2 ⟨rfl,hb2⟩; have H3:=Lh (H2.out.trans (hb2.mono H2.out.size)); clear hb2))
     go_ret
     exact ⟨by rw [HN.out]; rfl,H3.out⟩
    ·have hc2:x≤y:=by omega
     have HN:=Lh (HY.out hc2);clear hc;go_wp2_with (go_at_call 200; first | (refine (HAA.out _ HB.out).mono ?_; clear HAA; rintro e w1 ⟨rfl,hb1⟩; have H2:=Lh (HB.out.trans (hb1.mono HB.out.size)); clear HB hb1) | (refine (HAT.out _ H2.out).mono ?_; clear HAT; rintro e w2 ⟨rfl,hb2⟩; have H3:=Lh (H2.out.trans (hb2.mono H2.out.size)); clear hb2))
     go_roundg (nn-(k+1))
     case measure=>omega
     case rel=>exact ⟨k+1,by omega,rfl,by go_num,HN,H3.out⟩
   ·obtain rfl:k=nn:=by omega
    have HF:=Lh (show leqL (pad A) (pad B)=true from leq_of fun j _=>by
     rw [HPA.out,HPB.out];by_cases e:j<k
     ·exact HT.out j e
     ·have h1:=HN.out.1
      have h2:=HN.out.2.1;have h3:=HN.out.2.2.1;rw [List.getD_eq_getElem?_getD,List.getElem?_eq_none (by omega),List.getD_eq_getElem?_getD,List.getElem?_eq_none (by omega)];exact Int.le_refl _)
    have hkn:=HN.out.1;go_wp2_with fail
    go_ret
    exact ⟨by rw [HF.out]; rfl,hb⟩
theorem vsame_ok:VSameOk:=by
 intro A B v u w hA hB h hu
 have q1:=Lh (vleq_ok A B v u w hA hB h hu);have q2:=Lh (fun W (hb:Below w.heap.size w W)=>onto hb (vleq_ok B A u v W hB hA (hu.next hb) (h.next hb)));have HE:=Lh (show decide (pad A=pad B)=(leqL (pad A) (pad B)&&leqL (pad B) (pad A)) by
  rw [Bool.eq_iff_iff,Bool.and_eq_true,decide_eq_true_eq,leq_iff,leq_iff];exact ⟨fun e=>by rw [e]; exact ⟨fun _ _=>Int.le_refl _,fun _ _=>Int.le_refl _⟩,fun ⟨a,b⟩=>ext16 (pad_len hA.1) (pad_len hB.1) fun j hj=>by have:=a j hj; have:=b j hj; omega⟩)
 generalize leqL (pad A) (pad B)=z1 at *
 generalize leqL (pad B) (pad A)=z2 at *
 clear h hu
 go_enter Tryz.func148,Tryz.ntmps148
 cases z1 <;> cases z2
 all_goals
  go_wp2_with (go_at_call 149; first | (refine q1.out.mono ?_; clear q1; rintro e w1 ⟨rfl,hb⟩) | (refine (q2.out _ hb).mono ?_; rintro e w2 ⟨rfl,hb⟩))
  go_ret
  exact ⟨by rw [HE.out]; rfl,hb⟩
theorem getD_rep (A:List Int) (m j:Nat):(A++List.replicate m 0).getD j 0=A.getD j 0:=by
 rw [List.getD_eq_getElem?_getD,List.getD_eq_getElem?_getD];by_cases hj:j<A.length
 ·rw [List.getElem?_append_left hj]
 ·rw [List.getElem?_append_right (by omega),List.getElem?_replicate,List.getElem?_eq_none (by omega:A.length≤j)]
  split <;> rfl
theorem own_blk {B:Nat} {W:World} {g cap:Nat} {T:List Int} {t:TypeId} (hB:Blk W g (arL T) t) (hg:B≤g) (h1:T.length≤cap) (h2:cap≤9223372036854775807):OwnL B W (.slice (some ⟨g,0,none⟩) T.length cap) T:=
 ⟨_,_,rfl,h1,h2,fun _=>⟨g,0,_,t,rfl,hg,hB,fun j hj=>by rw [Nat.zero_add,List.getElem?_map,List.getElem?_eq_getElem hj]; rfl⟩⟩
theorem vown_ok (A:List Int) (v:Value) (n:Nat) (w:World) (h:IsL w v A) (hl:A.length≤n) (hn:n≤16):Calls Tryz.prog 201 #[v,.int .i64 (n:Int)] w fun e w'=>e=.returned (.slice (some ⟨w.heap.size,0,none⟩) n n)∧Blk w' w.heap.size (arL (A++List.replicate (n-A.length) 0)) 3∧Below w.heap.size w w':=by
 have hmk:=mk_nums n (by omega) w;have hB1:=Blk.start w (arL (List.replicate n 0)) 3;have hb1:Below w.heap.size w (w.alloc (.cells ⟨arL (List.replicate n 0)⟩ 3)):=bA;generalize World.alloc _ _=W1 at *
 obtain ⟨W2,r,hcp,hB2,hbel,hsz⟩:=cp_nums (n:=n) (h.next hb1) hB1 (by simp) hl;rw [List.drop_replicate] at hB2;have HO:=Lh (And.intro hB2 (hbel _ _ (Nat.le_refl _) hb1));have HCP:=Lh hcp;clear hB1 hb1 hcp hB2 hbel hsz;obtain ⟨ad,cap,rfl,h1,h2,-⟩:=h
 go_enter Tryz.func201,Tryz.ntmps201
 go_wp2_with (refine wpl_cpy (by rfl) (by rfl) (by rfl) (by rfl) (HCP.out _) ?_)
 go_ret
 exact ⟨rfl,HO.out.1,HO.out.2⟩
theorem vtick_ok:VTickOk:=by
 intro A v i w hi0 hi1 hA h;have hl:=hA.1;have HPA:=Lh (pad_len hl);have HV:=Lh hA.2;have hform:=h;obtain ⟨ad,cap,rfl,h1,h2,-⟩:=hform;have HI:=Lh h;clear h;go_enter Tryz.func198,Tryz.ntmps198;by_cases c1:0≤i∧i<16
 ·obtain ⟨k,rfl⟩:∃ k:Nat,i=(k:Int):=⟨i.toNat,by omega⟩;have hk16:k<16:=by omega
  obtain ⟨n,hn,hn16,hkn,hnc⟩:∃ n,A.length≤n∧n≤16∧k<n∧((A.length<k+1∧n=k+1)∨(k+1≤A.length∧n=A.length)):=by
   by_cases e:k<A.length
   ·exact ⟨A.length,Nat.le_refl _,hl,e,.inr ⟨e,rfl⟩⟩
   ·exact ⟨k+1,by omega,by omega,by omega,.inl ⟨by omega,rfl⟩⟩
  have HOWN:=Lh (fun W (hb:Below w.heap.size w W)=>vown_ok A _ n W (HI.out.next hb) hn hn16);have HX:=Lh (show A.getD k 0≤2199023255552∧0≤A.getD k 0 by
   by_cases e:k<A.length
   ·exact (HV.out _ (getD_mem e)).symm
   ·rw [List.getD_eq_getElem?_getD,List.getElem?_eq_none (by omega)];exact ⟨by decide,Int.le_refl _⟩)
  have hw1:IntKind.i64.wrap (A.getD k 0+1)=A.getD k 0+1:=IntWalk.i64_in _ (by have:=HX.out; omega);have hwk:IntKind.i64.wrap ((k:Int)+1)=(k:Int)+1:=IntWalk.i64_in _ (by omega);have HALL:=Lh (fun (W2:World) (hB2:Blk W2 w.heap.size (arL (A++List.replicate (n-A.length) 0)) 3) (hbel:Below w.heap.size w W2)=>show W2.cell? ⟨w.heap.size,k,none⟩=some (.int .i64 (A.getD k 0))∧W2.frozen? ⟨w.heap.size,k,none⟩=false∧∃ T:List Int,T.length=n∧pad T=tickL (pad A) (k:Int)∧OwnL w.heap.size (W2.setCell ⟨w.heap.size,k,none⟩ (.int .i64 (A.getD k 0+1))) (.slice (some ⟨w.heap.size,0,none⟩) n n) T∧Below w.heap.size w (W2.setCell ⟨w.heap.size,k,none⟩ (.int .i64 (A.getD k 0+1))) by
   have hlen:(A++List.replicate (n-A.length) 0).length=n:=by simp; omega
   have hcell:=ar_cell hB2 k (by rw [hlen]; exact hkn);rw [getD_rep] at hcell;have hB3:=hB2.set k (.int .i64 (A.getD k 0+1));have hset:(arL (A++List.replicate (n-A.length) 0)).set k (.int .i64 (A.getD k 0+1))=arL ((A++List.replicate (n-A.length) 0).set k (A.getD k 0+1)):=by simp [arL,List.map_set]
   rw [hset] at hB3;have hlen3:((A++List.replicate (n-A.length) 0).set k (A.getD k 0+1)).length=n:=by rw [List.length_set,hlen]
   refine ⟨hcell,hB2.free k,_,hlen3,?_,?_,hbel.setCell (p:=⟨w.heap.size,k,none⟩) (Nat.le_refl _) _⟩
   ·refine ext16 (pad_len (by omega)) (tick_len HPA.out _) fun j hj=>?_
    rw [pad_at (by omega),tick_at HPA.out (by omega) (by omega) j hj,Int.toNat_natCast,pad_at hl];by_cases e:j=k
    ·subst e;rw [if_pos rfl,List.getD_eq_getElem?_getD,List.getElem?_set_self (by omega)];rfl
    ·rw [if_neg e,List.getD_eq_getElem?_getD,List.getElem?_set_ne (by omega),←List.getD_eq_getElem?_getD,getD_rep]
   ·have ho:=own_blk (B:=w.heap.size) (cap:=n) hB3 (Nat.le_refl _) (by omega) (by omega);rwa [hlen3] at ho)
  clear HX HPA HI HV;generalize A.getD k 0=x at *;have HN:=Lh hn16;rcases hnc with ⟨hc,hnc⟩ | ⟨hc,hnc⟩;have hkn1:(k:Int)+1=(n:Int):=by omega
  clear hnc;rotate_left;subst hnc;rotate_left
  all_goals
   go_wp2_with (go_at_call 201; refine (HOWN.out _ (Below.refl _ _)).mono ?_; rintro e w1 ⟨rfl,hB,hb⟩; obtain ⟨hcell,hf,T,hT⟩:=HALL.out _ hB hb; have HT:=Lh hT; clear hT hB hb HALL);go_ret;exact ⟨_,T,rfl,by have:=HT.out.1; have:=HN.out; omega,HT.out.2.1,HT.out.2.2.1,HT.out.2.2.2⟩
 ·have HOWN:=Lh (fun W (hb:Below w.heap.size w W)=>vown_ok A _ A.length W (HI.out.next hb) (Nat.le_refl _) hl);have HP:=Lh (show pad A=tickL (pad A) i from (if_neg c1).symm);have HO:=Lh (fun (W:World) (h:Blk W w.heap.size (arL (A++List.replicate (A.length-A.length) 0)) 3)=>show OwnL w.heap.size W (.slice (some ⟨w.heap.size,0,none⟩) A.length A.length) A by
   rw [Nat.sub_self,List.replicate_zero,List.append_nil] at h;exact own_blk (B:=w.heap.size) (cap:=A.length) h (Nat.le_refl _) (Nat.le_refl _) (by omega))
  clear HI HV HPA;have hd:(decide (i<0)||decide (16≤i))=true:=by simp; omega
  by_cases c2:0≤i;have c3:16≤i:=by omega
  clear c1 hd;rotate_left;have c3:i<0:=by omega
  clear c1 c2 hd;rotate_left
  all_goals
   go_wp2_with (go_at_call 201; refine (HOWN.out _ (Below.refl _ _)).mono ?_; rintro e w1 ⟨rfl,hB,hb⟩; have HB:=Lh hB; clear hB);go_ret;exact ⟨_,A,rfl,hl,HP.out,HO.out _ HB.out,hb⟩
theorem getD_nn {A:List Int} (h:MedA A) (j:Nat):0≤A.getD j 0:=by
 by_cases e:j<A.length
 ·exact (h.2 _ (getD_mem e)).1
 ·rw [List.getD_eq_getElem?_getD,List.getElem?_eq_none (by omega)]; exact Int.le_refl _
def Jk (A B E:List Int) (n k:Nat):Prop:=E.length=n∧∀ j,j<n→E.getD j 0=if j<k then (if A.getD j 0<B.getD j 0 then B.getD j 0 else A.getD j 0) else A.getD j 0
theorem Jk.put {A B E:List Int} {n k:Nat} (h:Jk A B E n k) (hk:k<n):Jk A B (E.set k (if A.getD k 0<B.getD k 0 then B.getD k 0 else A.getD k 0)) n (k+1):=by
 refine ⟨by rw [List.length_set]; exact h.1,fun j hj=>?_⟩;by_cases e:k=j
 ·subst e
  rw [List.getD_eq_getElem?_getD,List.getElem?_set_self (by rw [h.1]; exact hk),if_pos (by omega:k<k+1)]; rfl
 ·rw [List.getD_eq_getElem?_getD,List.getElem?_set_ne e,←List.getD_eq_getElem?_getD,h.2 j hj]
  by_cases e2:j<k
  ·simp only [if_pos e2,if_pos (show j<k+1 by omega)]
  ·simp only [if_neg e2,if_neg (show ¬ j<k+1 by omega)]
theorem Jk.pad {A B E:List Int} {n:Nat} (hA:MedA A) (hB:MedA B) (h:Jk A B E n n) (hn:n≤16) (hb:B.length≤n) (ha:A.length≤n):pad E=joinL (pad A) (pad B):=by
 have hl:=h.1;refine ext16 (pad_len (by omega)) (join_len (pad_len hA.1) (pad_len hB.1)) fun j hj=>?_
 rw [pad_at (by omega),join_at (pad_len hA.1) (pad_len hB.1) hj,pad_at hA.1,pad_at hB.1];by_cases e:j<n
 ·rw [h.2 j e,if_pos e]
 ·have he:E.getD j 0=0:=by rw [List.getD_eq_getElem?_getD,List.getElem?_eq_none (by omega)]; rfl
  have ha0:A.getD j 0=0:=by rw [List.getD_eq_getElem?_getD,List.getElem?_eq_none (by omega)]; rfl
  have hb0:B.getD j 0=0:=by rw [List.getD_eq_getElem?_getD,List.getElem?_eq_none (by omega)]; rfl
  rw [he,ha0,hb0,if_neg (by omega)]
theorem vjoin_ok:VJoinOk:=by
 intro A B v u w hA hB h hu
 have ha:=hA.1;have hb:=hB.1;have HI:=Lh h;have HU:=Lh (fun i h0 h1 W (hb:Below w.heap.size w W)=>vat_ok B u i W h0 h1 hB (hu.next hb));obtain ⟨ad,cap,rfl,h1,h2,-⟩:=h;obtain ⟨bd,cap2,rfl,g1,g2,-⟩:=hu;obtain ⟨n,hna,hnb,hn16,hnc⟩:∃ n,A.length≤n∧B.length≤n∧n≤16∧(A.length<B.length∧n=B.length∨B.length≤A.length∧n=A.length):=by
  by_cases e:A.length<B.length
  ·exact ⟨B.length,by omega,Nat.le_refl _,hb,.inl ⟨e,rfl⟩⟩
  ·exact ⟨A.length,Nat.le_refl _,by omega,ha,.inr ⟨by omega,rfl⟩⟩
 have HOWN:=Lh (fun W (hb:Below w.heap.size w W)=>vown_ok A _ n W (HI.out.next hb) hna hn16);have hj:Jk A B (A++List.replicate (n-A.length) 0) n 0:=⟨by simp; omega,fun j _=>by rw [getD_rep,if_neg (Nat.not_lt_zero _)]⟩
 have HJ0:=Lh hj;have HA:=Lh (And.intro hA hB);clear hj HI hA hB;generalize A++List.replicate (n-A.length) 0=E0 at *
 obtain ⟨nn,hnn⟩:∃ nn,nn=n:=⟨_,rfl⟩
 rw [←hnn] at HJ0;have HN:=Lh (And.intro hnn (And.intro hna (And.intro hnb hn16)));clear hnn
 go_enter Tryz.func147,Tryz.ntmps147
 rcases hnc with ⟨hle,rfl⟩ | ⟨hle,rfl⟩
 ·go_wp2_with (go_at_call 201; refine (HOWN.out _ (Below.refl _ _)).mono ?_; rintro e w1 ⟨rfl,hB,hb⟩; have HB2:=Lh hB; have HBL:=Lh hb; clear hB hb HOWN)
  go_loopg [17] nn (fun g t17 wr=>∃ k:Nat,k≤nn∧g=nn-k∧t17=.int .i64 (k:Int)∧Below w.heap.size w wr∧∃ E,Jk A B E nn k∧Blk wr w.heap.size (arL E) 3)
  case atStart=>exact ⟨0,Nat.zero_le _,rfl,rfl,HBL.out,E0,HJ0.out,HB2.out⟩
  case round=>
   obtain ⟨k,hk,rfl,rfl,hbel,E,hJ,hE⟩:=hrel;clear HJ0 HB2 HBL;by_cases hkn:k<nn
   ·have hlt2:=hkn
    rw [HN.out.1] at hlt2;have hk16:k<16:=by have:=HN.out.2.2.2; omega
    have HAT:=Lh (fun W hb=>HU.out (k:Int) (by omega) (by omega) W hb);rw [atL_nat] at HAT;have HZ:=Lh (hJ.put hkn);have HS:=Lh (fun (W:World) (z:Int) (h:Blk W w.heap.size (arL E) 3)=>show Blk (W.setCell ⟨w.heap.size,k,none⟩ z) w.heap.size (arL (E.set k z)) 3 by
     have h:=h.set k z; rwa [show (arL E).set k z=arL (E.set k z) by simp [arL,List.map_set]] at h)
    have HC:=Lh (fun (W:World) (h:Blk W w.heap.size (arL E) 3)=>show W.cell? ⟨w.heap.size,k,none⟩=some (.int .i64 (A.getD k 0))∧W.frozen? ⟨w.heap.size,k,none⟩=false by
     have hcE:=ar_cell h k (by rw [hJ.1]; exact hkn);rw [hJ.2 k hkn,if_neg (Nat.lt_irrefl k)] at hcE;exact ⟨hcE,h.free k⟩)
    have HE1:=Lh (bDN (n:=1) hbel);have HE:=Lh (show Blk wr.drew w.heap.size (arL E) 3 from hE.drew);clear hbel hE hJ;generalize A.getD k 0=x at *
    generalize B.getD k 0=y at *
    obtain ⟨z,hz,hzz⟩:∃ z,(if x<y then y else x)=z∧((x<y∧z=y)∨(y≤x∧z=x)):=by
     by_cases e:x<y
     ·exact ⟨y,if_pos e,.inl ⟨e,rfl⟩⟩
     ·exact ⟨x,if_neg e,.inr ⟨by omega,rfl⟩⟩
    rw [hz] at HZ;clear hz;have HM:=Lh hzz;clear hzz;go_wp2_with fail
    refine rgH (fun _=>True) trivial fun hH=>?_
    refine ta 0 hH ?_;refine ta 1 hH ?_;refine ta 2 hH ?_;refine ta 3 hH ?_;refine ta 4 hH ?_;refine ta 6 hH ?_;refine ta 7 hH ?_;refine wpAnyH_ready (rs:=[5,8]) (by kernel_rfl) (by simp) ?_;refine cons1 rfl (fun K hK=>?_) (cons1 rfl (fun K hK=>?_) AllReadyH.nil)
    ·have hcl:=(HC.out _ HE.out).1
     rw [if_pos (by rfl)];go_wp2_with fail
     refine hK.out _ _ trivial (fun hH=>?_);clear hK K hcl
     try simp only [LAY]
     refine rd1 8 (by kernel_rfl) rfl fun K hK=>?_
     go_simp
     refine (HAT.out _ HE1.out).mono ?_
     rintro e w2 ⟨rfl,hb2⟩
     have HE2:=Lh (HE.out.next hb2);have HBL2:=Lh (HE1.out.trans (hb2.mono HE1.out.size));clear hb2;go_wp2_with fail
     refine hK.out _ _ trivial (fun hH=>?_);clear hK K
     try simp only [LAY]
     obtain ⟨hcl,hfr⟩:=HC.out _ HE2.out;have HR:=Lh (And.intro (HBL2.out.setCell (p:=⟨w.heap.size,k,none⟩) (Nat.le_refl _) z) (And.intro HZ.out (HS.out _ z HE2.out)));clear HZ HS HBL2 HE2 HC;rcases HM.out with ⟨hm,hzz⟩ | ⟨hm,hzz⟩
     all_goals
      rw [hzz] at HR;clear hzz HM z;refine rd1 9 (by kernel_rfl) rfl fun K hK=>?_
      go_simp
      refine hK.out _ _ trivial (fun hH=>?_);clear hK K
      try simp only [LAY]
      refine ta 10 hH ?_;refine rd1 11 (by kernel_rfl) rfl fun K hK=>?_
      go_simp
      go_wp2_with fail
      refine hK.out _ _ trivial (fun hH=>?_);clear hK K hcl hfr
      try simp only [LAY]
      refine dnH ?_;go_wp2_with fail
      go_roundg (nn-(k+1))
      case measure=>omega
      case rel=>exact ⟨k+1,by omega,rfl,by go_num,HR.out.1,_,HR.out.2.1,HR.out.2.2⟩
    ·rw [if_pos (by rfl)]
     go_wp2_with fail
     refine (HAT.out _ HE1.out).mono ?_
     rintro e w2 ⟨rfl,hb2⟩
     have HE2:=Lh (HE.out.next hb2);have HBL2:=Lh (HE1.out.trans (hb2.mono HE1.out.size));clear hb2;go_wp2_with fail
     refine hK.out _ _ trivial (fun hH=>?_);clear hK K
     try simp only [LAY]
     have hcl:=(HC.out _ HE2.out).1;refine rd1 5 (by kernel_rfl) rfl fun K hK=>?_
     go_simp
     go_wp2_with fail
     refine hK.out _ _ trivial (fun hH=>?_);clear hK K hcl
     try simp only [LAY]
     obtain ⟨hcl,hfr⟩:=HC.out _ HE2.out;have HR:=Lh (And.intro (HBL2.out.setCell (p:=⟨w.heap.size,k,none⟩) (Nat.le_refl _) z) (And.intro HZ.out (HS.out _ z HE2.out)));clear HZ HS HBL2 HE2 HC;rcases HM.out with ⟨hm,hzz⟩ | ⟨hm,hzz⟩
     all_goals
      rw [hzz] at HR;clear hzz HM z;refine rd1 9 (by kernel_rfl) rfl fun K hK=>?_
      go_simp
      refine hK.out _ _ trivial (fun hH=>?_);clear hK K
      try simp only [LAY]
      refine ta 10 hH ?_;refine rd1 11 (by kernel_rfl) rfl fun K hK=>?_
      go_simp
      go_wp2_with fail
      refine hK.out _ _ trivial (fun hH=>?_);clear hK K hcl hfr
      try simp only [LAY]
      refine dnH ?_;go_wp2_with fail
      go_roundg (nn-(k+1))
      case measure=>omega
      case rel=>exact ⟨k+1,by omega,rfl,by go_num,HR.out.1,_,HR.out.2.1,HR.out.2.2⟩
   ·obtain rfl:k=nn:=by omega
    have hkn:=HN.out.1;have hp:=hJ.pad HA.out.1 HA.out.2 (by rw [HN.out.1]; exact HN.out.2.2.2) (by rw [HN.out.1]; exact HN.out.2.2.1) (by rw [HN.out.1]; exact HN.out.2.1);have ho:=own_blk (B:=w.heap.size) (cap:=k) hE (Nat.le_refl _) (by rw [hJ.1]; exact Nat.le_refl _) (by have:=HN.out.2.2.2; omega);have hlen:=hJ.1;rw [hJ.1] at ho;have HO:=Lh (And.intro hp (And.intro ho (And.intro hlen hbel)));clear hp ho hlen hJ hE hbel;go_wp2_with fail
    go_ret
    exact ⟨_,E,rfl,by rw [HO.out.2.2.1,HN.out.1]; exact HN.out.2.2.2,HO.out.1,(by have h:=HO.out.2.1; rw [HN.out.1] at h; exact h),HO.out.2.2.2⟩
 ·go_wp2_with (go_at_call 201; refine (HOWN.out _ (Below.refl _ _)).mono ?_; rintro e w1 ⟨rfl,hB,hb⟩; have HB2:=Lh hB; have HBL:=Lh hb; clear hB hb HOWN)
  go_loopg [17] nn (fun g t17 wr=>∃ k:Nat,k≤nn∧g=nn-k∧t17=.int .i64 (k:Int)∧Below w.heap.size w wr∧∃ E,Jk A B E nn k∧Blk wr w.heap.size (arL E) 3)
  case atStart=>exact ⟨0,Nat.zero_le _,rfl,rfl,HBL.out,E0,HJ0.out,HB2.out⟩
  case round=>
   obtain ⟨k,hk,rfl,rfl,hbel,E,hJ,hE⟩:=hrel;clear HJ0 HB2 HBL;by_cases hkn:k<nn
   ·have hlt2:=hkn
    rw [HN.out.1] at hlt2;have hk16:k<16:=by have:=HN.out.2.2.2; omega
    have HAT:=Lh (fun W hb=>HU.out (k:Int) (by omega) (by omega) W hb);rw [atL_nat] at HAT;have HZ:=Lh (hJ.put hkn);have HS:=Lh (fun (W:World) (z:Int) (h:Blk W w.heap.size (arL E) 3)=>show Blk (W.setCell ⟨w.heap.size,k,none⟩ z) w.heap.size (arL (E.set k z)) 3 by
     have h:=h.set k z; rwa [show (arL E).set k z=arL (E.set k z) by simp [arL,List.map_set]] at h)
    have HC:=Lh (fun (W:World) (h:Blk W w.heap.size (arL E) 3)=>show W.cell? ⟨w.heap.size,k,none⟩=some (.int .i64 (A.getD k 0))∧W.frozen? ⟨w.heap.size,k,none⟩=false by
     have hcE:=ar_cell h k (by rw [hJ.1]; exact hkn);rw [hJ.2 k hkn,if_neg (Nat.lt_irrefl k)] at hcE;exact ⟨hcE,h.free k⟩)
    have HE1:=Lh (bDN (n:=1) hbel);have HE:=Lh (show Blk wr.drew w.heap.size (arL E) 3 from hE.drew);clear hbel hE hJ;generalize A.getD k 0=x at *
    generalize B.getD k 0=y at *
    obtain ⟨z,hz,hzz⟩:∃ z,(if x<y then y else x)=z∧((x<y∧z=y)∨(y≤x∧z=x)):=by
     by_cases e:x<y
     ·exact ⟨y,if_pos e,.inl ⟨e,rfl⟩⟩
     ·exact ⟨x,if_neg e,.inr ⟨by omega,rfl⟩⟩
    rw [hz] at HZ;clear hz;have HM:=Lh hzz;clear hzz;go_wp2_with fail
    refine rgH (fun _=>True) trivial fun hH=>?_
    refine ta 0 hH ?_;refine ta 1 hH ?_;refine ta 2 hH ?_;refine ta 3 hH ?_;refine ta 4 hH ?_;refine ta 6 hH ?_;refine ta 7 hH ?_;refine wpAnyH_ready (rs:=[5,8]) (by kernel_rfl) (by simp) ?_;refine cons1 rfl (fun K hK=>?_) (cons1 rfl (fun K hK=>?_) AllReadyH.nil)
    ·have hcl:=(HC.out _ HE.out).1
     rw [if_pos (by rfl)];go_wp2_with fail
     refine hK.out _ _ trivial (fun hH=>?_);clear hK K hcl
     try simp only [LAY]
     refine rd1 8 (by kernel_rfl) rfl fun K hK=>?_
     go_simp
     refine (HAT.out _ HE1.out).mono ?_
     rintro e w2 ⟨rfl,hb2⟩
     have HE2:=Lh (HE.out.next hb2);have HBL2:=Lh (HE1.out.trans (hb2.mono HE1.out.size));clear hb2;go_wp2_with fail
     refine hK.out _ _ trivial (fun hH=>?_);clear hK K
     try simp only [LAY]
     obtain ⟨hcl,hfr⟩:=HC.out _ HE2.out;have HR:=Lh (And.intro (HBL2.out.setCell (p:=⟨w.heap.size,k,none⟩) (Nat.le_refl _) z) (And.intro HZ.out (HS.out _ z HE2.out)));clear HZ HS HBL2 HE2 HC;rcases HM.out with ⟨hm,hzz⟩ | ⟨hm,hzz⟩
     all_goals
      rw [hzz] at HR;clear hzz HM z;refine rd1 9 (by kernel_rfl) rfl fun K hK=>?_
      go_simp
      refine hK.out _ _ trivial (fun hH=>?_);clear hK K
      try simp only [LAY]
      refine ta 10 hH ?_;refine rd1 11 (by kernel_rfl) rfl fun K hK=>?_
      go_simp
      go_wp2_with fail
      refine hK.out _ _ trivial (fun hH=>?_);clear hK K hcl hfr
      try simp only [LAY]
      refine dnH ?_;go_wp2_with fail
      go_roundg (nn-(k+1))
      case measure=>omega
      case rel=>exact ⟨k+1,by omega,rfl,by go_num,HR.out.1,_,HR.out.2.1,HR.out.2.2⟩
    ·rw [if_pos (by rfl)]
     go_wp2_with fail
     refine (HAT.out _ HE1.out).mono ?_
     rintro e w2 ⟨rfl,hb2⟩
     have HE2:=Lh (HE.out.next hb2);have HBL2:=Lh (HE1.out.trans (hb2.mono HE1.out.size));clear hb2;go_wp2_with fail
     refine hK.out _ _ trivial (fun hH=>?_);clear hK K
     try simp only [LAY]
     have hcl:=(HC.out _ HE2.out).1;refine rd1 5 (by kernel_rfl) rfl fun K hK=>?_
     go_simp
     go_wp2_with fail
     refine hK.out _ _ trivial (fun hH=>?_);clear hK K hcl
     try simp only [LAY]
     obtain ⟨hcl,hfr⟩:=HC.out _ HE2.out;have HR:=Lh (And.intro (HBL2.out.setCell (p:=⟨w.heap.size,k,none⟩) (Nat.le_refl _) z) (And.intro HZ.out (HS.out _ z HE2.out)));clear HZ HS HBL2 HE2 HC;rcases HM.out with ⟨hm,hzz⟩ | ⟨hm,hzz⟩
     all_goals
      rw [hzz] at HR;clear hzz HM z;refine rd1 9 (by kernel_rfl) rfl fun K hK=>?_
      go_simp
      refine hK.out _ _ trivial (fun hH=>?_);clear hK K
      try simp only [LAY]
      refine ta 10 hH ?_;refine rd1 11 (by kernel_rfl) rfl fun K hK=>?_
      go_simp
      go_wp2_with fail
      refine hK.out _ _ trivial (fun hH=>?_);clear hK K hcl hfr
      try simp only [LAY]
      refine dnH ?_;go_wp2_with fail
      go_roundg (nn-(k+1))
      case measure=>omega
      case rel=>exact ⟨k+1,by omega,rfl,by go_num,HR.out.1,_,HR.out.2.1,HR.out.2.2⟩
   ·obtain rfl:k=nn:=by omega
    have hkn:=HN.out.1;have hp:=hJ.pad HA.out.1 HA.out.2 (by rw [HN.out.1]; exact HN.out.2.2.2) (by rw [HN.out.1]; exact HN.out.2.2.1) (by rw [HN.out.1]; exact HN.out.2.1);have ho:=own_blk (B:=w.heap.size) (cap:=k) hE (Nat.le_refl _) (by rw [hJ.1]; exact Nat.le_refl _) (by have:=HN.out.2.2.2; omega);have hlen:=hJ.1;rw [hJ.1] at ho;have HO:=Lh (And.intro hp (And.intro ho (And.intro hlen hbel)));clear hp ho hlen hJ hE hbel;go_wp2_with fail
    go_ret
    exact ⟨_,E,rfl,by rw [HO.out.2.2.1,HN.out.1]; exact HN.out.2.2.2,HO.out.1,(by have h:=HO.out.2.1; rw [HN.out.1] at h; exact h),HO.out.2.2.2⟩
theorem vc_ok:VCAll:=⟨vat_ok,vtick_ok,vjoin_ok,vleq_ok,vsame_ok⟩
end Go.Proofs.YtemicfjmidohfaaGreatDoor
