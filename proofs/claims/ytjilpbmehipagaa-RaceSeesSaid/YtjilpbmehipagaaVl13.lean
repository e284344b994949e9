import Derived.Test.YtjilpbmehipagaaVk13
import Derived.Deep.MidRow
import Derived.ChangeKeysEq
namespace Go.Proofs.Ytjilpbmehipagaa
open Go Go.Proofs Go.RowKit
theorem blk_range {W:World} {b:Nat} {vs:List Value} {t:TypeId} (h:Blk W b vs t):W.rangeAt b 0 vs:=fun j v hv=>by rw [Nat.zero_add]; exact h.cell j hv
theorem blk_there {W:World} {b:Nat} {vs:List Value} {t:TypeId} (h:Blk W b vs t):W.there b 0 vs.length:=fun j hj=>by
 rw [Nat.zero_add]; exact ⟨by rw [h.cell j (List.getElem?_eq_getElem hj)]; rfl,h.free j⟩
theorem setM_mid (v:Value) (vs zs:List Value) (i:Nat) (h:i+(v::vs).length≤zs.length):(zs.set i v).take (i+1)++vs++(zs.set i v).drop (i+1+vs.length)=zs.take i++(v::vs)++zs.drop (i+(v::vs).length):=by
 rw [List.length_cons] at h ⊢;have hi:i<zs.length:=by omega
 rw [List.drop_set_of_lt (by omega),List.take_set,List.take_succ_eq_append_getElem hi,List.set_append_right _ _ (by simp; omega)];simp [show i+1+vs.length=i+(vs.length+1) by omega,Nat.min_eq_left (Nat.le_of_lt hi)]
theorem blkC {b:Nat} {t:TypeId}:∀ (vs zs:List Value) (i:Nat) (W:World),Blk W b zs t→i+vs.length≤zs.length→Blk (W.setCells b i vs) b (zs.take i++vs++zs.drop (i+vs.length)) t
 | [],zs,i,W,h,_=>by simpa [World.setCells] using h
 | v::vs,zs,i,W,h,hl=>by
  have:=blkC vs (zs.set i v) (i+1) _ (h.set i v) (by rw [List.length_set]; rw [List.length_cons] at hl; omega)
  rwa [setM_mid v vs zs i hl] at this
theorem blkC0 {b:Nat} {t:TypeId} {vs zs:List Value} {W:World} (h:Blk W b zs t) (hl:vs.length=zs.length):Blk (W.setCells b 0 vs) b vs t:=by
 have:=blkC vs zs 0 W h (by omega)
 simpa [hl] using this
theorem belC {B b:Nat} {W0:World} (hb:B≤b):∀ (vs:List Value) (i:Nat) {W:World},Below B W0 W→Below B W0 (W.setCells b i vs)
 | [],_,_,h=>h
 | v::vs,i,_,h=>belC hb vs (i+1) (h.setCell (p:=⟨b,i,none⟩) hb v)
theorem blkCo {b c:Nat} {t:TypeId} {zs:List Value} (hc:c≠b):∀ (vs:List Value) (i:Nat) {W:World},Blk W c zs t→Blk (W.setCells b i vs) c zs t
 | [],_,_,h=>h
 | v::vs,i,_,h=>blkCo hc vs (i+1) (h.other ⟨b,i,none⟩ hc v)
theorem bDN {B n:Nat} {w W:World} (h:Below B w W):Below B w (W.drewN n):=⟨h.os,h.tape,h.output,h.size,h.block⟩
theorem ar_one (M:List Int):∀ v∈arL M,v.oneCell'=true:=by
 intro v hv; simp only [arL,List.mem_map] at hv; obtain ⟨x,_,rfl⟩:=hv; rfl
theorem ld_blk {P:Program} {ops:Array Oper} {rest:List Oper} {op:Oper} {a:Act} {w:World} {Q:Exit→Act→World→Prop} {b:Nat} {vs:List Value} {t ty e:TypeId} {x:Operand} {n:Nat} (hB:Blk w b vs t) (hw:Region.wanted op (yielded ops a.tmps)=true) (ho:op.op=.load ty x) (hx:a.eval x=.pointer (some ⟨b,0,none⟩))
  (hu:P.underlying ty=some (.array n e)) (hi:(P.info? ty).map (·.size)=some vs.length) (h:wpList P ops Q rest (a.put op.dst (.agg vs.toArray)) w):wpList P ops Q (op::rest) a w:=
 wpList_step fun _ hK=>by
  simp only [hw,if_true]
  exact wp_load_mid ty x ho b 0 hx vs _ (blk_range hB) hu rfl hi (hK _ _ h)
theorem st_blk {P:Program} {ops:Array Oper} {rest:List Oper} {op:Oper} {a:Act} {w:World} {Q:Exit→Act→World→Prop} {b:Nat} {zs:List Value} {t ty:TypeId} {x y:Operand} {M:List Int} (hB:Blk w b zs t) (hg:op.guard=none) (ho:op.op=.store ty x y) (hx:a.eval x=.pointer (some ⟨b,0,none⟩)) (hy:a.eval y=.agg (arL M).toArray)
  (hl:zs.length=(arL M).length) (hi:(P.info? ty).map (·.size)=some (arL M).length) (h:∀ w2,Hid (w2=w.setCells b 0 (arL M))→wpList P ops Q rest (a.put op.dst undef) w2):wpList P ops Q (op::rest) a w:=
 wpList_store_mid hg ty x y ho b 0 (arL M).toArray hx hy (by have:=blk_there hB; rw [hl] at this; simpa using this) (by simpa using hi) (all_oneCell_toArray (ar_one M)) (by simpa using h _ (Lh rfl))
theorem ldy {P:Program} {op:Oper} {a:Act} {w:World} {b:Nat} {vs:List Value} {t ty e:TypeId} {x:Operand} {n:Nat} (ho:op.op=.load ty x) (hx:a.eval x=.pointer (some ⟨b,0,none⟩)) (hB:Blk w b vs t)
  (hu:P.underlying ty=some (.array n e)) (hi:(P.info? ty).map (·.size)=some vs.length):(execOp a.eval op).run P w=.ok (.value (.agg vs.toArray)) w:=by
 unfold execOp
 simp only [ho,hx,Instr.loadAt,Instr.sureAddr,Sem.run_bind,Sem.run_pure,Result.andThen_ok,run_loadVar_mid w b 0 ty vs _ (blk_range hB) hu rfl hi]
theorem res_arr {P:Program} {fn:Func} {tmps:Array Value} {w:World} {b:Nat} {ty e:TypeId} {vs:List Value} {t:TypeId} {n:Nat} {x:Tmp} (hB:Blk w b vs t) (hf:fn.results = #[.cell x ty]) (hx:tmps.getD x undef=.pointer (some ⟨b,0,none⟩)) (hu:P.underlying ty=some (.array n e)) (hi:(P.info? ty).map (·.size)=some vs.length):
  (results fn tmps).run P w=.ok (.agg vs.toArray) w:=by
 have h:=run_loadVar_mid w b 0 ty vs _ (blk_range hB) hu rfl hi;have hx2:tmps[x]?.getD undef=.pointer (some ⟨b,0,none⟩):=by rw [←hx,Array.getD_eq_getD_getElem?]
 simp [results,hf,hx2,asAddr,h]
theorem eq_items {P:Program} (d:Nat) (e:TypeId) (M N:List Int) (w:World) (hu:P.underlying e=some (.int .i64)) (hs:P.cellsOf e=1):∀ (is:List Nat),(∀ i∈is,i<M.length∧i<N.length) →
  (Op.eqItems (d+1) e (P.cellsOf e) (arL M).toArray (arL N).toArray is).run P w=.ok (is.all fun i=>decide (M.getD i 0=N.getD i 0)) w
 | [],_=>by simp [Op.eqItems]
 | i::is,h=>by
  obtain ⟨h1,h2⟩:=h i (by simp);have ih:=eq_items d e M N w hu hs is (fun j hj=>h j (by simp [hj]));have hpk:P.plainKey e=true:=by simp [Program.plainKey,hu]
  have hp:∀ (L:List Int),i<L.length→(part e (arL L).toArray (i * P.cellsOf e)).run P w=.ok (.int .i64 (L.getD i 0)) w:=fun L hL=>by
   refine run_part_plain w hpk ?_;rw [hs,Nat.mul_one,List.getElem?_toArray,List.getElem?_map,List.getElem?_eq_getElem hL,List.getD_eq_getElem?_getD,List.getElem?_eq_getElem hL]; rfl
  have p1:=hp M h1;have p2:=hp N h2;simp only [Op.eqItems,Sem.run_bind,p1,p2,Result.andThen_ok,run_equalIn_int w d e .i64 .i64 _ _ hu]
  by_cases hc:M.getD i 0=N.getD i 0
  ·rw [hc]; simp only [beq_self_eq_true,Bool.not_true,Bool.false_eq_true,if_false,ih,List.all_cons,hc,decide_true,Bool.true_and]
  ·rw [show (M.getD i 0==N.getD i 0)=false by simpa using hc]
   simp only [Bool.not_false,if_true,Sem.run_pure,List.all_cons,decide_eq_false hc,Bool.false_and]
theorem eq_arr {P:Program} (d:Nat) {t e:TypeId} {M N:List Int} (hM:M.length=16) (hN:N.length=16) (hu:P.underlying t=some (.array 16 e)) (he:P.underlying e=some (.int .i64)) (hs:P.cellsOf e=1) (hi:(P.info? e).isSome=true) (w:World):
  (Op.equalIn (d+2) t (.agg (arL M).toArray) (.agg (arL N).toArray)).run P w=.ok (decide (M=N)) w:=by
 obtain ⟨i,hi⟩:=Option.isSome_iff_exists.1 hi;rw [run_equalIn_array w (d+1) _ _ hu hi,eq_items d e M N w he hs _ (fun j hj=>by rw [List.mem_range] at hj; omega)]
 congr 1
 rw [Bool.eq_iff_iff];simp only [List.all_eq_true,List.mem_range,decide_eq_true_eq]
 constructor
 ·intro h
  refine List.ext_getElem (by omega) fun j h1 h2=>?_
  have:=h j (by omega)
  rwa [List.getD_eq_getElem?_getD,List.getD_eq_getElem?_getD,List.getElem?_eq_getElem h1,List.getElem?_eq_getElem h2] at this
 ·rintro rfl j _; rfl
def tickL (M:List Int) (i:Int):List Int:=if 0≤i∧i<16 then M.set i.toNat (M.getD i.toNat 0+1) else M
theorem tick_len {M:List Int} (h:M.length=16) (i:Int):(tickL M i).length=16:=by unfold tickL; split <;> simp [h]
def joinL (M N:List Int):List Int:=List.zipWith (fun x y=>if x<y then y else x) M N
def joinK (M N:List Int) (k:Nat):List Int:=(joinL M N).take k++M.drop k
theorem join_len {M N:List Int} (h:M.length=16) (h2:N.length=16):(joinL M N).length=16:=by unfold joinL; simp [h,h2]
theorem joinK_len {M N:List Int} (h:M.length=16) (h2:N.length=16) {k:Nat} (hk:k≤16):(joinK M N k).length=16:=by unfold joinK; simp [join_len h h2,h]; omega
theorem join_at {M N:List Int} (h:M.length=16) (h2:N.length=16) {k:Nat} (hk:k<16):(joinL M N).getD k 0=if M.getD k 0<N.getD k 0 then N.getD k 0 else M.getD k 0:=by
 unfold joinL
 simp [List.getD_eq_getElem?_getD,List.getElem?_zipWith,List.getElem?_eq_getElem (show k<M.length by omega),List.getElem?_eq_getElem (show k<N.length by omega)]
theorem joinK_at {M N:List Int} (h:M.length=16) (h2:N.length=16) {k:Nat} (hk:k<16):(joinK M N k).getD k 0=M.getD k 0:=by
 unfold joinK
 rw [List.getD_eq_getElem?_getD,List.getElem?_append_right (by rw [List.length_take,join_len h h2]; omega),List.getElem?_drop,List.length_take,join_len h h2,show k+(k-min k 16)=k by omega,List.getD_eq_getElem?_getD]
theorem joinK_step {M N:List Int} (h:M.length=16) (h2:N.length=16) {k:Nat} (hk:k<16):(joinK M N k).set k ((joinL M N).getD k 0)=joinK M N (k+1):=by
 have hl:k<(joinL M N).length:=by rw [join_len h h2]; omega
 have hg:(joinL M N).getD k 0=(joinL M N)[k]:=by rw [List.getD_eq_getElem?_getD,List.getElem?_eq_getElem hl]; rfl
 unfold joinK
 rw [hg,List.take_succ_eq_append_getElem hl,List.set_append_right _ _ (by rw [List.length_take]; omega),show k-((joinL M N).take k).length=0 by simp; omega,show M.drop k=M[k]::M.drop (k+1) from List.drop_eq_getElem_cons (by omega),List.set_cons_zero,List.append_assoc];rfl
theorem joinK_stay {M N:List Int} (h:M.length=16) (h2:N.length=16) {k:Nat} (hk:k<16) (hc:¬ M.getD k 0<N.getD k 0):joinK M N k=joinK M N (k+1):=by
 rw [←joinK_step h h2 hk,join_at h h2 hk,if_neg hc];refine List.ext_getElem? fun j=>?_
 rw [List.getElem?_set];split
 ·rename_i e
  subst e;have hl:=joinK_len h h2 (k:=k) (by omega);rw [if_pos (by omega),←joinK_at h h2 hk,List.getD_eq_getElem?_getD,List.getElem?_eq_getElem (show k<(joinK M N k).length by omega)]; rfl
 ·rfl
theorem joinK_end {M N:List Int} (h:M.length=16) (h2:N.length=16):joinK M N 16=joinL M N:=by
 unfold joinK; rw [List.take_of_length_le (by rw [join_len h h2]; omega),List.drop_eq_nil_of_le (by omega),List.append_nil]
end Go.Proofs.Ytjilpbmehipagaa
