import Derived.Test.YtkmcoineknbgcaaGreatDoorLBase
import Derived.Laws.IdiomCopy
import Derived.Lib.Overlaps
import Derived.Lib.AppendZerosOnto
import Derived.Lib.SliceRun
import Derived.Deep.CutRange
import Derived.Deep.RegionLaw
set_option maxRecDepth 100000
set_option maxHeartbeats 12800000
namespace Go.Proofs.YtkmcoineknbgcaaGreatDoor
open Go Go.Proofs Go.RowKit
theorem set_mid (v:Value) (vs zs:List Value) (i:Nat) (hl:i+(v::vs).length≤zs.length):(zs.set i v).take (i+1)++vs++(zs.set i v).drop (i+1+vs.length)=zs.take i++(v::vs)++zs.drop (i+(v::vs).length):=by
 rw [List.length_cons] at hl ⊢;rw [List.take_succ_eq_append_getElem (by rw [List.length_set]; omega),List.getElem_set_self,List.take_set_of_le (Nat.le_refl _),List.drop_set_of_lt (by omega),show i+1+vs.length=i+(vs.length+1) by omega];simp
theorem blk_cells {b:Nat} {t:TypeId}:∀ (vs zs:List Value) (i:Nat) (W:World),Blk W b zs t→i+vs.length≤zs.length→Blk (W.setCells b i vs) b (zs.take i++vs++zs.drop (i+vs.length)) t
 | [],zs,i,W,h,_=>by simpa [World.setCells] using h
 | v::vs,zs,i,W,h,hl=>by
  have:=blk_cells vs (zs.set i v) (i+1) _ (h.set i v) (by rw [List.length_set]; rw [List.length_cons] at hl; omega)
  rwa [set_mid v vs zs i hl] at this
theorem bel_cells {B b:Nat} {W0:World} (hb:B≤b):∀ (vs:List Value) (i:Nat) {W:World},Below B W0 W→Below B W0 (W.setCells b i vs)
 | [],_,_,h=>h
 | v::vs,i,_,h=>bel_cells hb vs (i+1) (h.setCell (p:=⟨b,i,none⟩) hb v)
def RO (B:Nat) (W:World) (v:Value) (R:List Int):Prop:=W.ownsRow B 21 1 v R.length (R.map (Value.int .i32))
theorem RO.form {B:Nat} {W:World} {v:Value} {R:List Int} (h:RO B W v R):(v=.slice none 0 0∧R=[])∨∃ (g cap:Nat) (cur:List Value),v=.slice (some ⟨g,0,none⟩) R.length cap∧B≤g∧Blk W g cur 21∧R.length≤cap∧cap≤9223372036854775807∧cur.length=cap∧cur.take R.length=R.map (Value.int .i32):=by
 rcases h.2 with ⟨h1,h2⟩ | ⟨g,cap,cur,h1,h2,h3,h4,h5,h6,h7⟩
 ·exact .inl ⟨h1,List.eq_nil_of_length_eq_zero h2⟩
 ·rw [Nat.mul_one] at h6 h7
  exact .inr ⟨g,cap,cur.toList,h1,h2,h3,h4,by unfold maxLen at h5; omega,by simpa using h6,h7⟩
theorem RO.of {B:Nat} {W:World} {R:List Int} {g cap:Nat} {cur:List Value} (h2:B≤g) (h3:Blk W g cur 21) (h4:R.length≤cap) (h5:cap≤9223372036854775807) (h6:cur.length=cap) (h7:cur.take R.length=R.map (Value.int .i32)):RO B W (.slice (some ⟨g,0,none⟩) R.length cap) R:=
 ⟨by simp,.inr ⟨g,cap,⟨cur⟩,rfl,h2,h3,h4,by unfold maxLen; omega,by simpa using h6,by simpa using h7⟩⟩
theorem rn_one (R:List Int):∀ v∈R.map (Value.int .i32),v.oneCell'=true:=by
 intro v hv
 obtain ⟨x,_,rfl⟩:=List.mem_map.1 hv;rfl
theorem rn_cell {W:World} {g:Nat} {cur:List Value} {R:List Int} {t:TypeId} (h:Blk W g cur t) (h7:cur.take R.length=R.map (Value.int .i32)) (k:Nat):∀ j v,((R.drop k).map (Value.int .i32))[j]? = some v→W.cell? ⟨g,k+j,none⟩=some v:=by
 intro j v hj
 rw [List.map_drop,List.getElem?_drop,←h7] at hj;refine h.cell _ ?_;rw [List.getElem?_take] at hj;split at hj
 ·exact hj
 ·cases hj
theorem blk_some {W:World} {g:Nat} {cur:List Value} {t:TypeId} (h:Blk W g cur t) (j:Nat) (hj:j<cur.length):(W.cell? ⟨g,j,none⟩).isSome=true:=by
 rw [h.cell j (List.getElem?_eq_getElem hj)]; rfl
theorem wp_app2 {P:Program} {w:World} {o:Oper} {a:Act} {K:Act→World→Prop} {Q:Exit→Act→World→Prop} {x y:Operand} {t t':TypeId}
  (ho:o.op=.call { callee:=.builtin .append,args := #[x,y],argTypes := #[t,t'] }) {u v v':Value} {w':World} (hx:a.eval x=u) (hy:a.eval y=v)
  (hr:(Builtin.append_ #[t,t'] o.type #[u,v]).run P w=.ok v' w') (h:K (a.put o.dst v') w'):o.wp P a w K Q:=by
 unfold Oper.wp execOp
 simp only [ho,resolve,invoke,builtin,Sem.run_bind,Sem.run_pure,Result.andThen_ok,List.map_toArray,List.map_cons,List.map_nil,hx,hy,hr]
 exact h
theorem wp_cpy2 {P:Program} {w:World} {o:Oper} {a:Act} {K:Act→World→Prop} {Q:Exit→Act→World→Prop} {x y:Operand} {t t':TypeId}
  (ho:o.op=.call { callee:=.builtin .copy,args := #[x,y],argTypes := #[t,t'] }) {u v v':Value} {w':World} (hx:a.eval x=u) (hy:a.eval y=v)
  (hr:(Builtin.copy_ #[t,t'] o.type #[u,v]).run P w=.ok v' w') (h:K (a.put o.dst v') w'):o.wp P a w K Q:=by
 unfold Oper.wp execOp
 simp only [ho,resolve,invoke,builtin,Sem.run_bind,Sem.run_pure,Result.andThen_ok,List.map_toArray,List.map_cons,List.map_nil,hx,hy,hr]
 exact h
theorem wpl_app2 {P:Program} {w:World} {ops:Array Oper} {rest:List Oper} {o:Oper} {a:Act} {Q:Exit→Act→World→Prop} {x y:Operand} {t t':TypeId} (hgd:o.guard=none)
  (ho:o.op=.call { callee:=.builtin .append,args := #[x,y],argTypes := #[t,t'] }) {u v v':Value} {w':World} (hx:a.eval x=u) (hy:a.eval y=v)
  (hr:(Builtin.append_ #[t,t'] o.type #[u,v]).run P w=.ok v' w') (h:wpList P ops Q rest (a.put o.dst v') w'):wpList P ops Q (o::rest) a w:=
 wpList_plain hgd fun _ hK=>wp_app2 ho hx hy hr (hK _ _ h)
theorem slice_mid {P:Program} {t:TypeId} {e:Nat} (ht:P.underlying t=some (.slice (P.elem t))) (he:(sizeOf (P.elem t)).run P=fun w=>.ok e w) (a:Option Addr) (n cap j k:Nat) (h:j≤k) (h2:k≤cap) (w:World):
  (Instr.slice t (.slice a n cap) (some (.int .i64 (j:Int))) (some (.int .i64 (k:Int))) none).run P w=.ok (.slice (tailA a j cap e) (k-j) (cap-j)) w:=by
 rw [run_slice_lh w t a n cap ht .i64 .i64 (j:Int) (k:Int) (by omega) (by omega) (by omega),he];simp only [Result.andThen,sliced,Int.toNat_natCast]
 rfl
theorem infoR:(Tryz.prog.info? 21).map (fun i=>(i.zero,i.size,i.bytes))=some (some (.int .i32 0),1,4):=by kernel_rfl
theorem zeroR (w:World):(zeroValue 21).run Tryz.prog w=.ok (.int .i32 0) w:=by kernel_rfl
theorem tail_at {W:World} {g cap:Nat} {cur:List Value} {R:List Int} {t:TypeId} (h:Blk W g cur t) (h7:cur.take R.length=R.map (Value.int .i32)) (k:Nat) (hk:k≤R.length) (hc:R.length≤cap):
  ∃ ad:Addr,tailA (some ⟨g,0,none⟩) k cap 1=some ad∧∀ j v,((R.drop k).map (Value.int .i32))[j]? = some v→W.cell? (ad.add j)=some v:=by
 unfold tailA
 by_cases hck:cap=k
 ·rw [if_pos hck]
  refine ⟨_,rfl,fun j v hj=>?_⟩;rw [show R.drop k=[] from List.drop_eq_nil_of_le (by omega)] at hj
  cases hj
 ·rw [if_neg hck]
  refine ⟨⟨g,k,none⟩,by show some ((⟨g,0,none⟩:Addr).add (k * 1))=_; rw [Addr.add_lit,Nat.zero_add,Nat.mul_one],fun j v hj=>?_⟩;rw [Addr.add_lit];exact rn_cell h h7 k j v hj
theorem sdel_any {B:Nat} {w:World} {v:Value} {R:List Int} (h:RO B w v R) (i:Nat) (hi:i<R.length):
  Calls Tryz.prog 44 #[v,.int .i64 (i:Int),.int .i64 ((i:Int)+1)] w fun e w'=>(∃ v',e=.returned v'∧RO B w' v' (R.eraseIdx i))∧(Below B w w→Below B w w'):=by
 obtain ⟨_,rfl⟩ | ⟨g,cap,cur,rfl,hg,hb,h4,h5,h6,h7⟩:=h.form
 ·cases hi
 obtain ⟨q,hq⟩:∃ q,R.length=q+1:=⟨R.length - 1,by omega⟩
 obtain ⟨ad,had,hnews⟩:=tail_at (W:=w.drew) hb h7 (i+1) (by omega) h4;obtain ⟨i0,hi0,hz0,hz1,hz2⟩:=info_parts infoR;obtain ⟨news,hn⟩:∃ news,news=(R.drop (i+1)).map (Value.int .i32):=⟨_,rfl⟩
 have hnl:news.length=q-i:=by rw [hn,List.length_map,List.length_drop]; omega
 have hap:∀ ty,(Builtin.append_ #[79,79] ty #[.slice (some ⟨g,0,none⟩) i cap,.slice (some ad) (q+1-(i+1)) (cap-(i+1))]).run Tryz.prog w.drew=.ok (.slice (some ⟨g,0,none⟩) q cap) (w.drew.setCells g i news):=by
  intro ty
  have:=run_append_room_cells (P:=Tryz.prog) w.drew 79 ty 21 i0 Tryz.underlying79 hi0 g 0 i cap ad (q-i) (cap-(i+1)) news (by rw [hz1,hnl,Nat.mul_one]) (by rw [hn]; exact hnews) (by rw [hn]; exact rn_one _) (by omega)
   (fun j hj=>by rw [hz1]; exact blk_some (W:=w.drew) hb _ (by omega)) (fun j hj=>hb.free _)
  rw [hz1,show i+(q-i)=q by omega,show 0+i * 1=i by omega] at this;rw [show q+1-(i+1)=q-i by omega];exact this
 obtain ⟨W1,hW1⟩:∃ W1,W1=w.drew.setCells g i news:=⟨_,rfl⟩
 have hb1:Blk W1 g (cur.take i++news++cur.drop (i+news.length)) 21:=hW1▸blk_cells news cur i w.drew hb (by omega)
 have hl1:(cur.take i++news++cur.drop (i+news.length)).length=cap:=by simp; omega
 have ht1:(cur.take i++news++cur.drop (i+news.length)).take q=(R.eraseIdx i).map (Value.int .i32):=by
  rw [List.take_left' (by simp; omega),hn,List.eraseIdx_eq_take_drop_succ,List.map_append,List.map_take,←h7,List.take_take,show min i R.length=i by omega]
 have hbl:Below B w w→Below B w W1:=fun h=>hW1▸bel_cells hg news i h.drew
 rw [←hW1] at hap;generalize cur.take i++news++cur.drop (i+news.length)=cur1 at *
 have hcl:∀ ty,(Builtin.clear_ #[79] ty #[.slice (some ⟨g,q,none⟩) 1 (cap-q)]).run Tryz.prog W1=.ok (.tuple #[]) (W1.setCells g q [.int .i32 0]):=fun ty=>
  Lib.run_clear_slice W1 79 21 ty (.int .i32 0) Tryz.underlying79 zeroR rfl rfl g q 1 (cap-q) (by omega) (fun j hj=>blk_some hb1 _ (by omega)) (fun j hj=>hb1.free _)
 have s1:=fun W=>slice_head (P:=Tryz.prog) (e:=1) Tryz.underlying79 rfl (some ⟨g,0,none⟩) (q+1) cap i (by omega) W
 have s2:=fun W=>slice_tail (P:=Tryz.prog) (e:=1) Tryz.underlying79 rfl (some ⟨g,0,none⟩) (q+1) cap (i+1) (by omega) W
 have s3:=fun W=>slice_mid (P:=Tryz.prog) (e:=1) Tryz.underlying79 rfl (some ⟨g,0,none⟩) q cap q (q+1) (by omega) (by omega) W
 rw [show tailA (some ⟨g,0,none⟩) q cap 1=some ⟨g,q,none⟩ by unfold tailA; rw [if_neg (by omega)]; show some ((⟨g,0,none⟩:Addr).add (q * 1))=_; rw [Addr.add_lit,Nat.zero_add,Nat.mul_one],show q+1-q=1 by omega] at s3;rw [had] at s2;have e1:((i+1:Nat):Int)=(i:Int)+1:=by omega
 have e2:((q+1:Nat):Int)=(q:Int)+1:=by omega
 rw [e1] at s2;rw [e2] at s3;have hAP:=Lh hap;have hF:=Lh (And.intro hb1 (And.intro hl1 (And.intro ht1 (And.intro hbl (And.intro hg (And.intro h4 h5))))));have hRq:(R.eraseIdx i).length=q:=by rw [List.length_eraseIdx_of_lt hi]; omega
 have hRQ:=Lh hRq;have hiq:i≤q:=by omega
 have hqc:q+1≤cap:=by omega
 have h0:(0:Int)≤i:=by omega
 have hne:¬ ((i:Int)=(i:Int)+1):=by omega
 rw [hq];clear h had hnews hnl hap hb1 hl1 ht1 hbl hn hRq hq h4 h6 h7 hb hW1 hi hz0 hz1 hz2 hi0 e1 e2
 go_enter Tryz.func44,Tryz.ntmps44
 go_wp2_with fail
 refine rgH (fun _=>True) trivial fun hH=>?_
 refine tq 0 (.slice (some ⟨g,0,none⟩) (q+1) cap) hH ?_;refine tq 1 (.int .i64 (i:Int)) hH ?_;refine tq 2 (.slice (some ⟨g,0,none⟩) i cap) hH ?_;refine tq 3 (.slice (some ⟨g,0,none⟩) (q+1) cap) hH ?_;refine tq 4 (.int .i64 ((i:Int)+1)) hH ?_;refine tq 5 (.slice (some ad) (q+1-(i+1)) (cap-(i+1))) hH ?_;refine rd1 6 (by kernel_rfl) rfl fun K hK=>?_
 rw [if_pos (by rfl)];refine wp_app2 rfl rfl rfl (hAP.out _) ?_;refine hK.out _ _ trivial (fun hH2=>?_);clear hK K hH;have hH:=hH2;clear hH2
 try simp only [LAY]
 refine tq 7 (.slice (some ⟨g,0,none⟩) q cap) hH ?_;refine dnH ?_;clear s1 s2;go_wp2_with fail
 go_ret
 obtain ⟨b1,l1,t1,k1,k2,k3,k4⟩:=hF.out;refine ⟨⟨_,rfl,?_⟩,fun h=>bel_cells k2 _ _ (k1 h)⟩;have h2:=blk_cells [.int .i32 0] cur1 q W1 b1 (by rw [l1]; show q+1≤cap; exact hqc);have h3:=RO.of (R:=R.eraseIdx i) (cap:=cap) k2 h2 (by rw [hRQ.out]; omega) k4 (by simp; omega) (by rw [hRQ.out,List.append_assoc,List.take_left' (by rw [List.length_take]; omega),t1])
 rwa [hRQ.out] at h3
theorem blk_shape {W:World} {b:Nat} {vs:List Value} {t:TypeId} (h:Blk W b vs t):W.shape? b=some (t,vs.length):=by
 unfold Blk at h; simp [World.shape?,h]
theorem mid1 {zs cs D:List Value} {c:Value} {i:Nat} (h:i<zs.length):((zs.take i++[c]++zs.drop (i+1)).take (i+1)++cs++D).take (i+1+cs.length)=zs.take i++c::cs:=by
 have h1:(zs.take i++[c]++zs.drop (i+1)).take (i+1)=zs.take i++[c]:=List.take_left' (by simp; omega);rw [h1,List.take_left' (by simp; omega)];simp
theorem mid2 {zs cs D:List Value} {c:Value} {i:Nat} (h:i<zs.length):((zs.take (i+1)++cs++D).take i++[c]++(zs.take (i+1)++cs++D).drop (i+1)).take (i+1+cs.length)=zs.take i++c::cs:=by
 have h1:(zs.take (i+1)++cs++D).take i=zs.take i:=by
  rw [List.append_assoc,List.take_append_of_le_length (by simp; omega),List.take_take,show min i (i+1)=i by omega]
 have h2:(zs.take (i+1)++cs++D).drop (i+1)=cs++D:=by
  rw [List.append_assoc,List.drop_left' (by simp; omega)]
 rw [h1,h2,←List.append_assoc,List.take_left' (by simp; omega)];simp
theorem take_rn {cur:List Value} {R:List Int} {i:Nat} (h7:cur.take R.length=R.map (Value.int .i32)) (hi:i≤R.length):cur.take i=(R.take i).map (Value.int .i32):=by
 rw [List.map_take,←h7,List.take_take,show min i R.length=i by omega]
theorem sins_end {B:Nat} {w:World} {v:Value} {R:List Int} (h:RO B w v R) (ch:Int) (b:Nat) (hv:Blk w b [.int .i32 ch] 21) (hl:R.length≤5000) (hB:B≤w.heap.size):
  Calls Tryz.prog 45 #[v,.int .i64 (R.length:Int),.slice (some ⟨b,0,none⟩) 1 1] w fun e w'=>(∃ v',e=.returned v'∧RO B w' v' (R++[ch]))∧(Below B w w→Below B w w'):=by
 obtain ⟨a,cap,rfl,hc1,hc2⟩:∃ a cap,v=.slice a R.length cap∧R.length≤cap∧cap≤9223372036854775807:=by
  obtain ⟨rfl,rfl⟩ | ⟨g,cap,cur,rfl,hg,hb,h4,h5,h6,h7⟩:=h.form
  ·exact ⟨none,0,rfl,Nat.le_refl _,by omega⟩
  ·exact ⟨_,_,rfl,h4,h5⟩
 have s0:=fun W=>slice_tail (P:=Tryz.prog) (e:=1) Tryz.underlying79 rfl a R.length cap R.length (Nat.le_refl _) W
 obtain ⟨i0,hi0,hz0,hz1,hz2⟩:=info_parts infoR;have hnw:∀ j u,[Value.int .i32 ch][j]? = some u→w.cell? ((⟨b,0,none⟩:Addr).add j)=some u:=fun j u hj=>by rw [Addr.add_lit,Nat.zero_add]; exact hv.cell j hj
 have HO:=Lh h;have hge:∀ r,(Value.slice a R.length cap).ownBlock=some r→B≤r:=own_ge h;have hnn:R.length≤5000:=hl;generalize hn:R.length=n at *
 clear h hv
 go_enter Tryz.func45,Tryz.ntmps45
 go_upto_region 7 with fail
 clear s0;generalize Value.slice a n cap=V at *
 go_wp2_with (at_builtin; refine wpList_append_own _ rfl _ _ 79 rfl B 21 i0 (.int .i32 0) 1 4 Tryz.underlying79 hi0 hz0 hz1 hz2 rfl (by decide) _ R.length (R.map (Value.int .i32)) rfl HO.out ⟨b,0,none⟩ 1 1 [.int .i32 ch] rfl rfl hnw (rn_one [ch]) (by unfold maxLen; omega) (by omega) hB ?_; intro v' w3 hown hgrow hnil; refine Hid.out ?_)
 have HF:=Lh (And.intro hown hgrow);clear hown hgrow hnil;refine Lh ?_;go_wp2_with fail
 go_ret
 refine ⟨⟨_,rfl,?_⟩,fun h=>Below.of_grown HF.out.2 hB hge⟩
 show World.ownsRow _ _ _ _ _ _ _
 rw [List.length_append,List.map_append];exact HF.out.1
theorem sins_room {B:Nat} {w:World} {R:List Int} {g cap:Nat} {cur:List Value} (hg:B≤g) (hb:Blk w g cur 21) (h5:cap≤9223372036854775807) (h6:cur.length=cap) (h7:cur.take R.length=R.map (Value.int .i32)) (i:Nat) (hi:i<R.length) (hroom:R.length+1≤cap)
  (ch:Int) (b:Nat) (hv:Blk w b [.int .i32 ch] 21) (hne:b≠g):
  Calls Tryz.prog 45 #[.slice (some ⟨g,0,none⟩) R.length cap,.int .i64 (i:Int),.slice (some ⟨b,0,none⟩) 1 1] w fun e w'=>(∃ v',e=.returned v'∧RO B w' v' (R.take i++ch::R.drop i))∧(Below B w w→Below B w w'):=by
 obtain ⟨n,hn⟩:∃ n,n=R.length:=⟨_,rfl⟩
 obtain ⟨cs,hcs⟩:∃ cs,cs=(R.drop i).map (Value.int .i32):=⟨_,rfl⟩
 have hcl:cs.length=n-i:=by rw [hcs,List.length_map,List.length_drop,hn]
 have htl:∀ (m k:Nat),k<cap→tailA (some ⟨g,0,none⟩) k cap 1=some ⟨g,k,none⟩:=fun m k hk=>by
  unfold tailA; rw [if_neg (by omega)]; show some ((⟨g,0,none⟩:Addr).add (k * 1))=_; rw [Addr.add_lit,Nat.zero_add,Nat.mul_one]
 have hov:∀ lb cb,(callFunc 72 #[.slice (some ⟨b,0,none⟩) 1 1,.slice (some ⟨g,i+1,none⟩) lb cb]).run Tryz.prog w=.ok (.value (.bool false)) w:=fun lb cb=>by
  rw [run_callFunc_extern Tryz.func72 (by kernel_rfl) (by kernel_rfl) (by kernel_rfl) (e:=Extern.SlicesOverlaps.overlaps #[79,79] #[4]) (by kernel_rfl),
   Lib.run_overlaps_apart w 79 4 21 Tryz.underlying79 1 (fun w=>by kernel_rfl) ⟨b,0,none⟩ ⟨g,i+1,none⟩ 1 1 lb cb hne 21 21 1 cur.length (blk_shape hv) (blk_shape hb) (by omega) (hv.free _) (hv.free _)]
  rfl
 have c1:∀ ty dc sc,(Builtin.copy_ #[79,79] ty #[.slice (some ⟨g,i+1,none⟩) (n+1-(i+1)) dc,.slice (some ⟨g,i,none⟩) (n+1-i) sc]).run Tryz.prog w.drew=.ok (goInt cs.length) (w.drew.setCells g (i+1) cs):=fun ty dc sc=>
  run_copy_cells w.drew 79 79 ty 21 g (i+1) (n+1-(i+1)) dc ⟨g,i,none⟩ (n+1-i) sc cs Tryz.underlying79 (by kernel_rfl) (by rw [hcl]; simp only [Nat.min_def]; split <;> omega)
   (fun j v hj=>by rw [Addr.add_lit]; rw [hcs] at hj; exact rn_cell (W:=w.drew) hb h7 i j v hj)
   (fun j hj=>blk_some (W:=w.drew) hb _ (by omega)) (fun j hj=>Blk.free (W:=w.drew) hb _) (by rw [hcs]; exact rn_one _)
 obtain ⟨W1,hW1⟩:∃ W1,W1=w.drew.setCells g (i+1) cs:=⟨_,rfl⟩
 have hb1:Blk W1 g (cur.take (i+1)++cs++cur.drop (i+1+cs.length)) 21:=hW1▸blk_cells cs cur (i+1) w.drew hb (by omega)
 have hl1:(cur.take (i+1)++cs++cur.drop (i+1+cs.length)).length=cap:=by simp; omega
 have hv1:Blk W1 b [.int .i32 ch] 21:=by
  unfold Blk; rw [hW1,World.heap_setCells_other w.drew g (i+1) cs hv.lt hne]; exact hv
 have c2:∀ ty dc,(Builtin.copy_ #[79,79] ty #[.slice (some ⟨g,i,none⟩) (n+1-i) dc,.slice (some ⟨b,0,none⟩) 1 1]).run Tryz.prog W1=.ok (goInt ([Value.int .i32 ch].length:Nat)) (W1.setCells g i [.int .i32 ch]):=fun ty dc=>
  run_copy_cells W1 79 79 ty 21 g i (n+1-i) dc ⟨b,0,none⟩ 1 1 [.int .i32 ch] Tryz.underlying79 (by kernel_rfl) (by simp only [Nat.min_def,List.length_singleton]; split <;> omega)
   (fun j v hj=>by rw [Addr.add_lit,Nat.zero_add]; exact hv1.cell j hj)
   (fun j hj=>blk_some hb1 _ (by rw [hl1]; rw [List.length_singleton] at hj; omega)) (fun j hj=>hb1.free _) (rn_one [ch])
 have hF:RO B (W1.setCells g i [.int .i32 ch]) (.slice (some ⟨g,0,none⟩) (n+1) cap) (R.take i++ch::R.drop i):=by
  have hlen:(R.take i++ch::R.drop i).length=n+1:=by simp; omega
  have h2:=blk_cells [.int .i32 ch] _ i W1 hb1 (by rw [hl1,List.length_singleton]; omega);have h3:=RO.of (R:=R.take i++ch::R.drop i) (cap:=cap) hg h2 (by omega) h5 (by simp; omega) (by
   rw [hlen,show n+1=i+1+cs.length by omega,List.length_singleton,mid2 (by omega),take_rn h7 (by omega),hcs]
   simp)
  rwa [hlen] at h3
 have hbl:Below B w w→Below B w (W1.setCells g i [.int .i32 ch]):=fun h=>bel_cells hg _ _ (hW1▸bel_cells hg cs (i+1) h.drew)
 have e1:((i+1:Nat):Int)=(i:Int)+1:=by omega
 have e2:((n+1:Nat):Int)=(n:Int)+1:=by omega
 have s1:=fun W=>slice_tail (P:=Tryz.prog) (e:=1) Tryz.underlying79 rfl (some ⟨g,0,none⟩) n cap i (by omega) W
 have s2:=fun W=>slice_head (P:=Tryz.prog) (e:=1) Tryz.underlying79 rfl (some ⟨g,0,none⟩) n cap (n+1) (by omega) W
 have s3:=fun W=>slice_tail (P:=Tryz.prog) (e:=1) Tryz.underlying79 rfl (some ⟨g,0,none⟩) (n+1) cap (i+1) (by omega) W
 have s4:=fun W=>slice_tail (P:=Tryz.prog) (e:=1) Tryz.underlying79 rfl (some ⟨g,0,none⟩) (n+1) cap i (by omega) W
 rw [htl 0 i (by omega)] at s1 s4;rw [htl 0 (i+1) (by omega),e1] at s3;rw [e2] at s2;have w1:IntKind.i64.wrap ((i:Int)+1)=(i:Int)+1:=IntWalk.i64_in _ (by omega);have w2:IntKind.i64.wrap ((n:Int)+1)=(n:Int)+1:=IntWalk.i64_in _ (by omega);have t1:¬ ((i:Int)=(n:Int)):=by omega
 have t2:¬ ((cap:Int)<(n:Int)+1):=by omega
 rw [←hW1] at c1;have HC1:=Lh c1;have HC2:=Lh c2;have HF:=Lh (And.intro hF hbl);rw [←hn];clear hcs hcl htl c1 c2 hb1 hl1 hv1 hF hbl e1 e2 hW1 hn hi hroom h7 h6 hb hv hne
 go_enter Tryz.func45,Tryz.ntmps45
 go_wp2_with (simp only [hov])
 refine rgH (fun _=>True) trivial fun hH=>?_
 refine tq 0 (.slice (some ⟨g,0,none⟩) (n+1) cap) hH ?_;refine tq 1 (.int .i64 (i:Int)) hH ?_;refine tq 2 (.int .i64 1) hH ?_;refine tq 3 (.int .i64 ((i:Int)+1)) hH ?_;refine tq 4 (.slice (some ⟨g,i+1,none⟩) (n+1-(i+1)) (cap-(i+1))) hH ?_;refine tq 5 (.slice (some ⟨g,0,none⟩) (n+1) cap) hH ?_;refine tq 6 (.int .i64 (i:Int)) hH ?_;refine tq 7 (.slice (some ⟨g,i,none⟩) (n+1-i) (cap-i)) hH ?_;refine rd1 8 (by kernel_rfl) rfl fun K hK=>?_
 rw [if_pos (by rfl)];refine wp_cpy2 rfl rfl rfl (HC1.out _ _ _) ?_;refine hK.out _ _ trivial (fun hH2=>?_)
 try simp only [LAY]
 refine dnH ?_;clear hK K hH hov s1 s2 s3;have c2:=HC2.out;clear HC2;go_wp2_with fail
 go_ret
 exact ⟨⟨_,rfl,HF.out.1⟩,HF.out.2⟩
theorem sins_grow {B:Nat} {w:World} {R:List Int} {g:Nat} {cur:List Value} (hb:Blk w g cur 21) (h7:cur.take R.length=R.map (Value.int .i32)) (i:Nat) (hi:i<R.length) (hl:R.length≤5000)
  (ch:Int) (b:Nat) (hv:Blk w b [.int .i32 ch] 21) (hB:B≤w.heap.size):
  Calls Tryz.prog 45 #[.slice (some ⟨g,0,none⟩) R.length R.length,.int .i64 (i:Int),.slice (some ⟨b,0,none⟩) 1 1] w fun e w'=>(∃ v',e=.returned v'∧RO B w' v' (R.take i++ch::R.drop i))∧(Below B w w→Below B w w'):=by
 obtain ⟨n,hn⟩:∃ n,n=R.length:=⟨_,rfl⟩
 obtain ⟨cs,hcs⟩:∃ cs,cs=(R.drop i).map (Value.int .i32):=⟨_,rfl⟩
 have hcl:cs.length=n-i:=by rw [hcs,List.length_map,List.length_drop,hn]
 have htl:∀ (g m k:Nat),k<m→tailA (some ⟨g,0,none⟩) k m 1=some ⟨g,k,none⟩:=fun g m k hk=>by
  unfold tailA; rw [if_neg (by omega)]; show some ((⟨g,0,none⟩:Addr).add (k * 1))=_; rw [Addr.add_lit,Nat.zero_add,Nat.mul_one]
 obtain ⟨i0,hi0,hz0,hz1,hz2⟩:=info_parts infoR;have hold:(Builtin.firstCells i0.size i (.slice (some ⟨g,0,none⟩) i n)).run Tryz.prog w.drew=.ok ((R.take i).map (Value.int .i32)).toArray w.drew:=by
  rw [hz1];refine run_firstCells_some w.drew 1 i ⟨g,0,none⟩ i n _ (by simp; omega) fun j v hj=>?_
  rw [Addr.add_lit,Nat.zero_add];rw [←take_rn h7 (Nat.le_of_lt hi),List.getElem?_take] at hj;split at hj
  ·exact Blk.cell (W:=w.drew) hb j hj
  ·cases hj
 obtain ⟨G,hG⟩:∃ G,G=grownCap w (n+1) n 21:=⟨_,rfl⟩
 have hG1:n+1≤G:=hG▸grownCap_ge w _ _ _
 have hG2:G≤9223372036854775807:=by
  have:=grownCap_le_maxLen w (n+1) n 21 (by unfold maxLen; omega);rw [←hG] at this; unfold maxLen at this; omega
 have e3:(n:Int)+1-(i:Int)=((n+1-i:Nat):Int):=by omega
 obtain ⟨zs,hzs⟩:∃ zs:List Value,(⟨zs⟩:Array Value)=((R.take i).map (Value.int .i32)).toArray++Builtin.zeroCells (Value.int .i32 0).cells (n+1-i)++Builtin.zeroCells (Value.int .i32 0).cells (G-(n+1)):=⟨_,rfl⟩
 have hzl:zs.length=G:=by
  have h:=congrArg Array.size hzs;rw [Array.size_append,Array.size_append,size_zeroCells,size_zeroCells] at h;simp [Value.cells] at h
  omega
 have hzt:zs.take i=(R.take i).map (Value.int .i32):=by
  have h:=congrArg Array.toList hzs;rw [Array.toList_append,Array.toList_append] at h
  show (⟨zs⟩:Array Value).toList.take i=_
  rw [h,List.append_assoc,List.take_left' (by simp; omega)]
 have hap:∀ ty,(Builtin.append_ #[79,3] ty #[.slice (some ⟨g,0,none⟩) i n,.int .i64 ((n:Int)+1-(i:Int))]).run Tryz.prog w=.ok (.slice (some ⟨w.heap.size,0,none⟩) (n+1) G) (w.drew.alloc (.cells ⟨zs⟩ 21)):=fun ty=>by
  have h:=Lib.run_append_grow_zeros w 79 3 ty 21 i0 _ .i64 .i64 Tryz.underlying79 Tryz.underlying3 hi0 hz0 (some ⟨g,0,none⟩) i n _ hold (n+1-i) (by omega) (by omega) (by omega) (by omega) (by rw [hz2]; omega) (by rw [hz2,show i+(n+1-i)=n+1 by omega]; exact growslice_fits (by omega) (by omega));rw [show i+(n+1-i)=n+1 by omega,←hG] at h;rw [e3,hzs];exact h
 obtain ⟨W1,hW1⟩:∃ W1,W1=w.drew.alloc (.cells ⟨zs⟩ 21):=⟨_,rfl⟩
 obtain ⟨H,hH⟩:∃ H,H=w.heap.size:=⟨_,rfl⟩
 have hgl:=hb.lt;have hvl:=hv.lt;have hb1:Blk W1 H zs 21:=by rw [hW1,hH]; exact Blk.start w.drew zs _
 have hg1:Blk W1 g cur 21:=by rw [hW1]; exact Blk.alloc (W:=w.drew) hb _
 have hv1:Blk W1 b [.int .i32 ch] 21:=by rw [hW1]; exact Blk.alloc (W:=w.drew) hv _
 have c2:∀ ty dc,(Builtin.copy_ #[79,79] ty #[.slice (some ⟨H,i,none⟩) (n+1-i) dc,.slice (some ⟨b,0,none⟩) 1 1]).run Tryz.prog W1=.ok (goInt ([Value.int .i32 ch].length:Nat)) (W1.setCells H i [.int .i32 ch]):=fun ty dc=>
  run_copy_cells W1 79 79 ty 21 H i (n+1-i) dc ⟨b,0,none⟩ 1 1 [.int .i32 ch] Tryz.underlying79 (by kernel_rfl) (by simp only [Nat.min_def,List.length_singleton]; split <;> omega)
   (fun j v hj=>by rw [Addr.add_lit,Nat.zero_add]; exact hv1.cell j hj)
   (fun j hj=>blk_some hb1 _ (by rw [hzl]; rw [List.length_singleton] at hj; omega)) (fun j hj=>hb1.free _) (rn_one [ch])
 obtain ⟨W2,hW2⟩:∃ W2,W2=W1.setCells H i [.int .i32 ch]:=⟨_,rfl⟩
 have hb2:Blk W2 H (zs.take i++[.int .i32 ch]++zs.drop (i+1)) 21:=hW2▸blk_cells [.int .i32 ch] zs i W1 hb1 (by rw [hzl,List.length_singleton]; omega)
 have hg2:Blk W2 g cur 21:=by
  unfold Blk; rw [hW2,World.heap_setCells_other W1 H i _ hg1.lt (by omega)]; exact hg1
 have hl2:(zs.take i++[Value.int .i32 ch]++zs.drop (i+1)).length=G:=by simp; omega
 have c1:∀ ty dc sc,(Builtin.copy_ #[79,79] ty #[.slice (some ⟨H,i+1,none⟩) (n+1-(i+1)) dc,.slice (some ⟨g,i,none⟩) (n-i) sc]).run Tryz.prog W2.drew=.ok (goInt cs.length) (W2.drew.setCells H (i+1) cs):=fun ty dc sc=>
  run_copy_cells W2.drew 79 79 ty 21 H (i+1) (n+1-(i+1)) dc ⟨g,i,none⟩ (n-i) sc cs Tryz.underlying79 (by kernel_rfl) (by rw [hcl]; simp only [Nat.min_def]; split <;> omega)
   (fun j v hj=>by rw [Addr.add_lit]; rw [hcs] at hj; exact rn_cell (W:=W2.drew) hg2 h7 i j v hj)
   (fun j hj=>blk_some (W:=W2.drew) hb2 _ (by omega)) (fun j hj=>Blk.free (W:=W2.drew) hb2 _) (by rw [hcs]; exact rn_one _)
 have hF:RO B (W2.drew.setCells H (i+1) cs) (.slice (some ⟨H,0,none⟩) (n+1) G) (R.take i++ch::R.drop i):=by
  have hlen:(R.take i++ch::R.drop i).length=n+1:=by simp; omega
  have h2:=blk_cells cs _ (i+1) W2.drew hb2 (by omega);have h3:=RO.of (B:=B) (g:=H) (R:=R.take i++ch::R.drop i) (cap:=G) (by omega) h2 (by omega) hG2 (by rw [List.length_append,List.length_append,List.length_take,List.length_drop,hl2]; omega) (by
   rw [hlen,show n+1=i+1+cs.length by omega,mid1 (by omega),hzt,hcs]
   simp)
  rwa [hlen] at h3
 have hbl:Below B w w→Below B w (W2.drew.setCells H (i+1) cs):=fun h=>bel_cells (by omega) _ _ (Below.drew (hW2▸bel_cells (by omega) _ i (hW1▸h.drew.alloc hB _)))
 have e1:((i+1:Nat):Int)=(i:Int)+1:=by omega
 have s1:=fun W=>slice_tail (P:=Tryz.prog) (e:=1) Tryz.underlying79 rfl (some ⟨g,0,none⟩) n n i (by omega) W
 have s2:=fun W=>slice_head (P:=Tryz.prog) (e:=1) Tryz.underlying79 rfl (some ⟨g,0,none⟩) n n i (by omega) W
 have s3:=fun W=>slice_tail (P:=Tryz.prog) (e:=1) Tryz.underlying79 rfl (some ⟨H,0,none⟩) (n+1) G (i+1) (by omega) W
 have s4:=fun W=>slice_tail (P:=Tryz.prog) (e:=1) Tryz.underlying79 rfl (some ⟨H,0,none⟩) (n+1) G i (by omega) W
 rw [htl g n i (by omega)] at s1;rw [htl H G i (by omega)] at s4;rw [htl H G (i+1) (by omega),e1] at s3;have w1:IntKind.i64.wrap ((i:Int)+1)=(i:Int)+1:=IntWalk.i64_in _ (by omega);have w2:IntKind.i64.wrap ((n:Int)+1)=(n:Int)+1:=IntWalk.i64_in _ (by omega);have w3:IntKind.i64.wrap ((n:Int)+1-(i:Int))=(n:Int)+1-(i:Int):=IntWalk.i64_in _ (by omega);have t1:¬ ((i:Int)=(n:Int)):=by omega
 have t2:(n:Int)<(n:Int)+1:=by omega
 rw [←hW1,←hH] at hap;rw [←hW2] at c2;have HC1:=Lh c1;have HF:=Lh (And.intro hF hbl);rw [←hn];clear hcs hcl htl c1 hb1 hv1 hF hbl e1 hW1 hW2 hn hi h7 hb hv hH hgl hvl hg1 hg2 hb2 hl2 hzs hzl hzt hold hi0 hz0 hz1 hz2 hG e3;have HAP:=Lh hap;have HC2:=Lh c2;clear hap c2
 go_enter Tryz.func45,Tryz.ntmps45
 go_wp2_with (at_builtin; refine wpl_app2 rfl rfl rfl rfl (HAP.out _) ?_; refine Hid.out ?_)
 have c2:=HC2.out;clear HC2 HAP s2 w3;refine Lh ?_;go_wp2_with fail
 refine rgH (fun _=>True) trivial fun hH=>?_
 refine tq 0 (.slice (some ⟨H,0,none⟩) (n+1) G) hH ?_;refine tq 1 (.int .i64 (i:Int)) hH ?_;refine tq 2 (.int .i64 1) hH ?_;refine tq 3 (.int .i64 ((i:Int)+1)) hH ?_;refine tq 4 (.slice (some ⟨H,i+1,none⟩) (n+1-(i+1)) (G-(i+1))) hH ?_;refine tq 5 (.slice (some ⟨g,0,none⟩) n n) hH ?_;refine tq 6 (.int .i64 (i:Int)) hH ?_;refine tq 7 (.slice (some ⟨g,i,none⟩) (n-i) (n-i)) hH ?_;refine rd1 8 (by kernel_rfl) rfl fun K hK=>?_
 rw [if_pos (by rfl)];refine wp_cpy2 rfl rfl rfl (HC1.out _ _ _) ?_;refine hK.out _ _ trivial (fun hH2=>?_)
 try simp only [LAY]
 refine dnH ?_;clear hK K hH c2 s1 s3 s4;go_wp2_with fail
 go_ret
 exact ⟨⟨_,rfl,HF.out.1⟩,HF.out.2⟩
theorem sins_any {B:Nat} {w:World} {v:Value} {R:List Int} (h:RO B w v R) (i:Nat) (hi:i≤R.length) (hl:R.length≤5000) (ch:Int) (b:Nat) (hv:Blk w b [.int .i32 ch] 21) (hne:∀ g,v.ownBlock=some g→g≠b) (hB:B≤w.heap.size):
  Calls Tryz.prog 45 #[v,.int .i64 (i:Int),.slice (some ⟨b,0,none⟩) 1 1] w fun e w'=>(∃ v',e=.returned v'∧RO B w' v' (R.take i++ch::R.drop i))∧(Below B w w→Below B w w'):=by
 by_cases hin:i=R.length
 ·subst hin
  rw [List.take_length,List.drop_length];exact sins_end h ch b hv hl hB
 ·obtain ⟨rfl,rfl⟩ | ⟨g,cap,cur,rfl,hg,hb,h4,h5,h6,h7⟩:=h.form
  ·exact absurd (by simpa using hi) hin
  ·by_cases hr:R.length+1≤cap
   ·exact sins_room hg hb h5 h6 h7 i (by omega) hr ch b hv (fun e=>hne g rfl e.symm)
   ·obtain rfl:cap=R.length:=by omega
    exact sins_grow hb h7 i (by omega) hl ch b hv hB
end Go.Proofs.YtkmcoineknbgcaaGreatDoor
