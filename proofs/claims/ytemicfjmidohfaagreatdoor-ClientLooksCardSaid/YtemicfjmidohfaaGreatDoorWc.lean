import Derived.Test.YtemicfjmidohfaaGreatDoorWb
import Derived.Maps.RangeWalk
import Derived.Laws.IdiomRangeMap
import Derived.Deep.AppendSrc
set_option maxRecDepth 100000
set_option maxHeartbeats 12800000
namespace Go.Proofs.YtemicfjmidohfaaGreatDoor
open Go Go.Proofs Go.RowKit
variable {X:Nat→Prop} {w W W':World} {d:Nat} {cs ds es zs:List Value} {b b':Brd}
abbrev CPF:FuncId:=71
abbrev slF (l:List (Int×Ans)) (i:Int):Value:=ansC ((slotA l i).getD ⟨0,0,⟨#[]⟩⟩)
abbrev slK (l:List (Int×Ans)) (i:Int):Bool:=(slotA l i).isSome
theorem slF_no {l:List (Int×Ans)} {i:Int} (h:slK l i=false):slF l i=zRs:=by
 unfold slK at h; unfold slF
 cases e:slotA l i with
 | none=>rfl
 | some x=>rw [e] at h; cases h
theorem MapI.mono {P:Program} {kt:TypeId} {g n k:Nat} {z:Value} {F:Int→Value} {K:Int→Bool} (h:MapI P kt g n z F K W) (hn:n≤k):MapI P kt g k z F K W:=by
 obtain ⟨D,h,ha⟩:=h; exact ⟨D,h.mono hn,ha⟩
theorem MapI.put' {P:Program} {kt t e:TypeId} {g n:Nat} {z:Value} {F:Int→Value} {K:Int→Bool} (h:MapI P kt g n z F K W) (hk:P.underlying kt=some (.int .i64)) (ht:P.underlying t=some (.map kt e)) (hn:n≤1000000) {i:Int} (hi:(Lit.int .i64 i).wf=true) (v:Value):
  ∃ W',(Instr.mapUpdate t (.map (some g)) i v).run P W=.ok () W'∧MapI P kt g (if K i=true then n else n+1) z (fun j=>if j=i then v else F j) (fun j=>if j=i then true else K j) W'∧W.grownBy W' (some g):=by
 obtain ⟨D,h,ha⟩:=h;obtain ⟨W',hr,ho,hg⟩:=h.update (d:=.held v) (ps:=[]) (Maps.int_keyed hk) ht (by unfold maxLen; omega) (keyI hk hi) rfl;have hK:=(Maps.int_keyed hk).key (keyI hk hi);have hs:=Maps.size_put (k:=Lit.int .i64 i) (h.tidy (Maps.int_keyed hk)) (.held v);have hd:=h.size_le;rw [(ha i).2] at hs;obtain ⟨es,clock,hb,Ft,_,hD⟩:=ho;refine ⟨W',hr,⟨_,⟨es,clock,hb,Ft,?_,hD⟩,fun j=>?_⟩,hg⟩
 ·have e1:Maps.size (D.put (Lit.int .i64 i) (.held v))=es.size:=by rw [hD]; simp [Maps.size,length_sorted]
  rw [←e1,hs]; split <;> omega
 ·show _=DataW.held (if j=i then v else F j)∧_=(if j=i then true else K j)
  by_cases e:j=i
  ·subst e; rw [if_pos rfl,if_pos rfl]; exact ⟨Maps.atKey_put_same h.isMap hK _ _,Maps.has_put_same h.isMap hK _⟩
  ·have hne:Lit.int .i64 j≠Lit.int .i64 i:=by simpa using e
   rw [if_neg e,if_neg e,Maps.atKey_put_other hne,Maps.has_put_other hne]; exact ha j
theorem grw (h:Below W.heap.size W W'):W.grownBy W' none:=⟨h.os,h.tape,h.output,h.size,fun i hi _=>h.block i hi⟩
def Cpd (l:List (Int×Ans)) (g:Nat) (left:Lit→Bool) (k:Nat) (W:World):Prop:=MapI Tryz.prog 3 g k zRs (fun i=>if (slK l i && !left (Lit.int .i64 i))=true then slF l i else zRs) (fun i=>slK l i && !left (Lit.int .i64 i)) W
theorem copy_any (g m:Nat) (v:Value) (l:List (Int×Ans)) (w:World) (hm:m≤100000) (hs:IsMs X w v l m) (hX:v≠.map (some g)) (hd:MapI Tryz.prog 3 g 0 zRs (fun _=>zRs) (fun _=>false) w):
  Calls Tryz.prog CPF #[.map (some g),v] w fun e w'=>e=.returned (.tuple #[])∧MapI Tryz.prog 3 g m zRs (slF l) (slK l) w'∧w.grownBy w' (some g):=by
 have hz:=Tryz.underlying3;rcases hs with ⟨rfl,rfl⟩ | ⟨bs,ns,rfl,_,hns,D,hs,ha⟩
 ·have hrg:=run_range_nilMap (P:=Tryz.prog) w MST 3 RST Tryz.underlying46
  have hnx:∀ ty,(Instr.next (.pointer (some ⟨w.heap.size,0,none⟩)) false ty).run Tryz.prog (w.alloc (.mapIter none 0 #[] 0))=_:=fun ty=>run_next_nilMap _ ty 0 0 #[]
  have HD:=Lh (And.intro ((hd.next (bA (o:=.mapIter none 0 #[] 0))).mono (Nat.zero_le m)) (World.grownBy_alloc w (.mapIter none 0 #[] 0) (some g)));clear hd hX
  go_enter Tryz.func71,Tryz.ntmps71
  go_wp2
  refine wp_loop_rounds 1 ?_;rw [rounds_succ]
  go_wp2
  go_end0
  exact ⟨rfl,HD.out⟩
 ·have hne:g≠bs:=fun e=>hX (by rw [e])
  have hbs:=hs.lt;have HD:=Lh (show Cpd l g (Maps.has D) 0 w from by
   have e:(fun i=>slK l i && !Maps.has D (Lit.int .i64 i))=fun _=>false:=funext fun i=>by
    have h:=(ha i).2
    show (slK l i && !Maps.has D (Lit.int .i64 i))=false
    rw [h]; show (slK l i && !slK l i)=false
    cases slK l i <;> rfl
   have e2:(fun i=>if (slK l i && !Maps.has D (Lit.int .i64 i))=true then slF l i else zRs)=fun _=>zRs:=funext fun i=>by rw [congrFun e i]; rfl
   unfold Cpd; rw [e2,e]; exact hd)
  have HA:=Lh ha;have hgl:=hd.lt;clear hd hX ha
  go_enter Tryz.func71,Tryz.ntmps71
  go_wp2_with (at_range; refine wpList_range_own _ rfl _ MST rfl 3 RST (Maps.int_keyed hz) Tryz.underlying46 heldR bs ns D rfl hs ?_; intro w0 hrg0 hg0 hs0)
  have HS:=Lh (show Cpd l g (Maps.has D) 0 w0 from (show MapI _ _ _ _ _ _ _ _ from HD.out).stay (hg0.block g hgl (by simp)));have HG:=Lh (hg0.but (some g))
  go_loopw [4,5,8] (fun _ _ _ wr=>∃ (left:Lit→Bool) (cnt k:Nat),wr.ranges Tryz.prog 3 heldR bs w.heap.size ns D left cnt∧k+cnt≤Maps.size D∧Cpd l g left k wr∧w.grownBy wr (some g))
   (fun _ _ _ wr=>wr.rangeLeft bs w.heap.size)
  case atStart=>exact ⟨_,_,0,hrg0,by omega,HS.out,HG.out⟩
  case round=>
   obtain ⟨left,cnt,k,hrg,hcs,hM,hgw⟩:=hrel;have hbl:=hrg.lt;go_wp2_with (at_next; refine wpList_next_ranges _ rfl _ rfl 3 (Maps.int_keyed hz) heldR (Value.int .i64) id (fun key kl h=>by obtain ⟨x,e,_⟩:=Maps.keyOf_int_inv hz h; exact ⟨x,e⟩) (fun v _ _=>⟨v,rfl⟩) bs w.heap.size ns _ _ _ rfl hrg ?_ ?_)
   ·intro hc0 hl0
    have HX:=Lh (show MapI Tryz.prog 3 g m zRs (slF l) (slK l) wr∧w.grownBy wr (some g) from ⟨by
     have e:(fun i=>slK l i && !left (Lit.int .i64 i))=slK l:=funext fun i=>by rw [hl0]; simp
     have e2:(fun i=>if (slK l i && !left (Lit.int .i64 i))=true then slF l i else zRs)=slF l:=funext fun i=>by
      rw [congrFun e i]
      cases h:slK l i with
      | true=>rfl
      | false=>rw [slF_no h]; rfl
     unfold Cpd at hM; rw [e2,e] at hM
     exact hM.mono (by have:=hs.size_le; omega),hgw⟩)
    clear hM hgw hrg
    go_wp2
    go_end0
    exact ⟨rfl,HX.out⟩
   ·intro x c kl yd yp w1 cnt1 hkey hlx hv hat hrg1 hlt hg1 hs1 hen
    obtain ⟨x',e,rfl,hwf⟩:=Maps.keyOf_int_inv hz hkey;obtain rfl:x=x':=by cases e; rfl
    clear e;obtain rfl:yd=.held c:=by cases hv; rfl
    have hks:slK l x=true:=(HA.out x).2.symm.trans (Maps.has_true_of_atKey hat);obtain ⟨a,ha⟩:∃ a,slF l x=ansC a:=⟨_,rfl⟩
    obtain rfl:c=ansC a:=by have h1:=(HA.out x).1; rw [hat] at h1; rw [←ha]; exact DataW.held.inj h1
    have hM1:Cpd l g left k w1:=(show MapI _ _ _ _ _ _ _ _ from hM).stay (hg1.block g (by have:=hgw.size; omega) (by intro e; cases e; omega));have hgw1:=hgw.andThen hg1 (fun j hj=>.inl (by cases hj; exact Nat.le_refl _));have HM:=Lh (And.intro hM1 (And.intro hgw1 (And.intro hrg1 (And.intro hlt (And.intro hks ha)))));have HC:=Lh hcs;obtain ⟨ae,an,at_⟩:=a;have hen2:(Instr.entry (.pointer (some ⟨w.heap.size,0,none⟩))).run Tryz.prog w1=.ok (.tuple #[x,.agg #[ae,an,.string at_]]) w1:=hen;clear hM hM1 hgw hgw1 hrg1 hen hkey hlx hv hat hg1 hks ha hlt hs1;have HB:=Lh (And.intro (Blk.start w1 [.int .i64 0,.int .i64 0,.string ⟨#[]⟩] RST) (bA (w:=w1) (o:=.cells ⟨[.int .i64 0,.int .i64 0,.string ⟨#[]⟩]⟩ RST)))
    go_upto_region 3 with (refine kst (n:=3) HB.out.1 rfl rfl (rs_one ⟨ae,an,at_⟩) (fun w2 hw2=>?_))
    have H2:=Lh (show Blk w2 w1.heap.size [ae,an,.string at_] RST∧Below w1.heap.size w1 w2 from by rw [hw2.out]; exact ⟨setN_all HB.out.1 rfl,setN_below (Nat.le_refl _) _ _ HB.out.2⟩);have hM2:=(show MapI _ _ _ _ _ _ _ _ from HM.out.1).next H2.out.2;obtain ⟨w3,hput,hM3,hg3⟩:=hM2.put (t:=MST) (e:=RST) hz Tryz.underlying46 (by have:=HC.out; have:=hs.size_le; omega) hwf (.agg #[ae,an,.string at_]);have HM3:=Lh (And.intro hM3 hg3);clear hM2 hM3 hg3 hw2 HB hen2;go_wp2_with (refine kld (n:=3) H2.out.1 rfl ?_)
    have hgw3:=(HM.out.2.1.andThen (grw H2.out.2) (fun j hj=>by cases hj)).andThen HM3.out.2 (fun j hj=>.inr hj);have hrg3:=(HM.out.2.2.1.kept (grw H2.out.2) (by simp) (by simp)).kept HM3.out.2 (fun e=>hne (Option.some.inj e).symm) (fun e=>by have:=Option.some.inj e; omega)
    go_roundw
    case rel=>
     refine ⟨_,cnt1,k+1,hrg3,by have:=HM.out.2.2.2.1; omega,?_,hgw3⟩;have hsk:∀ j:Int,(Lit.int .i64 j).sameKey (Lit.int .i64 x)=decide (j=x):=fun j=>by simp [Lit.sameKey]
     have e:(fun j=>slK l j && !(left (Lit.int .i64 j) && !(Lit.int .i64 j).sameKey (Lit.int .i64 x)))=fun j=>if j=x then true else slK l j && !left (Lit.int .i64 j):=funext fun j=>by
      rw [hsk];by_cases h:j=x
      ·subst h; rw [HM.out.2.2.2.2.1]; simp
      ·simp [h]
     have e2:(fun j=>if (slK l j && !(left (Lit.int .i64 j) && !(Lit.int .i64 j).sameKey (Lit.int .i64 x)))=true then slF l j else zRs)=fun j=>if j=x then .agg #[ae,an,.string at_] else if (slK l j && !left (Lit.int .i64 j))=true then slF l j else zRs:=funext fun j=>by
      rw [congrFun e j];by_cases h:j=x
      ·subst h; rw [if_pos rfl,if_pos rfl,if_pos rfl]; exact HM.out.2.2.2.2.2
      ·rw [if_neg h,if_neg h]
     unfold Cpd; rw [e2,e]; exact HM3.out.1
    case measure=>rw [hrg3.left_eq,hrg.left_eq]; exact HM.out.2.2.2.1
end Go.Proofs.YtemicfjmidohfaaGreatDoor
set_option maxRecDepth 100000
set_option maxHeartbeats 12800000
namespace Go.Proofs.YtemicfjmidohfaaGreatDoor
open Go Go.Proofs Go.RowKit
variable {X:Nat→Prop} {w W W':World} {d:Nat} {cs ds es zs:List Value} {b b':Brd}
theorem IsMs.len {v:Value} {l:List (Int×Ans)} {n:Nat} (h:IsMs X W v l n):∃ N:Nat,N≤n∧∀ ty,(Builtin.len_ #[MST] ty #[v]).run Tryz.prog W=.ok (.int .i64 (N:Int)) W:=by
 rcases h with ⟨rfl,rfl⟩ | ⟨g,m,rfl,_,hm,D,h,_⟩
 ·exact ⟨0,Nat.zero_le _,fun _=>by kernel_rfl⟩
 ·exact ⟨_,Nat.le_trans h.size_le hm,fun ty=>h.len Tryz.underlying46 ty⟩
theorem mk_map (W:World) (n:Nat) (_:n≤100000):(Instr.makeMap MST (some (.int .i64 ((n:Int)+1)))).run Tryz.prog W=.ok (.map (some W.heap.size)) (W.alloc (.map #[] 0)):=by
 simp [Instr.makeMap,run_underlying Tryz.underlying46,asInt,asIntOf]
theorem IsMs.apart {v:Value} {l:List (Int×Ans)} {n:Nat} (h:IsMs X W v l n):v≠.map (some W.heap.size):=by
 rcases h with ⟨rfl,_⟩ | ⟨g,m,rfl,_,_,h⟩
 ·intro e; cases e
 ·intro e; cases e; exact absurd h.lt (Nat.lt_irrefl _)
theorem slotPn:∀ (l:List (Int×Ans)) (k:Int) (x:Ans),(slotP l k x).length=if slK l k=true then l.length else l.length+1
 | [],k,x=>by simp [slotP,slK,slotA]
 | (i,y)::l,k,x=>by
  by_cases h:i=k
  ·subst h; simp [slotP,slK,slotA]
  ·have ih:=slotPn l k x
   have e:slK ((i,y)::l) k=slK l k:=by simp [slK,slotA,h]
   rw [e]; simp only [slotP,if_neg h,List.length_cons,ih]; split <;> rfl
theorem fill_ok (b:Brd) (t k:Int) (x:Ans) (h0:0≤k) (h1:k≤800):BCall 19 [k,ansC x] b (fillB b t k x) t fun v=>v:=by
 intro n X cs w hO hn hI hX t0 t1
 obtain ⟨mv,hmv,hms⟩:=hI.ms;have hsl:b.sl.length≤1000:=Nat.le_trans hO.sl hn;have HP:=Lh (And.intro hI (And.intro hmv (And.intro hms (And.intro (show b.tr.length≤900000 from by have:=hO.tr; omega) (And.intro hX hsl)))));have HL:=Lh hI.len;have HS:=Lh (fun W=>slot_any k W h0 h1);obtain ⟨xe,xn,xt⟩:=x;clear hO hn hI hX t0 t1 hmv hms hsl
 show Calls Tryz.prog 19 #[.agg cs.toArray,t,k,.agg #[xe,xn,.string xt]] w _
 go_enter Tryz.func19,Tryz.ntmps19
 go_upto_region 1 with fail
 generalize hW2:World.alloc (World.alloc (World.alloc w _) _) _=W2;have H2:=Lh (show Bs X w 2 cs b W2∧Blk W2 (w.heap.size+1) [xe,xn,.string xt] RST from by
  rw [←hW2];have h:=Bq.start2 (T:=BDT) w cs zBd [xe,xn,.string xt] RST;exact ⟨Bs.of h.1 rfl (HP.out.1.next h.1.bel),h.2⟩)
 clear hW2
 go_upto_region 3 with (go_at_call 70; refine (HS.out _).mono ?_; rintro e w3 ⟨rfl,hb3⟩; have H3:=Lh (And.intro (H2.out.1.next hb3) (H2.out.2.next hb3)); clear hb3 H2 HS)
 have HM:=Lh (HP.out.2.2.1.next H3.out.1.bel);obtain ⟨N,hN,hlen⟩:=HM.out.len;have hNs:N≤1000:=Nat.le_trans hN HP.out.2.2.2.2.2;have hmm:=mk_map w3 N (by omega);have q47:=H3.out.1.b0.cell 47 HP.out.2.1;clear hN
 go_upto_region 4 with fail
 have HM4:=Lh (show IsMs X (w3.alloc (.map #[] 0)) mv b.sl b.sl.length∧MapI Tryz.prog 3 w3.heap.size 0 zRs (fun _=>zRs) (fun _=>false) (w3.alloc (.map #[] 0)) from ⟨HM.out.next bA,MapI.start w3⟩);have HMA:=Lh HM.out.apart;have q47':=(H3.out.1.next (bA (o:=.map #[] 0))).b0.cell 47 HP.out.2.1;clear hlen hmm q47 HM hNs
 go_upto_region 5 with (go_at_call 71; refine (copy_any w3.heap.size b.sl.length mv b.sl _ (by have:=HP.out.2.2.2.2.2; omega) HM4.out.1 HMA.out HM4.out.2).mono ?_; rintro e w5 ⟨rfl,hM5,hg5⟩; have H5:=Lh (And.intro hM5 hg5); clear hM5 hg5 HM4)
 have hb5:Below w3.heap.size w3 w5:=bA.trans (Below.of_grown (B:=w3.heap.size) H5.out.2 (by simp) (fun j e=>by cases e; exact Nat.le_refl _));obtain ⟨w6,hput,hM6,hg6⟩:=H5.out.1.put' (t:=MST) (e:=RST) Tryz.underlying3 Tryz.underlying46 (by have:=HP.out.2.2.2.2.2; omega) (i:=k) (by simp [Lit.wf]; exact ⟨show (-9223372036854775808:Int)≤k by omega,show k≤(9223372036854775807:Int) by omega⟩) (.agg #[xe,xn,.string xt]);have hb6:Below w3.heap.size w3 w6:=hb5.trans (Below.of_grown (B:=w3.heap.size) hg6 (by have:=hb5.size; omega) (fun j e=>by cases e; exact Nat.le_refl _));have HX:=Lh (H3.out.2.next hb5);have H6:=Lh (H3.out.1.next hb6);have HM6:=Lh (show IsMs X w6 (.map (some w3.heap.size)) (slotP b.sl k ⟨xe,xn,xt⟩) (slotP b.sl k ⟨xe,xn,xt⟩).length from .inr ⟨_,_,rfl,fun hx=>by have:=HP.out.2.2.2.2.1 _ hx; have:=H3.out.1.bel.size; omega,by rw [slotPn]; exact Nat.le_refl _,by
  have e:slF (slotP b.sl k ⟨xe,xn,xt⟩)=fun j=>if j=k then .agg #[xe,xn,.string xt] else slF b.sl j:=funext fun j=>by
   unfold slF; rw [slot_put]; split <;> rfl
  have e2:slK (slotP b.sl k ⟨xe,xn,xt⟩)=fun j=>if j=k then true else slK b.sl j:=funext fun j=>by
   unfold slK; rw [slot_put]; split <;> rfl
  show MapI _ _ _ _ _ (slF (slotP b.sl k ⟨xe,xn,xt⟩)) (slK (slotP b.sl k ⟨xe,xn,xt⟩)) _
  rw [e,e2]; exact hM6⟩)
 clear hM6 hg6 hb5 hb6 H5 q47' HMA
 go_upto_region 6 with (refine kld (n:=3) HX.out rfl ?_)
 have q47:=H6.out.b0.cell 47 HP.out.2.1;have f47:=H6.out.b0.free 47;clear hput H3;generalize w3.heap.size=g at *
 go_upto_region 7 with fail
 have H7:=Lh (H6.out.put (b':={ b with sl:=slotP b.sl k ⟨xe,xn,xt⟩ }) 47 (.map (some g)) (H6.out.ib.plain (by decide) rfl rfl ⟨(get_off (by decide)).trans H6.out.ib.pl.2.1,(get_off (by decide)).trans H6.out.ib.pl.2.2.1,(get_off (by decide)).trans H6.out.ib.pl.2.2.2.1,(get_off (by decide)).trans H6.out.ib.pl.2.2.2.2⟩ (by decide) rfl ⟨_,List.getElem?_set_self (by rw [HL.out]; decide),HM6.out⟩ ⟨by decide,rfl⟩));clear q47 f47 H6 HM6 HX;generalize w6.setCell ⟨w.heap.size,47,none⟩ (.map (some g))=w7 at *
 obtain ⟨ds,hds⟩:∃ ds,cs.set 47 (.map (some g))=ds:=⟨_,rfl⟩
 rw [hds] at H7;clear hds;refine rgH (Bt X w 2 ds { b with sl:=slotP b.sl k ⟨xe,xn,xt⟩ } fun _=>True) ⟨H7.out.next bdq,trivial⟩ fun hH=>?_
 clear H7;refine tq 0 (.agg ds.toArray) hH ?_ (hy:=fun W h=>kly h.1.b0 h.1.ib.len);refine ta 1 hH ?_;refine ta 2 hH ?_;refine tq 3 (.int .i64 (100+k)) hH ?_ (hy:=fun W h=>by go_simp; exact IntWalk.i64_in _ (by omega));refine ta 5 hH ?_;refine tq 6 (.int .i64 (3000+k)) hH ?_ (hy:=fun W h=>by go_simp; exact IntWalk.i64_in _ (by omega));refine rA (l:=100+k) 4 wr_any hH (Bt.next tru) (fun w8 _ hH=>?_);refine rA (l:=3000+k) 7 rel_any hH (Bt.next tru) (fun w8 _ hH=>?_);refine rTl (t:=t) 8 9 10 [⟨0,1,100+k⟩,⟨0,3,3000+k⟩] hH HP.out.2.2.2.1 (fun w9 es hH hB hI=>?_) (lo2 (by omega) (lo1 (by omega)));simp only [LAY]
 refine dnH ?_;go_wp2_with fail
 exact bodyPost_ret (res_c (n:=nBd) hB hI.len) rfl ⟨hH.1.bel,es,rfl,hI⟩
end Go.Proofs.YtemicfjmidohfaaGreatDoor
set_option maxRecDepth 100000
namespace Go.Proofs.YtemicfjmidohfaaGreatDoor
open Go Go.Proofs Go.RowKit
variable {X:Nat→Prop} {w W W':World} {d:Nat} {cs ds es zs:List Value} {b b':Brd}
abbrev ENS:TypeId:=24
theorem entL_one (e:QEn):∀ u∈entL e,u.oneCell'=true:=by
 intro u hu
 simp only [entL,calL,List.cons_append,List.nil_append,List.mem_cons,List.not_mem_nil,or_false] at hu
 rcases hu with rfl | rfl | rfl | rfl | rfl | rfl | rfl | rfl | rfl | rfl | rfl | rfl | rfl <;> rfl
theorem so_app {l:List QEn} {e:QEn} {a:Option Addr} {cap g n:Nat} (h:So X ENT 13 entL W (.slice a n cap) l) (hn:l.length=n) (hl:n≤1000) (hB:Blk W g (entL e) ENT):∃ c w',(∀ ty,(Builtin.append_ #[ENS,ENS] ty #[.slice a n n,.slice (some ⟨g,0,none⟩) 1 1]).run Tryz.prog W=.ok (.slice (some ⟨W.heap.size,0,none⟩) (n+1) c) w')∧Below W.heap.size W w'∧Sl ENT 13 entL w' (.slice (some ⟨W.heap.size,0,none⟩) (n+1) c) (l++[e]):=by
 obtain ⟨i,z,hi,hz,hs,hby,hzs⟩:=info_ex (P:=Tryz.prog) (e:=ENT) (z:=.agg #[.int .i64 0,.int .i64 0,.int .i64 0,.int .i64 0,.int .i32 0,.int .i64 0,.int .i64 0,.int .i64 0,.int .i64 0,.int .i64 0,.int .i32 0,.int .i64 0,.int .i64 0]) (m:=13) (bs:=104) (by kernel_rfl) rfl;have hf:∀ x,(entL x).length=13:=fun _=>rfl
 have hold:(Builtin.firstCells i.size n (.slice a n n)).run Tryz.prog W.drew=.ok (l.flatMap entL).toArray W.drew:=by
  rcases h with ⟨h1,rfl⟩ | ⟨g',off,cap',cur,h1,hg,_,_,_,h4⟩
  ·simp only [Value.slice.injEq] at h1
   obtain ⟨rfl,rfl,_⟩:=h1;exact run_firstCells_none W.drew i.size 0 0 0
  ·simp only [Value.slice.injEq] at h1
   obtain ⟨rfl,_,rfl⟩:=h1;refine run_firstCells_some W.drew i.size n ⟨g',off,none⟩ n n (l.flatMap entL) (by rw [flat_len hf,hn,hs]) fun j v hv=>?_
   have hj:j<l.length * 13:=by rw [←flat_len hf]; exact (List.getElem?_eq_some_iff.1 hv).1
   have hd:j=j / 13 * 13+j % 13:=by rw [Nat.mul_comm]; exact (Nat.div_add_mod j 13).symm
   have hq:j / 13<l.length:=by rw [Nat.div_lt_iff_lt_mul (by decide)]; exact hj
   rw [hd,flat_at hf l _ _ hq (Nat.mod_lt _ (by decide)),←h4 _ hq _ (Nat.mod_lt _ (by decide)),Nat.add_assoc,←hd] at hv;have h5:=hg.cell _ hv;rw [Addr.add_mid]
   simpa using h5
 have hsrc:Src Tryz.prog i.size ENS (.slice (some ⟨g,0,none⟩) 1 1) 1 (entL e) W:=by
  rw [hs];exact Src.ofSlice W Tryz.underlying24 ⟨g,0,none⟩ 1 1 (entL e) rfl (fun j u hu=>by rw [Addr.add_mid,Nat.zero_add]; exact hB.cell j hu) (entL_one e)
 have hrun:=fun ty=>run_append_grow_src (P:=Tryz.prog) W ENS ENS ty ENT i z Tryz.underlying24 hi hz a n n (l.flatMap entL) hold _ 1 (entL e) hsrc (by omega) (by omega) (growslice_fits (by omega) (by rw [hby]; omega))
 have hcap:=grownCap_ge W (n+1) n ENT;refine ⟨_,_,hrun,(bdq).alloc (Nat.le_refl _) _,.inr ⟨W.heap.size,_,_,by rw [List.length_append,hn]; rfl,World.alloc_heap_new W.drew _,by rw [List.length_append,hn]; exact hcap,grownCap_le_maxLen W (n+1) n ENT (by unfold maxLen; omega),?_⟩⟩;have hlen:(l.flatMap entL++entL e).length=(n+1) * 13:=by rw [List.length_append,flat_len hf,hn,hf]; omega
 rw [List.length_append,hn,Array.toList_append,show (n+[e].length) * 13=(n+1) * 13 from rfl,←hlen,List.take_left,List.flatMap_append,List.flatMap_cons,List.flatMap_nil,List.append_nil]
theorem clip_any (a:Option Addr) (n cap:Nat) (w:World) (h:n≤cap) (_:n≤1000):Calls Tryz.prog 90 #[.slice a n cap] w fun e w'=>e=.returned (.slice a n n)∧w'=w:=by
 have hc:=fun w=>slice_cut (P:=Tryz.prog) (t:=ENS) (e:=13) Tryz.underlying24 (by kernel_rfl) a n cap n h w
 go_enter Tryz.func90,Tryz.ntmps90
 go_wp2_with fail
 go_ret
 exact ⟨rfl,rfl⟩
end Go.Proofs.YtemicfjmidohfaaGreatDoor
namespace Go.Proofs.YtemicfjmidohfaaGreatDoor
open Go Go.Proofs Go.RowKit
variable {X:Nat→Prop} {w W W':World} {d:Nat} {cs ds es zs:List Value} {b b':Brd}
theorem wp_appP {P:Program} {w:World} {o:Oper} {a:Act} {K:Act→World→Prop} {Q:Exit→Act→World→Prop} {x y:Operand} {t t':TypeId}
  (ho:o.op=.call { callee:=.builtin .append,args := #[x,y],argTypes := #[t,t'] }) {u v v':Value} {w':World} (hx:a.eval x=u) (hy:a.eval y=v)
  (hr:∀ ty,(Builtin.append_ #[t,t'] ty #[u,v]).run P w=.ok v' w') (h:K (a.put o.dst v') w'):o.wp P a w K Q:=by
 unfold Oper.wp execOp
 simp only [ho,resolve,invoke,builtin,Sem.run_bind,Sem.run_pure,Result.andThen_ok,List.map_toArray,List.map_cons,List.map_nil,hx,hy,hr]
 exact h
variable {P:Program} {md:Region.Mode} {ops:Array Oper} {Q:Exit→Act→World→Prop} {S:World→Prop} {fuel:Nat} {L:Array Bool}
theorem rCB {o p:Oper} {a a1 a2 a':Act} {w2:World} {f:FuncId} {args:Array Value} {v u:Value} (i j:Nat) (hC:∀ w,Calls P f args w fun e w'=>e=.returned v∧w'=w) (hS:S w) (hS2:S w2) (h:wpAnyH P md ops Q S fuel ((L.setIfInBounds i true).setIfInBounds j true) a' w2)
  (hr:Region.ready md ops L=[i,j]:=by kernel_rfl) (hr1:Region.ready md ops (L.setIfInBounds i true)=[j]:=by kernel_rfl) (hr2:Region.ready md ops (L.setIfInBounds j true)=[i]:=by kernel_rfl) (hc:(L.setIfInBounds j true).setIfInBounds i true=(L.setIfInBounds i true).setIfInBounds j true:=by kernel_rfl)
  (ho:ops.toList[i]? = some o:=by rfl) (hp:ops.toList[j]? = some p:=by rfl) (hg:o.guard=none:=by rfl) (hg2:p.guard=none:=by rfl)
  (he:∀ w,(execOp a.eval o).run P w=.ok (.enter f args) w:=by intro w; go_simp) (ha1:a.put o.dst v=a1:=by (try simp only [LAY]) <;> rfl) (ha2:a.put p.dst u=a2:=by (try simp only [LAY]) <;> rfl) (he2:∀ w,(execOp a2.eval o).run P w=.ok (.enter f args) w:=by intro w; go_simp)
  (ha3:a1.put p.dst u=a':=by (try simp only [LAY]) <;> rfl) (ha4:a2.put o.dst v=a':=by (try simp only [LAY]) <;> rfl) (hp1:(execOp a.eval p).run P w=.ok (.value u) w2:=by go_simp; rfl) (hp2:(execOp a1.eval p).run P w=.ok (.value u) w2:=by go_simp; rfl):wpAnyH P md ops Q S (fuel+1+1) L a w:=by
 refine wpAnyH_ready hr (by simp) (cons1 ho (fun K hK=>?_) (cons1 hp (fun K hK=>?_) AllReadyH.nil))
 ·rw [if_pos (by simp [Region.wanted,hg])]
  unfold Oper.wp
  rw [he w];refine (hC w).mono fun e w' hR=>?_
  obtain ⟨rfl,rfl⟩:=hR;refine hK.out _ _ hS fun _=>?_
  rw [ha1];refine rd1 j hr1 hp fun K hK=>?_
  rw [if_pos (by simp [Region.wanted,hg2])];unfold Oper.wp
  rw [hp2];exact hK.out _ _ hS2 fun _=>ha3▸h
 ·rw [if_pos (by simp [Region.wanted,hg2])]
  unfold Oper.wp
  rw [hp1];refine hK.out _ _ hS2 fun _=>?_
  rw [ha2];refine rd1 i hr2 ho fun K hK=>?_
  rw [if_pos (by simp [Region.wanted,hg])];unfold Oper.wp
  rw [he2 w2];refine (hC w2).mono fun e w' hR=>?_
  obtain ⟨rfl,rfl⟩:=hR;exact hK.out _ _ hS2 fun _=>ha4▸hc▸h
variable {T:World→Prop} {b:Brd}
theorem rOw {o0 o1 o2 o3 o4:Oper} {a a0 a1 a01:Act} {a12 a3:World→Act} {w:World} {f:FuncId} {k l t:Int} {x y z:Operand} (i0 i1 i2 i3 i4:Nat) (hA:AcP Tryz.prog f k) (hF:Bt X w d ds b T W) (hn:b.tr.length≤900000) (hlo:LocOk [⟨0,k,l⟩]) (hT:∀ W W',T W→Below W.heap.size W W'→T W') (hT2:∀ W es,T W→Bs X w d ds b W→T (setN W (w.heap.size+0) 0 es))
  (h:∀ W1 W' es,Bt X w d es (b.did [⟨t,k,l⟩]) T W'→wpAnyH Tryz.prog md ops Q (fun _=>True) fuel (((((L.setIfInBounds i0 true).setIfInBounds i1 true).setIfInBounds i2 true).setIfInBounds i3 true).setIfInBounds i4 true) ((a3 W1).put o3.dst (.agg es.toArray)) W')
  (hr:Region.ready md ops L=[i0,i1]:=by kernel_rfl) (hr0:Region.ready md ops (L.setIfInBounds i0 true)=[i1]:=by kernel_rfl) (hr01:Region.ready md ops ((L.setIfInBounds i0 true).setIfInBounds i1 true)=[i2]:=by kernel_rfl) (hr1:Region.ready md ops (L.setIfInBounds i1 true)=[i0,i2]:=by kernel_rfl) (hr12:Region.ready md ops ((L.setIfInBounds i1 true).setIfInBounds i2 true)=[i0]:=by kernel_rfl)
  (hr2:Region.ready md ops (((L.setIfInBounds i0 true).setIfInBounds i1 true).setIfInBounds i2 true)=[i3]:=by kernel_rfl) (hr3:Region.ready md ops ((((L.setIfInBounds i0 true).setIfInBounds i1 true).setIfInBounds i2 true).setIfInBounds i3 true)=[i4]:=by kernel_rfl)
  (hc:(L.setIfInBounds i1 true).setIfInBounds i0 true=(L.setIfInBounds i0 true).setIfInBounds i1 true:=by kernel_rfl) (hc2:((L.setIfInBounds i1 true).setIfInBounds i2 true).setIfInBounds i0 true=((L.setIfInBounds i0 true).setIfInBounds i1 true).setIfInBounds i2 true:=by kernel_rfl)
  (ho0:ops.toList[i0]? = some o0:=by rfl) (ho1:ops.toList[i1]? = some o1:=by rfl) (ho2:ops.toList[i2]? = some o2:=by rfl) (ho3:ops.toList[i3]? = some o3:=by rfl) (ho4:ops.toList[i4]? = some o4:=by rfl)
  (hg0:o0.guard=none:=by rfl) (hg1:o1.guard=none:=by rfl) (hg2:o2.guard=none:=by rfl) (hg3:o3.guard=none:=by rfl) (hg4:o4.guard=none:=by rfl) (hd4:o4.dst=none:=by rfl)
  (ha0:a.put o0.dst (.agg ds.toArray)=a0:=by (try simp only [LAY]) <;> rfl) (he1:acE Tryz.prog o1 a f l:=by intro w; go_simp) (ha1:a.put o1.dst (acO k l)=a1:=by (try simp only [LAY]) <;> rfl) (he01:acE Tryz.prog o1 a0 f l:=by intro w; go_simp) (ha01:a0.put o1.dst (acO k l)=a01:=by (try simp only [LAY]) <;> rfl) (ha10:a1.put o0.dst (.agg ds.toArray)=a01:=by (try simp only [LAY]) <;> rfl)
  (he2:∀ W,(execOp a01.eval o2).run Tryz.prog W=.ok (.value (.slice (some ⟨W.heap.size,0,none⟩) 1 1)) (W.alloc (.cells ⟨acL ⟨0,k,l⟩⟩ ACT)):=by intro w; go_simp; rfl) (ha3:∀ W,a01.put o2.dst (.slice (some ⟨W.heap.size,0,none⟩) 1 1)=a3 W:=by intro w; (try simp only [LAY]) <;> rfl)
  (he12:∀ W,(execOp a1.eval o2).run Tryz.prog W=.ok (.value (.slice (some ⟨W.heap.size,0,none⟩) 1 1)) (W.alloc (.cells ⟨acL ⟨0,k,l⟩⟩ ACT)):=by intro w; go_simp; rfl) (ha12:∀ W,a1.put o2.dst (.slice (some ⟨W.heap.size,0,none⟩) 1 1)=a12 W:=by intro w; (try simp only [LAY]) <;> rfl) (ha123:∀ W,(a12 W).put o0.dst (.agg ds.toArray)=a3 W:=by intro w; (try simp only [LAY]) <;> rfl)
  (he3:∀ V W,(execOp (a3 V).eval o3).run Tryz.prog W=.ok (.enter 72 #[.agg ds.toArray,t,.slice (some ⟨V.heap.size,0,none⟩) 1 1]) W:=by intro v w; go_simp)
  (hop:o4.op=.store BDT x y:=by rfl) (hx:∀ V es,((a3 V).put o3.dst (.agg es)).eval x=.pointer (some ⟨w.heap.size,0,none⟩):=by intro v es; rfl) (hy:∀ V es,((a3 V).put o3.dst (.agg es)).eval y=.agg es:=by intro v es; rfl)
  (hz0:o0.op=.load BDT z:=by rfl) (hz:a.eval z=.pointer (some ⟨w.heap.size,0,none⟩):=by rfl) (hz1:a1.eval z=.pointer (some ⟨w.heap.size,0,none⟩):=by rfl) (hz12:∀ V,(a12 V).eval z=.pointer (some ⟨w.heap.size,0,none⟩):=by intro v; rfl):wpAnyH Tryz.prog md ops Q (fun _=>True) (fuel+1+1+1+1+1) L a W:=by
 have hW:∀ {o:Oper} {a:Act},o.guard=none→Region.wanted o (yielded ops a.tmps)=true:=fun h=>by simp [Region.wanted,h]
 have hld:∀ (c:Act) W,c.eval z=.pointer (some ⟨w.heap.size,0,none⟩)→Bt X w d ds b T W→(execOp c.eval o0).run Tryz.prog W=.ok (.value (.agg ds.toArray)) W:=fun c W hc h=>kly h.1.b0 h.1.ib.len hz0 hc
 have hE:∀ W1,Bt X w d ds b T W1→wpAnyH Tryz.prog md ops Q (fun _=>True) (fuel+1+1) (((L.setIfInBounds i0 true).setIfInBounds i1 true).setIfInBounds i2 true) (a3 W1) (W1.alloc (.cells ⟨acL ⟨0,k,l⟩⟩ ACT)):=fun W1 h1=>by
  have h2:=Bt.next hT _ _ h1 (bA (o:=.cells ⟨acL ⟨0,k,l⟩⟩ ACT));refine rd1 i3 hr2 ho3 fun K hK=>?_
  rw [if_pos (hW hg3)];unfold Oper.wp
  rw [he3];refine (told_any b ds t _ [⟨0,k,l⟩] _ h2.1.ib hn (ac_new W1 [⟨0,k,l⟩] (by simp)) (by simp) hlo).mono fun e w2 hR=>?_
  obtain ⟨hb2,es,rfl,hI⟩:=hR;have h3:=Bt.next hT _ _ h2 hb2;refine hK.out _ _ trivial fun _=>?_
  refine rSt 0 i4 hI ⟨_,h3.1.ib.len,h3.1.b0⟩ ⟨trivial,?_⟩ hr3 ho4 hg4 hd4 hop (hx _ _) (hy _ _);obtain ⟨z,hz,hB⟩:=h3.1.b1;exact h W1 _ es ⟨⟨h3.1.dp,setN_below (Nat.le_refl _) _ _ h3.1.bel,setN_all h3.1.b0 (by rw [hI.len,h3.1.ib.len]),⟨z,hz,hB.setN (by have:=h3.1.dp; omega) _ _⟩,hI.setI h3.1.b0 bd_not _ _⟩,hT2 _ _ h3.2 h3.1⟩
 have hS:∀ W1,Bt X w d ds b T W1→wpAnyH Tryz.prog md ops Q (fun _=>True) (fuel+1+1+1) ((L.setIfInBounds i0 true).setIfInBounds i1 true) a01 W1:=fun W1 h1=>rd1 i2 hr01 ho2 fun K hK=>by
  rw [if_pos (hW hg2)];unfold Oper.wp
  rw [he2];exact hK.out _ _ trivial fun _=>by rw [ha3]; exact hE W1 h1
 refine wpAnyH_ready hr (by simp) (cons1 ho0 (fun K hK=>?_) (cons1 ho1 (actB hA trivial (fun _ _ _ _=>trivial) (fun w1 hb _=>?_) hg1 he1 ha1) AllReadyH.nil))
 ·rw [if_pos (hW hg0)]
  unfold Oper.wp
  rw [hld a W hz hF];exact hK.out _ _ trivial fun _=>ha0▸rA i1 hA trivial (fun _ _ _ _=>trivial) (fun w' hb _=>hS w' (Bt.next hT _ _ hF hb)) hr0 ho1 hg1 he01 ha01
 ·have h1:=Bt.next hT _ _ hF hb
  refine wpAnyH_ready hr1 (by simp) (cons1 ho0 (fun K hK=>?_) (cons1 ho2 (fun K hK=>?_) AllReadyH.nil))
  ·rw [if_pos (hW hg0)]
   unfold Oper.wp
   rw [hld _ _ hz1 h1];exact hK.out _ _ trivial fun _=>by rw [ha10,hc]; exact hS w1 h1
  ·rw [if_pos (hW hg2)]
   unfold Oper.wp
   rw [he12];refine hK.out _ _ trivial fun _=>?_
   rw [ha12];refine rd1 i0 hr12 ho0 fun K hK=>?_
   rw [if_pos (hW hg0)];unfold Oper.wp
   rw [hld _ _ (hz12 _) (Bt.next hT _ _ h1 bA)];exact hK.out _ _ trivial fun _=>by rw [ha123,hc2]; exact hE w1 h1
end Go.Proofs.YtemicfjmidohfaaGreatDoor
