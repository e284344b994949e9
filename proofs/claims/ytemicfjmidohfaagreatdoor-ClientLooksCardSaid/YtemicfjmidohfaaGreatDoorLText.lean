import Derived.Lib.OthersKept
import Derived.Test.YtemicfjmidohfaaGreatDoorLStr
set_option maxRecDepth 100000
set_option maxHeartbeats 12800000
namespace Go.Proofs.YtemicfjmidohfaaGreatDoor
open Go Go.Proofs Go.RowKit Go.Shelf
attribute [local go_sem] Oper.semAt_some
def chL (x:El):List UInt8:=if x.d=true then [] else Lib.encodeRune x.ch
def txtL (l:List El):List UInt8:=l.flatMap chL
theorem chL_le (x:El):(chL x).length≤4:=by
 unfold chL; split
 ·simp
 ·have:=Lib.runeCells_le x.ch; rw [Lib.runeCells_length] at this; omega
theorem txtL_le:∀ l:List El,(txtL l).length≤4 * l.length
 | []=>Nat.le_refl _
 | x::l=>by have:=chL_le x; have:=txtL_le l; simp only [txtL,List.flatMap_cons,List.length_append,List.length_cons] at *; omega
theorem txtL_snoc (l:List El) (x:El):txtL (l++[x])=txtL l++chL x:=by simp [txtL]
theorem idx_map:∀ (k:Nat) (l:List El),(idx k l).map (·.2)=l
 | _,[]=>rfl
 | k,x::l=>by simp [idx,idx_map (k+1) l]
theorem builder_own (T e:TypeId) (B b:Nat) (p:Value) {β:Type} (f:β→List Value):Own (fun s W=>Lib.BuilderAtF T e B b p (f s) W):=by
 rintro s W W' row ⟨hB,v,hbk,hown,hne⟩ hg hr
 have hbne:some b≠row:=fun e'=>by
  obtain ⟨o,ho,hc⟩:=hr b e'.symm;rw [hbk] at ho; cases ho; cases hc
 refine ⟨hB,v,(hg.block b (Array.getElem?_eq_some_iff.1 hbk).1 hbne).trans hbk,hown.kept hg ?_,hne⟩
 cases hv:v.ownBlock with
 | none=>exact Or.inl rfl
 | some g=>
  refine Or.inr fun e'=>?_
  obtain ⟨o,ho,hc⟩:=hr g e'.symm;obtain ⟨c,fz,hg'⟩:=Lib.ownsRowF_kind hown g hv;rw [hg'] at ho; cases ho; cases hc
theorem keeps_of_others {e:TypeId} {b:Nat} {W W':World} {vs:List Value} {t:TypeId} (h:Lib.OthersKept e (some b) W W') (hs:W.heap.size≤W'.heap.size) (hb:Blk W b vs t):KeepsOthers W W':=by
 refine ⟨hs,fun k o hk ho=>h k o hk (fun e'=>?_) (fun c fz e'=>by subst e'; cases ho)⟩
 cases e'
 unfold Blk at hb
 rw [hb] at hk; cases hk; cases ho
theorem BuilderAtF.blk {T e:TypeId} {B b:Nat} {p:Value} {bs:List Value} {w:World} (h:Lib.BuilderAtF T e B b p bs w):∃ v,Blk w b [p,v] T:=by
 obtain ⟨_,v,hbk,_⟩:=h;exact ⟨v,hbk⟩
theorem text_any {p:Option Addr} {T:Tr} (w:World) (h:Is w p T) (hs:T.size≤20000):
  Calls Tryz.prog 186 #[.agg #[.pointer p]] w (Rt (.string ⟨(txtL T.els).toArray⟩) w):=by
 have ha:=T.alive_le;have hbA:Below w.heap.size w ((w.alloc (.cells #[.pointer p] 30)).alloc (.cells #[.pointer none,.slice none 0 0] 331)):=(bA).alloc (by simp) _;have hBx:=Lh (And.intro ((Blk.start w [.pointer p] 30).alloc (.cells #[.pointer none,.slice none 0 0] 331)) (Blk.startAt (W:=w.alloc (.cells #[.pointer p] 30)) (b:=w.heap.size+1) (vs:=[.pointer none,.slice none 0 0]) (t:=331) (by simp)));have HA:=Lh (And.intro (h.next hbA) hbA);have hT0:=Lh h;clear hbA h;refine (callsIn_wide (n:=5)).1 (callsIn_of_wp_marks Tryz.func186 rfl trivial (wpIn_wide.2 ?_) rfl);simp only [Tryz.ntmps186,List.size_toArray,List.length_cons,List.length_nil,Nat.reduceAdd,Nat.reduceSub,Array.replicate_succ,Array.replicate_zero,List.push_toArray,List.append_toArray,List.nil_append,List.cons_append]
 go_wp2_with fail;refine (aliveRow_any _ HA.out.1).mono ?_;rintro e w1 ⟨rfl,hb1⟩
 have HB:=Lh (And.intro (hBx.out.1.next hb1) (And.intro (hBx.out.2.next hb1) (And.intro (HA.out.1.next hb1) (HA.out.2.trans (hb1.mono HA.out.2.size)))));clear hBx HA hb1;go_wp2_with fail;refine (Tryz.Builder_Grow_fresh (w.heap.size+1) (w.heap.size+1) T.alive _ (Nat.le_refl _) HB.out.2.1 (Nat.le_of_lt HB.out.2.1.lt) (by omega)).mono ?_;rintro e w2 ⟨rfl,hG,hb2⟩
 have hc0:=(HB.out.1.below hb2 (by omega)).cell 0 rfl;have HC:=Lh (And.intro (Lib.BuilderAtF.of hG) (HB.out.2.2.2.trans (hb2.mono (by omega))));have hsz2:w.heap.size+1<w2.heap.size:=(Lib.BuilderAtF.of hG).lt;clear HB hG hb2;go_wp2_with (go_at_call 222; refine (all_any _ _).mono ?_; rintro e w3 ⟨rfl,rfl⟩)
 have hbt:=(Blk.start w2 [.pointer p] 30).cell 0 rfl;have HD:=Lh (And.intro (HC.out.1.alloc (.cells #[.pointer p] 30)) (HC.out.2.alloc (Nat.le_trans (Nat.le_succ _) (Nat.le_of_lt hsz2)) (.cells #[.pointer p] 30)));clear hc0 HC;have hsz3:w2.heap.size<(w2.alloc (.cells #[.pointer p] 30)).heap.size:=by simp
 generalize w2.alloc (.cells #[.pointer p] 30)=W3 at *
 refine (wpIn_wide (n:=5)).1 ?_;refine wpIn_rangeFunc_ownH rfl (by omega) (gf:=251) (lb := #[.pointer (some ⟨w2.heap.size,0,none⟩)]) rfl trivial (enters_of Tryz.func251 (by kernel_rfl) rfl)
  (all_stops _ w2.heap.size w.heap.size p T W3 hsz3 (by omega) (by omega) hbt (hT0.out.below HD.out.2)) belowK_t (belowK_b (by omega)) (Below.refl _ _) (fun _=>rfl)
  (fun pre W=>Lib.BuilderAtF 331 5 (w.heap.size+1) (w.heap.size+1) (.pointer (some ⟨w.heap.size+1,0,none⟩)) (Lib.byteCells (txtL (pre.map (·.2)))) W∧Below w.heap.size w W)
  (fun _ _ _=>False)
  (OwnFrom.and (Own.from (builder_own _ _ _ _ _ (fun pre:List (Nat×El)=>Lib.byteCells (txtL (pre.map (·.2))))) _) (ownFrom_below (Nat.le_refl _) (by omega)))
  (fun _ _ _ _ _ hs _ _=>hs)
  ⟨HD.out.1,HD.out.2⟩
  (fun x a' W=>∃ Bx,Blk W Bx (elL x.2) 322∧a'={ tmps := #[.agg #[.pointer p],.pointer (some ⟨w.heap.size,0,none⟩),.string ⟨#[]⟩,.pointer (some ⟨w.heap.size+1,0,none⟩),undef,.pointer (some ⟨Bx,0,none⟩),.agg #[.pointer p],.int .i64 (T.alive:Int),.tuple #[],.agg #[.pointer p],.func (.func 251) #[] #[.pointer (some ⟨w2.heap.size,0,none⟩)],.int .i64 (x.1:Int),.agg x.2,undef,undef,undef,undef,undef,undef,undef],defers:=[] })
  (fun x a' _ W W' row hs hg hr=>by obtain ⟨Bx,hb,he⟩:=hs; exact ⟨Bx,hb.grown hg (fun r e=>(hr r e).2),he⟩)
  ?assign ?body ?done ?stop
 case assign=>
  rintro l pre x W K ⟨hi1,hi2⟩ hK
  gi_wp2
  exact hK _ _ ((KeepsOthers.alloc _ _).from _) ((Below.refl _ W).alloc hi2.size _) ⟨hi1.alloc _,hi2.alloc hi2.size _⟩ ⟨W.heap.size,Blk.start _ _ _,rfl⟩
 case body=>
  rintro l pre x a' W hl - ⟨hi1,hi2⟩ ⟨Bx,hb,rfl⟩ hlt
  obtain ⟨k,x⟩:=x;obtain ⟨c,s,ch,d,lo,hi⟩:=x;have e2:=hb.cell 2 rfl;have e3:=hb.cell 3 rfl;have hlen:(Lib.byteCells (txtL (pre.map (·.2)))).length≤80000:=by
   have:=txtL_le (pre.map (·.2));rw [Lib.byteCells_length]; simp only [List.length_map] at this; omega
  cases d
  ·dsimp only at *
   gi_wp2_with (refine ⟨trivial,?_⟩; gi_at_call 223; refine (CallsIn.inRound l (callsIn_wide.2 (writeRune_any (w.heap.size+1) (w.heap.size+1) _ ch lo hi W hi1 (by omega) (Nat.le_of_lt hi1.lt)))).mono ?_; rintro e W1 ⟨rfl,h1,hb1,hk1⟩)
   obtain ⟨v,hv⟩:=BuilderAtF.blk hi1;refine ⟨(keeps_of_others hk1 hb1.size hv).from _,hb1.mono (by omega),?_,hi2.trans (hb1.mono (by omega))⟩;rw [List.map_append,List.map_cons,List.map_nil,txtL_snoc,Lib.byteCells_append]
   simpa [chL,Lib.byteCells_encodeRune] using h1
  ·dsimp only at *
   gi_wp2
   refine ⟨KeepsFrom.refl _ _,Below.refl _ _,?_,hi2⟩;rw [List.map_append,List.map_cons,List.map_nil,txtL_snoc]
   simpa [chL] using hi1
 case stop=>
  rintro D c pre W _ _ h _
  exact h.elim
 case done=>
  rintro D ys W hD rfl ⟨hi1,hi2⟩ hK
  rw [idx_map] at hi1;go_wp2_with (go_at_call 224; refine (Tryz.Builder_String_any_k (w.heap.size+1) (w.heap.size+1) (txtL T.els) _ (Or.inr hi1) (Nat.le_of_lt hi1.lt)).mono ?_; rintro e W5 ⟨rfl,-,hb5,hk5⟩)
  have hK5:=hk5 D _ hK (fun e=>by cases e; omega) (fun c fz e=>by cases e);refine ⟨by simp,.inl ⟨_,_,rfl,run_takeDeferred hK5,?_⟩⟩;exact ⟨_,results_tmp rfl _ _ _,rfl,(hi2.trans (hb5.mono (by omega))).trans (belowK_b (w:=w) (Nat.le_refl _) W5 D _ _ (by omega) hK5 rfl rfl)⟩
end Go.Proofs.YtemicfjmidohfaaGreatDoor
namespace Go.Proofs.YtemicfjmidohfaaGreatDoor
open Go Go.Proofs Go.RowKit
def rankT:Tr→Int→Nat
 | .nil,_=>0
 | .node l x r,i=>if i≤l.size then rankT l i else l.alive+x.al+rankT r (i-l.size - 1)
theorem rankT_le:∀ (T:Tr) (i:Int),rankT T i≤T.alive
 | .nil,_=>Nat.le_refl _
 | .node l x r,i=>by
  simp only [rankT]
  split
  ·have:=rankT_le l i; simp only [Tr.alive]; omega
  ·have:=rankT_le r (i-l.size - 1); simp only [Tr.alive]; omega
theorem rankT_1 {l r:Tr} (x:El) {i:Int} (h:i≤l.size):rankT (.node l x r) i=rankT l i:=by simp only [rankT]; rw [if_pos h]
theorem rankT_2 {l r:Tr} (x:El) {i:Int} (h:¬ i≤l.size):rankT (.node l x r) i=l.alive+x.al+rankT r (i-l.size - 1):=by simp only [rankT]; rw [if_neg h]
def RankAt (w:World) (T:Tr) (i:Int) (T':Tr) (q:Option Addr) (i' acc:Int) (wr:World):Prop:=
 Is wr q T'∧Below w.heap.size w wr∧acc+rankT T' i'=rankT T i∧0≤acc∧T'.size≤20000∧i'≤9223372036854775807
theorem rank_any {p:Option Addr} {T:Tr} (i:Int) (w:World) (h:Is w p T) (hs:T.size≤20000) (hi:i≤9223372036854775807):
  Calls Tryz.prog 228 #[.agg #[.pointer p],i] w (Rt (.int .i64 (rankT T i:Int)) w):=by
 have hb0:=(Below.refl w.heap.size w).alloc (Nat.le_refl _) (.cells #[.pointer p] 30);have H0:=Lh (And.intro (h.next hb0) hb0);have HS:=Lh (show rankT T i≤20000 from by have:=rankT_le T i; have:=T.alive_le; omega);clear h hb0
 go_enter Tryz.func228,Tryz.ntmps228
 go_wp2
 go_loopg [1,5,6] T.size (fun g ti ta tn wr=>∃ (T':Tr) (q:Option Addr) (i' acc:Int),g=T'.size∧ti=.int .i64 i'∧ta=.int .i64 acc∧tn=.pointer q∧RankAt w T i T' q i' acc wr)
 case atStart=>exact ⟨T,p,i,0,rfl,rfl,rfl,rfl,H0.out.1,H0.out.2,by omega,by omega,hs,hi⟩
 case round=>
  obtain ⟨T',q,i',acc,rfl,rfl,rfl,rfl,hR⟩:=hrel;clear H0 hs hi;obtain ⟨hT,hbel,hsum,hacc,hs,hi⟩:=hR
  cases T' with
  | nil=>
   obtain rfl:q=none:=hT;have HSum:=Lh hsum;clear hsum
   go_wp2
   go_ret
   exact ⟨by rw [←HSum.out]; simp [rankT],hbel⟩
  | node l x r=>
   have hlr:l.size+1+r.size≤20000:=by simp only [Tr.size] at hs; omega
   have la:=l.alive_le;have xa:=x.al_le;have fs0:=fieldS0;obtain ⟨b,pl,pr,rfl,-,hB,hl,hr⟩:=hT;have HB:=Lh (And.intro hB (And.intro hl (And.intro hr hbel)));have c0:=hB.cell 0 rfl;clear hB hl hr hbel hs;by_cases hc:i'≤(l.size:Int)
   ·have HSum:=Lh ((rankT_1 (r:=r) x hc)▸hsum)
    clear hsum;go_wp2_with fail;refine (total_any _ HB.out.2.1).mono ?_;rintro e w1 ⟨rfl,hb1⟩
    have hb2:=hb1.alloc hb1.size (.cells #[.int .i64 (l.size:Int),.int .i64 (l.alive:Int),.int .i64 (l.depth:Int)] 341);have hz0:=(Blk.start w1 [.int .i64 (l.size:Int),.int .i64 (l.alive:Int),.int .i64 (l.depth:Int)] 341).cell 0 rfl;have d0:=(HB.out.1.next hb2).cell 0 rfl;have HB2:=Lh (And.intro (HB.out.2.1.next hb2) (HB.out.2.2.2.trans (hb2.mono HB.out.2.2.2.size)));clear hb1 hb2 HB c0;go_wp2_with fail
    go_roundg l.size
    case measure=>simp only [Tr.size]; omega
    case rel=>exact ⟨l,pl,i',acc,rfl,rfl,rfl,rfl,HB2.out.1,HB2.out.2,HSum.out,hacc,by omega,hi⟩
   ·have HSum:=Lh ((rankT_2 (r:=r) x hc)▸hsum)
    have hab:acc+(l.alive+x.al)≤20000:=by have:=HS.out; have:=HSum.out; omega
    clear hsum;go_wp2_with fail;refine (total_any _ HB.out.2.1).mono ?_;rintro e w1 ⟨rfl,hb1⟩
    have hb2:=hb1.alloc hb1.size (.cells #[.int .i64 (l.size:Int),.int .i64 (l.alive:Int),.int .i64 (l.depth:Int)] 341);have hz0:=(Blk.start w1 [.int .i64 (l.size:Int),.int .i64 (l.alive:Int),.int .i64 (l.depth:Int)] 341).cell 0 rfl;have HR:=Lh (show Pk (fun W=>Below w.heap.size w W∧Is W pl l∧Is W pr r∧Blk W b [.pointer pl,x.c,x.s,.int .i32 x.ch,.bool x.d,.pointer pr,.int .i64 ((Tr.node l x r).size:Int),.int .i64 ((Tr.node l x r).alive:Int),.int .i64 ((Tr.node l x r).depth:Int)] 363∧Blk W w1.heap.size [.int .i64 (l.size:Int),.int .i64 (l.alive:Int),.int .i64 (l.depth:Int)] 341) (w1.alloc (.cells #[.int .i64 (l.size:Int),.int .i64 (l.alive:Int),.int .i64 (l.depth:Int)] 341)) from ⟨HB.out.2.2.2.trans (hb2.mono HB.out.2.2.2.size),HB.out.2.1.next hb2,HB.out.2.2.1.next hb2,HB.out.1.next hb2,Blk.start _ _ _⟩);have hKp:=Lh (show ∀ W W':World,Below W.heap.size W W'→Pk (fun W=>Below w.heap.size w W∧Is W pl l∧Is W pr r∧Blk W b [.pointer pl,x.c,x.s,.int .i32 x.ch,.bool x.d,.pointer pr,.int .i64 ((Tr.node l x r).size:Int),.int .i64 ((Tr.node l x r).alive:Int),.int .i64 ((Tr.node l x r).depth:Int)] 363∧Blk W w1.heap.size [.int .i64 (l.size:Int),.int .i64 (l.alive:Int),.int .i64 (l.depth:Int)] 341) W→(fun W=>Cc6 W b (.pointer pl) x.c x.s (.int .i32 x.ch) (.bool x.d) (.pointer pr) (Cc3 W w1.heap.size (.int .i64 (l.size:Int)) (.int .i64 (l.alive:Int)) (.int .i64 (l.depth:Int)) (Pk (fun W=>Below w.heap.size w W∧Is W pl l∧Is W pr r∧Blk W b [.pointer pl,x.c,x.s,.int .i32 x.ch,.bool x.d,.pointer pr,.int .i64 ((Tr.node l x r).size:Int),.int .i64 ((Tr.node l x r).alive:Int),.int .i64 ((Tr.node l x r).depth:Int)] 363∧Blk W w1.heap.size [.int .i64 (l.size:Int),.int .i64 (l.alive:Int),.int .i64 (l.depth:Int)] 341) W))) W' from fun W W' hb h=>((h.2.2.2.1.next hb).d6 ((h.2.2.2.2.next hb).d3 ⟨h.1.trans (hb.mono h.1.size),h.2.1.next hb,h.2.2.1.next hb,h.2.2.2.1.next hb,h.2.2.2.2.next hb⟩)));clear hb1 hb2 HB c0;go_wp2_with fail
    generalize hW0:World.alloc _ _=W0 at *
    clear hW0 hz0;have s1:IntKind.i64.wrap ((l.alive:Int)+x.al)=l.alive+x.al:=IntWalk.i64_in _ (by omega);have s2:IntKind.i64.wrap (acc+((l.alive:Int)+x.al))=acc+(l.alive+x.al):=IntWalk.i64_in _ (by omega);have s3:IntKind.i64.wrap (i'-(l.size:Int))=i'-l.size:=IntWalk.i64_in _ (by omega);have s4:IntKind.i64.wrap (i'-(l.size:Int) - 1)=i'-l.size - 1:=IntWalk.i64_in _ (by omega);refine rgH (fun W=>Cc6 W b (.pointer pl) x.c x.s (.int .i32 x.ch) (.bool x.d) (.pointer pr) (Cc3 W w1.heap.size (.int .i64 (l.size:Int)) (.int .i64 (l.alive:Int)) (.int .i64 (l.depth:Int)) (Pk (fun W=>Below w.heap.size w W∧Is W pl l∧Is W pr r∧Blk W b [.pointer pl,x.c,x.s,.int .i32 x.ch,.bool x.d,.pointer pr,.int .i64 ((Tr.node l x r).size:Int),.int .i64 ((Tr.node l x r).alive:Int),.int .i64 ((Tr.node l x r).depth:Int)] 363∧Blk W w1.heap.size [.int .i64 (l.size:Int),.int .i64 (l.alive:Int),.int .i64 (l.depth:Int)] 341) W))) (hKp.out _ _ bdq HR.out) fun hH=>?_
    clear HR;refine ta 0 hH ?_;refine ta 1 hH ?_;refine ta 2 hH ?_;refine ta 3 hH ?_;refine ta 4 hH ?_;refine ta 5 hH ?_;refine ta 6 hH ?_;refine rc 7 (alive_any x _) ?_
    rintro e u2 ⟨rfl,hb⟩
    refine rp (hKp.out _ _ hb hH.2.2.2.2.2.2.2.2.2) ?_;clear hH hb;intro hH
    refine ta 8 hH ?_;refine ta 9 hH ?_;refine ta 10 hH ?_;refine dnH ?_;have HR:=Lh hH.2.2.2.2.2.2.2.2.2;clear hH;go_wp2_with fail
    refine rgH (fun W=>Cc6 W b (.pointer pl) x.c x.s (.int .i32 x.ch) (.bool x.d) (.pointer pr) (Cc3 W w1.heap.size (.int .i64 (l.size:Int)) (.int .i64 (l.alive:Int)) (.int .i64 (l.depth:Int)) (Pk (fun W=>Below w.heap.size w W∧Is W pl l∧Is W pr r∧Blk W b [.pointer pl,x.c,x.s,.int .i32 x.ch,.bool x.d,.pointer pr,.int .i64 ((Tr.node l x r).size:Int),.int .i64 ((Tr.node l x r).alive:Int),.int .i64 ((Tr.node l x r).depth:Int)] 363∧Blk W w1.heap.size [.int .i64 (l.size:Int),.int .i64 (l.alive:Int),.int .i64 (l.depth:Int)] 341) W))) (hKp.out _ _ bdq HR.out) fun hH=>?_
    clear HR;refine ta 0 hH ?_;refine ta 1 hH ?_;refine ta 2 hH ?_;refine ta 3 hH ?_;refine ta 4 hH ?_;refine ta 5 hH ?_;refine ta 6 hH ?_;refine ta 7 hH ?_;refine ta 8 hH ?_;refine ta 9 hH ?_;refine ta 10 hH ?_;refine dnH ?_;have HR:=Lh hH.2.2.2.2.2.2.2.2.2;clear hH;clear s1 s2 s3 s4;go_wp2_with fail
    go_roundg r.size
    case measure=>simp only [Tr.size]; omega
    case rel=>exact ⟨r,pr,i'-l.size - 1,acc+(l.alive+x.al),rfl,rfl,rfl,rfl,HR.out.2.2.1,HR.out.1,by have:=HSum.out; omega,by omega,by omega,by omega⟩
def selT:Tr→Int→Nat
 | .nil,_=>0
 | .node l x r,k=>if k<l.alive then selT l k else if k=l.alive∧x.d=false then l.size else l.size+1+selT r (k-(l.alive+x.al))
theorem selT_1 {l r:Tr} (x:El) {k:Int} (h:k<l.alive):selT (.node l x r) k=selT l k:=by simp only [selT]; rw [if_pos h]
theorem selT_2 {l r:Tr} (x:El) {k:Int} (h:k=l.alive) (hd:x.d=false):selT (.node l x r) k=l.size:=by simp only [selT]; rw [if_neg (by omega),if_pos ⟨h,hd⟩]
theorem selT_3 {l r:Tr} (x:El) {k:Int} (h:¬ k<l.alive) (hd:¬ (k=l.alive∧x.d=false)):selT (.node l x r) k=l.size+1+selT r (k-(l.alive+x.al)):=by simp only [selT]; rw [if_neg h,if_neg hd]
def SelAt (w:World) (T:Tr) (k:Int) (T':Tr) (q:Option Addr) (k' at':Int) (wr:World):Prop:=
 Is wr q T'∧Below w.heap.size w wr∧at'+selT T' k'=selT T k∧0≤at'∧at'+T'.size≤20000∧0≤k'∧k'<T'.alive
theorem select_any {p:Option Addr} {T:Tr} (k:Int) (w:World) (h:Is w p T) (hs:T.size≤20000) (hk0:0≤k) (hk1:k<T.alive):
  Calls Tryz.prog 216 #[.agg #[.pointer p],k] w (Rt (.tuple #[.int .i64 (selT T k:Int),.bool true]) w):=by
 have hb0:=(Below.refl w.heap.size w).alloc (Nat.le_refl _) (.cells #[.pointer p] 30);have H0:=Lh (And.intro (h.next hb0) (And.intro hb0 (Blk.start w [.pointer p] 30)));have hk0':¬ k<0:=by omega
 clear h hb0;go_enter Tryz.func216,Tryz.ntmps216;go_wp2_with fail;refine (aliveRow_any _ H0.out.1).mono ?_;rintro e w0 ⟨rfl,hb1⟩;have hc0:=(H0.out.2.2.next hb1).cell 0 rfl;have H1:=Lh (And.intro (H0.out.1.next hb1) (H0.out.2.1.trans (hb1.mono H0.out.2.1.size)));clear H0 hb1;go_wp2_with fail;clear hc0;go_loopg [1,6,7] T.size (fun g tk ta tn wr=>∃ (T':Tr) (q:Option Addr) (k' at':Int),g=T'.size∧tk=.int .i64 k'∧ta=.int .i64 at'∧tn=.pointer q∧SelAt w T k T' q k' at' wr)
 case atStart=>exact ⟨T,p,k,0,rfl,rfl,rfl,rfl,H1.out.1,H1.out.2,by omega,by omega,by omega,hk0,hk1⟩
 case round=>
  obtain ⟨T',q,k',at',rfl,rfl,rfl,rfl,hR⟩:=hrel;clear H1 hs hk0 hk1 hk0';obtain ⟨hT,hbel,hsum,hat0,hat1,hk0,hk1⟩:=hR;cases T' with
  | nil=>exact absurd hk1 (by simp only [Tr.alive]; omega)
  | node l x r=>
   have hlr:at'+(l.size+1+r.size)≤20000:=by simp only [Tr.size] at hat1; omega
   have hal:k'<l.alive+x.al+r.alive:=by simp only [Tr.alive] at hk1; omega
   have la:=l.alive_le;have ra:=r.alive_le;have xa:=x.al_le;have fs0:=fieldS0;obtain ⟨b,pl,pr,rfl,-,hB,hl,hr⟩:=hT;have HB:=Lh (And.intro hB (And.intro hl (And.intro hr hbel)));have c0:=hB.cell 0 rfl;clear hB hl hr hbel hat1 hk1;go_wp2_with fail;refine (total_any _ HB.out.2.1).mono ?_;rintro e w1 ⟨rfl,hb1⟩;have hb2:=hb1.alloc hb1.size (.cells #[.int .i64 (l.size:Int),.int .i64 (l.alive:Int),.int .i64 (l.depth:Int)] 341);have hz0 := (Blk.start w1 [.int .i64 (l.size:Int),.int .i64 (l.alive:Int),.int .i64 (l.depth:Int)] 341).c2;have d0:=(HB.out.1.next hb2).cell 0 rfl;have d4:=(HB.out.1.next hb2).cell 4 rfl;have HB2:=Lh (And.intro (HB.out.2.2.2.trans (hb2.mono HB.out.2.2.2.size)) (And.intro (HB.out.2.1.next hb2) (And.intro (HB.out.2.2.1.next hb2) (And.intro (HB.out.1.next hb2) (Blk.start w1 [.int .i64 (l.size:Int),.int .i64 (l.alive:Int),.int .i64 (l.depth:Int)] 341)))));clear hb1 hb2 HB c0;by_cases hc:k'<(l.alive:Int)
   ·have HSum:=Lh ((selT_1 (r:=r) x hc)▸hsum);clear hsum;go_wp2_with fail;go_roundg l.size
    case measure=>simp only [Tr.size]; omega
    case rel=>exact ⟨l,pl,k',at',rfl,rfl,rfl,rfl,HB2.out.2.1,HB2.out.1,HSum.out,hat0,by omega,hk0,hc⟩
   ·by_cases hc2:k'=(l.alive:Int)∧x.d=false
    ·obtain ⟨hc2,hd⟩:=hc2;have HSum:=Lh ((selT_2 (r:=r) x hc2 hd)▸hsum);clear hsum;rw [hd] at d4;have hq:(k'==(l.alive:Int))=true:=by simpa using hc2
     clear hc2 hd;go_wp2_with fail;go_ret2;exact ⟨by rw [←HSum.out]; rfl,HB2.out.1⟩
    ·have HSum:=Lh ((selT_3 (r:=r) x hc hc2)▸hsum);have hk2:0≤k'-(l.alive+x.al):=by
      cases hd:x.d with
      | true=>simp only [El.al, hd, if_true]; omega
      | false=>
        have:k'≠l.alive:=fun e=>hc2 ⟨e,hd⟩
        omega
     clear hsum;have hq:(k'==(l.alive:Int))=false∨((k'==(l.alive:Int))=true∧x.d=true):=by
      by_cases e:k'=(l.alive:Int)
      ·refine Or.inr ⟨by simpa using e,?_⟩;cases hd:x.d with
       | true=>rfl
       | false=>exact absurd ⟨e,hd⟩ hc2
      ·exact Or.inl (by simpa using e)
     clear hc2;have s0:IntKind.i64.wrap ((l.alive:Int)+x.al)=l.alive+x.al:=IntWalk.i64_in _ (by omega);have s1:IntKind.i64.wrap (k'-((l.alive:Int)+x.al))=k'-(l.alive+x.al):=IntWalk.i64_in _ (by omega);have HR:=Lh (show Pk (fun W=>Below w.heap.size w W∧Is W pl l∧Is W pr r∧Blk W b [.pointer pl,x.c,x.s,.int .i32 x.ch,.bool x.d,.pointer pr,.int .i64 ((Tr.node l x r).size:Int),.int .i64 ((Tr.node l x r).alive:Int),.int .i64 ((Tr.node l x r).depth:Int)] 363∧Blk W w1.heap.size [.int .i64 (l.size:Int),.int .i64 (l.alive:Int),.int .i64 (l.depth:Int)] 341) (w1.alloc (.cells #[.int .i64 (l.size:Int),.int .i64 (l.alive:Int),.int .i64 (l.depth:Int)] 341)) from HB2.out);have hKp:=Lh (show ∀ W W':World,Below W.heap.size W W'→Pk (fun W=>Below w.heap.size w W∧Is W pl l∧Is W pr r∧Blk W b [.pointer pl,x.c,x.s,.int .i32 x.ch,.bool x.d,.pointer pr,.int .i64 ((Tr.node l x r).size:Int),.int .i64 ((Tr.node l x r).alive:Int),.int .i64 ((Tr.node l x r).depth:Int)] 363∧Blk W w1.heap.size [.int .i64 (l.size:Int),.int .i64 (l.alive:Int),.int .i64 (l.depth:Int)] 341) W→(fun W=>Cc6 W b (.pointer pl) x.c x.s (.int .i32 x.ch) (.bool x.d) (.pointer pr) (Cc3 W w1.heap.size (.int .i64 (l.size:Int)) (.int .i64 (l.alive:Int)) (.int .i64 (l.depth:Int)) (Pk (fun W=>Below w.heap.size w W∧Is W pl l∧Is W pr r∧Blk W b [.pointer pl,x.c,x.s,.int .i32 x.ch,.bool x.d,.pointer pr,.int .i64 ((Tr.node l x r).size:Int),.int .i64 ((Tr.node l x r).alive:Int),.int .i64 ((Tr.node l x r).depth:Int)] 363∧Blk W w1.heap.size [.int .i64 (l.size:Int),.int .i64 (l.alive:Int),.int .i64 (l.depth:Int)] 341) W))) W' from fun W W' hb h=>((h.2.2.2.1.next hb).d6 ((h.2.2.2.2.next hb).d3 ⟨h.1.trans (hb.mono h.1.size),h.2.1.next hb,h.2.2.1.next hb,h.2.2.2.1.next hb,h.2.2.2.2.next hb⟩)));clear HB2;have HQ:=Lh hq;clear hq;rcases HQ.out with hq | ⟨hq,hd⟩;clear HQ;rotate_left;clear HQ;rw [hd] at d4;clear hd;rotate_left
     all_goals
      go_wp2_with fail;clear hq d0 d4 hz0;generalize hW0:World.alloc _ _=W0 at *;clear hW0;refine rgH (fun W=>Cc6 W b (.pointer pl) x.c x.s (.int .i32 x.ch) (.bool x.d) (.pointer pr) (Cc3 W w1.heap.size (.int .i64 (l.size:Int)) (.int .i64 (l.alive:Int)) (.int .i64 (l.depth:Int)) (Pk (fun W=>Below w.heap.size w W∧Is W pl l∧Is W pr r∧Blk W b [.pointer pl,x.c,x.s,.int .i32 x.ch,.bool x.d,.pointer pr,.int .i64 ((Tr.node l x r).size:Int),.int .i64 ((Tr.node l x r).alive:Int),.int .i64 ((Tr.node l x r).depth:Int)] 363∧Blk W w1.heap.size [.int .i64 (l.size:Int),.int .i64 (l.alive:Int),.int .i64 (l.depth:Int)] 341) W))) (hKp.out _ _ bdq HR.out) fun hH=>?_
      clear HR;refine ta 0 hH ?_;refine ta 1 hH ?_;refine ta 2 hH ?_;refine ta 3 hH ?_;refine ta 4 hH ?_;refine ta 5 hH ?_;refine ta 6 hH ?_;refine rc 7 (alive_any x _) ?_;rintro e u2 ⟨rfl,hb⟩;refine rp (hKp.out _ _ hb hH.2.2.2.2.2.2.2.2.2) ?_;clear hH hb;intro hH;refine ta 8 hH ?_;refine ta 9 hH ?_;refine ta 10 hH ?_;refine dnH ?_;have HR:=Lh hH.2.2.2.2.2.2.2.2.2;clear hH;have d5:=(HR.out.2.2.2.1).cell 5 rfl;clear s0 s1;go_wp2_with fail;go_roundg r.size
      case measure=>simp only [Tr.size]; omega
      case rel=>exact ⟨r,pr,k'-(l.alive+x.al),at'+(l.size+1),rfl,rfl,rfl,rfl,HR.out.2.2.1,HR.out.1,by have:=HSum.out; omega,by omega,by omega,hk2,by omega⟩
theorem IsT.iter {n:Nat} {W:World} {k:Nat} {s:ByteArray} {pos:Nat} (hk:W.heap[k]? = some (.stringIter s pos)) (pos':Nat):∀ {p:Option Addr} {T:Tr},IsT n W p T→IsT n (W.iterAt k s pos') p T
 | _,.nil,h=>h
 | _,.node _ _ _,⟨c,pl,pr,hp,hn,hC,hl,hr⟩=>⟨c,pl,pr,hp,hn,by
   unfold Blk at hC ⊢
   rw [Lib.iterAt_other _ _ _ _ _ (fun e=>by subst e; rw [hk] at hC; cases hC)];exact hC,IsT.iter hk pos' hl,IsT.iter hk pos' hr⟩
def exA:El:=⟨1,1,97,false,by decide,by decide⟩
def exB:El:=⟨2,1,98,true,by decide,by decide⟩
def exC:El:=⟨3,1,99,false,by decide,by decide⟩
def exT:Nat→Tr
 | 0=>.nil
 | 1=>insTop .nil 0 exA
 | 2=>insTop (insTop .nil 0 exA) 1 exB
 | _=>insTop (insTop (insTop .nil 0 exA) 1 exB) 2 exC
abbrev abcS:ByteArray:=⟨#[97,98,99]⟩
def AwAt (w:World) (k:Nat) (wr:World):Prop:=
 ∃ q,Blk wr w.heap.size [.pointer q] 30∧wr.heap[w.heap.size+1]? = some (.stringIter abcS k)∧Is wr q (exT k)∧Below w.heap.size w wr
theorem aw_step {w wr W:World} {k:Nat} {q q':Option Addr} (hB:Blk wr w.heap.size [.pointer q] 30) (hit:wr.heap[w.heap.size+1]? = some (.stringIter abcS (k+1))) (hbel:Below w.heap.size w wr)
  (hq:Is W q' (exT (k+1))) (hb:Below wr.heap.size wr W):AwAt w (k+1) (W.setCell ⟨w.heap.size,0,none⟩ (.pointer q')):=by
 have hB2:=hB.next hb;refine ⟨q',hB2.set 0 _,?_,Is.set hB2 (by decide) _ hq,(hbel.trans (hb.mono hbel.size)).setCell (p:=⟨w.heap.size,0,none⟩) (Nat.le_refl _) _⟩;rw [Below.heap_setCell _ _ _ _ (by show w.heap.size+1≠w.heap.size; omega),hb.block _ (Array.getElem?_eq_some_iff.1 hit).1];exact hit
theorem aw_iter {w wr:World} {k:Nat} {q:Option Addr} (hB:Blk wr w.heap.size [.pointer q] 30) (hit:wr.heap[w.heap.size+1]? = some (.stringIter abcS k)) (hT:Is wr q (exT k)) (hbel:Below w.heap.size w wr) (k':Nat):
  Blk (wr.iterAt (w.heap.size+1) abcS k') w.heap.size [.pointer q] 30∧(wr.iterAt (w.heap.size+1) abcS k').heap[w.heap.size+1]? = some (.stringIter abcS k')∧Is (wr.iterAt (w.heap.size+1) abcS k') q (exT k)∧Below w.heap.size w (wr.iterAt (w.heap.size+1) abcS k'):=by
 refine ⟨?_,Lib.iterAt_heap _ _ _ _ _ hit,(IsT.iter hit k' hT).is,Lib.below_iterAt hbel (by omega) _ _⟩;unfold Blk at hB ⊢
 rw [Lib.iterAt_other _ _ _ _ _ (by omega)];exact hB
structure AwS (w:World) (q:Option Addr) (W:World):Prop where
 bl:Blk W w.heap.size [.pointer q] 30
 tr:Is W q (exT 3)
 bel:Below w.heap.size w W
theorem AwS.next {w W W':World} {q:Option Addr} (h:AwS w q W) (hb:Below W.heap.size W W'):AwS w q W':=⟨h.bl.next hb,h.tr.next hb,h.bel.trans (hb.mono h.bel.size)⟩
theorem select_ex {q:Option Addr} (w:World) (h:Is w q (exT 3)):
  Calls Tryz.prog 216 #[.agg #[.pointer q],.int .i64 1] w (Rt (.tuple #[.int .i64 2,.bool true]) w):=select_any (T:=exT 3) 1 w h (by decide) (by decide) (by decide)
theorem rank_ex {q:Option Addr} (w:World) (h:Is w q (exT 3)):
  Calls Tryz.prog 228 #[.agg #[.pointer q],.int .i64 2] w (Rt (.int .i64 1) w):=rank_any (T:=exT 3) 2 w h (by decide) (by decide)
theorem text_ex {q:Option Addr} (w:World) (h:Is w q (exT 3)):
  Calls Tryz.prog 186 #[.agg #[.pointer q]] w (Rt (.string ⟨#[97,99]⟩) w):=by
 have:=text_any (T:=exT 3) w h (by decide);rw [show (txtL (exT 3).els).toArray = #[97,99] by decide +kernel] at this;exact this
theorem awakeC_any (w:World) (ht:Tab w):
  Calls Tryz.prog 259 #[] w (Rt (.bool true) w):=by
 have HTab:=Lh ht;clear ht
 go_enter Tryz.func259,Tryz.ntmps259
 go_wp2
 go_loopg [] 3 (fun g wr=>∃ k:Nat,k≤3∧g=3-k∧AwAt w k wr)
 case atStart=>
  refine ⟨0,by omega,rfl,none,(Blk.start w _ _).next (bA),?_,rfl,((Below.refl _ w).alloc (Nat.le_refl _) _).alloc (by simp) _⟩;have:=World.iter_heap (w.alloc (.cells #[.pointer none] 30)) abcS 0
  simpa using this
 case round=>
  obtain ⟨k,hk,rfl,q,hB,hit,hT,hbel⟩:=hrel
  match k,hk,hB,hit,hT,hbel with
  | 0,_,hB,hit,hT,hbel=>
   have hnx:∀ ty,(Instr.next (.pointer (some ⟨w.heap.size+1,0,none⟩)) true ty).run Tryz.prog wr=.ok (.tuple #[.bool true,.int .i64 0,.int .i32 97]) (wr.iterAt (w.heap.size+1) abcS 1):=fun ty=>Lib.run_next_ascii_at wr (w.heap.size+1) abcS 0 ty hit (by decide) (by decide)
   obtain ⟨hB2,hit2,hT2,hbel2⟩:=aw_iter hB hit hT hbel 1;clear hB hit hT hbel;have hc0:=hB2.cell 0 rfl;generalize wr.iterAt (w.heap.size+1) abcS 1=W2 at *
   have H2:=Lh (And.intro hB2 (And.intro hit2 (And.intro hT2 hbel2)));clear hB2 hit2 hT2 hbel2;go_wp2_with fail;refine (Insert_any 0 exA _ H2.out.2.2.1 (by decide)).mono ?_;rintro e W3 ⟨q',rfl,hq,hb3⟩
   have hB3:=H2.out.1.next hb3;have r0:=hB3.cell 0 rfl;have f0:=hB3.free 0;have H3:=Lh (aw_step (k:=0) H2.out.1 H2.out.2.1 H2.out.2.2.2 hq hb3);clear H2 hB3 hq hb3 hc0;go_wp2_with fail
   go_roundg 2
   case measure=>omega
   case rel=>exact ⟨1,by omega,rfl,H3.out⟩
  | 1,_,hB,hit,hT,hbel=>
   have hnx:∀ ty,(Instr.next (.pointer (some ⟨w.heap.size+1,0,none⟩)) true ty).run Tryz.prog wr=.ok (.tuple #[.bool true,.int .i64 1,.int .i32 98]) (wr.iterAt (w.heap.size+1) abcS 2):=fun ty=>Lib.run_next_ascii_at wr (w.heap.size+1) abcS 1 ty hit (by decide) (by decide)
   obtain ⟨hB2,hit2,hT2,hbel2⟩:=aw_iter hB hit hT hbel 2;clear hB hit hT hbel;have hc0:=hB2.cell 0 rfl;generalize wr.iterAt (w.heap.size+1) abcS 2=W2 at *
   have H2:=Lh (And.intro hB2 (And.intro hit2 (And.intro hT2 hbel2)));clear hB2 hit2 hT2 hbel2;go_wp2_with fail;refine (Insert_any 1 exB _ H2.out.2.2.1 (by decide)).mono ?_;rintro e W3 ⟨q',rfl,hq,hb3⟩
   have hB3:=H2.out.1.next hb3;have r0:=hB3.cell 0 rfl;have f0:=hB3.free 0;have H3:=Lh (aw_step (k:=1) H2.out.1 H2.out.2.1 H2.out.2.2.2 hq hb3);clear H2 hB3 hq hb3 hc0;go_wp2_with fail
   go_roundg 1
   case measure=>omega
   case rel=>exact ⟨2,by omega,rfl,H3.out⟩
  | 2,_,hB,hit,hT,hbel=>
   have hnx:∀ ty,(Instr.next (.pointer (some ⟨w.heap.size+1,0,none⟩)) true ty).run Tryz.prog wr=.ok (.tuple #[.bool true,.int .i64 2,.int .i32 99]) (wr.iterAt (w.heap.size+1) abcS 3):=fun ty=>Lib.run_next_ascii_at wr (w.heap.size+1) abcS 2 ty hit (by decide) (by decide)
   obtain ⟨hB2,hit2,hT2,hbel2⟩:=aw_iter hB hit hT hbel 3;clear hB hit hT hbel;have hc0:=hB2.cell 0 rfl;generalize wr.iterAt (w.heap.size+1) abcS 3=W2 at *
   have H2:=Lh (And.intro hB2 (And.intro hit2 (And.intro hT2 hbel2)));clear hB2 hit2 hT2 hbel2;go_wp2_with fail;refine (Insert_any 2 exC _ H2.out.2.2.1 (by decide)).mono ?_;rintro e W3 ⟨q',rfl,hq,hb3⟩
   have hB3:=H2.out.1.next hb3;have r0:=hB3.cell 0 rfl;have f0:=hB3.free 0;have H3:=Lh (aw_step (k:=2) H2.out.1 H2.out.2.1 H2.out.2.2.2 hq hb3);clear H2 hB3 hq hb3 hc0;go_wp2_with fail
   go_roundg 0
   case measure=>omega
   case rel=>exact ⟨3,by omega,rfl,H3.out⟩
  | 3,_,hB,hit,hT,hbel=>
   have hnx:∀ ty,(Instr.next (.pointer (some ⟨w.heap.size+1,0,none⟩)) true ty).run Tryz.prog wr=.ok (.tuple #[.bool false]) wr:=fun ty=>Lib.run_next_end_at wr (w.heap.size+1) abcS 3 ty hit (by decide)
   have h0:=hB.cell 0 rfl;have H0:=Lh (AwS.mk hB hT hbel);clear hB hit hT hbel;go_wp2_with fail;refine (select_ex _ H0.out.tr).mono ?_;rintro e w1 ⟨rfl,hb1⟩
   have H1:=Lh (H0.out.next hb1);clear H0 h0 hb1 hnx;go_wp2_with fail;refine (awake_any _ (HTab.out.next H1.out.bel)).mono ?_;rintro e w2 ⟨rfl,hb2⟩
   have H2:=Lh (H1.out.next hb2);clear H1 hb2;have h0:=H2.out.bl.cell 0 rfl;go_wp2_with fail;refine (rank_ex _ H2.out.tr).mono ?_;rintro e w3 ⟨rfl,hb3⟩
   have H3:=Lh (H2.out.next hb3);clear H2 hb3 h0;have h0:=H3.out.bl.cell 0 rfl;go_wp2_with (go_at_call 186; refine (text_ex _ H3.out.tr).mono ?_; rintro e w4 ⟨rfl,hb4⟩)
   go_ret
   exact ⟨rfl,H3.out.bel.trans (hb4.mono H3.out.bel.size)⟩
end Go.Proofs.YtemicfjmidohfaaGreatDoor
