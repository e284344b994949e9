import Derived.Deep.DeepCutAuto
import Derived.OwnWalk
import Derived.Test.YtemicfjmidohfaaGreatDoorLMap
import Derived.Test.YtemicfjmidohfaaGreatDoorLStr
set_option maxRecDepth 100000
set_option maxHeartbeats 12800000
namespace Go.Proofs.YtemicfjmidohfaaGreatDoor
open Go Go.Proofs Go.RowKit Go.Shelf
attribute [local go_sem] Oper.semAt_some
theorem last_els {T:Pt} (hf:Full 10 T):(els T=[]∧lastC T=0∧lastS T=0)∨∃ l x,els T=l++[x]∧lastC T=nmC x.1∧lastS T=nmS x.1:=by
 cases hn:T.isNil with
 | true=>
  obtain rfl:=Pt.isNil_true hn;exact .inl ⟨rfl,rfl,rfl⟩
 | false=>
  obtain ⟨l,e,h⟩:=els_last 10 0 T hf hn;exact .inr ⟨l,(lastP 10 0 T,e),h,by simp only [lastC,hn]; rfl,by simp only [lastS,hn]; rfl⟩
theorem full_putM {T:Pt} (c s:Int) (e:En) (hf:Full 10 T):Full 10 (putM T c s e):=by
 unfold putM
 split
 ·exact full_put _ _ _ _ hf
 ·exact hf
theorem eqlFM (p:Value) (w:World):(binOp .eql 401 (.func (.func 306) #[] #[p]) .nilFunc).run Tryz.prog w=.ok (.bool false) w:=by kernel_rfl
def exMA:En:=⟨0,0,97,false⟩
def exMB:En:=⟨0,0,98,false⟩
def ex1:Pt:=putM .nil 2 1 exMB
def ex2:Pt:=putM ex1 1 3 exMA
theorem els_ex1:els ex1=[(1024,exMB)]:=by
 unfold ex1 putM
 rw [if_pos (by decide),show placeI 2 1=1024 from rfl,els_insL _ _ (by decide)];rfl
theorem els_ex2:els ex2=[(2,exMA),(1024,exMB)]:=by
 unfold ex2 putM
 rw [if_pos (by decide),show placeI 1 3=2 from rfl,els_insL _ _ (by decide),els_ex1];rfl
theorem cnt_ex1:cnt ex1=1:=by unfold cnt; rw [els_ex1]; rfl
theorem cnt_ex2:cnt ex2=2:=by unfold cnt; rw [els_ex2]; rfl
theorem full_ex2:Full 10 ex2:=full_putM _ _ _ (full_putM _ _ _ (full_nil 10))
theorem last_ex2:lastC ex2=2∧lastS ex2=1:=by
 rcases last_els full_ex2 with ⟨h,_⟩ | ⟨l,x,h,h1,h2⟩
 ·rw [els_ex2] at h; cases h
 ·have hx:x=(1024,exMB):=by
   have:=congrArg List.getLast? (els_ex2.symm.trans h)
   simpa using this.symm
  subst hx;exact ⟨h1,h2⟩
theorem keeps_of_below {W W':World} (hb:Below W.heap.size W W'):KeepsOthers W W':=⟨hb.size,fun k o hk _=>by rw [hb.block k (Array.getElem?_eq_some_iff.1 hk).1]; exact hk⟩
theorem Boxed.nextB {W W':World} {B:Nat} {t:TypeId} {v:Value} (h:Go.Boxed W B t v) (hb:Below W.heap.size W W'):Go.Boxed W' B t v:=(hb.block B h.lt).trans h
def txt4 (x:Nat×En):ByteArray:=if x.1=2 then ⟨#[49,46,51,97]⟩ else ⟨#[50,46,49,98]⟩
def sT (l:List (Nat×En)):ByteArray:=l.foldl (fun s x=>s++txt4 x) ⟨#[]⟩
theorem sT_snoc (l:List (Nat×En)) (x:Nat×En):sT (l++[x])=sT l++txt4 x:=by simp [sT]
theorem sT_size:∀ l:List (Nat×En),(sT l).size=4 * l.length:=by
 have h:∀ (l:List (Nat×En)) (s:ByteArray),(l.foldl (fun s x=>s++txt4 x) s).size=s.size+4 * l.length:=by
  intro l
  induction l with
  | nil=>intro s; rfl
  | cons x l ih=>
   intro s
   rw [List.foldl_cons,ih,ByteArray.size_append,List.length_cons,show (txt4 x).size=4 by unfold txt4; split <;> rfl];omega
 intro l
 have:=h l ⟨#[]⟩;rw [show (⟨#[]⟩:ByteArray).size=0 from rfl,Nat.zero_add] at this;exact this
theorem nm_exA:nmC 2=1∧nmS 2=3:=by unfold nmC nmS; omega
theorem nm_exB:nmC 1024=2∧nmS 1024=1:=by unfold nmC nmS; omega
theorem txtM_13:txtB 1 3=⟨#[49,46,51]⟩:=by
 unfold txtB dotB digB
 rw [show (1:Int).toNat=1 from rfl,show (3:Int).toNat=3 from rfl,Lib.decDigits_one (by omega),Lib.decDigits_one (by omega)];rfl
theorem txtM_21:txtB 2 1=⟨#[50,46,49]⟩:=by
 unfold txtB dotB digB
 rw [show (2:Int).toNat=2 from rfl,show (1:Int).toNat=1 from rfl,Lib.decDigits_one (by omega),Lib.decDigits_one (by omega)];rfl
structure AwR (n₀:Nat) (W1:World) (s:ByteArray) (Bi Be:Nat) (c t:Int) (e:En) (W:World):Prop where
 bs:Go.Boxed W n₀ 9 (.string s)
 bel:Below n₀ W1 W
 bi:Blk W Bi [c,t] 71
 be:Blk W Be (enL e) 351
 tab:Tab W
theorem AwR.next {n₀:Nat} {W1:World} {s:ByteArray} {Bi Be:Nat} {c t:Int} {e:En} {W W':World} (h:AwR n₀ W1 s Bi Be c t e W) (hn:n₀≤W.heap.size) (hb:Below W.heap.size W W'):AwR n₀ W1 s Bi Be c t e W':=
 ⟨Boxed.nextB h.bs hb,h.bel.trans (hb.mono hn),h.bi.next hb,h.be.next hb,h.tab.next hb⟩
theorem AwR.put {n₀:Nat} {W1:World} {s:ByteArray} {Bi Be:Nat} {c t:Int} {e:En} {W:World} (h:AwR n₀ W1 s Bi Be c t e W) (s':ByteArray):
  Go.Boxed (W.setCell ⟨n₀,0,none⟩ (.string s')) n₀ 9 (.string s')∧Below n₀ W1 (W.setCell ⟨n₀,0,none⟩ (.string s'))∧Blk (W.setCell ⟨n₀,0,none⟩ (.string s')) Bi [c,t] 71∧Blk (W.setCell ⟨n₀,0,none⟩ (.string s')) Be (enL e) 351:=by
 have h0:W.heap[n₀]? = some (.cells #[.string s] 9 (0,0)):=h.bs;have h1:Bi≠n₀:=by rintro rfl; have:=h.bi; unfold Blk at this; rw [h0] at this; cases this
 have h2:Be≠n₀:=by rintro rfl; have:=h.be; unfold Blk at this; rw [h0] at this; cases this
 exact ⟨h.bs.set _,h.bel.setCell (p:=⟨n₀,0,none⟩) (Nat.le_refl _) _,h.bi.other _ h1 _,h.be.other _ h2 _⟩
theorem AwR.s {n₀:Nat} {W1:World} {s:ByteArray} {Bi Be:Nat} {c t:Int} {e:En} {W:World} (h:AwR n₀ W1 s Bi Be c t e W):
  W.cell? ⟨Bi,0,none⟩=some (.int .i64 c)∧W.cell? ⟨Bi,1,none⟩=some (.int .i64 t)∧W.cell? ⟨Be,2,none⟩=some (.int .i32 e.ch)∧AwR n₀ W1 s Bi Be c t e W:=
 (h.bi.d2 ⟨h.be.cell 2 rfl,h⟩)
theorem put_ex1 (W:World):Calls Tryz.prog 280 #[.agg #[.pointer none,.int .i64 0],.agg #[.int .i64 2,.int .i64 1],.agg #[.int .i64 0,.int .i64 0,.int .i32 98,.bool false]] W
  fun r w'=>∃ q,r=.returned (.tuple #[.agg #[.pointer q,.int .i64 1],.bool true])∧IsM w' q ex1∧Below W.heap.size W w':=by
 have:=Put_any (p:=none) (T:=.nil) 2 1 exMB W rfl (by decide);rw [show putM .nil 2 1 exMB=ex1 from rfl,cnt_ex1] at this;exact this
theorem put_ex2 {q:Option Addr} (W:World) (h:IsM W q ex1):Calls Tryz.prog 280 #[.agg #[.pointer q,.int .i64 1],.agg #[.int .i64 1,.int .i64 3],.agg #[.int .i64 0,.int .i64 0,.int .i32 97,.bool false]] W
  fun r w'=>∃ q,r=.returned (.tuple #[.agg #[.pointer q,.int .i64 2],.bool true])∧IsM w' q ex2∧Below W.heap.size W w':=by
 have:=Put_any (p:=q) (T:=ex1) 1 3 exMA W h (by rw [els_ex1]; decide);rw [show putM ex1 1 3 exMA=ex2 from rfl,cnt_ex2,cnt_ex1] at this;exact this
theorem awakeD_any (w:World) (ht:Tab w):
  Calls Tryz.prog 260 #[] w (Rt (.bool true) w):=by
 have HTab:=Lh ht;clear ht;refine (callsIn_wide (n:=5)).1 (callsIn_of_wp_marks Tryz.func260 rfl trivial (wpIn_wide.2 ?_) rfl);simp only [Tryz.ntmps260, List.size_toArray, List.length_nil, Nat.reduceSub, Array.replicate_succ, Array.replicate_zero, List.push_toArray, List.append_toArray, List.nil_append, List.cons_append];go_wp2_with fail;refine (put_ex1 _).mono ?_;rintro e w1 ⟨q1,rfl,hq1,hb1⟩;have hb1':Below w.heap.size w (w1.alloc (.cells #[.pointer q1,.int .i64 1] 33)):=hb1.alloc hb1.size _;have HA:=Lh (And.intro hb1' (And.intro (Blk.start w1 [.pointer q1,.int .i64 1] 33) (hq1.next ((Below.refl _ _).alloc (Nat.le_refl _) (.cells #[.pointer q1,.int .i64 1] 33)))));have m0 := HA.out.2.1.c2;clear hb1' hq1;go_wp2_with fail;refine (put_ex2 _ HA.out.2.2).mono ?_;rintro e w2 ⟨q2,rfl,hq2,hb2⟩;have hB2:=HA.out.2.1.next hb2;have hset:=(hB2.set 0 (.pointer q2)).set 1 (.int .i64 2);have hqs:=(hq2.set hB2 (by decide) 0 (.pointer q2)).set (hB2.set 0 (.pointer q2)) (by decide) 1 (.int .i64 2);have hbs:=((HA.out.1.trans (hb2.mono HA.out.1.size)).setCell (p:=⟨w1.heap.size,0,none⟩) hb1.size (.pointer q2)).setCell (p:=⟨w1.heap.size,1,none⟩) hb1.size (.int .i64 2);have HB:=Lh (And.intro hbs (And.intro hset hqs.is));have z0 := hB2.c2;have y0 := hB2.f2;have a0:=fun o=>(hset.alloc o).cell 0 rfl
 have a1:=fun o=>(hset.alloc o).cell 1 rfl
 have b0:=fun o o'=>((hset.alloc o).alloc o').cell 0 rfl
 have b1:=fun o o'=>((hset.alloc o).alloc o').cell 1 rfl
 have ef:=eqlFM;clear hqs hset hbs hq2 hb1 hB2 hb2 HA m0;go_wp2_with (go_at_call 281; refine (allM_any _ _ _).mono ?_; rintro e w' ⟨rfl,rfl⟩);have hsz:((w2.setCell ⟨w1.heap.size,0,none⟩ (.pointer q2)).setCell ⟨w1.heap.size,1,none⟩ (.int .i64 2)).heap.size=w2.heap.size:=by simp
 clear a0 a1 b0 b1 ef z0 y0;generalize (w2.setCell ⟨w1.heap.size,0,none⟩ (.pointer q2)).setCell ⟨w1.heap.size,1,none⟩ (.int .i64 2)=W1 at *;have hbk:Go.Boxed (((W1.alloc (.cells #[.string ⟨#[]⟩] 9)).alloc (.cells #[.pointer q2,.int .i64 2] 33)).alloc (.cells #[.pointer q2,.int .i64 2] 33)) w2.heap.size 9 (.string ⟨#[]⟩):=by rw [←hsz]; exact ((Go.Boxed.new W1 _ _).alloc _).alloc _
 have hbt:=(Blk.startAt (W:=(W1.alloc (.cells #[.string ⟨#[]⟩] 9)).alloc (.cells #[.pointer q2,.int .i64 2] 33)) (b:=w2.heap.size+1+1) (vs:=[.pointer q2,.int .i64 2]) (t:=33) (by simp [hsz])).cell 0 rfl;have hb3:Below w2.heap.size W1 (((W1.alloc (.cells #[.string ⟨#[]⟩] 9)).alloc (.cells #[.pointer q2,.int .i64 2] 33)).alloc (.cells #[.pointer q2,.int .i64 2] 33)):=by rw [←hsz]; exact ((bA).alloc (by simp) _).alloc (by simp; omega) _
 have hz3:w2.heap.size+1+1<(((W1.alloc (.cells #[.string ⟨#[]⟩] 9)).alloc (.cells #[.pointer q2,.int .i64 2] 33)).alloc (.cells #[.pointer q2,.int .i64 2] 33)).heap.size:=by simp [hsz]
 generalize World.alloc _ _=W3 at *;have hT3:IsP w2.heap.size W3 q2 ex2:=by have:=HB.out.2.2; unfold IsM at this; rw [hsz] at this; exact this.below hb3
 have HT3':=Lh (show IsP w2.heap.size W1 q2 ex2 from by have:=HB.out.2.2; unfold IsM at this; rwa [hsz] at this);have hww:w.heap.size≤w2.heap.size:=by have:=HB.out.1.size; omega
 have hbm:w1.heap.size<w2.heap.size:=by have:=HB.out.2.1.lt; omega
 have hmx:Tryz.prog.follows .mixedOrders=true:=by kernel_rfl
 refine (wpIn_wide (n:=5)).1 ?_;refine wpIn_rangeFunc_ownH rfl (by omega) (gf:=306) (lb := #[.pointer (some ⟨w2.heap.size+1+1,0,none⟩)]) rfl trivial (enters_of Tryz.func306 (by kernel_rfl) rfl)
  (allM_stops _ (w2.heap.size+1+1) w2.heap.size q2 ex2 W3 hz3 (by omega) hbt hT3) belowK_t (belowK_b (by omega)) (Below.refl _ _) (fun _=>rfl)
  (fun pre W=>Go.Boxed W w2.heap.size 9 (.string (sT (raw pre)))∧Below w2.heap.size W1 W)
  (fun _ _ _=>False)
  (OwnFrom.and (Own.from (boxed_own w2.heap.size 9 (fun pre:List (ElT ex2)=>.string (sT (raw pre)))) _) (ownFrom_below (by omega) (by omega)))
  (fun _ _ _ _ _ hs _ _=>hs)
  ⟨hbk,hb3⟩
  (fun x a' W=>∃ Bi Be,Blk W Bi [.int .i64 (nmC x.1.1),.int .i64 (nmS x.1.1)] 71∧Blk W Be (enL x.1.2) 351∧a'={ tmps := #[Value.bool false,Value.pointer (some ⟨w1.heap.size,0,none⟩),Value.bool true,Value.bool true,Value.pointer (some ⟨w2.heap.size,0,none⟩),.pointer (some ⟨Bi,0,none⟩),.pointer (some ⟨Be,0,none⟩),Value.tuple #[Value.agg #[Value.pointer q1,Value.int IntKind.i64 1],Value.bool true],Value.agg #[Value.pointer none,Value.int IntKind.i64 0],Value.agg #[Value.int IntKind.i64 2,Value.int IntKind.i64 1],Value.agg #[Value.int IntKind.i64 0,Value.int IntKind.i64 0,Value.int IntKind.i32 98,Value.bool false],Value.tuple #[Value.agg #[Value.pointer q1,Value.int IntKind.i64 1],Value.bool true],Value.agg #[Value.pointer q1,Value.int IntKind.i64 1],Value.bool true,Value.tuple #[Value.agg #[Value.pointer q2,Value.int IntKind.i64 2],Value.bool true],Value.agg #[Value.pointer q1,Value.int IntKind.i64 1],Value.agg #[Value.int IntKind.i64 1,Value.int IntKind.i64 3],Value.agg #[Value.int IntKind.i64 0,Value.int IntKind.i64 0,Value.int IntKind.i32 97,Value.bool false],Value.tuple #[Value.agg #[Value.pointer q2,Value.int IntKind.i64 2],Value.bool true],Value.agg #[Value.pointer q2,Value.int IntKind.i64 2],Value.bool true,Value.agg #[Value.pointer q2,Value.int IntKind.i64 2],Value.func (Fn.func 306) #[] #[Value.pointer (some ⟨w2.heap.size+1,0,none⟩)],Value.bool false,Value.agg #[Value.pointer q2,Value.int IntKind.i64 2],Value.func (Fn.func 306) #[] #[Value.pointer (some ⟨w2.heap.size+1+1,0,none⟩)],.agg #[.int .i64 (nmC x.1.1),.int .i64 (nmS x.1.1)],.agg #[x.1.2.ac,x.1.2.an,.int .i32 x.1.2.ch,.bool x.1.2.d],undef,undef,undef,undef,undef,undef,undef,undef,undef,undef,undef,undef,undef,undef,undef,undef,undef,undef,undef,undef,undef,undef,undef,undef,undef],defers:=[] })
  (fun x a' _ W W' row hs hg hr=>by obtain ⟨Bi,Be,hb,hb',he⟩:=hs; exact ⟨Bi,Be,hb.grown hg (fun r e=>(hr r e).2),hb'.grown hg (fun r e=>(hr r e).2),he⟩)
  ?assign ?body ?done ?stop
 case assign=>
  rintro l' pre x W K ⟨hi1,hi3⟩ hK;gi_wp2;refine hK _ _ (((KeepsOthers.alloc _ _).trans (KeepsOthers.alloc _ _)).from _) (((Below.refl _ W).alloc (by have:=hi1.lt; omega) _).alloc (by have:=hi1.lt; simp; omega) _) ⟨(hi1.alloc _).alloc _,(hi3.alloc (by have:=hi1.lt; omega) _).alloc (by have:=hi1.lt; simp; omega) _⟩ ⟨W.heap.size,W.heap.size+1,(Blk.start _ _ _).alloc _,Blk.startAt (by simp),rfl⟩
 case stop=>
  rintro D c pre W _ _ h _;exact h.elim
 case body=>
  rintro l' pre ⟨v,hv⟩ a' W hl' - ⟨hi1,hi3⟩ ⟨Bi,Be,hbi,hbe,rfl⟩ hlt';have hvv:=hv;rw [els_ex2] at hvv;simp only [List.mem_cons, List.not_mem_nil, or_false] at hvv;have hn9:w2.heap.size≤W.drew.heap.size:=Nat.le_of_lt hi1.lt;have hpl:(raw pre).length=pre.length:=by simp
  rcases hvv with rfl | rfl
  focus
   have hbi:Blk W Bi [.int .i64 1,.int .i64 3] 71:=by have h:=hbi; simp only [nm_exA.1, nm_exA.2] at h; exact h
   have hR:AwR w2.heap.size W1 (sT (raw pre)) Bi Be 1 3 exMA W.drew:=⟨hi1,hi3.drew,hbi.drew,hbe.drew,(HTab.out.next (HB.out.1.trans (hi3.mono hww)).drew)⟩;have HR:=Lh hR;have hraw:raw (pre++[⟨(2,exMA),hv⟩])=raw pre++[(2,exMA)]:=by simp [raw]
   have hadd:∀ X:World,(Op.stringOp .add (sT (raw pre)) ⟨#[49,46,51,97]⟩).run Tryz.prog X=.ok (.string (sT (raw pre++[(2,exMA)]))) X:=fun X=>by rw [sT_snoc]; exact run_string_add_sum X _ _ (by rw [sT_size,hpl]; exact Nat.le_trans (Nat.add_le_add_right (Nat.mul_le_mul_left 4 (Nat.le_of_lt hlt')) _) (by rw [els_ex2]; decide))
   have hcell0:=hR.bs.cell;clear hi1 hi3 hbi hbe hR hlt' hpl;gi_wp2;refine region_round (S:=(fun X=>X.cell? ⟨Bi,0,none⟩=some (.int .i64 1)∧X.cell? ⟨Bi,1,none⟩=some (.int .i64 3)∧X.cell? ⟨Be,2,none⟩=some (.int .i32 97))) hmx (by kernel_rfl) ((let h:=HR.out.s; ⟨h.1,h.2.1,h.2.2.1⟩)) (fun hH=>?_);refine ta 1 hH ?_;refine ta 3 hH ?_;refine ta 4 hH ?_;refine tk 5 (.string ⟨#[97]⟩) hH (fun w hSw=>?_) ?_
   ·(go_simp; rfl)
   try simp only [LAY]
   refine wpAnyH_ready (rs:=[0,2]) (by kernel_rfl) (by simp) ?_;refine cons1 rfl (fun K hK=>?_) (cons1 rfl (fun K hK=>?_) AllReadyH.nil)
   focus
    go_simp;go_wp2_with fail;refine hK.out _ _ (hH) ?_;clear hK K hH hcell0;intro hH;try simp only [LAY]
    refine rd1 2 (by kernel_rfl) rfl fun K hK=>?_
    go_simp;refine (string_yes 1 3 _ (by decide) HR.out.tab).mono ?_;rintro e' X1 ⟨rfl,hb⟩;rw [txtM_13];go_wp2_with fail;refine hK.out _ _ ((let h:=(HR.out.next hn9 hb).s; ⟨h.1,h.2.1,h.2.2.1⟩)) ?_;clear hK K hH;intro hH;try simp only [LAY]
    have HX:=Lh (HR.out.next hn9 hb);have HBB:=Lh hb;have hcell:=HX.out.bs.cell;have hfree:=HX.out.bs.frozen;clear hb HR;refine tk 6 (.string ⟨#[49,46,51,97]⟩) hH (fun w hSw=>?_) ?_
    ·(go_simp; rfl)
   rotate_left
   focus
    go_simp;refine (string_yes 1 3 _ (by decide) HR.out.tab).mono ?_;rintro e' X1 ⟨rfl,hb⟩;rw [txtM_13];go_wp2_with fail;refine hK.out _ _ ((let h:=(HR.out.next hn9 hb).s; ⟨h.1,h.2.1,h.2.2.1⟩)) ?_;clear hK K hH hcell0;intro hH;try simp only [LAY]
    have HX:=Lh (HR.out.next hn9 hb);have HBB:=Lh hb;have hcell:=HX.out.bs.cell;have hfree:=HX.out.bs.frozen;clear hb HR;refine tk 6 (.string ⟨#[49,46,51,97]⟩) hH (fun w hSw=>?_) ?_
    ·(go_simp; rfl)
    try simp only [LAY]
    refine rd1 0 (by kernel_rfl) rfl fun K hK=>?_
    go_simp;go_wp2_with fail;refine hK.out _ _ (hH) ?_;clear hK K hH;intro hH
   rotate_left
   all_goals
    try simp only [LAY]
    refine ta 7 hH ?_;refine rd1 8 (by kernel_rfl) rfl fun K hK=>?_
    go_simp;go_wp2_with fail;refine hK.out _ _ ((let h:=HX.out.put (sT (raw pre++[(2,exMA)])); (h.2.2.1.d2 (h.2.2.2.cell 2 rfl)))) ?_;clear hK K hH hcell hfree;intro hH;try simp only [LAY]
    refine wpAnyH_done (by kernel_rfl) ?_ _;refine OnlyN.normal ?_;clear hH;gi_wp2;have HF:=Lh (HX.out.put (sT (raw pre++[(2,exMA)])))
  rotate_left 2
  focus
   have hbi:Blk W Bi [.int .i64 2,.int .i64 1] 71:=by have h:=hbi; simp only [nm_exB.1, nm_exB.2] at h; exact h
   have hR:AwR w2.heap.size W1 (sT (raw pre)) Bi Be 2 1 exMB W.drew:=⟨hi1,hi3.drew,hbi.drew,hbe.drew,(HTab.out.next (HB.out.1.trans (hi3.mono hww)).drew)⟩;have HR:=Lh hR;have hraw:raw (pre++[⟨(1024,exMB),hv⟩])=raw pre++[(1024,exMB)]:=by simp [raw]
   have hadd:∀ X:World,(Op.stringOp .add (sT (raw pre)) ⟨#[50,46,49,98]⟩).run Tryz.prog X=.ok (.string (sT (raw pre++[(1024,exMB)]))) X:=fun X=>by rw [sT_snoc]; exact run_string_add_sum X _ _ (by rw [sT_size,hpl]; exact Nat.le_trans (Nat.add_le_add_right (Nat.mul_le_mul_left 4 (Nat.le_of_lt hlt')) _) (by rw [els_ex2]; decide))
   have hcell0:=hR.bs.cell;clear hi1 hi3 hbi hbe hR hlt' hpl;gi_wp2;refine region_round (S:=(fun X=>X.cell? ⟨Bi,0,none⟩=some (.int .i64 2)∧X.cell? ⟨Bi,1,none⟩=some (.int .i64 1)∧X.cell? ⟨Be,2,none⟩=some (.int .i32 98))) hmx (by kernel_rfl) ((let h:=HR.out.s; ⟨h.1,h.2.1,h.2.2.1⟩)) (fun hH=>?_);refine ta 1 hH ?_;refine ta 3 hH ?_;refine ta 4 hH ?_;refine tk 5 (.string ⟨#[98]⟩) hH (fun w hSw=>?_) ?_
   ·(go_simp; rfl)
   try simp only [LAY]
   refine wpAnyH_ready (rs:=[0,2]) (by kernel_rfl) (by simp) ?_;refine cons1 rfl (fun K hK=>?_) (cons1 rfl (fun K hK=>?_) AllReadyH.nil)
   focus
    go_simp;go_wp2_with fail;refine hK.out _ _ (hH) ?_;clear hK K hH hcell0;intro hH;try simp only [LAY]
    refine rd1 2 (by kernel_rfl) rfl fun K hK=>?_
    go_simp;refine (string_yes 2 1 _ (by decide) HR.out.tab).mono ?_;rintro e' X1 ⟨rfl,hb⟩;rw [txtM_21];go_wp2_with fail;refine hK.out _ _ ((let h:=(HR.out.next hn9 hb).s; ⟨h.1,h.2.1,h.2.2.1⟩)) ?_;clear hK K hH;intro hH;try simp only [LAY]
    have HX:=Lh (HR.out.next hn9 hb);have HBB:=Lh hb;have hcell:=HX.out.bs.cell;have hfree:=HX.out.bs.frozen;clear hb HR;refine tk 6 (.string ⟨#[50,46,49,98]⟩) hH (fun w hSw=>?_) ?_
    ·(go_simp; rfl)
   rotate_left
   focus
    go_simp;refine (string_yes 2 1 _ (by decide) HR.out.tab).mono ?_;rintro e' X1 ⟨rfl,hb⟩;rw [txtM_21];go_wp2_with fail;refine hK.out _ _ ((let h:=(HR.out.next hn9 hb).s; ⟨h.1,h.2.1,h.2.2.1⟩)) ?_;clear hK K hH hcell0;intro hH;try simp only [LAY]
    have HX:=Lh (HR.out.next hn9 hb);have HBB:=Lh hb;have hcell:=HX.out.bs.cell;have hfree:=HX.out.bs.frozen;clear hb HR;refine tk 6 (.string ⟨#[50,46,49,98]⟩) hH (fun w hSw=>?_) ?_
    ·(go_simp; rfl)
    try simp only [LAY]
    refine rd1 0 (by kernel_rfl) rfl fun K hK=>?_
    go_simp;go_wp2_with fail;refine hK.out _ _ (hH) ?_;clear hK K hH;intro hH
   rotate_left
   all_goals
    try simp only [LAY]
    refine ta 7 hH ?_;refine rd1 8 (by kernel_rfl) rfl fun K hK=>?_
    go_simp;go_wp2_with fail;refine hK.out _ _ ((let h:=HX.out.put (sT (raw pre++[(1024,exMB)])); (h.2.2.1.d2 (h.2.2.2.cell 2 rfl)))) ?_;clear hK K hH hcell hfree;intro hH;try simp only [LAY]
    refine wpAnyH_done (by kernel_rfl) ?_ _;refine OnlyN.normal ?_;clear hH;gi_wp2;have HF:=Lh (HX.out.put (sT (raw pre++[(1024,exMB)])))
  rotate_left 2
  all_goals
   exact ⟨((KeepsOthers.drew _).trans ((keeps_of_below HBB.out).trans (KeepsOthers.setCell _ _ _))).from _,((bdq.trans (HBB.out.mono hn9)).setCell (p:=⟨w2.heap.size,0,none⟩) (Nat.le_refl _) _),by rw [hraw]; exact HF.out.1,HF.out.2.1⟩
 case done=>
  rintro D ys W hD hys ⟨hi1,hi3⟩ hK1;have hs2:sT (raw ys)=⟨#[49,46,51,97,50,46,49,98]⟩:=by rw [hys,els_ex2]; rfl
  rw [hs2] at hi1;have hW:=HB.out.1.trans (hi3.mono hww);have HS:=Lh (And.intro hW (And.intro hi1 (And.intro (HB.out.2.1.below hi3 hbm) (HT3'.out.below hi3))));have hD1:=Lh hK1;clear hi1 hi3 hs2 hW hys hK1;go_wp2_with fail;refine (awake_any _ (HTab.out.next HS.out.1)).mono ?_;rintro e X1 ⟨rfl,hb⟩;have HS1:=Lh (And.intro (HS.out.1.trans (hb.mono HS.out.1.size)) (And.intro (Boxed.nextB HS.out.2.1 hb) (And.intro (HS.out.2.2.1.next hb) (And.intro (HS.out.2.2.2.is.next hb) ((hb.block D (Array.getElem?_eq_some_iff.1 hD1.out).1).trans hD1.out)))));clear HS hb hD1;have hs:=HS1.out.2.1.cell;have m0 := HS1.out.2.2.1.c2;go_wp2_with (go_at_call 208; refine (Last_any 2 _ HS1.out.2.2.2.1 full_ex2).mono ?_; rintro e X2 ⟨rfl,hb⟩; rw [last_ex2.1,last_ex2.2]);have hd1:=(hb.block D (Array.getElem?_eq_some_iff.1 HS1.out.2.2.2.2).1).trans HS1.out.2.2.2.2;have hbe:Below w.heap.size w (X2.putObj D (.deferred none)):=(HS1.out.1.trans (hb.mono HS1.out.1.size)).trans (belowK_b (w:=w) (Nat.le_refl _) _ D _ _ (by have:=HB.out.1.size; have:=hb3.size; omega) hd1 rfl rfl);refine ⟨by simp,.inl ⟨_,_,rfl,run_takeDeferred hd1,?_⟩⟩;exact ⟨.bool true,by simp [results, Tryz.results260, go_sem],rfl,hbe⟩
end Go.Proofs.YtemicfjmidohfaaGreatDoor
namespace Go.Proofs.YtemicfjmidohfaaGreatDoor
open Go Go.Proofs Go.RowKit
end Go.Proofs.YtemicfjmidohfaaGreatDoor
namespace Go.Proofs.YtemicfjmidohfaaGreatDoor
open Go Go.Proofs Go.RowKit Go.Shelf
attribute [local go_sem] Oper.semAt_some
def Good (T:Pt):Prop:=∀ x∈els T,mayB (nmC x.1) (nmS x.1)=true
theorem insL_mem {at_:Nat} {e:En}:∀ {l:List (Nat×En)} {x:Nat×En},x∈insL at_ e l→x=(at_,e)∨x∈l
 | [],x,h=>.inl (List.mem_singleton.1 h)
 | y::l,x,h=>by
  simp only [insL] at h
  split at h
  ·rcases List.mem_cons.1 h with rfl | h
   ·exact .inr (by simp)
   ·rcases insL_mem h with h | h
    ·exact .inl h
    ·exact .inr (List.mem_cons_of_mem _ h)
  ·split at h
   ·rcases List.mem_cons.1 h with rfl | h
    ·exact .inl rfl
    ·exact .inr (List.mem_cons_of_mem _ h)
   ·rcases List.mem_cons.1 h with rfl | h
    ·exact .inl rfl
    ·exact .inr h
theorem good_nil:Good .nil:=fun x hx=>by cases hx
theorem good_putM {T:Pt} (c s:Int) (e:En) (h:Good T):Good (putM T c s e):=by
 unfold putM
 split
 ·rename_i hm
  intro x hx
  rw [els_insL T e (place_lt hm)] at hx;rcases insL_mem hx with rfl | hx
  ·rw [(place_nm hm).1,(place_nm hm).2]; exact hm
  ·exact h x hx
 ·exact h
end Go.Proofs.YtemicfjmidohfaaGreatDoor
