import Derived.IntWalk
import Derived.Test.YtemicfjmidohfaaGreatDoorLBase
set_option maxRecDepth 100000
set_option maxHeartbeats 12800000
namespace Go.Proofs.YtemicfjmidohfaaGreatDoor
open Go Go.Proofs Go.RowKit
structure El where
 c:Int
 s:Int
 ch:Int
 d:Bool
 lo : -2147483648≤ch
 hi:ch≤2147483647
instance:Coe El (Array Value):=⟨fun x=>#[x.c,x.s,.int .i32 x.ch,.bool x.d]⟩
instance:Coe El (List Value):=⟨fun x=>[x.c,x.s,.int .i32 x.ch,.bool x.d]⟩
def El.al (x:El):Nat:=if x.d=true then 0 else 1
inductive Tr where
 | nil
 | node (l:Tr) (x:El) (r:Tr)
def Tr.size:Tr→Nat
 | .nil=>0
 | .node l _ r=>l.size+1+r.size
def Tr.alive:Tr→Nat
 | .nil=>0
 | .node l x r=>l.alive+x.al+r.alive
def Tr.depth:Tr→Nat
 | .nil=>0
 | .node l _ r=>1+max l.depth r.depth
def Tr.els:Tr→List El
 | .nil=>[]
 | .node l x r=>l.els++x::r.els
theorem El.al_le (x:El):x.al≤1:=by unfold El.al; split <;> omega
theorem Tr.els_length:∀ T:Tr,T.els.length=T.size
 | .nil=>rfl
 | .node l x r=>by simp only [Tr.els,Tr.size,List.length_append,List.length_cons,Tr.els_length l,Tr.els_length r]; omega
theorem Tr.alive_le:∀ T:Tr,T.alive≤T.size
 | .nil=>Nat.le_refl _
 | .node l x r=>by have:=Tr.alive_le l; have:=Tr.alive_le r; have:=x.al_le; simp only [Tr.alive,Tr.size]; omega
theorem Tr.depth_le:∀ T:Tr,T.depth≤T.size
 | .nil=>Nat.le_refl _
 | .node l x r=>by have:=Tr.depth_le l; have:=Tr.depth_le r; simp only [Tr.depth,Tr.size]; omega
def nodeL (pl:Option Addr) (x:El) (pr:Option Addr) (a b c:Nat):List Value:=
 [.pointer pl,x.c,x.s,.int .i32 x.ch,.bool x.d,.pointer pr,a,b,c]
def IsT (n:Nat) (W:World):Option Addr→Tr→Prop
 | p,.nil=>p=none
 | p,.node l x r=>∃ (b:Nat) (pl pr:Option Addr),p=some ⟨b,0,none⟩∧b<n ∧
   Blk W b (nodeL pl x pr (Tr.node l x r).size (Tr.node l x r).alive (Tr.node l x r).depth) 363∧IsT n W pl l∧IsT n W pr r
theorem IsT.below {n:Nat} {W W':World} (hb:Below n W W'):∀ {p:Option Addr} {T:Tr},IsT n W p T→IsT n W' p T
 | _,.nil,h=>h
 | _,.node _ _ _,⟨b,pl,pr,hp,hn,hB,hl,hr⟩=>⟨b,pl,pr,hp,hn,hB.below hb hn,IsT.below hb hl,IsT.below hb hr⟩
theorem IsT.mono {n m:Nat} (hm:n≤m) {W:World}:∀ {p:Option Addr} {T:Tr},IsT n W p T→IsT m W p T
 | _,.nil,h=>h
 | _,.node _ _ _,⟨b,pl,pr,hp,hn,hB,hl,hr⟩=>⟨b,pl,pr,hp,Nat.lt_of_lt_of_le hn hm,hB,IsT.mono hm hl,IsT.mono hm hr⟩
abbrev Is (W:World) (p:Option Addr) (T:Tr):Prop:=IsT W.heap.size W p T
theorem IsT.is {n:Nat} {W:World}:∀ {p:Option Addr} {T:Tr},IsT n W p T→Is W p T
 | _,.nil,h=>h
 | _,.node _ _ _,⟨b,pl,pr,hp,_,hB,hl,hr⟩=>⟨b,pl,pr,hp,hB.lt,hB,IsT.is hl,IsT.is hr⟩
theorem Is.next {W W':World} {p:Option Addr} {T:Tr} (h:Is W p T) (hb:Below W.heap.size W W'):Is W' p T:=(IsT.below hb h).mono hb.size
theorem IsT.next {W W':World} {p:Option Addr} {T:Tr} (h:IsT W.heap.size W p T) (hb:Below W.heap.size W W'):Is W' p T:=Is.next h hb
theorem fieldS0 (a b c:Int) (w:World):(Instr.field 341 (.agg #[a,b,c]) 0).run Tryz.prog w=.ok a w:=by kernel_rfl
theorem fieldS1 (a b c:Int) (w:World):(Instr.field 341 (.agg #[a,b,c]) 1).run Tryz.prog w=.ok b w:=by kernel_rfl
theorem fieldS2 (a b c:Int) (w:World):(Instr.field 341 (.agg #[a,b,c]) 2).run Tryz.prog w=.ok c w:=by kernel_rfl
theorem total_any {n:Nat} {p:Option Addr} {T:Tr} (w:World) (h:IsT n w p T):
  Calls Tryz.prog 225 #[.pointer p] w
   fun e w'=>e=.returned (.agg #[.int .i64 (T.size:Int),.int .i64 (T.alive:Int),.int .i64 (T.depth:Int)])∧Below w.heap.size w w':=by
 cases T with
 | nil=>
  obtain rfl:p=none:=h
  go_enter Tryz.func225,Tryz.ntmps225
  go_wp2
  exact bodyPost_ret (v:=.agg #[.int .i64 0,.int .i64 0,.int .i64 0]) (by simp [results,Tryz.results225,go_sem]) rfl ⟨rfl,bA⟩
 | node l x r=>
  obtain ⟨b,pl,pr,rfl,hn,hB,-,-⟩:=h;have hlt:=hB.lt;have hne:b≠w.heap.size:=by omega
  have h6:=hB.cell 6 rfl;have h7:=hB.cell 7 rfl;have h8:=hB.cell 8 rfl;clear hB;generalize (Tr.node l x r).size=A at *
  generalize (Tr.node l x r).alive=B at *
  generalize (Tr.node l x r).depth=C at *
  go_enter Tryz.func225,Tryz.ntmps225
  go_wp2
  exact bodyPost_ret (v:=.agg #[A,B,C]) (by simp [results,Tryz.results225,go_sem]) rfl ⟨rfl,bA⟩
theorem alive_any (x:El) (w:World):
  Calls Tryz.prog 243 #[.agg x] w
   fun e w'=>e=.returned (.int .i64 (x.al:Int))∧Below w.heap.size w w':=by
 obtain ⟨c,s,ch,d,_,_⟩:=x
 cases d
 all_goals
  dsimp only
  go_enter Tryz.func243,Tryz.ntmps243
  go_wp2
  go_ret
  exact ⟨rfl,bA⟩
def RetT (T:Tr) (w:World) (e:Ending) (w':World):Prop:=∃ q,e=.returned (.pointer q)∧Is w' q T∧Below w.heap.size w w'
abbrev elL (x:El):List Value:=[.int .i64 x.c,.int .i64 x.s,.int .i32 x.ch,.bool x.d]
structure JR (w w2:World) (L R:Tr) (x:El) (pl pr:Option Addr) (W:World):Prop where
 hl:Is W pl L
 hr:Is W pr R
 bel:Below w.heap.size w W
 bx:Blk W w.heap.size (elL x) 322
 b7:Blk W w2.heap.size [L.size,L.alive,L.depth] 341
 b8:Blk W (w2.heap.size+1) [R.size,R.alive,R.depth] 341
theorem JR.next {w w2:World} {L R:Tr} {x:El} {pl pr:Option Addr} {W W':World} (h:JR w w2 L R x pl pr W) (hb:Below W.heap.size W W'):JR w w2 L R x pl pr W':=
 ⟨h.hl.next hb,h.hr.next hb,h.bel.trans (hb.mono h.bel.size),h.bx.next hb,h.b7.next hb,h.b8.next hb⟩
theorem JR.s {w w2:World} {L R:Tr} {x:El} {pl pr:Option Addr} {W:World} (h:JR w w2 L R x pl pr W):
  W.cell? ⟨w2.heap.size,0,none⟩=some (.int .i64 L.size)∧W.cell? ⟨w2.heap.size,1,none⟩=some (.int .i64 L.alive)∧W.cell? ⟨w2.heap.size,2,none⟩=some (.int .i64 L.depth)∧W.cell? ⟨w2.heap.size+1,0,none⟩=some (.int .i64 R.size)∧W.cell? ⟨w2.heap.size+1,1,none⟩=some (.int .i64 R.alive)∧W.cell? ⟨w2.heap.size+1,2,none⟩=some (.int .i64 R.depth)∧W.cell? ⟨w.heap.size,0,none⟩=some (.int .i64 x.c)∧W.cell? ⟨w.heap.size,1,none⟩=some (.int .i64 x.s)∧W.cell? ⟨w.heap.size,2,none⟩=some (.int .i32 x.ch)∧W.cell? ⟨w.heap.size,3,none⟩=some (.bool x.d)∧JR w w2 L R x pl pr W:=
 (h.b7.d3 (h.b8.d3 (h.bx.d4 h)))
theorem join_done {w w2:World} {L R:Tr} {x:El} {pl pr:Option Addr} {v:World} (h:JR w w2 L R x pl pr v):
  RetT (.node L x R) w (.returned (.pointer (some ⟨v.heap.size,0,none⟩))) (v.alloc (.cells #[.pointer pl,x.c,x.s,.int .i32 x.ch,.bool x.d,.pointer pr,.int .i64 (L.size+1+R.size),.int .i64 (L.alive+x.al+R.alive),.int .i64 (1+(max L.depth R.depth:Nat))] 363)):=by
 have hA:=(Below.refl v.heap.size v).alloc (Nat.le_refl _) (.cells #[.pointer pl,x.c,x.s,.int .i32 x.ch,.bool x.d,.pointer pr,.int .i64 (L.size+1+R.size),.int .i64 (L.alive+x.al+R.alive),.int .i64 (1+(max L.depth R.depth:Nat))] 363);refine ⟨_,rfl,⟨v.heap.size,pl,pr,rfl,by simp,?_,h.hl.next hA,h.hr.next hA⟩,h.bel.trans (hA.mono h.bel.size)⟩;have:=Blk.start v [.pointer pl,x.c,x.s,.int .i32 x.ch,.bool x.d,.pointer pr,.int .i64 (L.size+1+R.size),.int .i64 (L.alive+x.al+R.alive),.int .i64 (1+(max L.depth R.depth:Nat))] 363;have e1:((Tr.node L x R).size:Int)=L.size+1+R.size:=by simp only [Tr.size]; omega
 have e2:((Tr.node L x R).alive:Int)=L.alive+x.al+R.alive:=by simp only [Tr.alive]; omega
 have e3:((Tr.node L x R).depth:Int)=1+(max L.depth R.depth:Nat):=by simp only [Tr.depth]; omega
 unfold nodeL
 rw [e1,e2,e3];exact this
theorem join_any {pl pr:Option Addr} {L R:Tr} (x:El) (w:World) (hl:Is w pl L) (hr:Is w pr R) (hs:L.size+R.size≤22000):
  Calls Tryz.prog 329 #[.pointer pl,.agg x,.pointer pr] w (RetT (.node L x R) w):=by
 have la:=L.alive_le;have ra:=R.alive_le;have ld:=L.depth_le;have rd:=R.depth_le;have xa:=x.al_le;have s1:IntKind.i64.wrap ((L.size:Int)+1)=L.size+1:=IntWalk.i64_in _ (by omega);have s2:IntKind.i64.wrap ((L.size:Int)+1+R.size)=L.size+1+R.size:=IntWalk.i64_in _ (by omega);have s3:IntKind.i64.wrap ((L.alive:Int)+x.al)=L.alive+x.al:=IntWalk.i64_in _ (by omega);have s4:IntKind.i64.wrap ((L.alive:Int)+x.al+R.alive)=L.alive+x.al+R.alive:=IntWalk.i64_in _ (by omega);have s5:IntKind.i64.wrap (1+((max L.depth R.depth:Nat):Int))=1+(max L.depth R.depth:Nat):=IntWalk.i64_in _ (by omega);have hb0:=(Below.refl w.heap.size w).alloc (Nat.le_refl _) (.cells x 322);have H0:=Lh (And.intro (hl.next hb0) (And.intro (hr.next hb0) hb0));have hX:=Lh (Blk.start w (elL x) 322);clear hl hr hb0
 go_enter Tryz.func329,Tryz.ntmps329
 go_wp2_with fail;refine (total_any _ H0.out.1).mono ?_;rintro e w1 ⟨rfl,hb1⟩
 have H1:=Lh (And.intro (H0.out.1.next hb1) (And.intro (H0.out.2.1.next hb1) (H0.out.2.2.trans (hb1.mono H0.out.2.2.size))));have hX1:=Lh (hX.out.next hb1);clear H0 hX hb1;go_wp2_with fail;refine (total_any _ H1.out.2.1).mono ?_;rintro e w2 ⟨rfl,hb2⟩
 have hS:JR w w2 L R x pl pr ((w2.alloc (.cells #[L.size,L.alive,L.depth] 341)).alloc (.cells #[R.size,R.alive,R.depth] 341)).drew:=by
  have hA:Below w2.heap.size w2 ((w2.alloc (.cells #[L.size,L.alive,L.depth] 341)).alloc (.cells #[R.size,R.alive,R.depth] 341)).drew:=((bA).alloc (by simp) _).drew;have hw2:Below w.heap.size w w2:=H1.out.2.2.trans (hb2.mono H1.out.2.2.size);exact ⟨(H1.out.1.next hb2).next hA,(H1.out.2.1.next hb2).next hA,hw2.trans (hA.mono hw2.size),(hX1.out.next hb2).next hA,(((Blk.start w2 _ _).alloc _).drew),(Blk.startAt (by simp)).drew⟩
 clear H1 hX1 hb2;go_wp2_with fail
 refine rgH (fun W=>Cc3 W w2.heap.size L.size L.alive L.depth (Cc3 W (w2.heap.size+1) R.size R.alive R.depth (Cc4 W w.heap.size x.c x.s (.int .i32 x.ch) (.bool x.d) (JR w w2 L R x pl pr W)))) (JR.s hS) fun hH=>?_
 clear hS;generalize hW0:((w2.alloc (.cells #[L.size,L.alive,L.depth] 341)).alloc (.cells #[R.size,R.alive,R.depth] 341)).drew=W0 at *
 clear hW0;refine ta 0 hH ?_;refine ta 1 hH ?_;refine ta 2 hH ?_;refine ta 3 hH ?_;refine ta 4 hH ?_;refine ta 5 hH ?_;refine ta 6 hH ?_;refine ta 7 hH ?_;refine ta 8 hH ?_;refine ta 11 hH ?_;refine ta 12 hH ?_;refine ta 14 hH ?_;refine ta 15 hH ?_;refine ta 16 hH ?_;refine ta 17 hH ?_;refine tk 18 (.int .i64 (max L.depth R.depth:Nat)) hH (fun w hSw=>?_) ?_
 ·(go_simp; split <;> omega)
 try simp only [LAY]
 refine ta 19 hH ?_;refine wpAnyH_ready (rs:=[9,21]) (by kernel_rfl) (by simp) ?_;refine cons1 rfl (fun K hK=>?_) (cons1 rfl (fun K hK=>?_) AllReadyH.nil)
 ·go_simp
  refine (alive_any x _).mono ?_
  rintro e u ⟨rfl,hb⟩
  go_wp2_with fail
  refine hK.out _ _ (JR.s (hH.2.2.2.2.2.2.2.2.2.2.next hb)) ?_;clear hK K hH hb;intro hH
  try simp only [LAY]
  refine ta 10 hH ?_;refine ta 13 hH ?_;refine ta 20 hH ?_;refine rd1 21 (by kernel_rfl) rfl fun K hK=>?_
  go_simp
  go_wp2_with fail
  have hU:=Lh hH.2.2.2.2.2.2.2.2.2.2;refine hK.out _ _ (JR.s (hH.2.2.2.2.2.2.2.2.2.2.next (bA))) ?_;clear hK K hH;intro hH
  try simp only [LAY]
  refine rd1 22 (by kernel_rfl) rfl fun K hK=>?_
  go_simp
  go_wp2_with fail
  refine hK.out _ _ (JR.s (hU.out.next (bA))) ?_;clear hK K hH hU;intro hH
  try simp only [LAY]
  refine dnH ?_;have hZ:=Blk.start u [.int .i64 (L.size+1+R.size),.int .i64 (L.alive+x.al+R.alive),.int .i64 (1+(max L.depth R.depth:Nat))] 341;generalize hv:World.alloc _ _=v at *
  clear hv;have hJ:=Lh hH.2.2.2.2.2.2.2.2.2.2;have hx0 := hJ.out.bx.c4;have hz0 := hZ.c3;clear hH hZ s1 s2 s3 s4 s5;go_wp2_with fail
  go_ret
  exact join_done hJ.out
 ·go_simp
  go_wp2_with fail
  have hU:=Lh hH.2.2.2.2.2.2.2.2.2.2;refine hK.out _ _ (JR.s (hH.2.2.2.2.2.2.2.2.2.2.next (bA))) ?_;clear hK K hH;intro hH
  try simp only [LAY]
  refine rd1 9 (by kernel_rfl) rfl fun K hK=>?_
  go_simp
  refine (alive_any x _).mono ?_
  rintro e u ⟨rfl,hb⟩
  have hZ:=(Blk.start W0 [.int .i64 0,.int .i64 0,.int .i64 0] 341).next hb;have hlt:W0.heap.size<u.heap.size:=hZ.lt;go_wp2_with fail
  refine hK.out _ _ (JR.s (hH.2.2.2.2.2.2.2.2.2.2.next hb)) ?_;clear hK K hH;intro hH
  try simp only [LAY]
  refine ta 10 hH ?_;refine ta 13 hH ?_;refine ta 20 hH ?_;have z0 := hZ.c3;have f0 := hZ.f3;have HZ:=Lh hZ;clear hZ;have hbb:Below W0.heap.size W0 u:=((Below.refl _ _).alloc (Nat.le_refl _) (.cells #[.int .i64 0,.int .i64 0,.int .i64 0] 341)).trans (hb.mono (by simp));clear hb;refine rd1 22 (by kernel_rfl) rfl fun K hK=>?_
  go_simp
  go_wp2_with fail
  refine hK.out _ _ (JR.s (hU.out.next (((hbb.setCell (p:=⟨W0.heap.size,0,none⟩) (Nat.le_refl _) _).setCell (p:=⟨W0.heap.size,1,none⟩) (Nat.le_refl _) _).setCell (p:=⟨W0.heap.size,2,none⟩) (Nat.le_refl _) _))) ?_;clear hK K hH hU z0 f0 hbb;intro hH
  try simp only [LAY]
  refine dnH ?_;have hZ:=((HZ.out.set 0 (.int .i64 (L.size+1+R.size))).set 1 (.int .i64 (L.alive+x.al+R.alive))).set 2 (.int .i64 (1+(max L.depth R.depth:Nat)));generalize hv:((u.setCell ⟨W0.heap.size,0,none⟩ (.int .i64 (L.size+1+R.size))).setCell ⟨W0.heap.size,1,none⟩ (.int .i64 (L.alive+x.al+R.alive))).setCell ⟨W0.heap.size,2,none⟩ (.int .i64 (1+(max L.depth R.depth:Nat)))=v at *
  clear hv HZ;have hJ:=Lh hH.2.2.2.2.2.2.2.2.2.2;have hx0 := hJ.out.bx.c4;have hz0 := hZ.c3;clear hH hZ s1 s2 s3 s4 s5;go_wp2_with fail
  go_ret
  exact join_done hJ.out
def Pk (P:World→Prop) (W:World):Prop:=P W
def turnR (A:Tr) (y:El) (I:Tr) (x:El) (R:Tr):Tr:=
 if I.depth≤A.depth then .node A y (.node I x R) else
  match I with
  | .nil=>.nil
  | .node B z C=>.node (.node A y B) z (.node C x R)
def turnL (L:Tr) (x:El) (I:Tr) (y:El) (C:Tr):Tr:=
 if I.depth≤C.depth then .node (.node L x I) y C else
  match I with
  | .nil=>.nil
  | .node B z D=>.node (.node L x B) z (.node D y C)
theorem turnRight_1 {pa0 pr:Option Addr} {A I R:Tr} (y x:El) (w:World) (hd:Is w pa0 (.node A y I)) (ho:Is w pr R) (hs:A.size+I.size+R.size≤21000) (hc:I.depth≤A.depth):
  Calls Tryz.prog 336 #[.pointer pa0,.agg x,.pointer pr] w (RetT (Tr.node A y (.node I x R)) w):=by
 obtain ⟨b,pa,pi,rfl,-,hB,hA,hI⟩:=hd;have hb0:=(Below.refl w.heap.size w).alloc (Nat.le_refl _) (.cells x 322);have HR:=Lh (show Pk (fun W=>Below w.heap.size w W∧Is W pr R∧Is W pa A∧Is W pi I∧Blk W b [.pointer pa,y.c,y.s,.int .i32 y.ch,.bool y.d,.pointer pi,.int .i64 ((Tr.node A y I).size:Int),.int .i64 ((Tr.node A y I).alive:Int),.int .i64 ((Tr.node A y I).depth:Int)] 363∧Blk W w.heap.size x 322) (w.alloc (.cells x 322)) from ⟨hb0,ho.next hb0,hA.next hb0,hI.next hb0,hB.next hb0,Blk.start _ _ _⟩);have hKp:=Lh (show ∀ W W':World,Below W.heap.size W W'→Pk (fun W=>Below w.heap.size w W∧Is W pr R∧Is W pa A∧Is W pi I∧Blk W b [.pointer pa,y.c,y.s,.int .i32 y.ch,.bool y.d,.pointer pi,.int .i64 ((Tr.node A y I).size:Int),.int .i64 ((Tr.node A y I).alive:Int),.int .i64 ((Tr.node A y I).depth:Int)] 363∧Blk W w.heap.size x 322) W→(fun W=>Cc6 W b (.pointer pa) y.c y.s (.int .i32 y.ch) (.bool y.d) (.pointer pi) (Cc4 W w.heap.size x.c x.s (.int .i32 x.ch) (.bool x.d) (Pk (fun W=>Below w.heap.size w W∧Is W pr R∧Is W pa A∧Is W pi I∧Blk W b [.pointer pa,y.c,y.s,.int .i32 y.ch,.bool y.d,.pointer pi,.int .i64 ((Tr.node A y I).size:Int),.int .i64 ((Tr.node A y I).alive:Int),.int .i64 ((Tr.node A y I).depth:Int)] 363∧Blk W w.heap.size x 322) W))) W' from fun W W' hb h=>((h.2.2.2.2.1.next hb).d6 ((h.2.2.2.2.2.next hb).d4 ⟨h.1.trans (hb.mono h.1.size),h.2.1.next hb,h.2.2.1.next hb,h.2.2.2.1.next hb,h.2.2.2.2.1.next hb,h.2.2.2.2.2.next hb⟩)));clear hb0 ho hA hI hB;have fs2:=fieldS2;have hc0:=(HR.out.2.2.2.2.1).cell 5 rfl
 go_enter Tryz.func336,Tryz.ntmps336
 go_wp2_with fail
 clear hc0;generalize hW0:World.alloc _ _=W0 at *
 clear hW0;refine rgH (fun W=>Cc6 W b (.pointer pa) y.c y.s (.int .i32 y.ch) (.bool y.d) (.pointer pi) (Cc4 W w.heap.size x.c x.s (.int .i32 x.ch) (.bool x.d) (Pk (fun W=>Below w.heap.size w W∧Is W pr R∧Is W pa A∧Is W pi I∧Blk W b [.pointer pa,y.c,y.s,.int .i32 y.ch,.bool y.d,.pointer pi,.int .i64 ((Tr.node A y I).size:Int),.int .i64 ((Tr.node A y I).alive:Int),.int .i64 ((Tr.node A y I).depth:Int)] 363∧Blk W w.heap.size x 322) W))) (hKp.out _ _ bdq HR.out) fun hH=>?_
 clear HR;refine ta 0 hH ?_;refine ta 3 hH ?_;refine ta 4 hH ?_;refine ta 5 hH ?_;refine ta 6 hH ?_;refine rc 1 (total_any _ (hH.2.2.2.2.2.2.2.2.2.2.2.2.2.1)) ?_
 rintro e u1 ⟨rfl,hb⟩
 refine rp (hKp.out _ _ hb hH.2.2.2.2.2.2.2.2.2.2) ?_;clear hH hb;intro hH
 refine ta 2 hH ?_;refine rc 7 (total_any _ (hH.2.2.2.2.2.2.2.2.2.2.2.2.1)) ?_
 rintro e u2 ⟨rfl,hb⟩
 refine rp (hKp.out _ _ hb hH.2.2.2.2.2.2.2.2.2.2) ?_;clear hH hb;intro hH
 refine ta 8 hH ?_;refine ta 9 hH ?_;refine dnH ?_;have HR:=Lh hH.2.2.2.2.2.2.2.2.2.2;clear hH;go_wp2_with fail
 refine rgH (fun W=>Cc6 W b (.pointer pa) y.c y.s (.int .i32 y.ch) (.bool y.d) (.pointer pi) (Cc4 W w.heap.size x.c x.s (.int .i32 x.ch) (.bool x.d) (Pk (fun W=>Below w.heap.size w W∧Is W pr R∧Is W pa A∧Is W pi I∧Blk W b [.pointer pa,y.c,y.s,.int .i32 y.ch,.bool y.d,.pointer pi,.int .i64 ((Tr.node A y I).size:Int),.int .i64 ((Tr.node A y I).alive:Int),.int .i64 ((Tr.node A y I).depth:Int)] 363∧Blk W w.heap.size x 322) W))) (hKp.out _ _ bdq HR.out) fun hH=>?_
 clear HR;refine ta 0 hH ?_;refine ta 1 hH ?_;refine ta 2 hH ?_;refine ta 3 hH ?_;refine ta 4 hH ?_;refine ta 5 hH ?_;refine ta 6 hH ?_;refine ta 7 hH ?_;refine ta 8 hH ?_;refine ta 9 hH ?_;refine ta 10 hH ?_;refine rc 11 (join_any x _ (hH.2.2.2.2.2.2.2.2.2.2.2.2.2.1) (hH.2.2.2.2.2.2.2.2.2.2.2.1) (by first | omega | (simp only [Tr.size] at hs ⊢; omega) | (simp only [Tr.size]; omega))) ?_
 rintro e u3 ⟨q3,rfl,hq3,hb⟩
 refine rp (hKp.out _ _ hb hH.2.2.2.2.2.2.2.2.2.2) ?_;clear hH hb;intro hH
 refine rc 12 (join_any y _ (hH.2.2.2.2.2.2.2.2.2.2.2.2.1) (hq3) (by first | omega | (simp only [Tr.size] at hs ⊢; omega) | (simp only [Tr.size]; omega))) ?_
 rintro e u4 ⟨q4,rfl,hq4,hb⟩
 refine rp (hKp.out _ _ hb hH.2.2.2.2.2.2.2.2.2.2) (fun hH2=>?_);have hq32:=hq3.next hb;clear hq3;have hq3:=hq32;clear hq32;clear hH hb;have hH:=hH2;clear hH2
 refine ta 13 hH ?_;refine dnH ?_;have HR:=Lh hH.2.2.2.2.2.2.2.2.2.2;clear hH;go_wp2_with fail
 go_ret
 exact ⟨_,rfl,hq4,HR.out.1⟩
theorem turnRight_2 {pa0 pr:Option Addr} {A B C R:Tr} (y z x:El) (w:World) (hd:Is w pa0 (.node A y (.node B z C))) (ho:Is w pr R) (hs:A.size+(Tr.node B z C).size+R.size≤21000) (hc:¬ (Tr.node B z C).depth≤A.depth):
  Calls Tryz.prog 336 #[.pointer pa0,.agg x,.pointer pr] w (RetT (Tr.node (.node A y B) z (.node C x R)) w):=by
 obtain ⟨b,pa,pi,rfl,-,hB,hA,hI⟩:=hd;have hI0:=hI;obtain ⟨c,pb,pc,rfl,-,hC,hBt,hCt⟩:=hI0;have hb0:=(Below.refl w.heap.size w).alloc (Nat.le_refl _) (.cells x 322);have HR:=Lh (show Pk (fun W=>Below w.heap.size w W∧Is W pr R∧Is W pa A∧Is W (some ⟨c,0,none⟩) (Tr.node B z C)∧Is W pb B∧Is W pc C∧Blk W b [.pointer pa,y.c,y.s,.int .i32 y.ch,.bool y.d,.pointer (some ⟨c,0,none⟩),.int .i64 ((Tr.node A y (Tr.node B z C)).size:Int),.int .i64 ((Tr.node A y (Tr.node B z C)).alive:Int),.int .i64 ((Tr.node A y (Tr.node B z C)).depth:Int)] 363∧Blk W c [.pointer pb,z.c,z.s,.int .i32 z.ch,.bool z.d,.pointer pc,.int .i64 ((Tr.node B z C).size:Int),.int .i64 ((Tr.node B z C).alive:Int),.int .i64 ((Tr.node B z C).depth:Int)] 363∧Blk W w.heap.size x 322) (w.alloc (.cells x 322)) from ⟨hb0,ho.next hb0,hA.next hb0,hI.next hb0,hBt.next hb0,hCt.next hb0,hB.next hb0,hC.next hb0,Blk.start _ _ _⟩);have hKp:=Lh (show ∀ W W':World,Below W.heap.size W W'→Pk (fun W=>Below w.heap.size w W∧Is W pr R∧Is W pa A∧Is W (some ⟨c,0,none⟩) (Tr.node B z C)∧Is W pb B∧Is W pc C∧Blk W b [.pointer pa,y.c,y.s,.int .i32 y.ch,.bool y.d,.pointer (some ⟨c,0,none⟩),.int .i64 ((Tr.node A y (Tr.node B z C)).size:Int),.int .i64 ((Tr.node A y (Tr.node B z C)).alive:Int),.int .i64 ((Tr.node A y (Tr.node B z C)).depth:Int)] 363∧Blk W c [.pointer pb,z.c,z.s,.int .i32 z.ch,.bool z.d,.pointer pc,.int .i64 ((Tr.node B z C).size:Int),.int .i64 ((Tr.node B z C).alive:Int),.int .i64 ((Tr.node B z C).depth:Int)] 363∧Blk W w.heap.size x 322) W→(fun W=>Cc6 W b (.pointer pa) y.c y.s (.int .i32 y.ch) (.bool y.d) (.pointer (some ⟨c,0,none⟩)) (Cc6 W c (.pointer pb) z.c z.s (.int .i32 z.ch) (.bool z.d) (.pointer pc) (Cc4 W w.heap.size x.c x.s (.int .i32 x.ch) (.bool x.d) (Pk (fun W=>Below w.heap.size w W∧Is W pr R∧Is W pa A∧Is W (some ⟨c,0,none⟩) (Tr.node B z C)∧Is W pb B∧Is W pc C∧Blk W b [.pointer pa,y.c,y.s,.int .i32 y.ch,.bool y.d,.pointer (some ⟨c,0,none⟩),.int .i64 ((Tr.node A y (Tr.node B z C)).size:Int),.int .i64 ((Tr.node A y (Tr.node B z C)).alive:Int),.int .i64 ((Tr.node A y (Tr.node B z C)).depth:Int)] 363∧Blk W c [.pointer pb,z.c,z.s,.int .i32 z.ch,.bool z.d,.pointer pc,.int .i64 ((Tr.node B z C).size:Int),.int .i64 ((Tr.node B z C).alive:Int),.int .i64 ((Tr.node B z C).depth:Int)] 363∧Blk W w.heap.size x 322) W)))) W' from fun W W' hb h=>((h.2.2.2.2.2.2.1.next hb).d6 ((h.2.2.2.2.2.2.2.1.next hb).d6 ((h.2.2.2.2.2.2.2.2.next hb).d4 ⟨h.1.trans (hb.mono h.1.size),h.2.1.next hb,h.2.2.1.next hb,h.2.2.2.1.next hb,h.2.2.2.2.1.next hb,h.2.2.2.2.2.1.next hb,h.2.2.2.2.2.2.1.next hb,h.2.2.2.2.2.2.2.1.next hb,h.2.2.2.2.2.2.2.2.next hb⟩))));clear hb0 ho hA hI hB hBt hCt hC;have fs2:=fieldS2;have hc0:=(HR.out.2.2.2.2.2.2.1).cell 5 rfl
 go_enter Tryz.func336,Tryz.ntmps336
 go_wp2_with fail
 clear hc0;generalize hW0:World.alloc _ _=W0 at *
 clear hW0;refine rgH (fun W=>Cc6 W b (.pointer pa) y.c y.s (.int .i32 y.ch) (.bool y.d) (.pointer (some ⟨c,0,none⟩)) (Cc6 W c (.pointer pb) z.c z.s (.int .i32 z.ch) (.bool z.d) (.pointer pc) (Cc4 W w.heap.size x.c x.s (.int .i32 x.ch) (.bool x.d) (Pk (fun W=>Below w.heap.size w W∧Is W pr R∧Is W pa A∧Is W (some ⟨c,0,none⟩) (Tr.node B z C)∧Is W pb B∧Is W pc C∧Blk W b [.pointer pa,y.c,y.s,.int .i32 y.ch,.bool y.d,.pointer (some ⟨c,0,none⟩),.int .i64 ((Tr.node A y (Tr.node B z C)).size:Int),.int .i64 ((Tr.node A y (Tr.node B z C)).alive:Int),.int .i64 ((Tr.node A y (Tr.node B z C)).depth:Int)] 363∧Blk W c [.pointer pb,z.c,z.s,.int .i32 z.ch,.bool z.d,.pointer pc,.int .i64 ((Tr.node B z C).size:Int),.int .i64 ((Tr.node B z C).alive:Int),.int .i64 ((Tr.node B z C).depth:Int)] 363∧Blk W w.heap.size x 322) W)))) (hKp.out _ _ bdq HR.out) fun hH=>?_
 clear HR;refine ta 0 hH ?_;refine ta 3 hH ?_;refine ta 4 hH ?_;refine ta 5 hH ?_;refine ta 6 hH ?_;refine rc 1 (total_any _ (hH.2.2.2.2.2.2.2.2.2.2.2.2.2.2.2.2.2.2.2.1)) ?_
 rintro e u1 ⟨rfl,hb⟩
 refine rp (hKp.out _ _ hb hH.2.2.2.2.2.2.2.2.2.2.2.2.2.2.2.2) ?_;clear hH hb;intro hH
 refine ta 2 hH ?_;refine rc 7 (total_any _ (hH.2.2.2.2.2.2.2.2.2.2.2.2.2.2.2.2.2.2.1)) ?_
 rintro e u2 ⟨rfl,hb⟩
 refine rp (hKp.out _ _ hb hH.2.2.2.2.2.2.2.2.2.2.2.2.2.2.2.2) ?_;clear hH hb;intro hH
 refine ta 8 hH ?_;refine ta 9 hH ?_;refine dnH ?_;have HR:=Lh hH.2.2.2.2.2.2.2.2.2.2.2.2.2.2.2.2;clear hH;go_wp2_with fail
 refine rgH (fun W=>Cc6 W b (.pointer pa) y.c y.s (.int .i32 y.ch) (.bool y.d) (.pointer (some ⟨c,0,none⟩)) (Cc6 W c (.pointer pb) z.c z.s (.int .i32 z.ch) (.bool z.d) (.pointer pc) (Cc4 W w.heap.size x.c x.s (.int .i32 x.ch) (.bool x.d) (Pk (fun W=>Below w.heap.size w W∧Is W pr R∧Is W pa A∧Is W (some ⟨c,0,none⟩) (Tr.node B z C)∧Is W pb B∧Is W pc C∧Blk W b [.pointer pa,y.c,y.s,.int .i32 y.ch,.bool y.d,.pointer (some ⟨c,0,none⟩),.int .i64 ((Tr.node A y (Tr.node B z C)).size:Int),.int .i64 ((Tr.node A y (Tr.node B z C)).alive:Int),.int .i64 ((Tr.node A y (Tr.node B z C)).depth:Int)] 363∧Blk W c [.pointer pb,z.c,z.s,.int .i32 z.ch,.bool z.d,.pointer pc,.int .i64 ((Tr.node B z C).size:Int),.int .i64 ((Tr.node B z C).alive:Int),.int .i64 ((Tr.node B z C).depth:Int)] 363∧Blk W w.heap.size x 322) W)))) (hKp.out _ _ bdq HR.out) fun hH=>?_
 clear HR;refine ta 0 hH ?_;refine ta 1 hH ?_;refine ta 2 hH ?_;refine ta 3 hH ?_;refine ta 4 hH ?_;refine ta 5 hH ?_;refine ta 6 hH ?_;refine ta 7 hH ?_;refine ta 8 hH ?_;refine ta 9 hH ?_;refine ta 10 hH ?_;refine ta 11 hH ?_;refine ta 13 hH ?_;refine ta 14 hH ?_;refine ta 15 hH ?_;refine ta 16 hH ?_;refine ta 17 hH ?_;refine ta 18 hH ?_;refine ta 19 hH ?_;refine ta 20 hH ?_;refine ta 21 hH ?_;refine ta 22 hH ?_;refine rc 12 (join_any y _ (hH.2.2.2.2.2.2.2.2.2.2.2.2.2.2.2.2.2.2.1) (hH.2.2.2.2.2.2.2.2.2.2.2.2.2.2.2.2.2.2.2.2.1) (by first | omega | (simp only [Tr.size] at hs ⊢; omega) | (simp only [Tr.size]; omega))) ?_
 rintro e u3 ⟨q3,rfl,hq3,hb⟩
 refine rp (hKp.out _ _ hb hH.2.2.2.2.2.2.2.2.2.2.2.2.2.2.2.2) ?_;clear hH hb;intro hH
 refine rc 23 (join_any x _ (hH.2.2.2.2.2.2.2.2.2.2.2.2.2.2.2.2.2.2.2.2.2.1) (hH.2.2.2.2.2.2.2.2.2.2.2.2.2.2.2.2.2.1) (by first | omega | (simp only [Tr.size] at hs ⊢; omega) | (simp only [Tr.size]; omega))) ?_
 rintro e u4 ⟨q4,rfl,hq4,hb⟩
 refine rp (hKp.out _ _ hb hH.2.2.2.2.2.2.2.2.2.2.2.2.2.2.2.2) (fun hH2=>?_);have hq32:=hq3.next hb;clear hq3;have hq3:=hq32;clear hq32;clear hH hb;have hH:=hH2;clear hH2
 refine rc 24 (join_any z _ (hq3) (hq4) (by first | omega | (simp only [Tr.size] at hs ⊢; omega) | (simp only [Tr.size]; omega))) ?_
 rintro e u5 ⟨q5,rfl,hq5,hb⟩
 refine rp (hKp.out _ _ hb hH.2.2.2.2.2.2.2.2.2.2.2.2.2.2.2.2) (fun hH2=>?_);have hq32:=hq3.next hb;clear hq3;have hq3:=hq32;clear hq32;have hq42:=hq4.next hb;clear hq4;have hq4:=hq42;clear hq42;clear hH hb;have hH:=hH2;clear hH2
 refine ta 25 hH ?_;refine dnH ?_;have HR:=Lh hH.2.2.2.2.2.2.2.2.2.2.2.2.2.2.2.2;clear hH;go_wp2_with fail
 go_ret
 exact ⟨_,rfl,hq5,HR.out.1⟩
theorem turnLeft_1 {pa0 pl:Option Addr} {A I L:Tr} (y x:El) (w:World) (hd:Is w pa0 (.node I y A)) (ho:Is w pl L) (hs:A.size+I.size+L.size≤21000) (hc:I.depth≤A.depth):
  Calls Tryz.prog 337 #[.pointer pl,.agg x,.pointer pa0] w (RetT (Tr.node (.node L x I) y A) w):=by
 obtain ⟨b,pi,pa,rfl,-,hB,hI,hA⟩:=hd;have hb0:=(Below.refl w.heap.size w).alloc (Nat.le_refl _) (.cells x 322);have HR:=Lh (show Pk (fun W=>Below w.heap.size w W∧Is W pl L∧Is W pa A∧Is W pi I∧Blk W b [.pointer pi,y.c,y.s,.int .i32 y.ch,.bool y.d,.pointer pa,.int .i64 ((Tr.node I y A).size:Int),.int .i64 ((Tr.node I y A).alive:Int),.int .i64 ((Tr.node I y A).depth:Int)] 363∧Blk W w.heap.size x 322) (w.alloc (.cells x 322)) from ⟨hb0,ho.next hb0,hA.next hb0,hI.next hb0,hB.next hb0,Blk.start _ _ _⟩);have hKp:=Lh (show ∀ W W':World,Below W.heap.size W W'→Pk (fun W=>Below w.heap.size w W∧Is W pl L∧Is W pa A∧Is W pi I∧Blk W b [.pointer pi,y.c,y.s,.int .i32 y.ch,.bool y.d,.pointer pa,.int .i64 ((Tr.node I y A).size:Int),.int .i64 ((Tr.node I y A).alive:Int),.int .i64 ((Tr.node I y A).depth:Int)] 363∧Blk W w.heap.size x 322) W→(fun W=>Cc6 W b (.pointer pi) y.c y.s (.int .i32 y.ch) (.bool y.d) (.pointer pa) (Cc4 W w.heap.size x.c x.s (.int .i32 x.ch) (.bool x.d) (Pk (fun W=>Below w.heap.size w W∧Is W pl L∧Is W pa A∧Is W pi I∧Blk W b [.pointer pi,y.c,y.s,.int .i32 y.ch,.bool y.d,.pointer pa,.int .i64 ((Tr.node I y A).size:Int),.int .i64 ((Tr.node I y A).alive:Int),.int .i64 ((Tr.node I y A).depth:Int)] 363∧Blk W w.heap.size x 322) W))) W' from fun W W' hb h=>((h.2.2.2.2.1.next hb).d6 ((h.2.2.2.2.2.next hb).d4 ⟨h.1.trans (hb.mono h.1.size),h.2.1.next hb,h.2.2.1.next hb,h.2.2.2.1.next hb,h.2.2.2.2.1.next hb,h.2.2.2.2.2.next hb⟩)));clear hb0 ho hA hI hB;have fs2:=fieldS2;have hc0:=(HR.out.2.2.2.2.1).cell 0 rfl
 go_enter Tryz.func337,Tryz.ntmps337
 go_wp2_with fail
 clear hc0;generalize hW0:World.alloc _ _=W0 at *
 clear hW0;refine rgH (fun W=>Cc6 W b (.pointer pi) y.c y.s (.int .i32 y.ch) (.bool y.d) (.pointer pa) (Cc4 W w.heap.size x.c x.s (.int .i32 x.ch) (.bool x.d) (Pk (fun W=>Below w.heap.size w W∧Is W pl L∧Is W pa A∧Is W pi I∧Blk W b [.pointer pi,y.c,y.s,.int .i32 y.ch,.bool y.d,.pointer pa,.int .i64 ((Tr.node I y A).size:Int),.int .i64 ((Tr.node I y A).alive:Int),.int .i64 ((Tr.node I y A).depth:Int)] 363∧Blk W w.heap.size x 322) W))) (hKp.out _ _ bdq HR.out) fun hH=>?_
 clear HR;refine ta 0 hH ?_;refine ta 3 hH ?_;refine ta 4 hH ?_;refine ta 5 hH ?_;refine ta 6 hH ?_;refine rc 1 (total_any _ (hH.2.2.2.2.2.2.2.2.2.2.2.2.2.1)) ?_
 rintro e u1 ⟨rfl,hb⟩
 refine rp (hKp.out _ _ hb hH.2.2.2.2.2.2.2.2.2.2) ?_;clear hH hb;intro hH
 refine ta 2 hH ?_;refine rc 7 (total_any _ (hH.2.2.2.2.2.2.2.2.2.2.2.2.1)) ?_
 rintro e u2 ⟨rfl,hb⟩
 refine rp (hKp.out _ _ hb hH.2.2.2.2.2.2.2.2.2.2) ?_;clear hH hb;intro hH
 refine ta 8 hH ?_;refine ta 9 hH ?_;refine dnH ?_;have HR:=Lh hH.2.2.2.2.2.2.2.2.2.2;clear hH;go_wp2_with fail
 refine rgH (fun W=>Cc6 W b (.pointer pi) y.c y.s (.int .i32 y.ch) (.bool y.d) (.pointer pa) (Cc4 W w.heap.size x.c x.s (.int .i32 x.ch) (.bool x.d) (Pk (fun W=>Below w.heap.size w W∧Is W pl L∧Is W pa A∧Is W pi I∧Blk W b [.pointer pi,y.c,y.s,.int .i32 y.ch,.bool y.d,.pointer pa,.int .i64 ((Tr.node I y A).size:Int),.int .i64 ((Tr.node I y A).alive:Int),.int .i64 ((Tr.node I y A).depth:Int)] 363∧Blk W w.heap.size x 322) W))) (hKp.out _ _ bdq HR.out) fun hH=>?_
 clear HR;refine ta 0 hH ?_;refine ta 1 hH ?_;refine ta 2 hH ?_;refine ta 4 hH ?_;refine ta 5 hH ?_;refine ta 6 hH ?_;refine ta 7 hH ?_;refine ta 8 hH ?_;refine ta 9 hH ?_;refine ta 10 hH ?_;refine ta 11 hH ?_;refine rc 3 (join_any x _ (hH.2.2.2.2.2.2.2.2.2.2.2.1) (hH.2.2.2.2.2.2.2.2.2.2.2.2.2.1) (by first | omega | (simp only [Tr.size] at hs ⊢; omega) | (simp only [Tr.size]; omega))) ?_
 rintro e u3 ⟨q3,rfl,hq3,hb⟩
 refine rp (hKp.out _ _ hb hH.2.2.2.2.2.2.2.2.2.2) ?_;clear hH hb;intro hH
 refine rc 12 (join_any y _ (hq3) (hH.2.2.2.2.2.2.2.2.2.2.2.2.1) (by first | omega | (simp only [Tr.size] at hs ⊢; omega) | (simp only [Tr.size]; omega))) ?_
 rintro e u4 ⟨q4,rfl,hq4,hb⟩
 refine rp (hKp.out _ _ hb hH.2.2.2.2.2.2.2.2.2.2) (fun hH2=>?_);have hq32:=hq3.next hb;clear hq3;have hq3:=hq32;clear hq32;clear hH hb;have hH:=hH2;clear hH2
 refine ta 13 hH ?_;refine dnH ?_;have HR:=Lh hH.2.2.2.2.2.2.2.2.2.2;clear hH;go_wp2_with fail
 go_ret
 exact ⟨_,rfl,hq4,HR.out.1⟩
theorem turnLeft_2 {pa0 pl:Option Addr} {A B C L:Tr} (y z x:El) (w:World) (hd:Is w pa0 (.node (.node B z C) y A)) (ho:Is w pl L) (hs:A.size+(Tr.node B z C).size+L.size≤21000) (hc:¬ (Tr.node B z C).depth≤A.depth):
  Calls Tryz.prog 337 #[.pointer pl,.agg x,.pointer pa0] w (RetT (Tr.node (.node L x B) z (.node C y A)) w):=by
 obtain ⟨b,pi,pa,rfl,-,hB,hI,hA⟩:=hd;have hI0:=hI;obtain ⟨c,pb,pc,rfl,-,hC,hBt,hCt⟩:=hI0;have hb0:=(Below.refl w.heap.size w).alloc (Nat.le_refl _) (.cells x 322);have HR:=Lh (show Pk (fun W=>Below w.heap.size w W∧Is W pl L∧Is W pa A∧Is W (some ⟨c,0,none⟩) (Tr.node B z C)∧Is W pb B∧Is W pc C∧Blk W b [.pointer (some ⟨c,0,none⟩),y.c,y.s,.int .i32 y.ch,.bool y.d,.pointer pa,.int .i64 ((Tr.node (Tr.node B z C) y A).size:Int),.int .i64 ((Tr.node (Tr.node B z C) y A).alive:Int),.int .i64 ((Tr.node (Tr.node B z C) y A).depth:Int)] 363∧Blk W c [.pointer pb,z.c,z.s,.int .i32 z.ch,.bool z.d,.pointer pc,.int .i64 ((Tr.node B z C).size:Int),.int .i64 ((Tr.node B z C).alive:Int),.int .i64 ((Tr.node B z C).depth:Int)] 363∧Blk W w.heap.size x 322) (w.alloc (.cells x 322)) from ⟨hb0,ho.next hb0,hA.next hb0,hI.next hb0,hBt.next hb0,hCt.next hb0,hB.next hb0,hC.next hb0,Blk.start _ _ _⟩);have hKp:=Lh (show ∀ W W':World,Below W.heap.size W W'→Pk (fun W=>Below w.heap.size w W∧Is W pl L∧Is W pa A∧Is W (some ⟨c,0,none⟩) (Tr.node B z C)∧Is W pb B∧Is W pc C∧Blk W b [.pointer (some ⟨c,0,none⟩),y.c,y.s,.int .i32 y.ch,.bool y.d,.pointer pa,.int .i64 ((Tr.node (Tr.node B z C) y A).size:Int),.int .i64 ((Tr.node (Tr.node B z C) y A).alive:Int),.int .i64 ((Tr.node (Tr.node B z C) y A).depth:Int)] 363∧Blk W c [.pointer pb,z.c,z.s,.int .i32 z.ch,.bool z.d,.pointer pc,.int .i64 ((Tr.node B z C).size:Int),.int .i64 ((Tr.node B z C).alive:Int),.int .i64 ((Tr.node B z C).depth:Int)] 363∧Blk W w.heap.size x 322) W→(fun W=>Cc6 W b (.pointer (some ⟨c,0,none⟩)) y.c y.s (.int .i32 y.ch) (.bool y.d) (.pointer pa) (Cc6 W c (.pointer pb) z.c z.s (.int .i32 z.ch) (.bool z.d) (.pointer pc) (Cc4 W w.heap.size x.c x.s (.int .i32 x.ch) (.bool x.d) (Pk (fun W=>Below w.heap.size w W∧Is W pl L∧Is W pa A∧Is W (some ⟨c,0,none⟩) (Tr.node B z C)∧Is W pb B∧Is W pc C∧Blk W b [.pointer (some ⟨c,0,none⟩),y.c,y.s,.int .i32 y.ch,.bool y.d,.pointer pa,.int .i64 ((Tr.node (Tr.node B z C) y A).size:Int),.int .i64 ((Tr.node (Tr.node B z C) y A).alive:Int),.int .i64 ((Tr.node (Tr.node B z C) y A).depth:Int)] 363∧Blk W c [.pointer pb,z.c,z.s,.int .i32 z.ch,.bool z.d,.pointer pc,.int .i64 ((Tr.node B z C).size:Int),.int .i64 ((Tr.node B z C).alive:Int),.int .i64 ((Tr.node B z C).depth:Int)] 363∧Blk W w.heap.size x 322) W)))) W' from fun W W' hb h=>((h.2.2.2.2.2.2.1.next hb).d6 ((h.2.2.2.2.2.2.2.1.next hb).d6 ((h.2.2.2.2.2.2.2.2.next hb).d4 ⟨h.1.trans (hb.mono h.1.size),h.2.1.next hb,h.2.2.1.next hb,h.2.2.2.1.next hb,h.2.2.2.2.1.next hb,h.2.2.2.2.2.1.next hb,h.2.2.2.2.2.2.1.next hb,h.2.2.2.2.2.2.2.1.next hb,h.2.2.2.2.2.2.2.2.next hb⟩))));clear hb0 ho hA hI hB hBt hCt hC;have fs2:=fieldS2;have hc0:=(HR.out.2.2.2.2.2.2.1).cell 0 rfl
 go_enter Tryz.func337,Tryz.ntmps337
 go_wp2_with fail
 clear hc0;generalize hW0:World.alloc _ _=W0 at *
 clear hW0;refine rgH (fun W=>Cc6 W b (.pointer (some ⟨c,0,none⟩)) y.c y.s (.int .i32 y.ch) (.bool y.d) (.pointer pa) (Cc6 W c (.pointer pb) z.c z.s (.int .i32 z.ch) (.bool z.d) (.pointer pc) (Cc4 W w.heap.size x.c x.s (.int .i32 x.ch) (.bool x.d) (Pk (fun W=>Below w.heap.size w W∧Is W pl L∧Is W pa A∧Is W (some ⟨c,0,none⟩) (Tr.node B z C)∧Is W pb B∧Is W pc C∧Blk W b [.pointer (some ⟨c,0,none⟩),y.c,y.s,.int .i32 y.ch,.bool y.d,.pointer pa,.int .i64 ((Tr.node (Tr.node B z C) y A).size:Int),.int .i64 ((Tr.node (Tr.node B z C) y A).alive:Int),.int .i64 ((Tr.node (Tr.node B z C) y A).depth:Int)] 363∧Blk W c [.pointer pb,z.c,z.s,.int .i32 z.ch,.bool z.d,.pointer pc,.int .i64 ((Tr.node B z C).size:Int),.int .i64 ((Tr.node B z C).alive:Int),.int .i64 ((Tr.node B z C).depth:Int)] 363∧Blk W w.heap.size x 322) W)))) (hKp.out _ _ bdq HR.out) fun hH=>?_
 clear HR;refine ta 0 hH ?_;refine ta 3 hH ?_;refine ta 4 hH ?_;refine ta 5 hH ?_;refine ta 6 hH ?_;refine rc 1 (total_any _ (hH.2.2.2.2.2.2.2.2.2.2.2.2.2.2.2.2.2.2.2.1)) ?_
 rintro e u1 ⟨rfl,hb⟩
 refine rp (hKp.out _ _ hb hH.2.2.2.2.2.2.2.2.2.2.2.2.2.2.2.2) ?_;clear hH hb;intro hH
 refine ta 2 hH ?_;refine rc 7 (total_any _ (hH.2.2.2.2.2.2.2.2.2.2.2.2.2.2.2.2.2.2.1)) ?_
 rintro e u2 ⟨rfl,hb⟩
 refine rp (hKp.out _ _ hb hH.2.2.2.2.2.2.2.2.2.2.2.2.2.2.2.2) ?_;clear hH hb;intro hH
 refine ta 8 hH ?_;refine ta 9 hH ?_;refine dnH ?_;have HR:=Lh hH.2.2.2.2.2.2.2.2.2.2.2.2.2.2.2.2;clear hH;go_wp2_with fail
 refine rgH (fun W=>Cc6 W b (.pointer (some ⟨c,0,none⟩)) y.c y.s (.int .i32 y.ch) (.bool y.d) (.pointer pa) (Cc6 W c (.pointer pb) z.c z.s (.int .i32 z.ch) (.bool z.d) (.pointer pc) (Cc4 W w.heap.size x.c x.s (.int .i32 x.ch) (.bool x.d) (Pk (fun W=>Below w.heap.size w W∧Is W pl L∧Is W pa A∧Is W (some ⟨c,0,none⟩) (Tr.node B z C)∧Is W pb B∧Is W pc C∧Blk W b [.pointer (some ⟨c,0,none⟩),y.c,y.s,.int .i32 y.ch,.bool y.d,.pointer pa,.int .i64 ((Tr.node (Tr.node B z C) y A).size:Int),.int .i64 ((Tr.node (Tr.node B z C) y A).alive:Int),.int .i64 ((Tr.node (Tr.node B z C) y A).depth:Int)] 363∧Blk W c [.pointer pb,z.c,z.s,.int .i32 z.ch,.bool z.d,.pointer pc,.int .i64 ((Tr.node B z C).size:Int),.int .i64 ((Tr.node B z C).alive:Int),.int .i64 ((Tr.node B z C).depth:Int)] 363∧Blk W w.heap.size x 322) W)))) (hKp.out _ _ bdq HR.out) fun hH=>?_
 clear HR;refine ta 0 hH ?_;refine ta 1 hH ?_;refine ta 2 hH ?_;refine ta 3 hH ?_;refine ta 4 hH ?_;refine ta 5 hH ?_;refine ta 7 hH ?_;refine ta 8 hH ?_;refine ta 9 hH ?_;refine ta 10 hH ?_;refine ta 11 hH ?_;refine ta 12 hH ?_;refine ta 13 hH ?_;refine ta 14 hH ?_;refine ta 15 hH ?_;refine ta 16 hH ?_;refine ta 17 hH ?_;refine ta 18 hH ?_;refine ta 19 hH ?_;refine ta 20 hH ?_;refine ta 21 hH ?_;refine ta 22 hH ?_;refine rc 6 (join_any x _ (hH.2.2.2.2.2.2.2.2.2.2.2.2.2.2.2.2.2.1) (hH.2.2.2.2.2.2.2.2.2.2.2.2.2.2.2.2.2.2.2.2.1) (by first | omega | (simp only [Tr.size] at hs ⊢; omega) | (simp only [Tr.size]; omega))) ?_
 rintro e u3 ⟨q3,rfl,hq3,hb⟩
 refine rp (hKp.out _ _ hb hH.2.2.2.2.2.2.2.2.2.2.2.2.2.2.2.2) ?_;clear hH hb;intro hH
 refine rc 23 (join_any y _ (hH.2.2.2.2.2.2.2.2.2.2.2.2.2.2.2.2.2.2.2.2.2.1) (hH.2.2.2.2.2.2.2.2.2.2.2.2.2.2.2.2.2.2.1) (by first | omega | (simp only [Tr.size] at hs ⊢; omega) | (simp only [Tr.size]; omega))) ?_
 rintro e u4 ⟨q4,rfl,hq4,hb⟩
 refine rp (hKp.out _ _ hb hH.2.2.2.2.2.2.2.2.2.2.2.2.2.2.2.2) (fun hH2=>?_);have hq32:=hq3.next hb;clear hq3;have hq3:=hq32;clear hq32;clear hH hb;have hH:=hH2;clear hH2
 refine rc 24 (join_any z _ (hq3) (hq4) (by first | omega | (simp only [Tr.size] at hs ⊢; omega) | (simp only [Tr.size]; omega))) ?_
 rintro e u5 ⟨q5,rfl,hq5,hb⟩
 refine rp (hKp.out _ _ hb hH.2.2.2.2.2.2.2.2.2.2.2.2.2.2.2.2) (fun hH2=>?_);have hq32:=hq3.next hb;clear hq3;have hq3:=hq32;clear hq32;have hq42:=hq4.next hb;clear hq4;have hq4:=hq42;clear hq42;clear hH hb;have hH:=hH2;clear hH2
 refine ta 25 hH ?_;refine dnH ?_;have HR:=Lh hH.2.2.2.2.2.2.2.2.2.2.2.2.2.2.2.2;clear hH;go_wp2_with fail
 go_ret
 exact ⟨_,rfl,hq5,HR.out.1⟩
theorem turnR_any {pa0 pr:Option Addr} {A I R:Tr} (y x:El) (w:World) (hd:Is w pa0 (.node A y I)) (ho:Is w pr R) (hs:A.size+I.size+R.size≤21000):
  Calls Tryz.prog 336 #[.pointer pa0,.agg x,.pointer pr] w (RetT (turnR A y I x R) w):=by
 by_cases hc:I.depth≤A.depth
 ·unfold turnR; rw [if_pos hc]; exact turnRight_1 y x w hd ho hs hc
 ·cases I with
  | nil=>exact absurd (Nat.zero_le _) hc
  | node B z C=>unfold turnR; rw [if_neg hc]; exact turnRight_2 y z x w hd ho hs hc
theorem turnL_any {pa0 pl:Option Addr} {A I L:Tr} (y x:El) (w:World) (hd:Is w pa0 (.node I y A)) (ho:Is w pl L) (hs:A.size+I.size+L.size≤21000):
  Calls Tryz.prog 337 #[.pointer pl,.agg x,.pointer pa0] w (RetT (turnL L x I y A) w):=by
 by_cases hc:I.depth≤A.depth
 ·unfold turnL; rw [if_pos hc]; exact turnLeft_1 y x w hd ho hs hc
 ·cases I with
  | nil=>exact absurd (Nat.zero_le _) hc
  | node B z C=>unfold turnL; rw [if_neg hc]; exact turnLeft_2 y z x w hd ho hs hc
theorem turnR_size (A:Tr) (y:El) (I:Tr) (x:El) (R:Tr):(turnR A y I x R).size=A.size+I.size+R.size+2:=by
 unfold turnR
 by_cases hc:I.depth≤A.depth
 ·rw [if_pos hc]; simp only [Tr.size]; omega
 ·rw [if_neg hc]
  cases I with
  | nil=>exact absurd (Nat.zero_le _) hc
  | node B z C=>simp only [Tr.size]; omega
theorem turnL_size (L:Tr) (x:El) (I:Tr) (y:El) (A:Tr):(turnL L x I y A).size=A.size+I.size+L.size+2:=by
 unfold turnL
 by_cases hc:I.depth≤A.depth
 ·rw [if_pos hc]; simp only [Tr.size]; omega
 ·rw [if_neg hc]
  cases I with
  | nil=>exact absurd (Nat.zero_le _) hc
  | node B z C=>simp only [Tr.size]; omega
def bal (L:Tr) (x:El) (R:Tr):Tr:=
 if R.depth+1<L.depth then
  match L with
  | .nil=>.nil
  | .node A y I=>turnR A y I x R
 else if L.depth+1<R.depth then
  match R with
  | .nil=>.nil
  | .node I y A=>turnL L x I y A
 else .node L x R
theorem bal_size (L:Tr) (x:El) (R:Tr):(bal L x R).size=L.size+1+R.size:=by
 unfold bal
 by_cases h1:R.depth+1<L.depth
 ·rw [if_pos h1]
  cases L with
  | nil=>exact absurd h1 (by simp only [Tr.depth]; omega)
  | node A y I=>simp only [turnR_size,Tr.size]; omega
 ·rw [if_neg h1]
  by_cases h2:L.depth+1<R.depth
  ·rw [if_pos h2]
   cases R with
   | nil=>exact absurd h2 (by simp only [Tr.depth]; omega)
   | node I y A=>simp only [turnL_size,Tr.size]; omega
  ·rw [if_neg h2]; simp only [Tr.size]
theorem bal_1 {A:Tr} {y:El} {I R:Tr} (x:El) (h1:R.depth+1<(Tr.node A y I).depth):bal (.node A y I) x R=turnR A y I x R:=by unfold bal; rw [if_pos h1]
theorem bal_2 {A:Tr} {y:El} {I L:Tr} (x:El) (h1:¬ (Tr.node I y A).depth+1<L.depth) (h2:L.depth+1<(Tr.node I y A).depth):bal L x (.node I y A)=turnL L x I y A:=by unfold bal; rw [if_neg h1,if_pos h2]
theorem bal_3 {L R:Tr} (x:El) (h1:¬ R.depth+1<L.depth) (h2:¬ L.depth+1<R.depth):bal L x R=.node L x R:=by unfold bal; rw [if_neg h1,if_neg h2]
structure BR (w:World) (L R:Tr) (x:El) (pl pr:Option Addr) (W:World):Prop where
 hl:Is W pl L
 hr:Is W pr R
 bel:Below w.heap.size w W
 bx:Blk W w.heap.size (elL x) 322
theorem BR.next {w:World} {L R:Tr} {x:El} {pl pr:Option Addr} {W W':World} (h:BR w L R x pl pr W) (hb:Below W.heap.size W W'):BR w L R x pl pr W':=
 ⟨h.hl.next hb,h.hr.next hb,h.bel.trans (hb.mono h.bel.size),h.bx.next hb⟩
theorem BR.start {w:World} {L R:Tr} (x:El) {pl pr:Option Addr} (hl:Is w pl L) (hr:Is w pr R):BR w L R x pl pr (w.alloc (.cells x 322)):=by
 have hb0:=(Below.refl w.heap.size w).alloc (Nat.le_refl _) (.cells x 322);exact ⟨hl.next hb0,hr.next hb0,hb0,Blk.start _ _ _⟩
theorem balance_any {pl pr:Option Addr} {L R:Tr} (x:El) (w:World) (hl:Is w pl L) (hr:Is w pr R) (hs:L.size+R.size≤21000):
  Calls Tryz.prog 330 #[.pointer pl,.agg x,.pointer pr] w (RetT (bal L x R) w):=by
 have ld:=L.depth_le;have rd:=R.depth_le;have ld2:L.depth≤22000:=by omega
 have rd2:R.depth≤22000:=by omega
 have H0:=Lh (BR.start x hl hr);have fs2:=fieldS2;clear hl hr ld rd;have HS:=Lh hs;clear hs
 go_enter Tryz.func330,Tryz.ntmps330
 go_wp2_with fail;refine (total_any _ H0.out.hl).mono ?_;rintro e w1 ⟨rfl,hb1⟩
 have H1:=Lh (H0.out.next hb1);clear H0 hb1;go_wp2_with fail;refine (total_any _ H1.out.hr).mono ?_;rintro e w2 ⟨rfl,hb2⟩
 have H2:=Lh (H1.out.next hb2);clear H1 hb2;have hx0 := H2.out.bx.c4;by_cases h1:R.depth+1<L.depth
 ·cases L with
  | nil=>exact absurd h1 (by simp only [Tr.depth]; omega)
  | node A y I=>
   have HE:=Lh (bal_1 x h1);go_wp2_with (go_at_call 336; refine (turnR_any y x _ H2.out.hl H2.out.hr (by have:=HS.out; simp only [Tr.size] at this; omega)).mono ?_; rintro e w3 ⟨q,rfl,hq,hb3⟩)
   go_ret
   exact ⟨_,rfl,by rw [HE.out]; exact hq,H2.out.bel.trans (hb3.mono H2.out.bel.size)⟩
 ·by_cases h2:L.depth+1<R.depth
  ·cases R with
   | nil=>exact absurd h2 (by simp only [Tr.depth]; omega)
   | node I y A=>
    have HE:=Lh (bal_2 x h1 h2);go_wp2_with (go_at_call 337; refine (turnL_any y x _ H2.out.hr H2.out.hl (by have:=HS.out; simp only [Tr.size] at this; omega)).mono ?_; rintro e w3 ⟨q,rfl,hq,hb3⟩)
    go_ret
    exact ⟨_,rfl,by rw [HE.out]; exact hq,H2.out.bel.trans (hb3.mono H2.out.bel.size)⟩
  ·have HE:=Lh (bal_3 x h1 h2)
   go_wp2_with (go_at_call 329; refine (join_any x _ H2.out.hl H2.out.hr (by have:=HS.out; omega)).mono ?_; rintro e w3 ⟨q,rfl,hq,hb3⟩)
   go_ret
   exact ⟨_,rfl,by rw [HE.out]; exact hq,H2.out.bel.trans (hb3.mono H2.out.bel.size)⟩
def insT:Tr→Int→El→Tr
 | .nil,_,e=>.node .nil e .nil
 | .node l x r,i,e=>if i≤l.size then bal (insT l i e) x r else bal l x (insT r (i-l.size - 1) e)
def setT:Tr→Int→El→Tr
 | .nil,_,_=>.nil
 | .node l x r,i,e=>if i<l.size then .node (setT l i e) x r else if l.size<i then .node l x (setT r (i-l.size - 1) e) else .node l e r
theorem insT_size (e:El):∀ (T:Tr) (i:Int),(insT T i e).size=T.size+1
 | .nil,_=>rfl
 | .node l x r,i=>by
  simp only [insT]
  split
  ·rw [bal_size,insT_size e l]; simp only [Tr.size]; omega
  ·rw [bal_size,insT_size e r]; simp only [Tr.size]; omega
theorem setT_size (e:El):∀ (T:Tr) (i:Int),(setT T i e).size=T.size
 | .nil,_=>rfl
 | .node l x r,i=>by
  simp only [setT]
  split
  ·simp only [Tr.size,setT_size e l]
  ·split
   ·simp only [Tr.size,setT_size e r]
   ·simp only [Tr.size]
theorem insT_1 {l r:Tr} (x e:El) {i:Int} (h:i≤l.size):insT (.node l x r) i e=bal (insT l i e) x r:=by simp only [insT]; rw [if_pos h]
theorem insT_2 {l r:Tr} (x e:El) {i:Int} (h:¬ i≤l.size):insT (.node l x r) i e=bal l x (insT r (i-l.size - 1) e):=by simp only [insT]; rw [if_neg h]
theorem setT_1 {l r:Tr} (x e:El) {i:Int} (h:i<l.size):setT (.node l x r) i e=.node (setT l i e) x r:=by simp only [setT]; rw [if_pos h]
theorem setT_2 {l r:Tr} (x e:El) {i:Int} (h:l.size<i):setT (.node l x r) i e=.node l x (setT r (i-l.size - 1) e):=by simp only [setT]; rw [if_neg (by omega),if_pos h]
theorem setT_3 {l r:Tr} (x e:El) {i:Int} (h:i=l.size):setT (.node l x r) i e=.node l e r:=by simp only [setT]; rw [if_neg (by omega),if_neg (by omega)]
theorem insert_nil (e:El) (i:Int) (w:World):
  Calls Tryz.prog 304 #[.pointer none,i,.agg e] w (RetT (insT .nil i e) w):=by
 have H0:=Lh (BR.start (w:=w) (L:=.nil) (R:=.nil) (pl:=none) (pr:=none) e rfl rfl)
 go_enter Tryz.func304,Tryz.ntmps304
 go_wp2_with (go_at_call 329; refine (join_any (L:=.nil) (R:=.nil) e _ rfl rfl (by decide)).mono ?_; rintro e' w3 ⟨q,rfl,hq,hb3⟩)
 go_ret
 exact ⟨_,rfl,hq,H0.out.bel.trans (hb3.mono H0.out.bel.size)⟩
theorem insert_1 {b0:Option Addr} {l r:Tr} {x:El} (e:El) (i:Int) (w:World) (ht:Is w b0 (.node l x r)) (hs:(Tr.node l x r).size≤20000) (_h0:0≤i) (_h1:i≤100000) (hc:i≤(l.size:Int)) (ihl:∀ (p:Option Addr) (w:World),Is w p l→Calls Tryz.prog 304 #[.pointer p,i,.agg e] w (RetT (insT l i e) w)):
  Calls Tryz.prog 304 #[.pointer b0,i,.agg e] w (RetT (insT (.node l x r) i e) w):=by
 obtain ⟨b,pl,pr,rfl,-,hB,hl,hr⟩:=ht;have hsz:l.size+r.size+1≤20000:=by simp only [Tr.size] at hs; omega
 have hb0:=(Below.refl w.heap.size w).alloc (Nat.le_refl _) (.cells e 322);have HR:=Lh (show Pk (fun W=>Below w.heap.size w W∧Is W pl l∧Is W pr r∧Blk W b [.pointer pl,x.c,x.s,.int .i32 x.ch,.bool x.d,.pointer pr,.int .i64 ((Tr.node l x r).size:Int),.int .i64 ((Tr.node l x r).alive:Int),.int .i64 ((Tr.node l x r).depth:Int)] 363∧Blk W w.heap.size e 322) (w.alloc (.cells e 322)) from ⟨hb0,hl.next hb0,hr.next hb0,hB.next hb0,Blk.start _ _ _⟩);have hKp:=Lh (show ∀ W W':World,Below W.heap.size W W'→Pk (fun W=>Below w.heap.size w W∧Is W pl l∧Is W pr r∧Blk W b [.pointer pl,x.c,x.s,.int .i32 x.ch,.bool x.d,.pointer pr,.int .i64 ((Tr.node l x r).size:Int),.int .i64 ((Tr.node l x r).alive:Int),.int .i64 ((Tr.node l x r).depth:Int)] 363∧Blk W w.heap.size e 322) W→(fun W=>Cc6 W b (.pointer pl) x.c x.s (.int .i32 x.ch) (.bool x.d) (.pointer pr) (Cc4 W w.heap.size e.c e.s (.int .i32 e.ch) (.bool e.d) (Pk (fun W=>Below w.heap.size w W∧Is W pl l∧Is W pr r∧Blk W b [.pointer pl,x.c,x.s,.int .i32 x.ch,.bool x.d,.pointer pr,.int .i64 ((Tr.node l x r).size:Int),.int .i64 ((Tr.node l x r).alive:Int),.int .i64 ((Tr.node l x r).depth:Int)] 363∧Blk W w.heap.size e 322) W))) W' from fun W W' hb h=>((h.2.2.2.1.next hb).d6 ((h.2.2.2.2.next hb).d4 ⟨h.1.trans (hb.mono h.1.size),h.2.1.next hb,h.2.2.1.next hb,h.2.2.2.1.next hb,h.2.2.2.2.next hb⟩)));have HE:=Lh (insT_1 (r:=r) x e hc);have hc0:=(HR.out.2.2.2.1).cell 0 rfl;clear hb0 hl hr hB;have fs0:=fieldS0
 go_enter Tryz.func304,Tryz.ntmps304
 go_wp2_with fail;refine (total_any _ (HR.out.2.1)).mono ?_;rintro e' w1 ⟨rfl,hb⟩
 have HR2:=Lh ((hKp.out _ _ hb HR.out).2.2.2.2.2.2.2.2.2.2);clear HR hc0 hb;have HR:=HR2;clear HR2;go_wp2_with fail
 refine rgH (fun W=>Cc6 W b (.pointer pl) x.c x.s (.int .i32 x.ch) (.bool x.d) (.pointer pr) (Cc4 W w.heap.size e.c e.s (.int .i32 e.ch) (.bool e.d) (Pk (fun W=>Below w.heap.size w W∧Is W pl l∧Is W pr r∧Blk W b [.pointer pl,x.c,x.s,.int .i32 x.ch,.bool x.d,.pointer pr,.int .i64 ((Tr.node l x r).size:Int),.int .i64 ((Tr.node l x r).alive:Int),.int .i64 ((Tr.node l x r).depth:Int)] 363∧Blk W w.heap.size e 322) W))) (hKp.out _ _ bdq HR.out) fun hH=>?_
 clear HR;refine ta 0 hH ?_;refine ta 1 hH ?_;refine ta 2 hH ?_;refine ta 3 hH ?_;refine ta 4 hH ?_;refine ta 5 hH ?_;refine ta 7 hH ?_;refine ta 8 hH ?_;refine ta 9 hH ?_;refine ta 10 hH ?_;refine ta 11 hH ?_;refine ta 12 hH ?_;refine ta 13 hH ?_;refine ta 14 hH ?_;refine rc 6 (ihl _ _ (hH.2.2.2.2.2.2.2.2.2.2.2.1)) ?_
 rintro e u2 ⟨q2,rfl,hq2,hb⟩
 refine rp (hKp.out _ _ hb hH.2.2.2.2.2.2.2.2.2.2) ?_;clear hH hb;intro hH
 refine rc 15 (balance_any x _ (hq2) (hH.2.2.2.2.2.2.2.2.2.2.2.2.1) (by rw [insT_size]; omega)) ?_
 rintro e u3 ⟨q3,rfl,hq3,hb⟩
 refine rp (hKp.out _ _ hb hH.2.2.2.2.2.2.2.2.2.2) (fun hH2=>?_);have hq22:=hq2.next hb;clear hq2;have hq2:=hq22;clear hq22;clear hH hb;have hH:=hH2;clear hH2
 refine ta 16 hH ?_;refine dnH ?_;have HR:=Lh hH.2.2.2.2.2.2.2.2.2.2;clear hH;go_wp2_with fail
 go_ret
 exact ⟨_,rfl,by rw [HE.out]; exact hq3,HR.out.1⟩
theorem insert_2 {b0:Option Addr} {l r:Tr} {x:El} (e:El) (i:Int) (w:World) (ht:Is w b0 (.node l x r)) (hs:(Tr.node l x r).size≤20000) (h0:0≤i) (h1:i≤100000) (hc:¬ i≤(l.size:Int)) (ihr:∀ (p:Option Addr) (w:World),Is w p r→Calls Tryz.prog 304 #[.pointer p,.int .i64 (i-(l.size:Int) - 1),.agg e] w (RetT (insT r (i-(l.size:Int) - 1) e) w)):
  Calls Tryz.prog 304 #[.pointer b0,i,.agg e] w (RetT (insT (.node l x r) i e) w):=by
 obtain ⟨b,pl,pr,rfl,-,hB,hl,hr⟩:=ht;have hsz:l.size+r.size+1≤20000:=by simp only [Tr.size] at hs; omega
 have s1:IntKind.i64.wrap (i-(l.size:Int))=i-(l.size:Int):=IntWalk.i64_in _ (by omega);have s2:IntKind.i64.wrap (i-(l.size:Int) - 1)=i-(l.size:Int) - 1:=IntWalk.i64_in _ (by omega);have hb0:=(Below.refl w.heap.size w).alloc (Nat.le_refl _) (.cells e 322);have HR:=Lh (show Pk (fun W=>Below w.heap.size w W∧Is W pl l∧Is W pr r∧Blk W b [.pointer pl,x.c,x.s,.int .i32 x.ch,.bool x.d,.pointer pr,.int .i64 ((Tr.node l x r).size:Int),.int .i64 ((Tr.node l x r).alive:Int),.int .i64 ((Tr.node l x r).depth:Int)] 363∧Blk W w.heap.size e 322) (w.alloc (.cells e 322)) from ⟨hb0,hl.next hb0,hr.next hb0,hB.next hb0,Blk.start _ _ _⟩);have hKp:=Lh (show ∀ W W':World,Below W.heap.size W W'→Pk (fun W=>Below w.heap.size w W∧Is W pl l∧Is W pr r∧Blk W b [.pointer pl,x.c,x.s,.int .i32 x.ch,.bool x.d,.pointer pr,.int .i64 ((Tr.node l x r).size:Int),.int .i64 ((Tr.node l x r).alive:Int),.int .i64 ((Tr.node l x r).depth:Int)] 363∧Blk W w.heap.size e 322) W→(fun W=>Cc6 W b (.pointer pl) x.c x.s (.int .i32 x.ch) (.bool x.d) (.pointer pr) (Cc4 W w.heap.size e.c e.s (.int .i32 e.ch) (.bool e.d) (Pk (fun W=>Below w.heap.size w W∧Is W pl l∧Is W pr r∧Blk W b [.pointer pl,x.c,x.s,.int .i32 x.ch,.bool x.d,.pointer pr,.int .i64 ((Tr.node l x r).size:Int),.int .i64 ((Tr.node l x r).alive:Int),.int .i64 ((Tr.node l x r).depth:Int)] 363∧Blk W w.heap.size e 322) W))) W' from fun W W' hb h=>((h.2.2.2.1.next hb).d6 ((h.2.2.2.2.next hb).d4 ⟨h.1.trans (hb.mono h.1.size),h.2.1.next hb,h.2.2.1.next hb,h.2.2.2.1.next hb,h.2.2.2.2.next hb⟩)));have HE:=Lh (insT_2 (r:=r) x e hc);have hc0:=(HR.out.2.2.2.1).cell 0 rfl;clear hb0 hl hr hB;have fs0:=fieldS0
 go_enter Tryz.func304,Tryz.ntmps304
 go_wp2_with fail;refine (total_any _ (HR.out.2.1)).mono ?_;rintro e' w1 ⟨rfl,hb⟩
 have HR2:=Lh ((hKp.out _ _ hb HR.out).2.2.2.2.2.2.2.2.2.2);clear HR hc0 hb;have HR:=HR2;clear HR2;go_wp2_with fail
 refine rgH (fun W=>Cc6 W b (.pointer pl) x.c x.s (.int .i32 x.ch) (.bool x.d) (.pointer pr) (Cc4 W w.heap.size e.c e.s (.int .i32 e.ch) (.bool e.d) (Pk (fun W=>Below w.heap.size w W∧Is W pl l∧Is W pr r∧Blk W b [.pointer pl,x.c,x.s,.int .i32 x.ch,.bool x.d,.pointer pr,.int .i64 ((Tr.node l x r).size:Int),.int .i64 ((Tr.node l x r).alive:Int),.int .i64 ((Tr.node l x r).depth:Int)] 363∧Blk W w.heap.size e 322) W))) (hKp.out _ _ bdq HR.out) fun hH=>?_
 clear HR;refine ta 0 hH ?_;refine ta 1 hH ?_;refine ta 2 hH ?_;refine ta 3 hH ?_;refine ta 4 hH ?_;refine ta 5 hH ?_;refine ta 6 hH ?_;refine ta 7 hH ?_;refine ta 8 hH ?_;refine ta 9 hH ?_;refine ta 10 hH ?_;refine ta 11 hH ?_;refine ta 12 hH ?_;refine ta 13 hH ?_;refine ta 14 hH ?_;refine ta 15 hH ?_;refine ta 16 hH ?_;refine rc 17 (ihr _ _ (hH.2.2.2.2.2.2.2.2.2.2.2.2.1)) ?_
 rintro e u2 ⟨q2,rfl,hq2,hb⟩
 refine rp (hKp.out _ _ hb hH.2.2.2.2.2.2.2.2.2.2) ?_;clear hH hb;intro hH
 refine rc 18 (balance_any x _ (hH.2.2.2.2.2.2.2.2.2.2.2.1) (hq2) (by rw [insT_size]; omega)) ?_
 rintro e u3 ⟨q3,rfl,hq3,hb⟩
 refine rp (hKp.out _ _ hb hH.2.2.2.2.2.2.2.2.2.2) (fun hH2=>?_);have hq22:=hq2.next hb;clear hq2;have hq2:=hq22;clear hq22;clear hH hb;have hH:=hH2;clear hH2
 refine ta 19 hH ?_;refine dnH ?_;have HR:=Lh hH.2.2.2.2.2.2.2.2.2.2;clear hH;go_wp2_with fail
 go_ret
 exact ⟨_,rfl,by rw [HE.out]; exact hq3,HR.out.1⟩
theorem insert_any (e:El) (T:Tr):∀ (i:Int) (p:Option Addr) (w:World),Is w p T→T.size≤20000→0≤i→i≤100000 →
  Calls Tryz.prog 304 #[.pointer p,i,.agg e] w (RetT (insT T i e) w):=by
 induction T with
 | nil=>intro i p w h _ _ _; obtain rfl:p=none:=h; exact insert_nil e i w
 | node l x r ihl ihr=>
  intro i p w h hs h0 h1
  have hsz:l.size+r.size+1≤20000:=by simp only [Tr.size] at hs; omega
  by_cases hc:i≤(l.size:Int)
  ·exact insert_1 e i w h hs h0 h1 hc (fun p w hp=>ihl i p w hp (by omega) h0 h1)
  ·exact insert_2 e i w h hs h0 h1 hc (fun p w hp=>ihr _ p w hp (by omega) (by omega) (by omega))
theorem set_1 {b0:Option Addr} {l r:Tr} {x:El} (e:El) (i:Int) (w:World) (ht:Is w b0 (.node l x r)) (hs:(Tr.node l x r).size≤20000) (_h0:0≤i) (_h1:i≤100000) (hc:i<(l.size:Int)) (ihl:∀ (p:Option Addr) (w:World),Is w p l→Calls Tryz.prog 308 #[.pointer p,i,.agg e] w (RetT (setT l i e) w)):
  Calls Tryz.prog 308 #[.pointer b0,i,.agg e] w (RetT (setT (.node l x r) i e) w):=by
 obtain ⟨b,pl,pr,rfl,-,hB,hl,hr⟩:=ht;have hsz:l.size+r.size+1≤20000:=by simp only [Tr.size] at hs; omega
 have hb0:=(Below.refl w.heap.size w).alloc (Nat.le_refl _) (.cells e 322);have HR:=Lh (show Pk (fun W=>Below w.heap.size w W∧Is W pl l∧Is W pr r∧Blk W b [.pointer pl,x.c,x.s,.int .i32 x.ch,.bool x.d,.pointer pr,.int .i64 ((Tr.node l x r).size:Int),.int .i64 ((Tr.node l x r).alive:Int),.int .i64 ((Tr.node l x r).depth:Int)] 363∧Blk W w.heap.size e 322) (w.alloc (.cells e 322)) from ⟨hb0,hl.next hb0,hr.next hb0,hB.next hb0,Blk.start _ _ _⟩);have hKp:=Lh (show ∀ W W':World,Below W.heap.size W W'→Pk (fun W=>Below w.heap.size w W∧Is W pl l∧Is W pr r∧Blk W b [.pointer pl,x.c,x.s,.int .i32 x.ch,.bool x.d,.pointer pr,.int .i64 ((Tr.node l x r).size:Int),.int .i64 ((Tr.node l x r).alive:Int),.int .i64 ((Tr.node l x r).depth:Int)] 363∧Blk W w.heap.size e 322) W→(fun W=>Cc6 W b (.pointer pl) x.c x.s (.int .i32 x.ch) (.bool x.d) (.pointer pr) (Cc4 W w.heap.size e.c e.s (.int .i32 e.ch) (.bool e.d) (Pk (fun W=>Below w.heap.size w W∧Is W pl l∧Is W pr r∧Blk W b [.pointer pl,x.c,x.s,.int .i32 x.ch,.bool x.d,.pointer pr,.int .i64 ((Tr.node l x r).size:Int),.int .i64 ((Tr.node l x r).alive:Int),.int .i64 ((Tr.node l x r).depth:Int)] 363∧Blk W w.heap.size e 322) W))) W' from fun W W' hb h=>((h.2.2.2.1.next hb).d6 ((h.2.2.2.2.next hb).d4 ⟨h.1.trans (hb.mono h.1.size),h.2.1.next hb,h.2.2.1.next hb,h.2.2.2.1.next hb,h.2.2.2.2.next hb⟩)));have HE:=Lh (setT_1 (r:=r) x e hc);have hc0:=(HR.out.2.2.2.1).cell 0 rfl;clear hb0 hl hr hB;have fs0:=fieldS0
 go_enter Tryz.func308,Tryz.ntmps308
 go_wp2_with fail;refine (total_any _ (HR.out.2.1)).mono ?_;rintro e' w1 ⟨rfl,hb⟩
 have HR2:=Lh ((hKp.out _ _ hb HR.out).2.2.2.2.2.2.2.2.2.2);clear HR hc0 hb;have HR:=HR2;clear HR2;go_wp2_with fail
 refine rgH (fun W=>Cc6 W b (.pointer pl) x.c x.s (.int .i32 x.ch) (.bool x.d) (.pointer pr) (Cc4 W w.heap.size e.c e.s (.int .i32 e.ch) (.bool e.d) (Pk (fun W=>Below w.heap.size w W∧Is W pl l∧Is W pr r∧Blk W b [.pointer pl,x.c,x.s,.int .i32 x.ch,.bool x.d,.pointer pr,.int .i64 ((Tr.node l x r).size:Int),.int .i64 ((Tr.node l x r).alive:Int),.int .i64 ((Tr.node l x r).depth:Int)] 363∧Blk W w.heap.size e 322) W))) (hKp.out _ _ bdq HR.out) fun hH=>?_
 clear HR;refine ta 0 hH ?_;refine ta 1 hH ?_;refine ta 2 hH ?_;refine ta 3 hH ?_;refine ta 4 hH ?_;refine ta 5 hH ?_;refine ta 7 hH ?_;refine ta 8 hH ?_;refine ta 9 hH ?_;refine ta 10 hH ?_;refine ta 11 hH ?_;refine ta 12 hH ?_;refine ta 13 hH ?_;refine ta 14 hH ?_;refine rc 6 (ihl _ _ (hH.2.2.2.2.2.2.2.2.2.2.2.1)) ?_
 rintro e u2 ⟨q2,rfl,hq2,hb⟩
 refine rp (hKp.out _ _ hb hH.2.2.2.2.2.2.2.2.2.2) ?_;clear hH hb;intro hH
 refine rc 15 (join_any x _ (hq2) (hH.2.2.2.2.2.2.2.2.2.2.2.2.1) (by first | (rw [setT_size]; omega) | omega)) ?_
 rintro e u3 ⟨q3,rfl,hq3,hb⟩
 refine rp (hKp.out _ _ hb hH.2.2.2.2.2.2.2.2.2.2) (fun hH2=>?_);have hq22:=hq2.next hb;clear hq2;have hq2:=hq22;clear hq22;clear hH hb;have hH:=hH2;clear hH2
 refine ta 16 hH ?_;refine dnH ?_;have HR:=Lh hH.2.2.2.2.2.2.2.2.2.2;clear hH;go_wp2_with fail
 go_ret
 exact ⟨_,rfl,by rw [HE.out]; exact hq3,HR.out.1⟩
theorem set_2 {b0:Option Addr} {l r:Tr} {x:El} (e:El) (i:Int) (w:World) (ht:Is w b0 (.node l x r)) (hs:(Tr.node l x r).size≤20000) (h0:0≤i) (h1:i≤100000) (hc:(l.size:Int)<i) (ihr:∀ (p:Option Addr) (w:World),Is w p r→Calls Tryz.prog 308 #[.pointer p,.int .i64 (i-(l.size:Int) - 1),.agg e] w (RetT (setT r (i-(l.size:Int) - 1) e) w)):
  Calls Tryz.prog 308 #[.pointer b0,i,.agg e] w (RetT (setT (.node l x r) i e) w):=by
 obtain ⟨b,pl,pr,rfl,-,hB,hl,hr⟩:=ht;have hsz:l.size+r.size+1≤20000:=by simp only [Tr.size] at hs; omega
 have s1:IntKind.i64.wrap (i-(l.size:Int))=i-(l.size:Int):=IntWalk.i64_in _ (by omega);have s2:IntKind.i64.wrap (i-(l.size:Int) - 1)=i-(l.size:Int) - 1:=IntWalk.i64_in _ (by omega);have hb0:=(Below.refl w.heap.size w).alloc (Nat.le_refl _) (.cells e 322);have HR:=Lh (show Pk (fun W=>Below w.heap.size w W∧Is W pl l∧Is W pr r∧Blk W b [.pointer pl,x.c,x.s,.int .i32 x.ch,.bool x.d,.pointer pr,.int .i64 ((Tr.node l x r).size:Int),.int .i64 ((Tr.node l x r).alive:Int),.int .i64 ((Tr.node l x r).depth:Int)] 363∧Blk W w.heap.size e 322) (w.alloc (.cells e 322)) from ⟨hb0,hl.next hb0,hr.next hb0,hB.next hb0,Blk.start _ _ _⟩);have hKp:=Lh (show ∀ W W':World,Below W.heap.size W W'→Pk (fun W=>Below w.heap.size w W∧Is W pl l∧Is W pr r∧Blk W b [.pointer pl,x.c,x.s,.int .i32 x.ch,.bool x.d,.pointer pr,.int .i64 ((Tr.node l x r).size:Int),.int .i64 ((Tr.node l x r).alive:Int),.int .i64 ((Tr.node l x r).depth:Int)] 363∧Blk W w.heap.size e 322) W→(fun W=>Cc6 W b (.pointer pl) x.c x.s (.int .i32 x.ch) (.bool x.d) (.pointer pr) (Cc4 W w.heap.size e.c e.s (.int .i32 e.ch) (.bool e.d) (Pk (fun W=>Below w.heap.size w W∧Is W pl l∧Is W pr r∧Blk W b [.pointer pl,x.c,x.s,.int .i32 x.ch,.bool x.d,.pointer pr,.int .i64 ((Tr.node l x r).size:Int),.int .i64 ((Tr.node l x r).alive:Int),.int .i64 ((Tr.node l x r).depth:Int)] 363∧Blk W w.heap.size e 322) W))) W' from fun W W' hb h=>((h.2.2.2.1.next hb).d6 ((h.2.2.2.2.next hb).d4 ⟨h.1.trans (hb.mono h.1.size),h.2.1.next hb,h.2.2.1.next hb,h.2.2.2.1.next hb,h.2.2.2.2.next hb⟩)));have HE:=Lh (setT_2 (r:=r) x e hc);have hc0:=(HR.out.2.2.2.1).cell 0 rfl;clear hb0 hl hr hB;have fs0:=fieldS0
 go_enter Tryz.func308,Tryz.ntmps308
 go_wp2_with fail;refine (total_any _ (HR.out.2.1)).mono ?_;rintro e' w1 ⟨rfl,hb⟩
 have HR2:=Lh ((hKp.out _ _ hb HR.out).2.2.2.2.2.2.2.2.2.2);clear HR hc0 hb;have HR:=HR2;clear HR2;go_wp2_with fail
 refine rgH (fun W=>Cc6 W b (.pointer pl) x.c x.s (.int .i32 x.ch) (.bool x.d) (.pointer pr) (Cc4 W w.heap.size e.c e.s (.int .i32 e.ch) (.bool e.d) (Pk (fun W=>Below w.heap.size w W∧Is W pl l∧Is W pr r∧Blk W b [.pointer pl,x.c,x.s,.int .i32 x.ch,.bool x.d,.pointer pr,.int .i64 ((Tr.node l x r).size:Int),.int .i64 ((Tr.node l x r).alive:Int),.int .i64 ((Tr.node l x r).depth:Int)] 363∧Blk W w.heap.size e 322) W))) (hKp.out _ _ bdq HR.out) fun hH=>?_
 clear HR;refine ta 0 hH ?_;refine ta 1 hH ?_;refine ta 2 hH ?_;refine ta 3 hH ?_;refine ta 4 hH ?_;refine ta 5 hH ?_;refine ta 6 hH ?_;refine ta 7 hH ?_;refine ta 8 hH ?_;refine ta 9 hH ?_;refine ta 10 hH ?_;refine ta 11 hH ?_;refine ta 12 hH ?_;refine ta 13 hH ?_;refine ta 14 hH ?_;refine ta 15 hH ?_;refine ta 16 hH ?_;refine rc 17 (ihr _ _ (hH.2.2.2.2.2.2.2.2.2.2.2.2.1)) ?_
 rintro e u2 ⟨q2,rfl,hq2,hb⟩
 refine rp (hKp.out _ _ hb hH.2.2.2.2.2.2.2.2.2.2) ?_;clear hH hb;intro hH
 refine rc 18 (join_any x _ (hH.2.2.2.2.2.2.2.2.2.2.2.1) (hq2) (by first | (rw [setT_size]; omega) | omega)) ?_
 rintro e u3 ⟨q3,rfl,hq3,hb⟩
 refine rp (hKp.out _ _ hb hH.2.2.2.2.2.2.2.2.2.2) (fun hH2=>?_);have hq22:=hq2.next hb;clear hq2;have hq2:=hq22;clear hq22;clear hH hb;have hH:=hH2;clear hH2
 refine ta 19 hH ?_;refine dnH ?_;have HR:=Lh hH.2.2.2.2.2.2.2.2.2.2;clear hH;go_wp2_with fail
 go_ret
 exact ⟨_,rfl,by rw [HE.out]; exact hq3,HR.out.1⟩
theorem set_3 {b0:Option Addr} {l r:Tr} {x:El} (e:El) (i:Int) (w:World) (ht:Is w b0 (.node l x r)) (hs:(Tr.node l x r).size≤20000) (_h0:0≤i) (_h1:i≤100000) (hc:i=(l.size:Int)):
  Calls Tryz.prog 308 #[.pointer b0,i,.agg e] w (RetT (setT (.node l x r) i e) w):=by
 obtain ⟨b,pl,pr,rfl,-,hB,hl,hr⟩:=ht;have hsz:l.size+r.size+1≤20000:=by simp only [Tr.size] at hs; omega
 have hc1:¬ i<(l.size:Int):=by omega
 have hc2:¬ (l.size:Int)<i:=by omega
 have hb0:=(Below.refl w.heap.size w).alloc (Nat.le_refl _) (.cells e 322);have HR:=Lh (show Pk (fun W=>Below w.heap.size w W∧Is W pl l∧Is W pr r∧Blk W b [.pointer pl,x.c,x.s,.int .i32 x.ch,.bool x.d,.pointer pr,.int .i64 ((Tr.node l x r).size:Int),.int .i64 ((Tr.node l x r).alive:Int),.int .i64 ((Tr.node l x r).depth:Int)] 363∧Blk W w.heap.size e 322) (w.alloc (.cells e 322)) from ⟨hb0,hl.next hb0,hr.next hb0,hB.next hb0,Blk.start _ _ _⟩);have hKp:=Lh (show ∀ W W':World,Below W.heap.size W W'→Pk (fun W=>Below w.heap.size w W∧Is W pl l∧Is W pr r∧Blk W b [.pointer pl,x.c,x.s,.int .i32 x.ch,.bool x.d,.pointer pr,.int .i64 ((Tr.node l x r).size:Int),.int .i64 ((Tr.node l x r).alive:Int),.int .i64 ((Tr.node l x r).depth:Int)] 363∧Blk W w.heap.size e 322) W→(fun W=>Cc6 W b (.pointer pl) x.c x.s (.int .i32 x.ch) (.bool x.d) (.pointer pr) (Cc4 W w.heap.size e.c e.s (.int .i32 e.ch) (.bool e.d) (Pk (fun W=>Below w.heap.size w W∧Is W pl l∧Is W pr r∧Blk W b [.pointer pl,x.c,x.s,.int .i32 x.ch,.bool x.d,.pointer pr,.int .i64 ((Tr.node l x r).size:Int),.int .i64 ((Tr.node l x r).alive:Int),.int .i64 ((Tr.node l x r).depth:Int)] 363∧Blk W w.heap.size e 322) W))) W' from fun W W' hb h=>((h.2.2.2.1.next hb).d6 ((h.2.2.2.2.next hb).d4 ⟨h.1.trans (hb.mono h.1.size),h.2.1.next hb,h.2.2.1.next hb,h.2.2.2.1.next hb,h.2.2.2.2.next hb⟩)));have HE:=Lh (setT_3 (r:=r) x e hc);have hc0:=(HR.out.2.2.2.1).cell 0 rfl;clear hb0 hl hr hB;have fs0:=fieldS0;clear hc
 go_enter Tryz.func308,Tryz.ntmps308
 go_wp2_with fail;refine (total_any _ (HR.out.2.1)).mono ?_;rintro e' w1 ⟨rfl,hb⟩
 have HR2:=Lh ((hKp.out _ _ hb HR.out).2.2.2.2.2.2.2.2.2.2);clear HR hc0 hb;have HR:=HR2;clear HR2;go_wp2_with fail
 refine rgH (fun W=>Cc6 W b (.pointer pl) x.c x.s (.int .i32 x.ch) (.bool x.d) (.pointer pr) (Cc4 W w.heap.size e.c e.s (.int .i32 e.ch) (.bool e.d) (Pk (fun W=>Below w.heap.size w W∧Is W pl l∧Is W pr r∧Blk W b [.pointer pl,x.c,x.s,.int .i32 x.ch,.bool x.d,.pointer pr,.int .i64 ((Tr.node l x r).size:Int),.int .i64 ((Tr.node l x r).alive:Int),.int .i64 ((Tr.node l x r).depth:Int)] 363∧Blk W w.heap.size e 322) W))) (hKp.out _ _ bdq HR.out) fun hH=>?_
 clear HR;refine ta 0 hH ?_;refine ta 1 hH ?_;refine ta 2 hH ?_;refine ta 3 hH ?_;refine ta 4 hH ?_;refine ta 5 hH ?_;refine ta 6 hH ?_;refine ta 7 hH ?_;refine ta 8 hH ?_;refine rc 9 (join_any e _ (hH.2.2.2.2.2.2.2.2.2.2.2.1) (hH.2.2.2.2.2.2.2.2.2.2.2.2.1) (by first | (rw [setT_size]; omega) | omega)) ?_
 rintro e u2 ⟨q2,rfl,hq2,hb⟩
 refine rp (hKp.out _ _ hb hH.2.2.2.2.2.2.2.2.2.2) ?_;clear hH hb;intro hH
 refine ta 10 hH ?_;refine dnH ?_;have HR:=Lh hH.2.2.2.2.2.2.2.2.2.2;clear hH;go_wp2_with fail
 go_ret
 exact ⟨_,rfl,by rw [HE.out]; exact hq2,HR.out.1⟩
theorem set_any (e:El) (T:Tr):∀ (i:Int) (p:Option Addr) (w:World),Is w p T→T.size≤20000→0≤i→i<T.size →
  Calls Tryz.prog 308 #[.pointer p,i,.agg e] w (RetT (setT T i e) w):=by
 induction T with
 | nil=>intro i p w _ _ h0 h1; exact absurd h1 (by simp only [Tr.size]; omega)
 | node l x r ihl ihr=>
  intro i p w h hs h0 h1
  have hsz:l.size+r.size+1≤20000:=by simp only [Tr.size] at hs; omega
  have h1':i<l.size+1+r.size:=by simp only [Tr.size] at h1; omega
  by_cases hc:i<(l.size:Int)
  ·exact set_1 e i w h hs h0 (by omega) hc (fun p w hp=>ihl i p w hp (by omega) h0 hc)
  ·by_cases hc2:(l.size:Int)<i
   ·exact set_2 e i w h hs h0 (by omega) hc2 (fun p w hp=>ihr _ p w hp (by omega) (by omega) (by omega))
   ·exact set_3 e i w h hs h0 (by omega) (by omega)
theorem len_any {n:Nat} {p:Option Addr} {T:Tr} (w:World) (h:IsT n w p T):
  Calls Tryz.prog 207 #[.agg #[.pointer p]] w (Rt (.int .i64 (T.size:Int)) w):=by
 have hb0:=Lh ((Below.refl w.heap.size w).alloc (Nat.le_refl _) (.cells #[.pointer p] 30));have H0:=Lh (h.is.next hb0.out);have fs0:=fieldS0;clear h
 go_enter Tryz.func207,Tryz.ntmps207
 go_wp2_with (go_at_call 225; refine (total_any _ H0.out).mono ?_; rintro e w1 ⟨rfl,hb1⟩)
 go_ret
 exact ⟨rfl,hb0.out.trans (hb1.mono hb0.out.size)⟩
theorem aliveRow_any {n:Nat} {p:Option Addr} {T:Tr} (w:World) (h:IsT n w p T):
  Calls Tryz.prog 187 #[.agg #[.pointer p]] w (Rt (.int .i64 (T.alive:Int)) w):=by
 have hb0:=Lh ((Below.refl w.heap.size w).alloc (Nat.le_refl _) (.cells #[.pointer p] 30));have H0:=Lh (h.is.next hb0.out);have fs1:=fieldS1;clear h
 go_enter Tryz.func187,Tryz.ntmps187
 go_wp2_with (go_at_call 225; refine (total_any _ H0.out).mono ?_; rintro e w1 ⟨rfl,hb1⟩)
 go_ret
 exact ⟨rfl,hb0.out.trans (hb1.mono hb0.out.size)⟩
def RetTr (T:Tr) (b:Bool) (w:World) (e:Ending) (w':World):Prop:=∃ q,e=.returned (.tuple #[.agg #[.pointer q],.bool b])∧Is w' q T∧Below w.heap.size w w'
def insTop (T:Tr) (i:Int) (e:El):Tr:=if 0≤i∧i≤T.size then insT T i e else T
def setTop (T:Tr) (i:Int) (e:El):Tr:=if 0≤i∧i<T.size then setT T i e else T
structure RW (w:World) (T:Tr) (e:El) (p:Option Addr) (W:World):Prop where
 tr:Is W p T
 bel:Below w.heap.size w W
 b0:Blk W w.heap.size [.pointer p] 30
 b1:Blk W (w.heap.size+1) (elL e) 322
 b2:Blk W (w.heap.size+1+1) [.pointer none] 30
theorem RW.next {w:World} {T:Tr} {e:El} {p:Option Addr} {W W':World} (h:RW w T e p W) (hb:Below W.heap.size W W'):RW w T e p W':=
 ⟨h.tr.next hb,h.bel.trans (hb.mono h.bel.size),h.b0.next hb,h.b1.next hb,h.b2.next hb⟩
theorem RW.start {w:World} {T:Tr} (e:El) {p:Option Addr} (h:Is w p T):
  RW w T e p (((w.alloc (.cells #[.pointer p] 30)).alloc (.cells e 322)).alloc (.cells #[.pointer none] 30)):=by
 have hb:Below w.heap.size w (((w.alloc (.cells #[.pointer p] 30)).alloc (.cells e 322)).alloc (.cells #[.pointer none] 30)):=
  ((bA).alloc (by simp) _).alloc (by simp; omega) _
 exact ⟨h.next hb,hb,((Blk.start w _ _).alloc _).alloc _,(Blk.startAt (by simp)).alloc _,Blk.startAt (by simp)⟩
theorem RW.put {w:World} {T:Tr} {e:El} {p q:Option Addr} {W:World} (h:RW w T e p W):Below w.heap.size w (W.setCell ⟨w.heap.size+1+1,0,none⟩ (.pointer q)):=h.bel.setCell (p:=⟨w.heap.size+1+1,0,none⟩) (by show w.heap.size≤w.heap.size+1+1; omega) _
theorem IsT.set {n:Nat} {W:World} {b i:Nat} {t:TypeId} {vs:List Value} (hB:Blk W b vs t) (ht:t≠363) (v:Value):∀ {p:Option Addr} {T:Tr},IsT n W p T→IsT n (W.setCell ⟨b,i,none⟩ v) p T
 | _,.nil,h=>h
 | _,.node _ _ _,⟨c,pl,pr,hp,hn,hC,hl,hr⟩=>⟨c,pl,pr,hp,hn,hC.other _ (fun e=>by
   have e':c=b:=e;subst e';unfold Blk at hB hC
   rw [hB] at hC;simp only [Option.some.injEq,Obj.cells.injEq] at hC
   exact ht hC.2.1) _,IsT.set hB ht v hl,IsT.set hB ht v hr⟩
theorem Is.set {W:World} {b i:Nat} {t:TypeId} {vs:List Value} (hB:Blk W b vs t) (ht:t≠363) (v:Value) {p:Option Addr} {T:Tr} (h:Is W p T):Is (W.setCell ⟨b,i,none⟩ v) p T:=(IsT.set hB ht v h).is
theorem Insert_ok {p:Option Addr} {T:Tr} (i:Int) (e:El) (w:World) (h:Is w p T) (hs:T.size≤20000) (h0:0≤i) (h1:i≤T.size):
  Calls Tryz.prog 279 #[.agg #[.pointer p],i,.agg e] w (RetTr (insT T i e) true w):=by
 have H0:=Lh (RW.start e h);have h0':¬ i<0:=by omega
 clear h
 go_enter Tryz.func279,Tryz.ntmps279
 go_wp2_with fail;refine (len_any _ H0.out.tr).mono ?_;rintro e' w1 ⟨rfl,hb1⟩
 have H1:=Lh (H0.out.next hb1);clear H0 hb1;have hp:=H1.out.b0.cell 0 rfl;have hx0 := H1.out.b1.c4;go_wp2_with fail;refine (insert_any e T i _ _ H1.out.tr hs h0 (by omega)).mono ?_;rintro e' w2 ⟨q,rfl,hq,hb2⟩
 have H2:=Lh (H1.out.next hb2);clear H1 hb2 hp hx0;have hr:=H2.out.b2.cell 0 rfl;have hf:=H2.out.b2.free 0;have hZ:=Lh ((H2.out.b2.set 0 (.pointer q)).cell 0 rfl);go_wp2_with fail
 exact bodyPost_ret (by have:=hZ.out; simp [results, Tryz.results279, go_sem, this]) rfl ⟨q,rfl,Is.set H2.out.b2 (by decide) _ hq,H2.out.put⟩
theorem Insert_no1 {p:Option Addr} {T:Tr} (i:Int) (e:El) (w:World) (h:Is w p T) (h0:i<0):
  Calls Tryz.prog 279 #[.agg #[.pointer p],i,.agg e] w (RetTr T false w):=by
 have hb:Below w.heap.size w (((w.alloc (.cells #[.pointer p] 30)).alloc (.cells e 322)).alloc (.cells #[.pointer p] 30)):=
  ((bA).alloc (by simp) _).alloc (by simp; omega) _
 have H0:=Lh (And.intro (h.next hb) hb);clear h hb
 go_enter Tryz.func279,Tryz.ntmps279
 go_wp2
 exact bodyPost_ret (by simp [results,Tryz.results279,go_sem]) rfl ⟨p,rfl,H0.out.1,H0.out.2⟩
theorem Insert_no2 {p:Option Addr} {T:Tr} (i:Int) (e:El) (w:World) (h:Is w p T) (h0:0≤i) (h1:¬ i≤T.size):
  Calls Tryz.prog 279 #[.agg #[.pointer p],i,.agg e] w (RetTr T false w):=by
 have H0:=Lh (RW.start e h);have h0':¬ i<0:=by omega
 clear h h0
 go_enter Tryz.func279,Tryz.ntmps279
 go_wp2_with fail;refine (len_any _ H0.out.tr).mono ?_;rintro e' w1 ⟨rfl,hb1⟩
 have H1:=Lh (H0.out.next hb1);clear H0 hb1;have hp:=H1.out.b0.cell 0 rfl;have hr:=H1.out.b2.cell 0 rfl;have hf:=H1.out.b2.free 0;have hZ:=Lh ((H1.out.b2.set 0 (.pointer p)).cell 0 rfl);go_wp2_with fail
 exact bodyPost_ret (by have:=hZ.out; simp [results,Tryz.results279,go_sem,this]) rfl ⟨p,rfl,Is.set H1.out.b2 (by decide) _ H1.out.tr,H1.out.put⟩
def insTB (T:Tr) (i:Int):Bool:=decide (0≤i∧i≤T.size)
theorem Insert_any {p:Option Addr} {T:Tr} (i:Int) (e:El) (w:World) (h:Is w p T) (hs:T.size≤20000):
  Calls Tryz.prog 279 #[.agg #[.pointer p],i,.agg e] w (RetTr (insTop T i e) (insTB T i) w):=by
 by_cases hc:0≤i∧i≤T.size
 ·rw [show insTop T i e=insT T i e by unfold insTop; rw [if_pos hc],show insTB T i=true by simp [insTB,hc]]
  exact Insert_ok i e w h hs hc.1 hc.2
 ·rw [show insTop T i e=T by unfold insTop; rw [if_neg hc],show insTB T i=false by unfold insTB; simpa using hc]
  by_cases h0:i<0
  ·exact Insert_no1 i e w h h0
  ·exact Insert_no2 i e w h (by omega) (fun h1=>hc ⟨by omega,h1⟩)
theorem Set_ok {p:Option Addr} {T:Tr} (i:Int) (e:El) (w:World) (h:Is w p T) (hs:T.size≤20000) (h0:0≤i) (h1:i<T.size):
  Calls Tryz.prog 286 #[.agg #[.pointer p],i,.agg e] w (RetTr (setT T i e) true w):=by
 have H0:=Lh (RW.start e h);have h0':¬ i<0:=by omega
 clear h
 go_enter Tryz.func286,Tryz.ntmps286
 go_wp2_with fail;refine (len_any _ H0.out.tr).mono ?_;rintro e' w1 ⟨rfl,hb1⟩
 have H1:=Lh (H0.out.next hb1);clear H0 hb1;have hp:=H1.out.b0.cell 0 rfl;have hx0 := H1.out.b1.c4;go_wp2_with fail;refine (set_any e T i _ _ H1.out.tr hs h0 (by omega)).mono ?_;rintro e' w2 ⟨q,rfl,hq,hb2⟩
 have H2:=Lh (H1.out.next hb2);clear H1 hb2 hp hx0;have hr:=H2.out.b2.cell 0 rfl;have hf:=H2.out.b2.free 0;have hZ:=Lh ((H2.out.b2.set 0 (.pointer q)).cell 0 rfl);go_wp2_with fail
 exact bodyPost_ret (by have:=hZ.out; simp [results, Tryz.results286, go_sem, this]) rfl ⟨q,rfl,Is.set H2.out.b2 (by decide) _ hq,H2.out.put⟩
theorem Set_no1 {p:Option Addr} {T:Tr} (i:Int) (e:El) (w:World) (h:Is w p T) (h0:i<0):
  Calls Tryz.prog 286 #[.agg #[.pointer p],i,.agg e] w (RetTr T false w):=by
 have hb:Below w.heap.size w (((w.alloc (.cells #[.pointer p] 30)).alloc (.cells e 322)).alloc (.cells #[.pointer p] 30)):=
  ((bA).alloc (by simp) _).alloc (by simp; omega) _
 have H0:=Lh (And.intro (h.next hb) hb);clear h hb
 go_enter Tryz.func286,Tryz.ntmps286
 go_wp2
 exact bodyPost_ret (by simp [results,Tryz.results286,go_sem]) rfl ⟨p,rfl,H0.out.1,H0.out.2⟩
theorem Set_no2 {p:Option Addr} {T:Tr} (i:Int) (e:El) (w:World) (h:Is w p T) (h0:0≤i) (h1:¬ i<T.size):
  Calls Tryz.prog 286 #[.agg #[.pointer p],i,.agg e] w (RetTr T false w):=by
 have H0:=Lh (RW.start e h);have h0':¬ i<0:=by omega
 clear h h0
 go_enter Tryz.func286,Tryz.ntmps286
 go_wp2_with fail;refine (len_any _ H0.out.tr).mono ?_;rintro e' w1 ⟨rfl,hb1⟩
 have H1:=Lh (H0.out.next hb1);clear H0 hb1;have hp:=H1.out.b0.cell 0 rfl;have hr:=H1.out.b2.cell 0 rfl;have hf:=H1.out.b2.free 0;have hZ:=Lh ((H1.out.b2.set 0 (.pointer p)).cell 0 rfl);go_wp2_with fail
 exact bodyPost_ret (by have:=hZ.out; simp [results,Tryz.results286,go_sem,this]) rfl ⟨p,rfl,Is.set H1.out.b2 (by decide) _ H1.out.tr,H1.out.put⟩
def setTB (T:Tr) (i:Int):Bool:=decide (0≤i∧i<T.size)
theorem Set_any {p:Option Addr} {T:Tr} (i:Int) (e:El) (w:World) (h:Is w p T) (hs:T.size≤20000):
  Calls Tryz.prog 286 #[.agg #[.pointer p],i,.agg e] w (RetTr (setTop T i e) (setTB T i) w):=by
 by_cases hc:0≤i∧i<T.size
 ·rw [show setTop T i e=setT T i e by unfold setTop; rw [if_pos hc],show setTB T i=true by simp [setTB,hc]]
  exact Set_ok i e w h hs hc.1 hc.2
 ·rw [show setTop T i e=T by unfold setTop; rw [if_neg hc],show setTB T i=false by unfold setTB; simpa using hc]
  by_cases h0:i<0
  ·exact Set_no1 i e w h h0
  ·exact Set_no2 i e w h (by omega) (fun h1=>hc ⟨by omega,h1⟩)
end Go.Proofs.YtemicfjmidohfaaGreatDoor
namespace Go.Proofs.YtemicfjmidohfaaGreatDoor
theorem turnR_els {A:Tr} (y:El) {I:Tr} (x:El) {R:Tr}:(turnR A y I x R).els=A.els++y::(I.els++x::R.els):=by
 unfold turnR
 by_cases hc:I.depth≤A.depth
 ·rw [if_pos hc]; simp only [Tr.els]
 ·rw [if_neg hc]
  cases I with
  | nil=>exact absurd (Nat.zero_le _) hc
  | node B z C=>simp only [Tr.els,List.append_assoc,List.cons_append]
theorem turnL_els {L:Tr} (x:El) {I:Tr} (y:El) {A:Tr}:(turnL L x I y A).els=L.els++x::(I.els++y::A.els):=by
 unfold turnL
 by_cases hc:I.depth≤A.depth
 ·rw [if_pos hc]; simp only [Tr.els,List.append_assoc,List.cons_append]
 ·rw [if_neg hc]
  cases I with
  | nil=>exact absurd (Nat.zero_le _) hc
  | node B z C=>simp only [Tr.els,List.append_assoc,List.cons_append]
theorem bal_els (L:Tr) (x:El) (R:Tr):(bal L x R).els=L.els++x::R.els:=by
 unfold bal
 by_cases h1:R.depth+1<L.depth
 ·rw [if_pos h1]
  cases L with
  | nil=>exact absurd h1 (by simp only [Tr.depth]; omega)
  | node A y I=>simp only [turnR_els,Tr.els,List.append_assoc,List.cons_append]
 ·rw [if_neg h1]
  by_cases h2:L.depth+1<R.depth
  ·rw [if_pos h2]
   cases R with
   | nil=>exact absurd h2 (by simp only [Tr.depth]; omega)
   | node I y A=>simp only [turnL_els,Tr.els]
  ·rw [if_neg h2]; simp only [Tr.els]
theorem insT_els (e:El):∀ (T:Tr) (i:Nat),i≤T.size→(insT T (i:Int) e).els=T.els.take i++e::T.els.drop i
 | .nil,i,h=>by
  have:i=0:=by simpa [Tr.size] using h
  subst this;simp [insT,Tr.els]
 | .node l x r,i,h=>by
  have hl:=Tr.els_length l;by_cases hc:(i:Int)≤l.size
  ·have hc':i≤l.size:=by omega
   rw [insT_1 x e hc,bal_els,insT_els e l i hc'];simp only [Tr.els]
   rw [List.take_append_of_le_length (by omega),List.drop_append_of_le_length (by omega)];simp
  ·rw [insT_2 x e hc,bal_els]
   have hi:(i:Int)-l.size - 1=((i-l.size - 1:Nat):Int):=by omega
   have hs:(Tr.node l x r).size=l.size+1+r.size:=rfl;rw [hi,insT_els e r (i-l.size - 1) (by omega)];simp only [Tr.els]
   obtain ⟨j,rfl⟩:∃ j,i=l.els.length+(j+1):=⟨i-l.size - 1,by omega⟩
   rw [show l.els.length+(j+1)-l.size - 1=j by omega,List.take_length_add_append,List.drop_length_add_append];simp
theorem setT_els (e:El):∀ (T:Tr) (i:Nat),i<T.size→(setT T (i:Int) e).els=T.els.set i e
 | .nil,i,h=>by simp [Tr.size] at h
 | .node l x r,i,h=>by
  have hl:=Tr.els_length l;have hs:(Tr.node l x r).size=l.size+1+r.size:=rfl;rcases Nat.lt_trichotomy i l.size with hc | hc | hc
  ·rw [setT_1 x e (by omega)]
   simp only [Tr.els]
   rw [setT_els e l i hc,List.set_append_left _ _ (by omega)]
  ·rw [setT_3 x e (by omega)]
   simp only [Tr.els]
   rw [List.set_append_right _ _ (by omega),show i-l.els.length=0 by omega];rfl
  ·rw [setT_2 x e (by omega)]
   have hi:(i:Int)-l.size - 1=((i-l.size - 1:Nat):Int):=by omega
   simp only [Tr.els]
   rw [hi,setT_els e r (i-l.size - 1) (by omega),List.set_append_right _ _ (by omega),show i-l.els.length=(i-l.size - 1)+1 by omega];rfl
def Avl:Tr→Prop
 | .nil=>True
 | .node l _ r=>Avl l∧Avl r∧l.depth≤r.depth+1∧r.depth≤l.depth+1
theorem node_depth (l:Tr) (x:El) (r:Tr):(Tr.node l x r).depth=1+max l.depth r.depth:=rfl
theorem bal_avl {L:Tr} (x:El) {R:Tr} (hL:Avl L) (hR:Avl R) (h1:L.depth≤R.depth+2) (h2:R.depth≤L.depth+2):
  Avl (bal L x R)∧max L.depth R.depth≤(bal L x R).depth∧(bal L x R).depth≤max L.depth R.depth+1∧(L.depth≤R.depth+1→R.depth≤L.depth+1→(bal L x R).depth=max L.depth R.depth+1):=by
 by_cases c1:R.depth+1<L.depth
 ·cases L with
  | nil=>exact absurd c1 (by simp only [Tr.depth]; omega)
  | node A y I=>
   rw [bal_1 x c1];obtain ⟨hA,hI,hb1,hb2⟩:=hL;rw [node_depth] at *
   unfold turnR
   by_cases hc:I.depth≤A.depth
   ·rw [if_pos hc]
    simp only [Avl,node_depth]
    refine ⟨⟨hA,⟨hI,hR,?_,?_⟩,?_,?_⟩,?_,?_,?_⟩ <;> omega
   ·rw [if_neg hc]
    cases I with
    | nil=>exact absurd (Nat.zero_le _) hc
    | node B z C=>
     obtain ⟨hB,hC,hb3,hb4⟩:=hI;simp only [Avl,node_depth] at *
     refine ⟨⟨⟨hA,hB,?_,?_⟩,⟨hC,hR,?_,?_⟩,?_,?_⟩,?_,?_,?_⟩ <;> omega
 ·by_cases c2:L.depth+1<R.depth
  ·cases R with
   | nil=>exact absurd c2 (by simp only [Tr.depth]; omega)
   | node I y A=>
    rw [bal_2 x c1 c2];obtain ⟨hI,hA,hb1,hb2⟩:=hR;rw [node_depth] at *
    unfold turnL
    by_cases hc:I.depth≤A.depth
    ·rw [if_pos hc]
     simp only [Avl,node_depth]
     refine ⟨⟨⟨hL,hI,?_,?_⟩,hA,?_,?_⟩,?_,?_,?_⟩ <;> omega
    ·rw [if_neg hc]
     cases I with
     | nil=>exact absurd (Nat.zero_le _) hc
     | node B z C=>
      obtain ⟨hB,hC,hb3,hb4⟩:=hI;simp only [Avl,node_depth] at *
      refine ⟨⟨⟨hL,hB,?_,?_⟩,⟨hC,hA,?_,?_⟩,?_,?_⟩,?_,?_,?_⟩ <;> omega
  ·rw [bal_3 x c1 c2]
   simp only [Avl,node_depth]
   refine ⟨⟨hL,hR,?_,?_⟩,?_,?_,?_⟩ <;> omega
theorem insT_avl (e:El):∀ (T:Tr) (i:Int),Avl T→Avl (insT T i e)∧T.depth≤(insT T i e).depth∧(insT T i e).depth≤T.depth+1
 | .nil,i,_=>by simp [insT,Avl,Tr.depth]
 | .node l x r,i,h=>by
  obtain ⟨hl,hr,h1,h2⟩:=h;by_cases hc:i≤l.size
  ·rw [insT_1 x e hc]
   obtain ⟨a,b,c⟩:=insT_avl e l i hl;obtain ⟨p,q,u,v⟩:=bal_avl x a hr (by omega) (by omega);rw [node_depth];refine ⟨p,?_,?_⟩ <;> omega
  ·rw [insT_2 x e hc]
   obtain ⟨a,b,c⟩:=insT_avl e r (i-l.size - 1) hr;obtain ⟨p,q,u,v⟩:=bal_avl x hl a (by omega) (by omega);rw [node_depth];refine ⟨p,?_,?_⟩ <;> omega
theorem setT_avl (e:El):∀ (T:Tr) (i:Int),Avl T→Avl (setT T i e)∧(setT T i e).depth=T.depth
 | .nil,i,_=>⟨trivial,rfl⟩
 | .node l x r,i,h=>by
  obtain ⟨hl,hr,h1,h2⟩:=h;simp only [setT]
  split
  ·obtain ⟨a,b⟩:=setT_avl e l i hl
   simp only [Avl,node_depth,b]
   exact ⟨⟨a,hr,h1,h2⟩,trivial⟩
  ·split
   ·obtain ⟨a,b⟩:=setT_avl e r (i-l.size - 1) hr
    simp only [Avl,node_depth,b]
    exact ⟨⟨hl,a,h1,h2⟩,trivial⟩
   ·exact ⟨⟨hl,hr,h1,h2⟩,rfl⟩
theorem alive_els:∀ T:Tr,T.alive=(T.els.map El.al).sum
 | .nil=>rfl
 | .node l x r=>by simp only [Tr.alive,Tr.els,List.map_append,List.map_cons,List.sum_append,List.sum_cons,alive_els l,alive_els r]; omega
end Go.Proofs.YtemicfjmidohfaaGreatDoor
namespace Go.Proofs.YtemicfjmidohfaaGreatDoor
open Go Go.Proofs Go.RowKit Go.Shelf
attribute [local go_sem] Oper.semAt_some
def idx:Nat→List El→List (Nat×El)
 | _,[]=>[]
 | k,x::l=>(k,x)::idx (k+1) l
theorem idx_length:∀ (k:Nat) (l:List El),(idx k l).length=l.length
 | _,[]=>rfl
 | k,x::l=>by simp [idx,idx_length (k+1) l]
theorem idx_append:∀ (k:Nat) (a b:List El),idx k (a++b)=idx k a++idx (k+a.length) b
 | k,[],b=>by simp [idx]
 | k,x::a,b=>by
  simp only [List.cons_append,idx,idx_append (k+1) a b,List.length_cons]
  rw [show k+1+a.length=k+(a.length+1) by omega]
theorem idx_node (k:Nat) (l:Tr) (x:El) (r:Tr):idx k (Tr.node l x r).els=idx k l.els++(k+l.size,x)::idx (k+l.size+1) r.els:=by
 simp only [Tr.els,idx_append,idx,Tr.els_length]
abbrev encs (x:Nat×El):Array Value := #[.int .i64 (x.1:Int),.agg x.2]
theorem total_in (F:Fence) (n m:Nat) (h20:F.fn 225) (hro:F.round=none) {p:Option Addr} {T:Tr} (w:World) (h:IsT m w p T):
  CallsIn F n Tryz.prog 225 #[.pointer p] w
   fun e w'=>e=.returned (.agg #[.int .i64 (T.size:Int),.int .i64 (T.alive:Int),.int .i64 (T.depth:Int)])∧w'=w.alloc (.cells #[.int .i64 (T.size:Int),.int .i64 (T.alive:Int),.int .i64 (T.depth:Int)] 341):=by
 cases T with
 | nil=>
  obtain rfl:p=none:=h;refine callsIn_of_wp Tryz.func225 rfl h20 ?_ hro;simp only [Tryz.ntmps225,List.size_toArray,List.length_cons,List.length_nil,Nat.reduceAdd,Nat.reduceSub,Array.replicate_succ,Array.replicate_zero,List.push_toArray,List.append_toArray,List.nil_append,List.cons_append]
  gi_wp2
  exact bodyPost_ret (v:=.agg #[.int .i64 0,.int .i64 0,.int .i64 0]) (by simp [results,Tryz.results225,go_sem]) rfl ⟨rfl,rfl⟩
 | node l x r=>
  obtain ⟨b,pl,pr,rfl,hn,hB,-,-⟩:=h;have hlt:=hB.lt;have hne:b≠w.heap.size:=by omega
  have h6:=hB.cell 6 rfl;have h7:=hB.cell 7 rfl;have h8:=hB.cell 8 rfl;clear hB;generalize (Tr.node l x r).size=A at *
  generalize (Tr.node l x r).alive=B at *
  generalize (Tr.node l x r).depth=C at *
  refine callsIn_of_wp Tryz.func225 rfl h20 ?_ hro;simp only [Tryz.ntmps225,List.size_toArray,List.length_cons,List.length_nil,Nat.reduceAdd,Nat.reduceSub,Array.replicate_succ,Array.replicate_zero,List.push_toArray,List.append_toArray,List.nil_append,List.cons_append]
  gi_wp2
  exact bodyPost_ret (v:=.agg #[A,B,C]) (by simp [results,Tryz.results225,go_sem]) rfl ⟨rfl,rfl⟩
theorem each_in (F:Fence) (hd:F.depth=none) (h16:F.fn 252) (h20:F.fn 225) (hro:F.round=none) (l n₀ N:Nat) (J Jx:List (Nat×El)→World→Prop)
  (hJa:∀ pre W o,J pre W→J pre (W.alloc o))
  (hY:∀ m pre x W,J pre W→pre.length<N→YieldAt F m Tryz.prog l (encs x) W fun e W'=>
   (e=.returned (.bool true)∧J (pre++[x]) W'∧Below n₀ W W')∨(e=.returned (.bool false)∧Jx (pre++[x]) W')) (T:Tr):
  ∀ (n:Nat) (p:Option Addr) (k:Nat) (pre:List (Nat×El)) (W:World),IsT n₀ W p T→n₀≤W.heap.size→k+T.size≤100000→J pre W→pre.length+T.size≤N →
   CallsIn F n Tryz.prog 252 #[.pointer p,.int .i64 (k:Int),.func (.yield l) #[] #[]] W fun e W'=>
    (e=.returned (.bool true)∧J (pre++idx k T.els) W'∧Below n₀ W W')∨(e=.returned (.bool false)∧∃ q,q <+: idx k T.els∧Jx (pre++q) W'):=by
 induction T with
 | nil=>
  intro n p k pre W ht _ _ hJ _
  obtain rfl:p=none:=ht;refine callsIn_of_wp Tryz.func252 rfl h16 ?_ hro;simp only [Tryz.ntmps252,List.size_toArray,List.length_cons,List.length_nil,Nat.reduceAdd,Nat.reduceSub,Array.replicate_succ,Array.replicate_zero,List.push_toArray,List.append_toArray,List.nil_append,List.cons_append]
  gi_wp2
  go_ret
  exact .inl ⟨rfl,by simpa [Tr.els,idx] using hJ,Below.refl _ _⟩
 | node tl x tr ihl ihr=>
  intro n p k pre W ht hn₀ hk1 hJ hN
  obtain ⟨b,pl,pr,rfl,hb,hB,hl,hr⟩:=ht;have hdd:∀ k:Nat,(F.depth.isSome=true→1≤k):=fun k h=>by rw [hd] at h; cases h
  have hsz:tl.size+1+tr.size=(Tr.node tl x tr).size:=rfl;have hlen:(idx k tl.els).length=tl.size:=by rw [idx_length,Tr.els_length]
  obtain ⟨W0,hW0⟩:∃ W0,W0=W.alloc (.cells #[.int .i64 (tl.size:Int),.int .i64 (tl.alive:Int),.int .i64 (tl.depth:Int)] 341):=⟨_,rfl⟩
  have hbW:Below n₀ W W0:=by rw [hW0]; exact (Below.refl n₀ W).alloc hn₀ _
  have hJ0:J pre W0:=by rw [hW0]; exact hJa _ _ _ hJ
  have c0:=hB.cell 0 rfl;have d0:=(hB.below hbW hb).cell 0 rfl;have fs0:=fieldS0;have he:encs (k+tl.size,x) = #[.int .i64 ((k:Int)+tl.size),.agg x]:=by simp [encs]
  have hcast:((k+tl.size+1:Nat):Int)=(k:Int)+tl.size+1:=by omega
  have ihr':=Lh (show ∀ (pre:List (Nat×El)) (W:World),IsT n₀ W pr tr→n₀≤W.heap.size→J pre W→pre.length+tr.size≤N→CallsIn F (n - 1) Tryz.prog 252 #[.pointer pr,.int .i64 ((k:Int)+tl.size+1),.func (.yield l) #[] #[]] W fun e W'=>
    (e=.returned (.bool true)∧J (pre++idx (k+tl.size+1) tr.els) W'∧Below n₀ W W')∨(e=.returned (.bool false)∧∃ q,q <+: idx (k+tl.size+1) tr.els∧Jx (pre++q) W') from fun pre W h1 h2 h3 h4=>by
   have:=ihr (n - 1) pr (k+tl.size+1) pre W h1 h2 (by omega) h3 h4
   rwa [hcast] at this)
  -- each callee's word,with what the walk wants next laid beside it
  have hy2:∀ W1,J (pre++idx k tl.els) W1→Below n₀ W0 W1→YieldAt F (n - 1) Tryz.prog l #[.int .i64 ((k:Int)+tl.size),.agg x] W1 fun e W2=>
    (e=.returned (.bool true)∧J (pre++idx k tl.els++[(k+tl.size,x)]) W2∧Below n₀ W W2∧W2.cell? ⟨b,5,none⟩=some (.pointer pr)∧IsT n₀ W2 pr tr∧n₀≤W2.heap.size)∨(e=.returned (.bool false)∧Jx (pre++idx k tl.els++[(k+tl.size,x)]) W2):=fun W1 hJ1 hb1=>
   YieldAt.mono (he▸hY (n - 1) _ (k+tl.size,x) W1 hJ1 (by simp only [List.length_append,hlen]; omega)) fun e W2 h=>h.elim
    (fun ⟨he,hj,hb2⟩=>.inl ⟨he,hj,(hbW.trans hb1).trans hb2,(hB.below ((hbW.trans hb1).trans hb2) hb).cell 5 rfl,hr.below ((hbW.trans hb1).trans hb2),Nat.le_trans hn₀ ((hbW.trans hb1).trans hb2).size⟩) .inr
  have ih1:=(ihl (n - 1) pl k pre W0 (hl.below hbW) (Nat.le_trans hn₀ hbW.size) (by omega) hJ0 (by omega)).mono (R':=fun e W1=>
    (e=.returned (.bool true)∧(W1.cell? ⟨b,1,none⟩=some (.int .i64 x.c)∧W1.cell? ⟨b,2,none⟩=some (.int .i64 x.s)∧W1.cell? ⟨b,3,none⟩=some (.int .i32 x.ch)∧W1.cell? ⟨b,4,none⟩=some (.bool x.d))∧YieldAt F (n - 1) Tryz.prog l #[.int .i64 ((k:Int)+tl.size),.agg x] W1 fun e W2=>
     (e=.returned (.bool true)∧J (pre++idx k tl.els++[(k+tl.size,x)]) W2∧Below n₀ W W2∧W2.cell? ⟨b,5,none⟩=some (.pointer pr)∧IsT n₀ W2 pr tr∧n₀≤W2.heap.size)∨(e=.returned (.bool false)∧Jx (pre++idx k tl.els++[(k+tl.size,x)]) W2)) ∨
    (e=.returned (.bool false)∧∃ q,q <+: idx k tl.els∧Jx (pre++q) W1))
   (fun e W1 h=>h.elim (fun ⟨he,hj,hb1⟩=>.inl ⟨he,⟨(hB.below (hbW.trans hb1) hb).cell 1 rfl,(hB.below (hbW.trans hb1) hb).cell 2 rfl,(hB.below (hbW.trans hb1) hb).cell 3 rfl,(hB.below (hbW.trans hb1) hb).cell 4 rfl⟩,hy2 W1 hj hb1⟩) .inr)
  have HT:=Lh (total_in F (n - 1) n₀ h20 hro W hl);have HI:=Lh (idx_node k tl x tr);have HW:=Lh hW0;have HL:=Lh hlen;have hts:tl.size+1+tr.size≤100000:=by omega
  have hkt:k+tl.size+1+tr.size≤100000:=by omega
  have hNt:pre.length+tl.size+1+tr.size≤N:=by omega
  clear hy2 ihl ihr he hcast hJ0 hJ hJa hbW hlen hsz hk1 hN hW0 hY hB hl hr hn₀;refine callsIn_of_wp Tryz.func252 rfl h16 ?_ hro;simp only [Tryz.ntmps252,List.size_toArray,List.length_cons,List.length_nil,Nat.reduceAdd,Nat.reduceSub,Array.replicate_succ,Array.replicate_zero,List.push_toArray,List.append_toArray,List.nil_append,List.cons_append]
  gi_wp2_with (first
   | ((try refine ⟨hdd _,?_⟩); gi_at_call 225; refine HT.out.mono ?_; clear HT; rintro e W9 ⟨rfl,hW9⟩; rw [←HW.out] at hW9; subst hW9)
   | ((try refine ⟨hdd _,?_⟩); gi_at_call 252; refine ih1.mono ?_; clear ih1; rintro e W1 (⟨rfl,⟨c1,c2,c3,c4⟩,fn,tmps,assign,body,hy,hR⟩ | ⟨rfl,q,hq,hx1⟩))
   | ((try refine ⟨hdd _,?_⟩); refine hR.mono ?_; clear hR; rintro e W2 (⟨rfl,hJ2,hb2,c5,hr2,hn2⟩ | ⟨rfl,hx2⟩))
   | ((try refine ⟨hdd _,?_⟩); gi_at_call 252; refine (ihr'.out _ _ hr2 hn2 hJ2 (by simp only [List.length_append,List.length_cons,List.length_nil,HL.out]; omega)).mono ?_; rintro e W3 (⟨rfl,hJ3,hb3⟩ | ⟨rfl,q,hq,hx3⟩)))
  ·go_ret
   exact .inl ⟨rfl,by rw [HI.out]; simpa [List.append_assoc] using hJ3,hb2.trans hb3⟩
  ·go_ret
   obtain ⟨r,hr'⟩:=hq;exact .inr ⟨rfl,idx k tl.els++(k+tl.size,x)::q,⟨r,by rw [HI.out,←hr']; simp⟩,by simpa [List.append_assoc] using hx3⟩
  ·go_ret
   exact .inr ⟨rfl,idx k tl.els++[(k+tl.size,x)],⟨idx (k+tl.size+1) tr.els,by rw [HI.out]; simp⟩,by simpa [List.append_assoc] using hx2⟩
  ·refine ⟨fun _ h=>(by cases h),?_⟩
   gi_wp2
   go_ret
   exact .inr ⟨rfl,q,hq.trans (by rw [HI.out]; simp),hx1⟩
theorem all1_in (F:Fence) (hd:F.depth=none) (n:Nat) (h15:F.fn 251) (h16:F.fn 252) (h20:F.fn 225) (hro:F.round=none) (l Bt n₀:Nat) (p0:Option Addr) (T:Tr) (J Jx:List (Nat×El)→World→Prop)
  (hs:T.size≤22000) (hJa:∀ pre W o,J pre W→J pre (W.alloc o))
  (hY:∀ pre x W,J pre W→pre.length<T.size→YieldAt F (n - 1) Tryz.prog l (encs x) W fun e W'=>
   (e=.returned (.bool true)∧J (pre++[x]) W'∧Below n₀ W W')∨(e=.returned (.bool false)∧Jx (pre++[x]) W'))
  (W:World) (hBt:W.cell? ⟨Bt,0,none⟩=some (.pointer p0)) (hT:IsT n₀ W p0 T) (hn₀:n₀≤W.heap.size) (h0:J [] W):
  CallsIn F n Tryz.prog 251 #[.func (.yield l) #[] #[],.pointer (some ⟨Bt,0,none⟩)] W fun e W'=>(∃ v,e=.returned v) ∧
   ((∃ ys,ys=idx 0 T.els∧J ys W')∨(∃ pre,pre <+: idx 0 T.els∧Jx pre W')):=by
 have hdd:∀ k:Nat,(F.depth.isSome=true→1≤k):=fun k h=>by rw [hd] at h; cases h
 have hp:=each_in F hd h16 h20 hro l n₀ T.size J Jx hJa (fun m pre x W hj hl=>YieldAt.anyDepth hd m (hY pre x W hj hl)) T (n - 1) p0 0 [] W hT hn₀ (by omega) h0 (by simp);refine callsIn_of_wp Tryz.func251 rfl h15 ?_ hro;simp only [Tryz.ntmps251,List.size_toArray,List.length_cons,List.length_nil,Nat.reduceAdd,Nat.reduceSub,Array.replicate_succ,Array.replicate_zero,List.push_toArray,List.append_toArray,List.nil_append,List.cons_append]
 gi_wp2_with ((try refine ⟨hdd _,?_⟩); gi_at_call 252; refine hp.mono ?_; clear hp; rintro e W1 (⟨rfl,hJ1,_⟩ | ⟨rfl,q,hq,hx⟩))
 ·go_end0
  exact ⟨⟨_,rfl⟩,.inl ⟨_,rfl,by simpa using hJ1⟩⟩
 ·go_end0
  exact ⟨⟨_,rfl⟩,.inr ⟨q,hq,by simpa using hx⟩⟩
theorem all_any (p0:Option Addr) (w:World):
  Calls Tryz.prog 222 #[.agg #[.pointer p0]] w fun e w'=>e=.returned (.func (.func 251) #[] #[.pointer (some ⟨w.heap.size,0,none⟩)])∧w'=w.alloc (.cells #[.pointer p0] 30):=by
 go_enter Tryz.func222,Tryz.ntmps222
 go_wp2
 go_ret
 exact ⟨rfl,rfl⟩
theorem all_stops (n:Nat) (Bt n₀:Nat) (p0:Option Addr) (T:Tr) (w:World) (hBt:Bt<w.heap.size) (hn₀:n₀≤w.heap.size) (hs:T.size≤22000)
  (hc:w.cell? ⟨Bt,0,none⟩=some (.pointer p0)) (hT:IsT n₀ w p0 T):
  SeqStopsK Fence.wide n Tryz.prog 251 #[.pointer (some ⟨Bt,0,none⟩)] encs (Below n₀) (fun ys=>ys=idx 0 T.els) (fun pre=>pre <+: idx 0 T.els) T.size w:=fun l J Jx W hW hJ _ hY h0=>
 all1_in Fence.wide rfl n trivial trivial trivial rfl l Bt n₀ p0 T J Jx hs (fun pre W' o h=>hJ pre W' _ none h (World.grownBy_alloc W' o none) (fun r e=>by cases e)) hY W ((hW.cell (p:=⟨Bt,0,none⟩) hBt).trans hc) (hT.below (hW.mono hn₀)) (Nat.le_trans hn₀ hW.size) h0
end Go.Proofs.YtemicfjmidohfaaGreatDoor
namespace Go.Proofs.YtemicfjmidohfaaGreatDoor
open Go Go.Proofs Go.RowKit
structure AtS (w:World) (T:Tr) (q:Option Addr) (W:World):Prop where
 bel:Below w.heap.size w W
 tr:Is W q T
 br:Blk W (w.heap.size+1) [.int .i64 0,.int .i64 0,.int .i32 0,.bool false] 322
theorem AtS.next {w:World} {T:Tr} {q:Option Addr} {W W':World} (h:AtS w T q W) (hb:Below W.heap.size W W'):AtS w T q W':=⟨h.bel.trans (hb.mono h.bel.size),h.tr.next hb,h.br.next hb⟩
theorem At_any {p:Option Addr} {T:Tr} (i:Nat) (e:El) (w:World) (h:Is w p T) (hs:T.size≤20000) (hi:i<T.size) (he:T.els[i]? = some e):
  Calls Tryz.prog 217 #[.agg #[.pointer p],.int .i64 (i:Int)] w (Rt (.tuple #[.agg e,.bool true]) w):=by
 have hb0:Below w.heap.size w ((w.alloc (.cells #[.pointer p] 30)).alloc (.cells #[.int .i64 0,.int .i64 0,.int .i32 0,.bool false] 322)):=(bA).alloc (by simp) _;have H0:=Lh (And.intro (show AtS w T p ((w.alloc (.cells #[.pointer p] 30)).alloc (.cells #[.int .i64 0,.int .i64 0,.int .i32 0,.bool false] 322)) from ⟨hb0,h.next hb0,Blk.startAt (by simp)⟩) (((Blk.start w [.pointer p] 30).alloc (.cells #[.int .i64 0,.int .i64 0,.int .i32 0,.bool false] 322))));clear h hb0;have hd1:decide ((i:Int)<0)=false:=by simp
 have hd2:decide (T.size≤i)=false:=by simpa using hi
 go_enter Tryz.func217,Tryz.ntmps217
 go_wp2_with fail;refine (len_any _ H0.out.1.tr).mono ?_;rintro e' w1 ⟨rfl,hb1⟩
 have H1:=Lh (H0.out.1.next hb1);have c0:=(H0.out.2.next hb1).cell 0 rfl;clear H0 hb1;go_wp2_with fail
 clear c0 hd1 hd2
 go_loopg [1,6,7] T.size (fun g ti tn ta wr=>∃ (T':Tr) (q:Option Addr) (i':Nat),g=T'.size∧ti=.int .i64 (i':Int)∧tn=.pointer q∧AtS w T' q wr∧T'.size≤20000∧i'<T'.size∧T'.els[i']? = some e)
 case atStart=>exact ⟨T,p,i,rfl,rfl,rfl,H1.out,hs,hi,he⟩
 case round=>
  obtain ⟨T',q,i',rfl,rfl,rfl,hS,hs',hi',he'⟩:=hrel;clear H1 hs hi he
  cases T' with
  | nil=>exact absurd hi' (by simp [Tr.size])
  | node l x r=>
   have hsz:(Tr.node l x r).size=l.size+1+r.size:=rfl;have fs0:=fieldS0;have hl:=Tr.els_length l;have HS:=Lh hS;obtain ⟨b,pl,pr,rfl,-,hB,hTl,hTr⟩:=hS.tr;have HB:=Lh (And.intro hB (And.intro hTl hTr));have c0:=hB.cell 0 rfl;clear hB hTl hTr hS;have HE:=Lh he';clear he';go_wp2_with fail;refine (total_any _ HB.out.2.1).mono ?_;rintro e' w1 ⟨rfl,hb1⟩
   have HS1:=Lh (HS.out.next hb1);have HB1:=Lh (And.intro (HB.out.1.next hb1) (And.intro (HB.out.2.1.next hb1) (HB.out.2.2.next hb1)));clear HS HB hb1 c0;obtain ⟨c0,c1,c2,c3,c4,c5⟩:=HB1.out.1.c6;rcases Nat.lt_trichotomy i' l.size with hc | hc | hc
   ·go_wp2_with fail
    go_roundg l.size
    case measure=>omega
    case rel=>exact ⟨l,pl,i',rfl,rfl,rfl,⟨HS1.out.bel,HB1.out.2.1,HS1.out.br⟩,by omega,hc,by rw [←HE.out]; simp only [Tr.els]; rw [List.getElem?_append_left (by omega)]⟩
   ·subst hc
    have hex:x=e:=by
     have:=HE.out;simp only [Tr.els] at this
     rw [List.getElem?_append_right (by omega),show l.size-l.els.length=0 by omega] at this
     simpa using this
    subst hex;have r0 := HS1.out.br.c4;have f0 := HS1.out.br.f4;have HW:=Lh ((((HS1.out.br.set 0 x.c).set 1 x.s).set 2 (.int .i32 x.ch)).set 3 (.bool x.d));have HQ:=Lh ((((HS1.out.bel.setCell (p:=⟨w.heap.size+1,0,none⟩) (by show w.heap.size≤w.heap.size+1; omega) x.c).setCell (p:=⟨w.heap.size+1,1,none⟩) (by show w.heap.size≤w.heap.size+1; omega) x.s).setCell (p:=⟨w.heap.size+1,2,none⟩) (by show w.heap.size≤w.heap.size+1; omega) (.int .i32 x.ch)).setCell (p:=⟨w.heap.size+1,3,none⟩) (by show w.heap.size≤w.heap.size+1; omega) (.bool x.d));have hne:b≠w.heap.size+1:=by
     rintro rfl
     have h1:=HB1.out.1;have h2:=HS1.out.br;unfold Blk at h1 h2
     rw [h1] at h2
     cases h2
    go_wp2_with fail
    exact bodyPost_ret (by have a0:=HW.out.cell 0 rfl; have a1:=HW.out.cell 1 rfl; have a2:=HW.out.cell 2 rfl; have a3:=HW.out.cell 3 rfl; simp [results, Tryz.results217, go_sem, a0, a1, a2, a3]) rfl ⟨rfl,HQ.out⟩
   ·go_wp2_with fail
    go_roundg r.size
    case measure=>omega
    case rel=>exact ⟨r,pr,i'-l.size - 1,rfl,by go_num,rfl,⟨HS1.out.bel,HB1.out.2.2,HS1.out.br⟩,by omega,by omega,by
     rw [←HE.out];simp only [Tr.els]
     rw [List.getElem?_append_right (by omega),hl];obtain ⟨j,hj⟩:∃ j,i'=l.size+(j+1):=⟨i'-l.size - 1,by omega⟩
     subst hj;rw [show l.size+(j+1)-l.size=j+1 by omega]
     rfl⟩
end Go.Proofs.YtemicfjmidohfaaGreatDoor
