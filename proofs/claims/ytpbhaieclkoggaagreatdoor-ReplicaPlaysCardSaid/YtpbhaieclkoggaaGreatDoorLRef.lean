import Derived.OwnWalk
import Derived.Test.YtpbhaieclkoggaaGreatDoorLOp
set_option maxRecDepth 100000
set_option maxHeartbeats 12800000
namespace Go.Proofs.YtpbhaieclkoggaaGreatDoor
open Go Go.Proofs Go.RowKit
def oqL (x:Oq):List Value:=[.int .i64 x.k,.int .i64 x.c,.int .i64 x.s,.int .i64 x.a,.int .i64 x.n,.int .i32 x.ch]
theorem oqL_len (x:Oq):(oqL x).length=6:=rfl
theorem elL_len (x:El):(elL x).length=4:=rfl
def IsO (W:World) (v:Value) (L:List Oq):Prop:=Sl 70 6 oqL W v L
def IsE (W:World) (v:Value) (L:List El):Prop:=Sl 155 4 (fun x=>elL x) W v L
theorem IsO.next {W W':World} {v:Value} {L:List Oq} (h:IsO W v L) (hb:Below W.heap.size W W'):IsO W' v L:=Sl.next h hb
theorem IsE.next {W W':World} {v:Value} {L:List El} (h:IsE W v L) (hb:Below W.heap.size W W'):IsE W' v L:=Sl.next h hb
def OC (X:World) (g k:Nat) (y:Oq):Prop:=
 X.cell? ⟨g,k * 6,none⟩=some (.int .i64 y.k)∧X.cell? ⟨g,k * 6+1,none⟩=some (.int .i64 y.c)∧X.cell? ⟨g,k * 6+2,none⟩=some (.int .i64 y.s)∧X.cell? ⟨g,k * 6+3,none⟩=some (.int .i64 y.a)∧X.cell? ⟨g,k * 6+4,none⟩=some (.int .i64 y.n)∧X.cell? ⟨g,k * 6+5,none⟩=some (.int .i32 y.ch)
def EC (X:World) (g k:Nat) (y:El):Prop:=
 X.cell? ⟨g,k * 4,none⟩=some (.int .i64 y.c)∧X.cell? ⟨g,k * 4+1,none⟩=some (.int .i64 y.s)∧X.cell? ⟨g,k * 4+2,none⟩=some (.int .i32 y.ch)∧X.cell? ⟨g,k * 4+3,none⟩=some (.bool y.d)
theorem IsO.at {W:World} {a:Option Addr} {n cap:Nat} {L:List Oq} (h:IsO W (.slice a n cap) L) (k:Nat) (hk:k<L.length):∃ g,a=some ⟨g,0,none⟩∧g<W.heap.size∧∀ X,Below W.heap.size W X→OC X g k L[k]:=by
 obtain ⟨g,e,hg,hj⟩:=Sl.cell oqL_len h k hk;refine ⟨g,e,hg,fun X hb=>?_⟩;have hj':∀ j,j<6→X.cell? ⟨g,k * 6+j,none⟩=(oqL L[k])[j]? := fun j h=>by rw [hb.cell (show (⟨g,k * 6+j,none⟩:Addr).block<_ from hg)]; exact hj j h
 exact ⟨hj' 0 (by omega),hj' 1 (by omega),hj' 2 (by omega),hj' 3 (by omega),hj' 4 (by omega),hj' 5 (by omega)⟩
theorem IsE.at {W:World} {a:Option Addr} {n cap:Nat} {L:List El} (h:IsE W (.slice a n cap) L) (k:Nat) (hk:k<L.length):∃ g,a=some ⟨g,0,none⟩∧g<W.heap.size∧∀ X,Below W.heap.size W X→EC X g k L[k]:=by
 obtain ⟨g,e,hg,hj⟩:=Sl.cell elL_len h k hk;refine ⟨g,e,hg,fun X hb=>?_⟩;have hj':∀ j,j<4→X.cell? ⟨g,k * 4+j,none⟩=(elL L[k])[j]? := fun j h=>by rw [hb.cell (show (⟨g,k * 4+j,none⟩:Addr).block<_ from hg)]; exact hj j h
 exact ⟨hj' 0 (by omega),hj' 1 (by omega),hj' 2 (by omega),hj' 3 (by omega)⟩
def fnd {α:Type} (p:α→Bool):List α→Nat→Int
 | [],_ => -1
 | x::l,i=>if p x=true then (i:Int) else fnd p l (i+1)
theorem fnd_yes {α:Type} {p:α→Bool} {x:α} {l:List α} {i:Nat} (h:p x=true):fnd p (x::l) i=i:=by simp [fnd,h]
theorem fnd_no {α:Type} {p:α→Bool} {x:α} {l:List α} {i:Nat} (h:p x=false):fnd p (x::l) i=fnd p l (i+1):=by simp [fnd,h]
def opB (k c s:Int) (x:Oq):Bool:=decide (x.k=k∧x.c=c∧x.s=s)
def elB (c s:Int) (x:El):Bool:=decide (x.c=c∧x.s=s)
theorem refHas_any (kd c s:Int) (L:List Oq) (v0:Value) (w:World) (hL:IsO w v0 L):
  Calls Tryz.prog 104 #[v0,kd,.agg #[c,s]] w
   fun e w'=>e=.returned (.int .i64 (fnd (opB kd c s) L 0))∧Below w.heap.size w w':=by
 have hb0:=(Below.refl w.heap.size w).alloc (Nat.le_refl _) (.cells #[c,s] 68);have HB0:=Lh (And.intro hb0 (Blk.start w [c,s] 68));have HL:=Lh hL;obtain ⟨a,cap,rfl,hc1,hc2⟩:=hL.form;clear hL hb0
 go_enter Tryz.func104,Tryz.ntmps104
 go_wp2_with fail
 go_loopg [7] L.length (fun g ti wr=>∃ k:Nat,k≤L.length∧g=L.length-k∧ti=.int .i64 (k:Int)∧fnd (opB kd c s) (L.drop k) k=fnd (opB kd c s) L 0∧Below w.heap.size w wr∧Blk wr w.heap.size [c,s] 68)
 case atStart=>exact ⟨0,Nat.zero_le _,rfl,rfl,rfl,HB0.out⟩
 case round=>
  obtain ⟨k,hk,rfl,rfl,hf,hb,hB⟩:=hrel;have HB:=Lh (And.intro hb hB);clear HB0 hb hB;by_cases hlt:k<L.length
  ·rw [List.drop_eq_getElem_cons hlt] at hf
   obtain ⟨g,rfl,hg,hC⟩:=HL.out.at k hlt;generalize L[k]=x at *
   have HC:=Lh (fun (W:World) (hb:Below w.heap.size w W)=>hC W hb);clear hC;have HF:=Lh hf;clear hf;go_wp2_with fail
   by_cases h1:x.k=kd
   ·by_cases h2:x.c=c∧x.s=s
    ·have HP:=Lh (show opB kd c s x=true from decide_eq_true ⟨h1,h2⟩)
     obtain ⟨h2,h3⟩:=h2;subst h1 h2 h3;refine rgH (fun W=>W.cell? ⟨g,k * 6,none⟩=some (.int .i64 x.k)∧W.cell? ⟨g,k * 6+1,none⟩=some (.int .i64 x.c)∧W.cell? ⟨g,k * 6+2,none⟩=some (.int .i64 x.s)∧W.cell? ⟨g,k * 6+3,none⟩=some (.int .i64 x.a)∧W.cell? ⟨g,k * 6+4,none⟩=some (.int .i64 x.n)∧W.cell? ⟨g,k * 6+5,none⟩=some (.int .i32 x.ch)∧Cc2 W w.heap.size x.c x.s (Below w.heap.size w W∧Blk W w.heap.size [x.c,x.s] 68)) (let h:=HB.out.1.drew; let c:=HC.out _ h; ⟨c.1,c.2.1,c.2.2.1,c.2.2.2.1,c.2.2.2.2.1,c.2.2.2.2.2,(HB.out.2.drew).d2 ⟨h,HB.out.2.drew⟩⟩) fun hHeld=>?_
     refine tq 0 (.slice ((some ⟨g,0,none⟩)) L.length cap) hHeld ?_;refine tq 1 (.int .i64 ((k:Int))) hHeld ?_;refine tq 2 (.pointer (some ⟨g,k * 6,none⟩)) hHeld ?_;refine tq 3 (.pointer (some ⟨g,k * 6,none⟩)) hHeld ?_;refine tq 4 x.k hHeld ?_;refine tq 5 x.k hHeld ?_;refine tq 6 (.bool true) hHeld ?_;refine tq 7 (.bool true) hHeld ?_;refine tq 8 (.slice ((some ⟨g,0,none⟩)) L.length cap) hHeld ?_;refine tq 9 (.int .i64 ((k:Int))) hHeld ?_;refine tq 10 (.pointer (some ⟨g,k * 6,none⟩)) hHeld ?_;refine tq 11 (.pointer (some ⟨g,k * 6+1,none⟩)) hHeld ?_;refine tq 12 (.agg #[x.c,x.s]) hHeld ?_;refine tq 13 (.agg #[x.c,x.s]) hHeld ?_;refine tq 14 (.bool true) hHeld ?_;refine tq 15 (.bool true) hHeld ?_;refine dnH ?_;have HS:=Lh hHeld.2.2.2.2.2.2.2.2;clear hHeld HB;go_wp2_with fail
     go_ret
     exact ⟨by rw [←HF.out,fnd_yes HP.out]; rfl,HS.out.1⟩
    ·have HP:=Lh (show opB kd c s x=false from decide_eq_false (fun h=>h2 h.2))
     have H2:=Lh h2;clear h2;subst h1;refine rgH (fun W=>W.cell? ⟨g,k * 6,none⟩=some (.int .i64 x.k)∧W.cell? ⟨g,k * 6+1,none⟩=some (.int .i64 x.c)∧W.cell? ⟨g,k * 6+2,none⟩=some (.int .i64 x.s)∧W.cell? ⟨g,k * 6+3,none⟩=some (.int .i64 x.a)∧W.cell? ⟨g,k * 6+4,none⟩=some (.int .i64 x.n)∧W.cell? ⟨g,k * 6+5,none⟩=some (.int .i32 x.ch)∧Cc2 W w.heap.size c s (Below w.heap.size w W∧Blk W w.heap.size [c,s] 68)) (let h:=HB.out.1.drew; let c:=HC.out _ h; ⟨c.1,c.2.1,c.2.2.1,c.2.2.2.1,c.2.2.2.2.1,c.2.2.2.2.2,(HB.out.2.drew).d2 ⟨h,HB.out.2.drew⟩⟩) fun hHeld=>?_
     refine tq 0 (.slice ((some ⟨g,0,none⟩)) L.length cap) hHeld ?_;refine tq 1 (.int .i64 ((k:Int))) hHeld ?_;refine tq 2 (.pointer (some ⟨g,k * 6,none⟩)) hHeld ?_;refine tq 3 (.pointer (some ⟨g,k * 6,none⟩)) hHeld ?_;refine tq 4 x.k hHeld ?_;refine tq 5 x.k hHeld ?_;refine tq 6 (.bool true) hHeld ?_;refine tq 7 (.bool true) hHeld ?_;refine tq 8 (.slice ((some ⟨g,0,none⟩)) L.length cap) hHeld ?_;refine tq 9 (.int .i64 ((k:Int))) hHeld ?_;refine tq 10 (.pointer (some ⟨g,k * 6,none⟩)) hHeld ?_;refine tq 11 (.pointer (some ⟨g,k * 6+1,none⟩)) hHeld ?_;refine tq 12 (.agg #[x.c,x.s]) hHeld ?_;refine tq 13 (.agg #[c,s]) hHeld ?_;refine tk 14 (.bool false) hHeld (fun w hSw=>?_) ?_
     ·(go_simp; intro h3 h4; exact H2.out ⟨h3,h4⟩)
     try simp only [LAY]
     refine tq 15 (.bool false) hHeld ?_;refine dnH ?_;have HS:=Lh hHeld.2.2.2.2.2.2.2.2;clear hHeld HB;go_wp2_with fail
     go_roundg (L.length-(k+1))
     case measure=>omega
     case rel=>exact ⟨k+1,by omega,rfl,by go_num,by rw [←HF.out,fnd_no HP.out],HS.out⟩
   ·have HP:=Lh (show opB kd c s x=false from decide_eq_false (fun h=>h1 h.1))
    have hkb:(x.k==kd)=false:=by simpa using h1
    clear h1;refine rgH (fun W=>W.cell? ⟨g,k * 6,none⟩=some (.int .i64 x.k)∧W.cell? ⟨g,k * 6+1,none⟩=some (.int .i64 x.c)∧W.cell? ⟨g,k * 6+2,none⟩=some (.int .i64 x.s)∧W.cell? ⟨g,k * 6+3,none⟩=some (.int .i64 x.a)∧W.cell? ⟨g,k * 6+4,none⟩=some (.int .i64 x.n)∧W.cell? ⟨g,k * 6+5,none⟩=some (.int .i32 x.ch)∧Cc2 W w.heap.size c s (Below w.heap.size w W∧Blk W w.heap.size [c,s] 68)) (let h:=HB.out.1.drew; let c:=HC.out _ h; ⟨c.1,c.2.1,c.2.2.1,c.2.2.2.1,c.2.2.2.2.1,c.2.2.2.2.2,(HB.out.2.drew).d2 ⟨h,HB.out.2.drew⟩⟩) fun hHeld=>?_
    refine tq 0 (.slice ((some ⟨g,0,none⟩)) L.length cap) hHeld ?_;refine tq 1 (.int .i64 ((k:Int))) hHeld ?_;refine tq 2 (.pointer (some ⟨g,k * 6,none⟩)) hHeld ?_;refine tq 3 (.pointer (some ⟨g,k * 6,none⟩)) hHeld ?_;refine tq 4 x.k hHeld ?_;refine tq 5 kd hHeld ?_;refine tq 6 (.bool false) hHeld ?_;refine tq 7 (.bool false) hHeld ?_;refine sk 8 hHeld ?_
    try simp only [LAY]
    refine sk 9 hHeld ?_
    try simp only [LAY]
    refine sk 10 hHeld ?_
    try simp only [LAY]
    refine sk 11 hHeld ?_
    try simp only [LAY]
    refine sk 12 hHeld ?_
    try simp only [LAY]
    refine sk 13 hHeld ?_
    try simp only [LAY]
    refine sk 14 hHeld ?_
    try simp only [LAY]
    refine tq 15 (.bool false) hHeld ?_;refine dnH ?_;have HS:=Lh hHeld.2.2.2.2.2.2.2.2;clear hHeld HB;go_wp2_with fail
    go_roundg (L.length-(k+1))
    case measure=>omega
    case rel=>exact ⟨k+1,by omega,rfl,by go_num,by rw [←HF.out,fnd_no HP.out],HS.out⟩
  ·obtain rfl:k=L.length:=by omega
   rw [List.drop_length] at hf;have HF:=Lh hf;clear hf;go_wp2_with fail
   go_ret
   exact ⟨by rw [←HF.out]; rfl,HB.out.1⟩
theorem refPlace_any (c s:Int) (L:List El) (v0:Value) (w:World) (hL:IsE w v0 L):
  Calls Tryz.prog 77 #[v0,.agg #[c,s]] w
   fun e w'=>e=.returned (.int .i64 (fnd (elB c s) L 0))∧Below w.heap.size w w':=by
 have hb0:=(Below.refl w.heap.size w).alloc (Nat.le_refl _) (.cells #[c,s] 68);have HB0:=Lh (And.intro hb0 (Blk.start w [c,s] 68));have HL:=Lh hL;obtain ⟨a,cap,rfl,hc1,hc2⟩:=Sl.form hL;clear hL hb0
 go_enter Tryz.func77,Tryz.ntmps77
 go_wp2_with fail
 go_loopg [5] L.length (fun g ti wr=>∃ k:Nat,k≤L.length∧g=L.length-k∧ti=.int .i64 (k:Int)∧fnd (elB c s) (L.drop k) k=fnd (elB c s) L 0∧Below w.heap.size w wr∧Blk wr w.heap.size [c,s] 68)
 case atStart=>exact ⟨0,Nat.zero_le _,rfl,rfl,rfl,HB0.out⟩
 case round=>
  obtain ⟨k,hk,rfl,rfl,hf,hb,hB⟩:=hrel;have HB:=Lh (And.intro hb hB);clear HB0 hb hB;by_cases hlt:k<L.length
  ·rw [List.drop_eq_getElem_cons hlt] at hf
   obtain ⟨g,rfl,hg,hC⟩:=HL.out.at k hlt;generalize L[k]=x at *
   have HC:=Lh (fun (W:World) (hb:Below w.heap.size w W)=>hC W hb);clear hC;have HF:=Lh hf;clear hf;go_wp2_with fail
   by_cases h2:x.c=c∧x.s=s
   ·have HP:=Lh (show elB c s x=true from decide_eq_true h2)
    obtain ⟨h2,h3⟩:=h2;subst h2 h3;refine rgH (fun W=>W.cell? ⟨g,k * 4,none⟩=some (.int .i64 x.c)∧W.cell? ⟨g,k * 4+1,none⟩=some (.int .i64 x.s)∧W.cell? ⟨g,k * 4+2,none⟩=some (.int .i32 x.ch)∧W.cell? ⟨g,k * 4+3,none⟩=some (.bool x.d)∧Cc2 W w.heap.size x.c x.s (Below w.heap.size w W∧Blk W w.heap.size [x.c,x.s] 68)) (let h:=HB.out.1.drew; let c:=HC.out _ h; ⟨c.1,c.2.1,c.2.2.1,c.2.2.2,(HB.out.2.drew).d2 ⟨h,HB.out.2.drew⟩⟩) fun hHeld=>?_
    refine tq 0 (.slice ((some ⟨g,0,none⟩)) L.length cap) hHeld ?_;refine tq 1 (.int .i64 ((k:Int))) hHeld ?_;refine tq 2 (.pointer (some ⟨g,k * 4,none⟩)) hHeld ?_;refine tq 3 (.pointer (some ⟨g,k * 4,none⟩)) hHeld ?_;refine tq 4 (.agg #[x.c,x.s]) hHeld ?_;refine tq 5 (.agg #[x.c,x.s]) hHeld ?_;refine tq 6 (.bool true) hHeld ?_;refine dnH ?_;have HS:=Lh hHeld.2.2.2.2.2.2;clear hHeld HB;go_wp2_with fail
    go_ret
    exact ⟨by rw [←HF.out,fnd_yes HP.out]; rfl,HS.out.1⟩
   ·have HP:=Lh (show elB c s x=false from decide_eq_false h2)
    have H2:=Lh h2;clear h2;refine rgH (fun W=>W.cell? ⟨g,k * 4,none⟩=some (.int .i64 x.c)∧W.cell? ⟨g,k * 4+1,none⟩=some (.int .i64 x.s)∧W.cell? ⟨g,k * 4+2,none⟩=some (.int .i32 x.ch)∧W.cell? ⟨g,k * 4+3,none⟩=some (.bool x.d)∧Cc2 W w.heap.size c s (Below w.heap.size w W∧Blk W w.heap.size [c,s] 68)) (let h:=HB.out.1.drew; let c:=HC.out _ h; ⟨c.1,c.2.1,c.2.2.1,c.2.2.2,(HB.out.2.drew).d2 ⟨h,HB.out.2.drew⟩⟩) fun hHeld=>?_
    refine tq 0 (.slice ((some ⟨g,0,none⟩)) L.length cap) hHeld ?_;refine tq 1 (.int .i64 ((k:Int))) hHeld ?_;refine tq 2 (.pointer (some ⟨g,k * 4,none⟩)) hHeld ?_;refine tq 3 (.pointer (some ⟨g,k * 4,none⟩)) hHeld ?_;refine tq 4 (.agg #[x.c,x.s]) hHeld ?_;refine tq 5 (.agg #[c,s]) hHeld ?_;refine tk 6 (.bool false) hHeld (fun w hSw=>?_) ?_
    ·(go_simp; intro h3 h4; exact H2.out ⟨h3,h4⟩)
    try simp only [LAY]
    refine dnH ?_;have HS:=Lh hHeld.2.2.2.2.2.2;clear hHeld HB;go_wp2_with fail
    go_roundg (L.length-(k+1))
    case measure=>omega
    case rel=>exact ⟨k+1,by omega,rfl,by go_num,by rw [←HF.out,fnd_no HP.out],HS.out⟩
  ·obtain rfl:k=L.length:=by omega
   rw [List.drop_length] at hf;have HF:=Lh hf;clear hf;go_wp2_with fail
   go_ret
   exact ⟨by rw [←HF.out]; rfl,HB.out.1⟩
def deadO (m:List Oq) (c s:Int):Bool:=decide (0≤fnd (opB 1 c s) m 0)
def elO (m:List Oq) (x:Oq):El:=⟨x.c,x.s,x.ch,deadO m x.c x.s,x.lo,x.hi⟩
theorem insK_at {x:Oq}:∀ {K:List Oq} {j:Nat},j≤K.length→(∀ y∈K.take j,lessB x.c x.s y.c y.s=true)→(∀ h:j<K.length,lessB x.c x.s K[j].c K[j].s=false)→insK x K=K.take j++x::K.drop j
 | [],j,hj,_,_=>by
  have:j=0:=by simpa using hj
  subst this; rfl
 | y::K,0,_,_,h=>by
  have:=h (by simp);simp only [List.getElem_cons_zero] at this
  simp [insK,this]
 | y::K,j+1,hj,h1,h2=>by
  have hy:=h1 y (by simp);rw [insK,if_pos hy,insK_at (j:=j) (by simpa using hj) (fun z hz=>h1 z (by simp [hz])) (fun h=>by have:=h2 (by simp; omega); simpa using this)];simp
theorem kids_take (m:List Oq) (a n:Int) (k:Nat) (h:k<m.length):kids (m.take (k+1)) a n=if kidB a n m[k]=true then insK m[k] (kids (m.take k) a n) else kids (m.take k) a n:=by
 rw [List.take_succ_eq_append_getElem h,kids_snoc]
theorem insK_len (x:Oq) (l:List Oq):(insK x l).length=l.length+1:=(perm_insK x l).length_eq
theorem kids_len (a n:Int):∀ m:List Oq,(kids m a n).length≤m.length:=by
 intro m
 have H:∀ (m l:List Oq),(m.foldl (fun l x=>if kidB a n x=true then insK x l else l) l).length≤l.length+m.length:=by
  intro m
  induction m with
  | nil=>intro l; simp
  | cons y m ih=>
   intro l
   simp only [List.foldl_cons,List.length_cons]
   refine Nat.le_trans (ih _) ?_;split
   ·rw [insK_len]; omega
   ·omega
 have:=H m []
 simpa [kids] using this
def zOq:Value:=.agg #[.int .i64 0,.int .i64 0,.int .i64 0,.int .i64 0,.int .i64 0,.int .i32 0]
theorem infoOq:(Tryz.prog.info? 70).map (fun i=>(i.zero,i.size,i.bytes))=some (some zOq,6,48):=by kernel_rfl
def zElR:Value:=.agg #[.int .i64 0,.int .i64 0,.int .i32 0,.bool false]
theorem infoElR:(Tryz.prog.info? 155).map (fun i=>(i.zero,i.size,i.bytes))=some (some zElR,4,24):=by kernel_rfl
theorem oq_one (x:Oq):∀ u∈oqL x,u.oneCell'=true:=by
 intro u hu
 simp only [oqL,List.mem_cons,List.not_mem_nil,or_false] at hu
 rcases hu with rfl | rfl | rfl | rfl | rfl | rfl <;> rfl
theorem el_one (x:El):∀ u∈elL x,u.oneCell'=true:=by
 intro u hu
 simp only [List.mem_cons,List.not_mem_nil,or_false] at hu
 rcases hu with rfl | rfl | rfl | rfl <;> rfl
theorem flat_one {α:Type} {f:α→List Value} (h:∀ x,∀ u∈f x,u.oneCell'=true) (l:List α):∀ u∈l.flatMap f,u.oneCell'=true:=by
 intro u hu
 obtain ⟨x,_,hx⟩:=List.mem_flatMap.1 hu;exact h x u hx
structure Fl (w:World) (a n:Int) (K:List Oq) (v:Value) (W:World):Prop where
 bel:Below w.heap.size w W
 ba:Blk W w.heap.size [a,n] 68
 own:W.ownsRow (w.heap.size+1) 70 6 v K.length (K.flatMap oqL)
theorem Fl.next {w:World} {a n:Int} {K:List Oq} {v:Value} {W W':World} (h:Fl w a n K v W) (hb:Below W.heap.size W W'):Fl w a n K v W':=
 ⟨h.bel.trans (hb.mono h.bel.size),h.ba.next hb,ownsRow_next h.own hb⟩
theorem Fl.isO {w:World} {a n:Int} {K:List Oq} {v:Value} {W:World} (h:Fl w a n K v W):IsO W v K:=Sl.of h.own
theorem Fl.splice {w:World} {a n:Int} {K:List Oq} {ak:Option Addr} {ck j:Nat} {x:Oq} {v2:Value} {W1 W2:World} (h:Fl w a n K (.slice ak K.length ck) W1) (hj:j≤K.length) (hx:insK x K=K.take j++x::K.drop j)
  (ho:W2.ownsRow (w.heap.size+1) 70 6 v2 (j+(1+(K.length-j))) ((K.flatMap oqL).take (j * 6)++(oqL x++(K.drop j).flatMap oqL))) (hg:W1.grownBy W2 (Value.ownBlock (.slice ak j ck))):Fl w a n (insK x K) v2 W2:=by
 have hlt:=h.ba.lt;have h1:Below (w.heap.size+1) W1 W2:=Below.of_grown hg (by omega) (own_ge (ownsRow_take h.own j hj));refine ⟨h.bel.trans (h1.mono (by omega)),h.ba.below h1 (by omega),?_⟩;rw [insK_len,show K.length+1=j+(1+(K.length-j)) by omega,hx,List.flatMap_append,List.flatMap_cons,←flat_take oqL_len K j hj];exact ho
theorem own_lt {W:World} {b size n:Nat} {e:TypeId} {v:Value} {xs:List Value} (h:W.ownsRow b e size v n xs):∀ r,v.ownBlock=some r→r<W.heap.size:=by
 rcases h.2 with ⟨rfl,_⟩ | ⟨g,cap,cur,rfl,_,hg,_⟩
 ·exact fun r e=>by cases e
 ·exact fun r e=>by cases e; exact (Array.getElem?_eq_some_iff.1 hg).1
theorem Fl.below {w:World} {a n:Int} {K:List Oq} {gk ck X:Nat} {W W':World} (h:Fl w a n K (.slice (some ⟨gk,0,none⟩) K.length ck) W) (hb:Below X W W') (hX:w.heap.size+1≤X) (hg:gk<X):Fl w a n K (.slice (some ⟨gk,0,none⟩) K.length ck) W':=by
 refine ⟨h.bel.trans (hb.mono (by omega)),h.ba.below hb (by omega),h.own.1,?_⟩;rcases h.own.2 with h | ⟨g,cap,cur,hv,hg1,hh,h⟩
 ·cases h.1
 ·simp only [Value.slice.injEq,Option.some.injEq,Addr.mk.injEq] at hv
  obtain ⟨⟨rfl,_,_⟩,_,rfl⟩:=hv;exact .inr ⟨gk,ck,cur,rfl,hg1,by rw [hb.block gk hg]; exact hh,h⟩
theorem tail_news {α:Type} {t:TypeId} {m:Nat} {f:α→List Value} (hf:∀ x,(f x).length=m) {W:World} {g n cap:Nat} {L:List α} (h:Sl t m f W (.slice (some ⟨g,0,none⟩) n cap) L) (j:Nat) (hj:j≤L.length):
  ∃ ad,tailA (some ⟨g,0,none⟩) j cap m=some ad∧∀ W',Below W.heap.size W W'→∀ i u,((L.drop j).flatMap f)[i]? = some u→W'.cell? (ad.add i)=some u:=by
 by_cases hc:cap=j
 ·refine ⟨⟨g,0,none⟩,by simp [tailA,hc],fun W' _ i u hi=>?_⟩
  have:L.length≤cap:=by
   rcases h with ⟨h0,_⟩ | ⟨g',cap',cur,hv,hg,h1,h2,h3⟩
   ·cases h0
   ·simp only [Value.slice.injEq] at hv
    obtain ⟨_,_,rfl⟩:=hv;exact h1
  rw [List.drop_eq_nil_of_le (by omega)] at hi;simp at hi
 ·refine ⟨⟨g,j * m,none⟩,?_,fun W' hb i u hi=>Sl.news hf (Sl.next h hb) j hj i u hi⟩
  simp only [tailA,hc,if_false,Option.map_some,Addr.add]
  split
  ·rename_i h0; simp [h0]
  ·simp
theorem own_new (w:World) (x:List Value) (m:Nat) (hm:x.length=m) (t:TypeId):(w.alloc (.cells ⟨x⟩ t)).ownsRow w.heap.size t m (.slice (some ⟨w.heap.size,0,none⟩) 1 1) 1 x:=
 ⟨by omega,.inr ⟨w.heap.size,1,⟨x⟩,rfl,Nat.le_refl _,Blk.start w x t,Nat.le_refl _,by unfold maxLen; omega,by simp [hm],by simp [←hm]⟩⟩
theorem own_form {W:World} {b size n:Nat} {e:TypeId} {v:Value} {xs:List Value} (h:W.ownsRow b e size v n xs) (hn:0<n):∃ g cap,v=.slice (some ⟨g,0,none⟩) n cap∧b≤g∧n≤cap:=by
 rcases h.2 with ⟨_,rfl⟩ | ⟨g,cap,cur,hv,hg,_,hc,_⟩
 ·omega
 ·exact ⟨g,cap,hv,hg,hc⟩
structure F3 (w:World) (K:List Oq) (vk:Value) (O:List El) (vo:Value) (W:World):Prop where
 bel:Below w.heap.size w W
 kid:IsO W vk K
 own:W.ownsRow (w.heap.size+1) 155 4 vo O.length (O.flatMap fun x=>elL x)
theorem F3.next {w:World} {K:List Oq} {vk:Value} {O:List El} {vo:Value} {W W':World} (h:F3 w K vk O vo W) (hb:Below W.heap.size W W'):F3 w K vk O vo W':=
 ⟨h.bel.trans (hb.mono h.bel.size),h.kid.next hb,ownsRow_next h.own hb⟩
theorem Sl.apart {α:Type} {t e:TypeId} {m b n sz:Nat} {f:α→List Value} {W W':World} {v vo:Value} {L:List α} {xs:List Value} (h:Sl t m f W v L) (ho:W.ownsRow b e sz vo n xs) (hte:t≠e) (hg:W.grownBy W' vo.ownBlock):Sl t m f W' v L:=by
 rcases h with h | ⟨g,cap,cur,rfl,hh,h⟩
 ·exact .inl h
 ·refine .inr ⟨g,cap,cur,rfl,?_,h⟩
  rw [hg.block g (Array.getElem?_eq_some_iff.1 hh).1 (fun e'=>?_)]
  ·exact hh
  ·rcases ho.2 with ⟨rfl,_⟩ | ⟨g2,cap2,cur2,rfl,_,hh2,_⟩
   ·cases e'
   ·simp only [Value.ownBlock,Option.some.injEq] at e'
    subst e';rw [hh] at hh2
    cases hh2
    exact hte rfl
theorem F3.app {w:World} {K:List Oq} {vk:Value} {O l:List El} {vo v2:Value} {W1 W2:World} (h:F3 w K vk O vo W1) (hs:w.heap.size+1≤W1.heap.size)
  (ho:W2.ownsRow (w.heap.size+1) 155 4 v2 (O.length+l.length) ((O.flatMap fun x=>elL x)++(l.flatMap fun x=>elL x))) (hg:W1.grownBy W2 vo.ownBlock):F3 w K vk (O++l) v2 W2:=
 ⟨h.bel.trans ((Below.of_grown hg hs (own_ge h.own)).mono (by omega)),Sl.apart h.kid h.own (by decide) hg,by rw [List.length_append,List.flatMap_append]; exact ho⟩
theorem fol_part {f:Nat} {m K:List Oq} {i:Nat} (hi:i<K.length) (h:(K.flatMap fun k=>k::fol f m k.c k.s).length≤1000):
  ((K.take i).flatMap fun k=>k::fol f m k.c k.s).length+1+(fol f m K[i].c K[i].s).length≤1000:=by
 have e:K=K.take i++K[i]::K.drop (i+1):=by rw [←List.drop_eq_getElem_cons hi,List.take_append_drop]
 have e2:(K.flatMap fun k=>k::fol f m k.c k.s).length=((K.take i).flatMap fun k=>k::fol f m k.c k.s).length+(1+(fol f m K[i].c K[i].s).length+((K.drop (i+1)).flatMap fun k=>k::fol f m k.c k.s).length):=by
  conv=>lhs; rw [e]
  simp only [List.flatMap_append,List.flatMap_cons,List.length_append,List.length_cons]
  omega
 omega
theorem follow_step (f:Nat) (m:List Oq) (hm:m.length≤1000) (hr:Rises m) (ih:∀ (y:Oq) (v0:Value) (w:World),y∈m→y.k=0→IsO w v0 m→(1048577:Int)≤f+y.c→(fol f m y.c y.s).length≤1000 →
   Calls Tryz.prog 106 #[v0,.agg #[y.c,y.s]] w fun e w'=>∃ v,e=.returned v∧IsE w' v ((fol f m y.c y.s).map (elO m))∧Below w.heap.size w w')
  (a n:Int) (v0:Value) (w:World) (hL:IsO w v0 m) (hfu:(1048577:Int)≤((f+1:Nat):Int)+a) (hlen:(fol (f+1) m a n).length≤1000):
  Calls Tryz.prog 106 #[v0,.agg #[a,n]] w fun e w'=>∃ v,e=.returned v∧IsE w' v ((fol (f+1) m a n).map (elO m))∧Below w.heap.size w w':=by
 have hb0:=(Below.refl w.heap.size w).alloc (Nat.le_refl _) (.cells #[a,n] 68);have H0:=Lh (show Fl w a n (kids (m.take 0) a n) (.slice none 0 0) _ from ⟨hb0,Blk.start w _ _,World.ownsRow_nil _ _ _ _⟩);have HL:=Lh hL;obtain ⟨ad,cap,rfl,hc1,hc2⟩:=hL.form;clear hL hb0;have HFU:=Lh hfu;have HLEN:=Lh hlen;clear hfu hlen
 go_enter Tryz.func106,Tryz.ntmps106
 go_wp2_with fail
 go_loopg [5,6,7] m.length (fun g tk ti ta wr=>∃ k:Nat,k≤m.length∧g=m.length-k∧ti=.int .i64 (k:Int)∧Fl w a n (kids (m.take k) a n) tk wr)
 case atStart=>exact ⟨0,Nat.zero_le _,rfl,rfl,H0.out⟩
 case round=>
  obtain ⟨k,hk,rfl,rfl,hS⟩:=hrel;have HS:=Lh hS;clear H0 hS;by_cases hlt:k<m.length
  ·obtain ⟨g,rfl,hg,hC⟩:=HL.out.at k hlt
   have hKT:=kids_take m a n k hlt;have HKL:(kids (m.take k) a n).length≤k:=Nat.le_trans (kids_len a n _) (by rw [List.length_take]; omega);generalize kids (m.take k) a n=K at *
   generalize m[k]=x at *
   have HC:=Lh (fun (W:World) (hb:Below w.heap.size w W)=>hC W hb);clear hC;have HK:=Lh hKT;clear hKT;go_wp2_with fail
   by_cases hx:kidB a n x=true
   ·obtain ⟨e0,e1,e2⟩:=kidB_spec.1 hx
    have HX:=Lh (show kids (m.take (k+1)) a n=insK x K by rw [HK.out,if_pos hx]);clear hx HK;have he0:(x.k==0)=true:=by simp [e0]
    refine rgH (fun W=>W.cell? ⟨g,k * 6,none⟩=some (.int .i64 x.k)∧W.cell? ⟨g,k * 6+1,none⟩=some (.int .i64 x.c)∧W.cell? ⟨g,k * 6+2,none⟩=some (.int .i64 x.s)∧W.cell? ⟨g,k * 6+3,none⟩=some (.int .i64 x.a)∧W.cell? ⟨g,k * 6+4,none⟩=some (.int .i64 x.n)∧W.cell? ⟨g,k * 6+5,none⟩=some (.int .i32 x.ch)∧Cc2 W w.heap.size a n (Fl w a n K u5 W)) (let h:=HS.out.next bdq; let c:=HC.out _ h.bel; ⟨c.1,c.2.1,c.2.2.1,c.2.2.2.1,c.2.2.2.2.1,c.2.2.2.2.2,h.ba.d2 h⟩) fun hHeld=>?_
    clear HS;refine tq 0 (.slice ((some ⟨g,0,none⟩)) m.length cap) hHeld ?_;refine tq 1 (.int .i64 ((k:Int))) hHeld ?_;refine tq 2 (.pointer (some ⟨g,k * 6,none⟩)) hHeld ?_;refine tq 3 (.pointer (some ⟨g,k * 6,none⟩)) hHeld ?_;refine tq 4 x.k hHeld ?_;refine tq 5 (.bool false) hHeld ?_;refine tq 6 (.bool false) hHeld ?_;refine tq 7 (.slice ((some ⟨g,0,none⟩)) m.length cap) hHeld ?_;refine tq 8 (.int .i64 ((k:Int))) hHeld ?_;refine tq 9 (.pointer (some ⟨g,k * 6,none⟩)) hHeld ?_;refine tq 10 (.pointer (some ⟨g,k * 6+3,none⟩)) hHeld ?_;refine tq 11 (.agg #[x.a,x.n]) hHeld ?_;refine tq 12 (.agg #[a,n]) hHeld ?_;refine tq 13 (.bool false) hHeld ?_;refine tq 14 (.bool false) hHeld ?_;refine dnH ?_;have HS:=Lh hHeld.2.2.2.2.2.2.2.2;clear hHeld;go_wp2_with fail
    clear e0 e1 e2 he0;obtain ⟨ak,ck,rfl,hck1,hck2⟩:=HS.out.isO.form
    go_loopg [7] K.length (fun g2 tj wi=>∃ j:Nat,j≤K.length∧g2=K.length-j∧tj=.int .i64 (j:Int)∧(∀ y∈K.take j,lessB x.c x.s y.c y.s=true)∧Fl w a n K (.slice ak K.length ck) wi)
    case atStart=>exact ⟨0,Nat.zero_le _,rfl,rfl,by simp,HS.out⟩
    case round=>
     obtain ⟨j,hj,rfl,rfl,hall,hS⟩:=hrel;have HS2:=Lh hS;clear hS;have HS:=HS2;clear HS2;obtain ⟨i0,hi,hz0,hz1,hz2⟩:=info_parts infoOq;go_wp2_with fail
     by_cases hjl:j<K.length
     ·obtain ⟨gk,rfl,hgk,hD⟩:=HS.out.isO.at j hjl
      have HJ:=Lh (fun h:lessB x.c x.s K[j].c K[j].s=false=>insK_at (x:=x) (K:=K) (j:=j) hj hall (fun _=>h));have HA:=Lh (fun h:lessB x.c x.s K[j].c K[j].s=true=>show ∀ y∈K.take (j+1),lessB x.c x.s y.c y.s=true from fun y hy=>by
       rw [List.take_succ_eq_append_getElem hjl] at hy;rcases List.mem_append.1 hy with hy | hy
       ·exact hall y hy
       ·rw [List.mem_singleton.1 hy]; exact h)
      generalize K[j]=y at *
      have HD:=Lh (fun (W:World) (hb:Below wr.heap.size wr W)=>hD W hb);clear hD hall
      cases hl:lessB x.c x.s y.c y.s with
      | true=>
       refine rgH (fun W=>W.cell? ⟨g,k * 6,none⟩=some (.int .i64 x.k)∧W.cell? ⟨g,k * 6+1,none⟩=some (.int .i64 x.c)∧W.cell? ⟨g,k * 6+2,none⟩=some (.int .i64 x.s)∧W.cell? ⟨g,k * 6+3,none⟩=some (.int .i64 x.a)∧W.cell? ⟨g,k * 6+4,none⟩=some (.int .i64 x.n)∧W.cell? ⟨g,k * 6+5,none⟩=some (.int .i32 x.ch)∧W.cell? ⟨gk,j * 6,none⟩=some (.int .i64 y.k)∧W.cell? ⟨gk,j * 6+1,none⟩=some (.int .i64 y.c)∧W.cell? ⟨gk,j * 6+2,none⟩=some (.int .i64 y.s)∧W.cell? ⟨gk,j * 6+3,none⟩=some (.int .i64 y.a)∧W.cell? ⟨gk,j * 6+4,none⟩=some (.int .i64 y.n)∧W.cell? ⟨gk,j * 6+5,none⟩=some (.int .i32 y.ch)∧Below wr.heap.size wr W∧Fl w a n K (.slice (some ⟨gk,0,none⟩) K.length ck) W) (let b:=bdq; let h:=HS.out.next b; let c:=HC.out _ h.bel; let d:=HD.out _ b; ⟨c.1,c.2.1,c.2.2.1,c.2.2.2.1,c.2.2.2.2.1,c.2.2.2.2.2,d.1,d.2.1,d.2.2.1,d.2.2.2.1,d.2.2.2.2.1,d.2.2.2.2.2,b,h⟩) fun hHeld=>?_
       refine tq 0 (.int .i64 ((j:Int))) hHeld ?_;refine tq 1 (.slice ((some ⟨gk,0,none⟩)) K.length ck) hHeld ?_;refine tq 2 (.int .i64 ((K.length:Int))) hHeld ?_;refine tk 3 (.bool true) hHeld (fun w hSw=>?_) ?_
       ·(go_simp; try omega)
       try simp only [LAY]
       refine tq 4 (.bool true) hHeld ?_;refine tq 5 (.slice ((some ⟨g,0,none⟩)) m.length cap) hHeld ?_;refine tq 6 (.int .i64 ((k:Int))) hHeld ?_;refine tq 7 (.pointer (some ⟨g,k * 6,none⟩)) hHeld ?_;refine tq 8 (.pointer (some ⟨g,k * 6+1,none⟩)) hHeld ?_;refine tq 9 (.agg #[x.c,x.s]) hHeld ?_;refine tq 10 (.slice ((some ⟨gk,0,none⟩)) K.length ck) hHeld ?_;refine tq 11 (.int .i64 ((j:Int))) hHeld ?_;refine tq 12 (.pointer (some ⟨gk,j * 6,none⟩)) hHeld ?_;refine tq 13 (.pointer (some ⟨gk,j * 6+1,none⟩)) hHeld ?_;refine tq 14 (.agg #[y.c,y.s]) hHeld ?_;refine rd1 15 (by kernel_rfl) rfl fun KK hK=>?_
       go_simp
       refine (refLess_any _ _ _ _ _).mono ?_
       rintro e' u1 ⟨rfl,hb⟩
       rw [hl];go_wp2_with fail
       refine hK.out _ _ ((let b:=(hHeld.2.2.2.2.2.2.2.2.2.2.2.2.1.trans (hb.mono hHeld.2.2.2.2.2.2.2.2.2.2.2.2.1.size)); let h:=HS.out.next b; let c:=HC.out _ h.bel; let d:=HD.out _ b; ⟨c.1,c.2.1,c.2.2.1,c.2.2.2.1,c.2.2.2.2.1,c.2.2.2.2.2,d.1,d.2.1,d.2.2.1,d.2.2.2.1,d.2.2.2.2.1,d.2.2.2.2.2,b,h⟩)) ?_;clear hK KK hHeld hb;intro hHeld
       try simp only [LAY]
       refine tq 16 (.bool true) hHeld ?_;refine dnH ?_;have HS2:=Lh hHeld.2.2.2.2.2.2.2.2.2.2.2.2.2;clear hHeld HS;have HS:=HS2;clear HS2;go_wp2_with fail
       go_roundg (K.length-(j+1))
       case measure=>omega
       case rel=>exact ⟨j+1,by omega,rfl,by go_num,HA.out hl,HS.out⟩
      | false=>
       refine rgH (fun W=>W.cell? ⟨g,k * 6,none⟩=some (.int .i64 x.k)∧W.cell? ⟨g,k * 6+1,none⟩=some (.int .i64 x.c)∧W.cell? ⟨g,k * 6+2,none⟩=some (.int .i64 x.s)∧W.cell? ⟨g,k * 6+3,none⟩=some (.int .i64 x.a)∧W.cell? ⟨g,k * 6+4,none⟩=some (.int .i64 x.n)∧W.cell? ⟨g,k * 6+5,none⟩=some (.int .i32 x.ch)∧W.cell? ⟨gk,j * 6,none⟩=some (.int .i64 y.k)∧W.cell? ⟨gk,j * 6+1,none⟩=some (.int .i64 y.c)∧W.cell? ⟨gk,j * 6+2,none⟩=some (.int .i64 y.s)∧W.cell? ⟨gk,j * 6+3,none⟩=some (.int .i64 y.a)∧W.cell? ⟨gk,j * 6+4,none⟩=some (.int .i64 y.n)∧W.cell? ⟨gk,j * 6+5,none⟩=some (.int .i32 y.ch)∧Below wr.heap.size wr W∧Fl w a n K (.slice (some ⟨gk,0,none⟩) K.length ck) W) (let b:=bdq; let h:=HS.out.next b; let c:=HC.out _ h.bel; let d:=HD.out _ b; ⟨c.1,c.2.1,c.2.2.1,c.2.2.2.1,c.2.2.2.2.1,c.2.2.2.2.2,d.1,d.2.1,d.2.2.1,d.2.2.2.1,d.2.2.2.2.1,d.2.2.2.2.2,b,h⟩) fun hHeld=>?_
       refine tq 0 (.int .i64 ((j:Int))) hHeld ?_;refine tq 1 (.slice ((some ⟨gk,0,none⟩)) K.length ck) hHeld ?_;refine tq 2 (.int .i64 ((K.length:Int))) hHeld ?_;refine tk 3 (.bool true) hHeld (fun w hSw=>?_) ?_
       ·(go_simp; try omega)
       try simp only [LAY]
       refine tq 4 (.bool true) hHeld ?_;refine tq 5 (.slice ((some ⟨g,0,none⟩)) m.length cap) hHeld ?_;refine tq 6 (.int .i64 ((k:Int))) hHeld ?_;refine tq 7 (.pointer (some ⟨g,k * 6,none⟩)) hHeld ?_;refine tq 8 (.pointer (some ⟨g,k * 6+1,none⟩)) hHeld ?_;refine tq 9 (.agg #[x.c,x.s]) hHeld ?_;refine tq 10 (.slice ((some ⟨gk,0,none⟩)) K.length ck) hHeld ?_;refine tq 11 (.int .i64 ((j:Int))) hHeld ?_;refine tq 12 (.pointer (some ⟨gk,j * 6,none⟩)) hHeld ?_;refine tq 13 (.pointer (some ⟨gk,j * 6+1,none⟩)) hHeld ?_;refine tq 14 (.agg #[y.c,y.s]) hHeld ?_;refine rd1 15 (by kernel_rfl) rfl fun KK hK=>?_
       go_simp
       refine (refLess_any _ _ _ _ _).mono ?_
       rintro e' u1 ⟨rfl,hb⟩
       rw [hl];go_wp2_with fail
       refine hK.out _ _ ((let b:=(hHeld.2.2.2.2.2.2.2.2.2.2.2.2.1.trans (hb.mono hHeld.2.2.2.2.2.2.2.2.2.2.2.2.1.size)); let h:=HS.out.next b; let c:=HC.out _ h.bel; let d:=HD.out _ b; ⟨c.1,c.2.1,c.2.2.1,c.2.2.2.1,c.2.2.2.2.1,c.2.2.2.2.2,d.1,d.2.1,d.2.2.1,d.2.2.2.1,d.2.2.2.2.1,d.2.2.2.2.2,b,h⟩)) ?_;clear hK KK hHeld hb;intro hHeld
       try simp only [LAY]
       refine tq 16 (.bool false) hHeld ?_;refine dnH ?_;have HS2:=Lh hHeld.2.2.2.2.2.2.2.2.2.2.2.2.2;clear hHeld HS;have HS:=HS2;clear HS2;go_wp2_with fail
       have HI:=Lh (HJ.out hl);clear HJ HA HD hl;have HS8:=Lh (HS.out.next bdq);obtain ⟨ad,had,hnw⟩:=tail_news oqL_len HS.out.isO j (by omega);have hst:=fun W=>slice_tail (P:=Tryz.prog) (t:=45) (e:=6) Tryz.underlying45 (by kernel_rfl) (some ⟨gk,0,none⟩) K.length ck j (by omega) W
       rw [had] at hst;have HNW:=Lh hnw;have HST:=Lh hst;clear had hnw hst;refine rgH (fun W=>W.cell? ⟨g,k * 6,none⟩=some (.int .i64 x.k)∧W.cell? ⟨g,k * 6+1,none⟩=some (.int .i64 x.c)∧W.cell? ⟨g,k * 6+2,none⟩=some (.int .i64 x.s)∧W.cell? ⟨g,k * 6+3,none⟩=some (.int .i64 x.a)∧W.cell? ⟨g,k * 6+4,none⟩=some (.int .i64 x.n)∧W.cell? ⟨g,k * 6+5,none⟩=some (.int .i32 x.ch)∧∃ K v,Fl w a n K v W) (let h:=HS8.out; let c:=HC.out _ h.bel; ⟨c.1,c.2.1,c.2.2.1,c.2.2.2.1,c.2.2.2.2.1,c.2.2.2.2.2,_,_,h⟩) fun hHeld=>?_
       clear HS;have HS:=Lh (show Fl w a n K _ _ from HS8.out);have HW8:=Lh (show Below u1.heap.size u1 u1.drew from bdq);clear HS8;generalize u1.drew=W8 at *
       refine tq 0 (.slice ((some ⟨gk,0,none⟩)) K.length ck) hHeld ?_;refine tq 1 (.int .i64 ((j:Int))) hHeld ?_;refine tk 2 (.slice ((some ⟨gk,0,none⟩)) j ck) hHeld (fun w hSw=>?_) ?_
       ·(go_simp; try omega)
       try simp only [LAY]
       refine tq 3 (.slice ((some ⟨g,0,none⟩)) m.length cap) hHeld ?_;refine tq 4 (.int .i64 ((k:Int))) hHeld ?_;refine tq 5 (.pointer (some ⟨g,k * 6,none⟩)) hHeld ?_;refine tq 6 (.agg #[x.k,x.c,x.s,x.a,x.n,.int .i32 x.ch]) hHeld ?_;refine tq 8 (.slice ((some ⟨gk,0,none⟩)) K.length ck) hHeld ?_;refine tq 9 (.int .i64 ((j:Int))) hHeld ?_;refine tk 10 (.slice (some ad) (K.length-j) (ck-j)) hHeld (fun w hSw=>?_) ?_
       ·(have hst:=HST.out; go_simp)
       try simp only [LAY]
       refine rd1 7 (by kernel_rfl) rfl fun KK hK=>?_
       go_simp
       go_wp2_with fail
       refine hK.out _ _ ((let h:=HS.out.next ((Below.refl W8.heap.size W8).alloc (Nat.le_refl _) (.cells ⟨oqL x⟩ 70)); let c:=HC.out _ h.bel; ⟨c.1,c.2.1,c.2.2.1,c.2.2.2.1,c.2.2.2.2.1,c.2.2.2.2.2,_,_,h⟩)) ?_;clear hK KK hHeld;intro hHeld
       try simp only [LAY]
       have hXo:=own_new W8 (oqL x) 6 rfl 70;have HS2:=Lh (HS.out.next ((Below.refl W8.heap.size W8).alloc (Nat.le_refl _) (.cells ⟨oqL x⟩ 70)));have HNW2:=Lh (HNW.out _ (HW8.out.trans (((Below.refl W8.heap.size W8).alloc (Nat.le_refl _) (.cells ⟨oqL x⟩ 70)).mono HW8.out.size)));have hgX:gk<W8.heap.size:=own_lt HS.out.own gk rfl;have hX8:w.heap.size+1≤W8.heap.size:=HS.out.ba.lt;have hX9:(W8.alloc (.cells ⟨oqL x⟩ 70)).heap.size=W8.heap.size+1:=by simp
       change wpAnyH _ _ _ _ _ _ _ _ (W8.alloc (.cells ⟨oqL x⟩ 70))
       have hH2:(fun W=>W.cell? ⟨g,k * 6,none⟩=some (.int .i64 x.k)∧W.cell? ⟨g,k * 6+1,none⟩=some (.int .i64 x.c)∧W.cell? ⟨g,k * 6+2,none⟩=some (.int .i64 x.s)∧W.cell? ⟨g,k * 6+3,none⟩=some (.int .i64 x.a)∧W.cell? ⟨g,k * 6+4,none⟩=some (.int .i64 x.n)∧W.cell? ⟨g,k * 6+5,none⟩=some (.int .i32 x.ch)∧∃ K v,Fl w a n K v W) (W8.alloc (.cells ⟨oqL x⟩ 70)):=hHeld;clear hHeld HS HW8 HNW;have hHeld:=hH2;have HS:=HS2;clear HS2 hH2;generalize (W8.alloc (.cells ⟨oqL x⟩ 70))=W9 at *
       generalize W8.heap.size=X at *
       refine rd1 11 (by kernel_rfl) rfl fun KK hK=>?_
       rw [if_pos (by rfl)];refine wp_append_at _ (.tmp 57) (.tmp 60) 45 rfl X 70 i0 zOq 6 48 Tryz.underlying45 hi hz0 hz1 hz2 rfl (by decide) _ 1 (oqL x) rfl hXo ad (K.length-j) (ck-j) ((K.drop j).flatMap oqL) rfl (by rw [flat_len oqL_len,List.length_drop]) HNW2.out (flat_one oq_one _) (by unfold maxLen; omega) (by omega) (by omega) ?_;intro v1 W1 ho1 hg1 _
       obtain ⟨q,c1,rfl,_⟩:=own_form ho1 (by omega);have hF1:=HS.out.below (Below.of_grown hg1 (by omega) (fun r e=>by cases e; exact Nat.le_refl _)) hX8 hgX;go_wp2_with fail
       refine hK.out _ _ ((let h:=hF1; let c:=HC.out _ h.bel; ⟨c.1,c.2.1,c.2.2.1,c.2.2.2.1,c.2.2.2.2.1,c.2.2.2.2.2,_,_,h⟩)) ?_;clear hK KK hHeld;intro hHeld
       try simp only [LAY]
       have HF1:=Lh hF1;have hsz1:=hg1.size;clear hF1 HS;refine rd1 12 (by kernel_rfl) rfl fun KK hK=>?_
       rw [if_pos (by rfl)];refine wp_append_at _ (.tmp 52) (.tmp 61) 45 rfl (w.heap.size+1) 70 i0 zOq 6 48 Tryz.underlying45 hi hz0 hz1 hz2 rfl (by decide) _ j _ rfl (ownsRow_take HF1.out.own j (by omega)) ⟨q,0,none⟩ (1+(K.length-j)) c1 (oqL x++(K.drop j).flatMap oqL) rfl ho1.1 (ho1.cells rfl) (by intro u hu; rcases List.mem_append.1 hu with h | h; exact oq_one x u h; exact flat_one oq_one _ u h) (by unfold maxLen; omega) (by omega) (by omega) ?_;intro v2 W2 ho2 hg2 _
       have hF2:=HF1.out.splice (by omega) HI.out ho2 hg2;go_wp2_with fail
       refine hK.out _ _ ((let h:=hF2; let c:=HC.out _ h.bel; ⟨c.1,c.2.1,c.2.2.1,c.2.2.2.1,c.2.2.2.2.1,c.2.2.2.2.2,_,_,h⟩)) ?_;clear hK KK hHeld;intro hHeld
       try simp only [LAY]
       have HF2:=Lh hF2;clear hF2;refine tq 13 (v2) hHeld ?_;refine dnH ?_;clear hHeld;go_wp2_with fail
       go_roundg (m.length-(k+1))
       case measure=>omega
       case rel=>exact ⟨k+1,by omega,rfl,by go_num,by rw [HX.out]; exact HF2.out⟩
     ·have HI:=Lh (insK_at (x:=x) (K:=K) (j:=j) hj hall (fun h=>absurd h hjl))
      clear hall;refine rgH (fun W=>W.cell? ⟨g,k * 6,none⟩=some (.int .i64 x.k)∧W.cell? ⟨g,k * 6+1,none⟩=some (.int .i64 x.c)∧W.cell? ⟨g,k * 6+2,none⟩=some (.int .i64 x.s)∧W.cell? ⟨g,k * 6+3,none⟩=some (.int .i64 x.a)∧W.cell? ⟨g,k * 6+4,none⟩=some (.int .i64 x.n)∧W.cell? ⟨g,k * 6+5,none⟩=some (.int .i32 x.ch)∧Below wr.heap.size wr W∧Fl w a n K (.slice ak K.length ck) W) (let b:=bdq; let h:=HS.out.next b; let c:=HC.out _ h.bel; ⟨c.1,c.2.1,c.2.2.1,c.2.2.2.1,c.2.2.2.2.1,c.2.2.2.2.2,b,h⟩) fun hHeld=>?_
      refine tq 0 (.int .i64 ((j:Int))) hHeld ?_;refine tq 1 (.slice ak K.length ck) hHeld ?_;refine tq 2 (.int .i64 ((K.length:Int))) hHeld ?_;refine tk 3 (.bool false) hHeld (fun w hSw=>?_) ?_
      ·(go_simp; try omega)
      try simp only [LAY]
      refine tq 4 (.bool false) hHeld ?_;refine sk 5 hHeld ?_
      try simp only [LAY]
      refine sk 6 hHeld ?_
      try simp only [LAY]
      refine sk 7 hHeld ?_
      try simp only [LAY]
      refine sk 8 hHeld ?_
      try simp only [LAY]
      refine sk 9 hHeld ?_
      try simp only [LAY]
      refine sk 10 hHeld ?_
      try simp only [LAY]
      refine sk 11 hHeld ?_
      try simp only [LAY]
      refine sk 12 hHeld ?_
      try simp only [LAY]
      refine sk 13 hHeld ?_
      try simp only [LAY]
      refine sk 14 hHeld ?_
      try simp only [LAY]
      refine sk 15 hHeld ?_
      try simp only [LAY]
      refine tq 16 (.bool false) hHeld ?_;refine dnH ?_;have HS2:=Lh hHeld.2.2.2.2.2.2.2;clear hHeld HS;have HS:=HS2;clear HS2;go_wp2_with fail
      rcases HS.out.isO with ⟨hnil,hK0⟩ | ⟨gk,capk,cur,hv,-⟩
      ·subst hK0
       simp only [Value.slice.injEq] at hnil
       obtain ⟨rfl,_,rfl⟩:=hnil;obtain rfl:j=0:=by simpa using hj
       clear hj hjl;have HS8:=Lh (HS.out.next bdq);refine rgH (fun W=>W.cell? ⟨g,k * 6,none⟩=some (.int .i64 x.k)∧W.cell? ⟨g,k * 6+1,none⟩=some (.int .i64 x.c)∧W.cell? ⟨g,k * 6+2,none⟩=some (.int .i64 x.s)∧W.cell? ⟨g,k * 6+3,none⟩=some (.int .i64 x.a)∧W.cell? ⟨g,k * 6+4,none⟩=some (.int .i64 x.n)∧W.cell? ⟨g,k * 6+5,none⟩=some (.int .i32 x.ch)∧∃ K v,Fl w a n K v W) (let h:=HS8.out; let c:=HC.out _ h.bel; ⟨c.1,c.2.1,c.2.2.1,c.2.2.2.1,c.2.2.2.2.1,c.2.2.2.2.2,_,_,h⟩) fun hHeld=>?_
       clear HS;have HS:=Lh (show Fl w a n [] _ _ from HS8.out);have HW8:=Lh (show Below wr.drew.heap.size wr.drew wr.drew.drew from bdq);clear HS8;generalize wr.drew.drew=W8 at *
       refine tq 0 (.slice none 0 0) hHeld ?_;refine tq 1 (.int .i64 0) hHeld ?_;refine tq 2 (.slice none 0 0) hHeld ?_;refine tq 3 (.slice ((some ⟨g,0,none⟩)) m.length cap) hHeld ?_;refine tq 4 (.int .i64 ((k:Int))) hHeld ?_;refine tq 5 (.pointer (some ⟨g,k * 6,none⟩)) hHeld ?_;refine tq 6 (.agg #[x.k,x.c,x.s,x.a,x.n,.int .i32 x.ch]) hHeld ?_;refine tq 8 (.slice none 0 0) hHeld ?_;refine tq 9 (.int .i64 0) hHeld ?_;refine tq 10 (.slice none 0 0) hHeld ?_;refine rd1 7 (by kernel_rfl) rfl fun KK hK=>?_
       go_simp
       go_wp2_with fail
       refine hK.out _ _ ((let h:=HS.out.next ((Below.refl W8.heap.size W8).alloc (Nat.le_refl _) (.cells ⟨oqL x⟩ 70)); let c:=HC.out _ h.bel; ⟨c.1,c.2.1,c.2.2.1,c.2.2.2.1,c.2.2.2.2.1,c.2.2.2.2.2,_,_,h⟩)) ?_;clear hK KK hHeld;intro hHeld
       try simp only [LAY]
       have hXo:=own_new W8 (oqL x) 6 rfl 70;have HS2:=Lh (HS.out.next ((Below.refl W8.heap.size W8).alloc (Nat.le_refl _) (.cells ⟨oqL x⟩ 70)));have hX8:w.heap.size+1≤W8.heap.size:=HS.out.ba.lt;have hX9:(W8.alloc (.cells ⟨oqL x⟩ 70)).heap.size=W8.heap.size+1:=by simp
       change wpAnyH _ _ _ _ _ _ _ _ (W8.alloc (.cells ⟨oqL x⟩ 70))
       have hH2:(fun W=>W.cell? ⟨g,k * 6,none⟩=some (.int .i64 x.k)∧W.cell? ⟨g,k * 6+1,none⟩=some (.int .i64 x.c)∧W.cell? ⟨g,k * 6+2,none⟩=some (.int .i64 x.s)∧W.cell? ⟨g,k * 6+3,none⟩=some (.int .i64 x.a)∧W.cell? ⟨g,k * 6+4,none⟩=some (.int .i64 x.n)∧W.cell? ⟨g,k * 6+5,none⟩=some (.int .i32 x.ch)∧∃ K v,Fl w a n K v W) (W8.alloc (.cells ⟨oqL x⟩ 70)):=hHeld;clear hHeld HS HW8;have hHeld:=hH2;have HS:=HS2;clear HS2 hH2;generalize (W8.alloc (.cells ⟨oqL x⟩ 70))=W9 at *
       generalize W8.heap.size=X at *
       refine rd1 11 (by kernel_rfl) rfl fun KK hK=>?_
       go_simp
       go_wp2_with fail
       refine hK.out _ _ (hHeld) ?_;clear hK KK hHeld;intro hHeld
       try simp only [LAY]
       refine rd1 12 (by kernel_rfl) rfl fun KK hK=>?_
       rw [if_pos (by rfl)];refine wp_append_at _ (.tmp 52) (.tmp 61) 45 rfl (w.heap.size+1) 70 i0 zOq 6 48 Tryz.underlying45 hi hz0 hz1 hz2 rfl (by decide) _ 0 [] rfl (World.ownsRow_nil _ _ _ _) ⟨X,0,none⟩ 1 1 (oqL x) rfl rfl (hXo.cells rfl) (oq_one x) (by unfold maxLen; omega) (by omega) (by omega) ?_;intro v2 W2 ho2 hg2 _
       have hF2:Fl w a n (insK x []) v2 W2:=HS.out.splice (j:=0) (Nat.le_refl _) rfl (by simpa using ho2) hg2;go_wp2_with fail
       refine hK.out _ _ ((let h:=hF2; let c:=HC.out _ h.bel; ⟨c.1,c.2.1,c.2.2.1,c.2.2.2.1,c.2.2.2.2.1,c.2.2.2.2.2,_,_,h⟩)) ?_;clear hK KK hHeld;intro hHeld
       try simp only [LAY]
       have HF2:=Lh hF2;clear hF2;refine tq 13 (v2) hHeld ?_;refine dnH ?_;clear hHeld;go_wp2_with fail
       go_roundg (m.length-(k+1))
       case measure=>omega
       case rel=>exact ⟨k+1,by omega,rfl,by go_num,by rw [HX.out]; exact HF2.out⟩
      ·simp only [Value.slice.injEq] at hv
       obtain ⟨rfl,_,rfl⟩:=hv;have HS8:=Lh (HS.out.next bdq);obtain ⟨ad,had,hnw⟩:=tail_news oqL_len HS.out.isO j (by omega);have hst:=fun W=>slice_tail (P:=Tryz.prog) (t:=45) (e:=6) Tryz.underlying45 (by kernel_rfl) (some ⟨gk,0,none⟩) K.length ck j (by omega) W
       rw [had] at hst;have HNW:=Lh hnw;have HST:=Lh hst;clear had hnw hst;refine rgH (fun W=>W.cell? ⟨g,k * 6,none⟩=some (.int .i64 x.k)∧W.cell? ⟨g,k * 6+1,none⟩=some (.int .i64 x.c)∧W.cell? ⟨g,k * 6+2,none⟩=some (.int .i64 x.s)∧W.cell? ⟨g,k * 6+3,none⟩=some (.int .i64 x.a)∧W.cell? ⟨g,k * 6+4,none⟩=some (.int .i64 x.n)∧W.cell? ⟨g,k * 6+5,none⟩=some (.int .i32 x.ch)∧∃ K v,Fl w a n K v W) (let h:=HS8.out; let c:=HC.out _ h.bel; ⟨c.1,c.2.1,c.2.2.1,c.2.2.2.1,c.2.2.2.2.1,c.2.2.2.2.2,_,_,h⟩) fun hHeld=>?_
       clear HS;have HS:=Lh (show Fl w a n K _ _ from HS8.out);have HW8:=Lh (show Below wr.drew.heap.size wr.drew wr.drew.drew from bdq);clear HS8;generalize wr.drew.drew=W8 at *
       refine tq 0 (.slice ((some ⟨gk,0,none⟩)) K.length ck) hHeld ?_;refine tq 1 (.int .i64 ((j:Int))) hHeld ?_;refine tk 2 (.slice ((some ⟨gk,0,none⟩)) j ck) hHeld (fun w hSw=>?_) ?_
       ·(go_simp; try omega)
       try simp only [LAY]
       refine tq 3 (.slice ((some ⟨g,0,none⟩)) m.length cap) hHeld ?_;refine tq 4 (.int .i64 ((k:Int))) hHeld ?_;refine tq 5 (.pointer (some ⟨g,k * 6,none⟩)) hHeld ?_;refine tq 6 (.agg #[x.k,x.c,x.s,x.a,x.n,.int .i32 x.ch]) hHeld ?_;refine tq 8 (.slice ((some ⟨gk,0,none⟩)) K.length ck) hHeld ?_;refine tq 9 (.int .i64 ((j:Int))) hHeld ?_;refine tk 10 (.slice (some ad) (K.length-j) (ck-j)) hHeld (fun w hSw=>?_) ?_
       ·(have hst:=HST.out; go_simp)
       try simp only [LAY]
       refine rd1 7 (by kernel_rfl) rfl fun KK hK=>?_
       go_simp
       go_wp2_with fail
       refine hK.out _ _ ((let h:=HS.out.next ((Below.refl W8.heap.size W8).alloc (Nat.le_refl _) (.cells ⟨oqL x⟩ 70)); let c:=HC.out _ h.bel; ⟨c.1,c.2.1,c.2.2.1,c.2.2.2.1,c.2.2.2.2.1,c.2.2.2.2.2,_,_,h⟩)) ?_;clear hK KK hHeld;intro hHeld
       try simp only [LAY]
       have hXo:=own_new W8 (oqL x) 6 rfl 70;have HS2:=Lh (HS.out.next ((Below.refl W8.heap.size W8).alloc (Nat.le_refl _) (.cells ⟨oqL x⟩ 70)));have HNW2:=Lh (HNW.out _ (HW8.out.trans (((Below.refl W8.heap.size W8).alloc (Nat.le_refl _) (.cells ⟨oqL x⟩ 70)).mono HW8.out.size)));have hgX:gk<W8.heap.size:=own_lt HS.out.own gk rfl;have hX8:w.heap.size+1≤W8.heap.size:=HS.out.ba.lt;have hX9:(W8.alloc (.cells ⟨oqL x⟩ 70)).heap.size=W8.heap.size+1:=by simp
       change wpAnyH _ _ _ _ _ _ _ _ (W8.alloc (.cells ⟨oqL x⟩ 70))
       have hH2:(fun W=>W.cell? ⟨g,k * 6,none⟩=some (.int .i64 x.k)∧W.cell? ⟨g,k * 6+1,none⟩=some (.int .i64 x.c)∧W.cell? ⟨g,k * 6+2,none⟩=some (.int .i64 x.s)∧W.cell? ⟨g,k * 6+3,none⟩=some (.int .i64 x.a)∧W.cell? ⟨g,k * 6+4,none⟩=some (.int .i64 x.n)∧W.cell? ⟨g,k * 6+5,none⟩=some (.int .i32 x.ch)∧∃ K v,Fl w a n K v W) (W8.alloc (.cells ⟨oqL x⟩ 70)):=hHeld;clear hHeld HS HW8 HNW;have hHeld:=hH2;have HS:=HS2;clear HS2 hH2;generalize (W8.alloc (.cells ⟨oqL x⟩ 70))=W9 at *
       generalize W8.heap.size=X at *
       refine rd1 11 (by kernel_rfl) rfl fun KK hK=>?_
       rw [if_pos (by rfl)];refine wp_append_at _ (.tmp 57) (.tmp 60) 45 rfl X 70 i0 zOq 6 48 Tryz.underlying45 hi hz0 hz1 hz2 rfl (by decide) _ 1 (oqL x) rfl hXo ad (K.length-j) (ck-j) ((K.drop j).flatMap oqL) rfl (by rw [flat_len oqL_len,List.length_drop]) HNW2.out (flat_one oq_one _) (by unfold maxLen; omega) (by omega) (by omega) ?_;intro v1 W1 ho1 hg1 _
       obtain ⟨q,c1,rfl,_⟩:=own_form ho1 (by omega);have hF1:=HS.out.below (Below.of_grown hg1 (by omega) (fun r e=>by cases e; exact Nat.le_refl _)) hX8 hgX;go_wp2_with fail
       refine hK.out _ _ ((let h:=hF1; let c:=HC.out _ h.bel; ⟨c.1,c.2.1,c.2.2.1,c.2.2.2.1,c.2.2.2.2.1,c.2.2.2.2.2,_,_,h⟩)) ?_;clear hK KK hHeld;intro hHeld
       try simp only [LAY]
       have HF1:=Lh hF1;have hsz1:=hg1.size;clear hF1 HS;refine rd1 12 (by kernel_rfl) rfl fun KK hK=>?_
       rw [if_pos (by rfl)];refine wp_append_at _ (.tmp 52) (.tmp 61) 45 rfl (w.heap.size+1) 70 i0 zOq 6 48 Tryz.underlying45 hi hz0 hz1 hz2 rfl (by decide) _ j _ rfl (ownsRow_take HF1.out.own j (by omega)) ⟨q,0,none⟩ (1+(K.length-j)) c1 (oqL x++(K.drop j).flatMap oqL) rfl ho1.1 (ho1.cells rfl) (by intro u hu; rcases List.mem_append.1 hu with h | h; exact oq_one x u h; exact flat_one oq_one _ u h) (by unfold maxLen; omega) (by omega) (by omega) ?_;intro v2 W2 ho2 hg2 _
       have hF2:=HF1.out.splice (by omega) HI.out ho2 hg2;go_wp2_with fail
       refine hK.out _ _ ((let h:=hF2; let c:=HC.out _ h.bel; ⟨c.1,c.2.1,c.2.2.1,c.2.2.2.1,c.2.2.2.2.1,c.2.2.2.2.2,_,_,h⟩)) ?_;clear hK KK hHeld;intro hHeld
       try simp only [LAY]
       have HF2:=Lh hF2;clear hF2;refine tq 13 (v2) hHeld ?_;refine dnH ?_;clear hHeld;go_wp2_with fail
       go_roundg (m.length-(k+1))
       case measure=>omega
       case rel=>exact ⟨k+1,by omega,rfl,by go_num,by rw [HX.out]; exact HF2.out⟩
   ·have HX:=Lh (show kids (m.take (k+1)) a n=K by rw [HK.out,if_neg hx])
    by_cases h0:x.k=0
    ·have HN:=Lh (show ¬ (x.a=a∧x.n=n) from fun h=>hx (kidB_spec.2 ⟨h0,h⟩))
     have he0:(x.k==0)=true:=by simp [h0]
     clear hx HK;refine rgH (fun W=>W.cell? ⟨g,k * 6,none⟩=some (.int .i64 x.k)∧W.cell? ⟨g,k * 6+1,none⟩=some (.int .i64 x.c)∧W.cell? ⟨g,k * 6+2,none⟩=some (.int .i64 x.s)∧W.cell? ⟨g,k * 6+3,none⟩=some (.int .i64 x.a)∧W.cell? ⟨g,k * 6+4,none⟩=some (.int .i64 x.n)∧W.cell? ⟨g,k * 6+5,none⟩=some (.int .i32 x.ch)∧Cc2 W w.heap.size a n (Fl w a n K u5 W)) (let h:=HS.out.next bdq; let c:=HC.out _ h.bel; ⟨c.1,c.2.1,c.2.2.1,c.2.2.2.1,c.2.2.2.2.1,c.2.2.2.2.2,h.ba.d2 h⟩) fun hHeld=>?_
     clear HS;refine tq 0 (.slice ((some ⟨g,0,none⟩)) m.length cap) hHeld ?_;refine tq 1 (.int .i64 ((k:Int))) hHeld ?_;refine tq 2 (.pointer (some ⟨g,k * 6,none⟩)) hHeld ?_;refine tq 3 (.pointer (some ⟨g,k * 6,none⟩)) hHeld ?_;refine tq 4 x.k hHeld ?_;refine tq 5 (.bool false) hHeld ?_;refine tq 6 (.bool false) hHeld ?_;refine tq 7 (.slice ((some ⟨g,0,none⟩)) m.length cap) hHeld ?_;refine tq 8 (.int .i64 ((k:Int))) hHeld ?_;refine tq 9 (.pointer (some ⟨g,k * 6,none⟩)) hHeld ?_;refine tq 10 (.pointer (some ⟨g,k * 6+3,none⟩)) hHeld ?_;refine tq 11 (.agg #[x.a,x.n]) hHeld ?_;refine tq 12 (.agg #[a,n]) hHeld ?_;refine tk 13 (.bool true) hHeld (fun w hSw=>?_) ?_
     ·(go_simp; first | exact HN.out | (intro h1 h2; exact HN.out ⟨h1,h2⟩))
     try simp only [LAY]
     refine tq 14 (.bool true) hHeld ?_;refine dnH ?_;have HS:=Lh hHeld.2.2.2.2.2.2.2.2;clear hHeld;go_wp2_with fail
     clear h0 he0
     go_roundg (m.length-(k+1))
     case measure=>omega
     case rel=>exact ⟨k+1,by omega,rfl,by go_num,by rw [HX.out]; exact HS.out⟩
    ·have he0:(x.k==0)=false:=by simpa using h0
     clear hx HK;refine rgH (fun W=>W.cell? ⟨g,k * 6,none⟩=some (.int .i64 x.k)∧W.cell? ⟨g,k * 6+1,none⟩=some (.int .i64 x.c)∧W.cell? ⟨g,k * 6+2,none⟩=some (.int .i64 x.s)∧W.cell? ⟨g,k * 6+3,none⟩=some (.int .i64 x.a)∧W.cell? ⟨g,k * 6+4,none⟩=some (.int .i64 x.n)∧W.cell? ⟨g,k * 6+5,none⟩=some (.int .i32 x.ch)∧Cc2 W w.heap.size a n (Fl w a n K u5 W)) (let h:=HS.out.next bdq; let c:=HC.out _ h.bel; ⟨c.1,c.2.1,c.2.2.1,c.2.2.2.1,c.2.2.2.2.1,c.2.2.2.2.2,h.ba.d2 h⟩) fun hHeld=>?_
     clear HS;refine tq 0 (.slice ((some ⟨g,0,none⟩)) m.length cap) hHeld ?_;refine tq 1 (.int .i64 ((k:Int))) hHeld ?_;refine tq 2 (.pointer (some ⟨g,k * 6,none⟩)) hHeld ?_;refine tq 3 (.pointer (some ⟨g,k * 6,none⟩)) hHeld ?_;refine tq 4 x.k hHeld ?_;refine tq 5 (.bool true) hHeld ?_;refine tq 6 (.bool true) hHeld ?_;refine sk 7 hHeld ?_
     try simp only [LAY]
     refine sk 8 hHeld ?_
     try simp only [LAY]
     refine sk 9 hHeld ?_
     try simp only [LAY]
     refine sk 10 hHeld ?_
     try simp only [LAY]
     refine sk 11 hHeld ?_
     try simp only [LAY]
     refine sk 12 hHeld ?_
     try simp only [LAY]
     refine sk 13 hHeld ?_
     try simp only [LAY]
     refine tq 14 (.bool true) hHeld ?_;refine dnH ?_;have HS:=Lh hHeld.2.2.2.2.2.2.2.2;clear hHeld;go_wp2_with fail
     clear h0 he0
     go_roundg (m.length-(k+1))
     case measure=>omega
     case rel=>exact ⟨k+1,by omega,rfl,by go_num,by rw [HX.out]; exact HS.out⟩
  ·obtain rfl:k=m.length:=by omega
   rw [List.take_length] at HS;have HKM:=Lh (fun (y:Oq) (hy:y∈kids m a n)=>show y∈m∧y.k=0∧(1048577:Int)≤(f:Int)+y.c from by
    obtain ⟨h1,h2⟩:=mem_kids.1 hy;obtain ⟨h3,h4,_⟩:=kidB_spec.1 h2;have:=hr.anc y h1 h3;have:=HFU.out;exact ⟨h1,h3,by omega⟩)
   have HLN:=Lh (show ((kids m a n).flatMap fun k=>k::fol f m k.c k.s).length≤1000 from HLEN.out);have HRS:=Lh (show fol (f+1) m a n=(kids m a n).flatMap fun k=>k::fol f m k.c k.s from rfl);have HKL:(kids m a n).length≤1000:=Nat.le_trans (kids_len a n m) hm;have hs0:w.heap.size+1≤wr.heap.size:=HS.out.ba.lt;have H3:=Lh (show F3 w (kids m a n) _ ((((kids m a n).take 0).flatMap fun k=>k::fol f m k.c k.s).map (elO m)) (.slice none 0 0) wr from ⟨HS.out.bel,HS.out.isO,World.ownsRow_nil _ _ _ _⟩);obtain ⟨ak,ck,rfl,hck1,hck2⟩:=HS.out.isO.form;clear HS HFU HLEN;generalize kids m a n=K at *
   go_wp2_with fail
   go_loopg [8,9] K.length (fun g2 to ti wr=>∃ i:Nat,i≤K.length∧g2=K.length-i∧ti=.int .i64 (i:Int)∧w.heap.size+1≤wr.heap.size∧F3 w K (.slice ak K.length ck) (((K.take i).flatMap fun k=>k::fol f m k.c k.s).map (elO m)) to wr)
   case atStart=>exact ⟨0,Nat.zero_le _,rfl,rfl,hs0,H3.out⟩
   case round=>
    obtain ⟨i,hi,rfl,rfl,hsz,hS⟩:=hrel;have HS:=Lh hS;clear H3 hS hs0;obtain ⟨i0,hi0,hz0,hz1,hz2⟩:=info_parts infoElR;by_cases hil:i<K.length
    ·obtain ⟨gk,rfl,hgk,hD⟩:=HS.out.kid.at i hil
     have hpart:=fol_part (f:=f) (m:=m) hil HLN.out;obtain ⟨hym,hyk,hfu⟩:=HKM.out K[i] (List.getElem_mem hil);have HT:=Lh (show ((K.take (i+1)).flatMap fun k=>k::fol f m k.c k.s).map (elO m)=((K.take i).flatMap fun k=>k::fol f m k.c k.s).map (elO m)++[elO m K[i]]++(fol f m K[i].c K[i].s).map (elO m) by
      rw [List.take_succ_eq_append_getElem hil]; simp only [List.flatMap_append,List.flatMap_cons,List.flatMap_nil,List.append_nil,List.map_append,List.map_cons,List.append_assoc,List.cons_append,List.nil_append])
     have hol:(((K.take i).flatMap fun k=>k::fol f m k.c k.s).map (elO m)).length+1+((fol f m K[i].c K[i].s).map (elO m)).length≤1000:=by rw [List.length_map,List.length_map]; exact hpart
     have HY:=Lh (fun (W:World) (h:IsO W (.slice (some ⟨gk,0,none⟩) K.length ck) K)=>show OC W gk i K[i] from by
      obtain ⟨g',e,-,h1⟩:=h.at i hil
      cases e
      exact h1 W (Below.refl _ _))
     generalize ((K.take i).flatMap fun k=>k::fol f m k.c k.s).map (elO m)=O at *
     generalize K[i]=y at *
     have HIH:=Lh (fun (W:World) (hb:IsO W (.slice ad m.length cap) m)=>ih y _ W hym hyk hb hfu (by omega));have hol1:O.length≤999:=by omega
     have hol2:O.length+1+((fol f m y.c y.s).map (elO m)).length≤1000:=hol;generalize (fol f m y.c y.s).map (elO m)=FL at *
     clear hD hpart hol hfu hym hyk;go_wp2_with fail
     have HS8:=Lh (HS.out.next bdq);have HZ8:=Lh (show w.heap.size+1≤wr.drew.heap.size from hsz);have HH8:=HS8.out.bel;refine rgH (fun W=>W.cell? ⟨gk,i * 6,none⟩=some (.int .i64 y.k)∧W.cell? ⟨gk,i * 6+1,none⟩=some (.int .i64 y.c)∧W.cell? ⟨gk,i * 6+2,none⟩=some (.int .i64 y.s)∧W.cell? ⟨gk,i * 6+3,none⟩=some (.int .i64 y.a)∧W.cell? ⟨gk,i * 6+4,none⟩=some (.int .i64 y.n)∧W.cell? ⟨gk,i * 6+5,none⟩=some (.int .i32 y.ch)∧∃ O v,w.heap.size+1≤W.heap.size∧F3 w K (.slice (some ⟨gk,0,none⟩) K.length ck) O v W) (let b:=HZ8.out; let h:=HS8.out; let c:=HY.out _ h.kid; ⟨c.1,c.2.1,c.2.2.1,c.2.2.2.1,c.2.2.2.2.1,c.2.2.2.2.2,_,_,b,h⟩) fun hHeld=>?_
     clear HS;clear HH8;generalize wr.drew=W8 at *
     refine tq 0 (u8) hHeld ?_;refine tq 1 (.slice ((some ⟨gk,0,none⟩)) K.length ck) hHeld ?_;refine tq 2 (.int .i64 ((i:Int))) hHeld ?_;refine tq 3 (.pointer (some ⟨gk,i * 6,none⟩)) hHeld ?_;refine tq 4 (.pointer (some ⟨gk,i * 6+1,none⟩)) hHeld ?_;refine tq 5 (.agg #[y.c,y.s]) hHeld ?_;refine tq 6 (.slice ((some ⟨gk,0,none⟩)) K.length ck) hHeld ?_;refine tq 7 (.int .i64 ((i:Int))) hHeld ?_;refine tq 8 (.pointer (some ⟨gk,i * 6,none⟩)) hHeld ?_;refine tq 9 (.pointer (some ⟨gk,i * 6+5,none⟩)) hHeld ?_;refine tq 10 (.int .i32 y.ch) hHeld ?_;refine tq 11 (.slice ad m.length cap) hHeld ?_;refine tq 12 (.slice ((some ⟨gk,0,none⟩)) K.length ck) hHeld ?_;refine tq 13 (.int .i64 ((i:Int))) hHeld ?_;refine tq 14 (.pointer (some ⟨gk,i * 6,none⟩)) hHeld ?_;refine tq 15 (.pointer (some ⟨gk,i * 6+1,none⟩)) hHeld ?_;refine tq 16 (.agg #[y.c,y.s]) hHeld ?_;refine rd1 17 (by kernel_rfl) rfl fun KK hK=>?_
     go_simp
     refine (refHas_any 1 y.c y.s m _ _ ((HL.out.next HS8.out.bel))).mono ?_
     rintro e' u1 ⟨rfl,hb⟩
     go_wp2_with fail
     refine hK.out _ _ ((let b:=(Nat.le_trans HZ8.out hb.size); let h:=HS8.out.next hb; let c:=HY.out _ h.kid; ⟨c.1,c.2.1,c.2.2.1,c.2.2.2.1,c.2.2.2.2.1,c.2.2.2.2.2,_,_,b,h⟩)) ?_;clear hK KK hHeld;intro hHeld
     try simp only [LAY]
     have HS9:=Lh (HS8.out.next hb);have HZ9:=Lh (Nat.le_trans HZ8.out hb.size);clear HS8 HZ8 hb;have HS8:=HS9;have HZ8:=HZ9;clear HS9 HZ9;generalize u1=W8 at *
     refine tk 18 (.bool ((deadO m y.c y.s))) hHeld (fun w hSw=>?_) ?_
     ·(go_simp; first | rfl | simp [deadO])
     try simp only [LAY]
     refine tq 19 (.agg #[y.c,y.s,.int .i32 y.ch,.bool ((deadO m y.c y.s))]) hHeld ?_;refine rd1 20 (by kernel_rfl) rfl fun KK hK=>?_
     go_simp
     go_wp2_with fail
     refine hK.out _ _ ((let b:=(Nat.le_trans HZ8.out ((Below.refl W8.heap.size W8).alloc (Nat.le_refl _) (.cells ⟨elL (elO m y)⟩ 155)).size); let h:=HS8.out.next ((Below.refl W8.heap.size W8).alloc (Nat.le_refl _) (.cells ⟨elL (elO m y)⟩ 155)); let c:=HY.out _ h.kid; ⟨c.1,c.2.1,c.2.2.1,c.2.2.2.1,c.2.2.2.2.1,c.2.2.2.2.2,_,_,b,h⟩)) ?_;clear hK KK hHeld;intro hHeld
     try simp only [LAY]
     have hXo:=own_new W8 (elL (elO m y)) 4 rfl 155;have HS9:=Lh (HS8.out.next ((Below.refl W8.heap.size W8).alloc (Nat.le_refl _) (.cells ⟨elL (elO m y)⟩ 155)));have hX8:w.heap.size+1≤W8.heap.size:=HZ8.out;have hX9:(W8.alloc (.cells ⟨elL (elO m y)⟩ 155)).heap.size=W8.heap.size+1:=by simp
     change wpAnyH _ _ _ _ _ _ _ _ (W8.alloc (.cells ⟨elL (elO m y)⟩ 155))
     have hH2:(fun W=>W.cell? ⟨gk,i * 6,none⟩=some (.int .i64 y.k)∧W.cell? ⟨gk,i * 6+1,none⟩=some (.int .i64 y.c)∧W.cell? ⟨gk,i * 6+2,none⟩=some (.int .i64 y.s)∧W.cell? ⟨gk,i * 6+3,none⟩=some (.int .i64 y.a)∧W.cell? ⟨gk,i * 6+4,none⟩=some (.int .i64 y.n)∧W.cell? ⟨gk,i * 6+5,none⟩=some (.int .i32 y.ch)∧∃ O v,w.heap.size+1≤W.heap.size∧F3 w K (.slice (some ⟨gk,0,none⟩) K.length ck) O v W) (W8.alloc (.cells ⟨elL (elO m y)⟩ 155)):=hHeld;clear hHeld HS8 HZ8;have hHeld:=hH2;have HS8:=HS9;clear HS9 hH2;generalize (W8.alloc (.cells ⟨elL (elO m y)⟩ 155))=W9 at *
     generalize W8.heap.size=X at *
     refine rd1 21 (by kernel_rfl) rfl fun KK hK=>?_
     rw [if_pos (by rfl)];refine wp_append_at _ (.tmp 69) (.tmp 89) 98 rfl (w.heap.size+1) 155 i0 zElR 4 24 Tryz.underlying98 hi0 hz0 hz1 hz2 rfl (by decide) _ O.length _ rfl HS8.out.own ⟨X,0,none⟩ 1 1 (elL (elO m y)) rfl rfl (hXo.cells rfl) (el_one _) (by unfold maxLen; omega) (by omega) (by omega) ?_;intro v2 W2 ho2 hg2 _
     have hF2:=HS8.out.app (l:=[elO m y]) (by omega) (by simpa using ho2) hg2;have hZ2:w.heap.size+1≤W2.heap.size:=by have:=hg2.size; omega
     go_wp2_with fail
     refine hK.out _ _ ((let b:=hZ2; let h:=hF2; let c:=HY.out _ h.kid; ⟨c.1,c.2.1,c.2.2.1,c.2.2.2.1,c.2.2.2.2.1,c.2.2.2.2.2,_,_,b,h⟩)) ?_;clear hK KK hHeld;intro hHeld
     try simp only [LAY]
     have HF2:=Lh hF2;have HZ2:=Lh hZ2;clear hF2 hZ2 HS8 ho2 hg2 hXo hX8 hX9;refine tq 22 (v2) hHeld ?_;refine dnH ?_;clear hHeld;have hy1:=(HY.out _ HF2.out.kid).2.1;have hy2:=(HY.out _ HF2.out.kid).2.2.1;obtain ⟨q,c3,hv2,_,hc3⟩:=own_form HF2.out.own (by simp);have hq:(O++[elO m y]).length=O.length+1:=by simp
     rw [hq] at hv2 hc3;subst hv2;go_wp2_with (go_at_call 106; refine (HIH.out _ (HL.out.next HF2.out.bel)).mono ?_; rintro e' W3 ⟨v3,rfl,hv3,hb3⟩; refine Hid.out ?_)
     have HF3:=Lh (HF2.out.next hb3);have hZ3:w.heap.size+1≤W3.heap.size:=Nat.le_trans HZ2.out hb3.size;clear HF2 HZ2 hb3 hy1 hy2;rcases hv3 with ⟨rfl,rfl⟩ | ⟨g3,c4,cur3,rfl,hv3⟩
     ·refine Lh ?_
      go_wp2_with fail
      go_roundg (K.length-(i+1))
      case measure=>omega
      case rel=>exact ⟨i+1,by omega,rfl,by go_num,hZ3,by rw [HT.out,List.append_nil]; exact HF3.out⟩
     ·have hnw:=Sl.news elL_len (show IsE W3 _ FL from .inr ⟨g3,c4,cur3,rfl,hv3⟩) 0 (Nat.zero_le _)
      rw [List.drop_zero,Nat.zero_mul] at hnw;clear hv3;refine Lh ?_;go_wp2_with (at_builtin; refine wpList_append_own _ rfl _ _ 98 rfl (w.heap.size+1) 155 i0 zElR 4 24 Tryz.underlying98 hi0 hz0 hz1 hz2 rfl (by decide) _ _ _ rfl HF3.out.own ⟨g3,0,none⟩ FL.length c4 (FL.flatMap fun x=>elL x) rfl (flat_len elL_len FL) hnw (flat_one el_one FL) (by unfold maxLen; omega) (by omega) hZ3 ?_; intro v4 W4 ho4 hg4 _; refine Hid.out ?_)
      have hF4:=HF3.out.app (l:=FL) hZ3 ho4 hg4;have hZ4:w.heap.size+1≤W4.heap.size:=Nat.le_trans hZ3 hg4.size;have HF4:=Lh hF4;clear hF4 ho4 hg4 HF3 hnw;refine Lh ?_;go_wp2_with fail
      go_roundg (K.length-(i+1))
      case measure=>omega
      case rel=>exact ⟨i+1,by omega,rfl,by go_num,hZ4,by rw [HT.out]; exact HF4.out⟩
    ·obtain rfl:i=K.length:=by omega
     rw [List.take_length] at HS;go_wp2_with fail
     go_ret
     exact ⟨_,rfl,by rw [HRS.out]; exact Sl.of HS.out.own,HS.out.bel⟩
theorem follow_any (m:List Oq) (hm:m.length≤1000) (hr:Rises m):∀ (f:Nat) (a n:Int) (v0:Value) (w:World),IsO w v0 m→(1048577:Int)≤f+a→(fol f m a n).length≤1000 →
  Calls Tryz.prog 106 #[v0,.agg #[a,n]] w fun e w'=>∃ v,e=.returned v∧IsE w' v ((fol f m a n).map (elO m))∧Below w.heap.size w w'
 | 0,a,n,v0,w,hL,hfu,hlen=>by
  have h0:fol 1 m a n=[]:=fol_none (fun x hx hk e=>by
   have:=hr.anc x hx hk;have:=hr.hi x hx hk
   omega) 1
  have h1:=follow_step 0 m hm hr (fun y _ _ hy hk _ hf _=>by
   have:=hr.hi y hy hk;exact absurd hf (by omega)) a n v0 w hL (by omega) (by rw [h0]; exact Nat.zero_le _)
  rw [h0] at h1;exact h1
 | f+1,a,n,v0,w,hL,hfu,hlen=>follow_step f m hm hr (fun y v0 w _ _=>follow_any m hm hr f y.c y.s v0 w) a n v0 w hL hfu hlen
theorem row_len {m:List Oq} (g:Gd m):(rowO m).length≤m.length:=by
 have h:∀ (l m:List Oq),Nod l→(∀ x∈l,x∈m)→l.length≤m.length:=by
  intro l
  induction l with
  | nil=>intro m _ _; exact Nat.zero_le _
  | cons x l ih=>
   intro m hn hm
   obtain ⟨a,b,rfl⟩:=List.append_of_mem (hm x (by simp));have hn':=List.pairwise_cons.1 hn;have:=ih (a++b) hn'.2 (fun y hy=>by
    have h1:=hm y (by simp [hy]);have h2:=hn'.1 y hy;simp only [List.mem_append,List.mem_cons] at h1 ⊢
    rcases h1 with h1 | rfl | h1
    ·exact .inl h1
    ·exact absurd ⟨rfl,rfl⟩ h2
    ·exact .inr h1)
   simp only [List.length_append,List.length_cons] at this ⊢
   omega
 exact h _ _ g.nod fun x hx=>((g.mem x).1 hx).1
theorem refList_any (m:List Oq) (hm:m.length≤1000) (g:Gd m) (v0:Value) (w:World) (hL:IsO w v0 m):
  Calls Tryz.prog 73 #[v0] w fun e w'=>∃ v,e=.returned v∧IsE w' v ((rowO m).map (elO m))∧Below w.heap.size w w':=by
 have HF:=Lh (fun (W:World) (h:IsO W v0 m)=>follow_any m hm g.rises 1048577 0 0 v0 W h (by decide) (Nat.le_trans (row_len g) hm));have HL:=Lh hL;clear hL
 go_enter Tryz.func73,Tryz.ntmps73
 go_wp2_with (go_at_call 106; refine (HF.out _ HL.out).mono ?_; rintro e' W3 ⟨v3,rfl,hv3,hb3⟩)
 go_ret
 exact ⟨_,rfl,hv3,hb3⟩
theorem fnd_spec {α:Type} (p:α→Bool):∀ (l:List α) (k:Nat),(fnd p l k = -1∧∀ x∈l,p x=false)∨∃ (i:Nat) (h:i<l.length),fnd p l k=((k+i:Nat):Int)∧p l[i]=true
 | [],k=>.inl ⟨rfl,by simp⟩
 | x::l,k=>by
  cases hx:p x with
  | true=>exact .inr ⟨0,by simp,by rw [fnd_yes hx]; rfl,by simpa using hx⟩
  | false=>
   rw [fnd_no hx];rcases fnd_spec p l (k+1) with ⟨h,h2⟩ | ⟨i,hi,h,h2⟩
   ·exact .inl ⟨h,by simpa [hx] using h2⟩
   ·exact .inr ⟨i+1,by simpa using hi,by rw [h]; congr 1; omega,by simpa using h2⟩
def sameB (x y:Oq):Bool:=decide (x.k=y.k∧x.c=y.c∧x.s=y.s∧x.a=y.a∧x.n=y.n∧x.ch=y.ch)
theorem sameB_iff {x y:Oq}:sameB x y=true↔x=y:=by
 simp only [sameB,decide_eq_true_eq]
 constructor
 ·rintro ⟨h1,h2,h3,h4,h5,h6⟩; exact Oq.same h1 h2 h3 h4 h5 h6
 ·rintro rfl; exact ⟨rfl,rfl,rfl,rfl,rfl,rfl⟩
def wrongE (m:List Oq) (o:Oq):Int:=
 if chkE o.k o.c o.s o.a o.n o.ch≠0 then chkE o.k o.c o.s o.a o.n o.ch
 else if o.k=1 then (if fnd (opB 0 o.c o.s) m 0<0 then 6 else if 0≤fnd (opB 1 o.c o.s) m 0 then 4 else 0)
 else if 0≤fnd (opB 0 o.c o.s) m 0 then (match m[(fnd (opB 0 o.c o.s) m 0).toNat]? with | some x=>if sameB x o=true then 4 else 5 | none=>5)
 else if noneB o.a o.n=false∧fnd (opB 0 o.a o.n) m 0<0 then 6 else 0
section
variable {m:List Oq} {o:Oq}
theorem wrong_chk (h:chkE o.k o.c o.s o.a o.n o.ch≠0):wrongE m o=chkE o.k o.c o.s o.a o.n o.ch:=by unfold wrongE; rw [if_pos h]
theorem wrong_d6 (h:chkE o.k o.c o.s o.a o.n o.ch=0) (hk:o.k=1) (hf:fnd (opB 0 o.c o.s) m 0<0):wrongE m o=6:=by unfold wrongE; rw [if_neg (by simp [h]),if_pos hk,if_pos hf]
theorem wrong_d4 (h:chkE o.k o.c o.s o.a o.n o.ch=0) (hk:o.k=1) (hf:0≤fnd (opB 0 o.c o.s) m 0) (hg:0≤fnd (opB 1 o.c o.s) m 0):wrongE m o=4:=by unfold wrongE; rw [if_neg (by simp [h]),if_pos hk,if_neg (by omega),if_pos hg]
theorem wrong_d0 (h:chkE o.k o.c o.s o.a o.n o.ch=0) (hk:o.k=1) (hf:0≤fnd (opB 0 o.c o.s) m 0) (hg:fnd (opB 1 o.c o.s) m 0<0):wrongE m o=0:=by unfold wrongE; rw [if_neg (by simp [h]),if_pos hk,if_neg (by omega),if_neg (by omega)]
theorem wrong_i4 {i:Nat} (h:chkE o.k o.c o.s o.a o.n o.ch=0) (hk:¬ o.k=1) (hf:fnd (opB 0 o.c o.s) m 0=(i:Int)) (hi:i<m.length) (hs:m[i]=o):wrongE m o=4:=by
 unfold wrongE; rw [if_neg (by simp [h]),if_neg hk,if_pos (by omega),hf,Int.toNat_natCast,List.getElem?_eq_getElem hi]; simp only [hs]; rw [if_pos (sameB_iff.2 rfl)]
theorem wrong_i5 {i:Nat} (h:chkE o.k o.c o.s o.a o.n o.ch=0) (hk:¬ o.k=1) (hf:fnd (opB 0 o.c o.s) m 0=(i:Int)) (hi:i<m.length) (hs:¬ m[i]=o):wrongE m o=5:=by
 unfold wrongE; rw [if_neg (by simp [h]),if_neg hk,if_pos (by omega),hf,Int.toNat_natCast,List.getElem?_eq_getElem hi]; simp only []; rw [if_neg (fun e=>hs (sameB_iff.1 e))]
theorem wrong_i6 (h:chkE o.k o.c o.s o.a o.n o.ch=0) (hk:¬ o.k=1) (hf:fnd (opB 0 o.c o.s) m 0<0) (hn:noneB o.a o.n=false) (hg:fnd (opB 0 o.a o.n) m 0<0):wrongE m o=6:=by
 unfold wrongE; rw [if_neg (by simp [h]),if_neg hk,if_neg (by omega),if_pos ⟨hn,hg⟩]
theorem wrong_i0 (h:chkE o.k o.c o.s o.a o.n o.ch=0) (hk:¬ o.k=1) (hf:fnd (opB 0 o.c o.s) m 0<0) (hg:noneB o.a o.n=true∨0≤fnd (opB 0 o.a o.n) m 0):wrongE m o=0:=by
 unfold wrongE; rw [if_neg (by simp [h]),if_neg hk,if_neg (by omega),if_neg]
 rintro ⟨h1,h2⟩
 rcases hg with h3 | h3
 ·rw [h1] at h3; cases h3
 ·omega
end
structure WrB (w:World) (o:Oq) (W:World):Prop where
 bel:Below w.heap.size w W
 bo:Blk W w.heap.size (oqL o) 70
theorem WrB.next {w:World} {o:Oq} {W W':World} (h:WrB w o W) (hb:Below W.heap.size W W'):WrB w o W':=⟨h.bel.trans (hb.mono h.bel.size),h.bo.next hb⟩
theorem refWrong_any (m:List Oq) (o:Oq) (hm:m.length≤1000) (v0:Value) (w:World) (hL:IsO w v0 m):
  Calls Tryz.prog 67 #[v0,.agg #[o.k,o.c,o.s,o.a,o.n,.int .i32 o.ch]] w fun e w'=>e=.returned (.int .i64 (wrongE m o))∧Below w.heap.size w w':=by
 have H0:=Lh (show WrB w o (w.alloc (.cells #[o.k,o.c,o.s,o.a,o.n,.int .i32 o.ch] 70)) from ⟨bA,Blk.start w (oqL o) _⟩);have HL:=Lh hL;obtain ⟨ad,cap,rfl,hc1,hc2⟩:=hL.form;clear hL
 go_enter Tryz.func67,Tryz.ntmps67
 go_wp2_with (go_at_call 65; refine (refcheck_any _ _ _ _ _ _ _).mono ?_; rintro e w1 ⟨rfl,hb⟩; refine Hid.out ?_)
 have H1:=Lh (H0.out.next hb);clear H0 hb;refine Lh ?_;by_cases hck:chkE o.k o.c o.s o.a o.n o.ch=0
 ·have c1:=H1.out.bo.cell 1 rfl
  have c2:=H1.out.bo.cell 2 rfl;have HCK:=Lh hck;rw [hck];clear hck;go_wp2_with (go_at_call 104; refine (refHas_any 0 o.c o.s m _ _ (HL.out.next H1.out.bel)).mono ?_; rintro e w2 ⟨rfl,hb⟩; refine Hid.out ?_)
  have H2:=Lh (H1.out.next hb);clear H1 hb c1 c2;obtain ⟨c0,c1,c2,c3,c4,c5⟩:=H2.out.bo.c6;have hsp:=fnd_spec (opB 0 o.c o.s) m 0;by_cases hk:o.k=1
  ·have hkb:(o.k==1)=true:=by simpa using hk
   have HK:=Lh hk;clear hk;rcases hsp with ⟨hf,-⟩ | ⟨i,hi,hf,-⟩
   ·have HWE:=Lh (wrong_d6 (m:=m) (o:=o) HCK.out HK.out (by omega))
    rw [hf];refine Lh ?_;clear hf;go_wp2_with fail
    go_ret
    exact ⟨by rw [HWE.out]; rfl,H2.out.bel⟩
   ·simp only [Nat.zero_add] at hf
    have HF:=Lh (show 0≤fnd (opB 0 o.c o.s) m 0 by omega);rw [hf];refine Lh ?_;clear hf;rcases fnd_spec (opB 1 o.c o.s) m 0 with ⟨hf,-⟩ | ⟨j,hj,hf,-⟩
    ·have HWE:=Lh (wrong_d0 (m:=m) (o:=o) HCK.out HK.out HF.out (by omega))
     have HF1:=Lh hf;clear hf;go_wp2_with (go_at_call 104; refine (refHas_any 1 o.c o.s m _ _ (HL.out.next H2.out.bel)).mono ?_; rintro e w3 ⟨rfl,hb⟩; rw [HF1.out])
     go_ret
     exact ⟨by rw [HWE.out]; rfl,H2.out.bel.trans (hb.mono H2.out.bel.size)⟩
    ·simp only [Nat.zero_add] at hf
     have HWE:=Lh (wrong_d4 (m:=m) (o:=o) HCK.out HK.out HF.out (by omega));have HF1:=Lh hf;clear hf;go_wp2_with (go_at_call 104; refine (refHas_any 1 o.c o.s m _ _ (HL.out.next H2.out.bel)).mono ?_; rintro e w3 ⟨rfl,hb⟩; rw [HF1.out])
     go_ret
     exact ⟨by rw [HWE.out]; rfl,H2.out.bel.trans (hb.mono H2.out.bel.size)⟩
  ·have hkb:(o.k==1)=false:=by simpa using hk
   have HK:=Lh hk;clear hk;rcases hsp with ⟨hf,-⟩ | ⟨i,hi,hf,-⟩
   ·have HF:=Lh (show fnd (opB 0 o.c o.s) m 0<0 by omega)
    rw [hf];refine Lh ?_;clear hf;go_wp2_with fail
    refine rgH (fun W=>Cc6 W w.heap.size o.k o.c o.s o.a o.n (.int .i32 o.ch) (WrB w o W)) (let h:=H2.out.next bdq; (h.bo.d6 h)) fun hHeld=>?_
    refine tq 0 (.int .i64 ((-1))) hHeld ?_;refine tq 1 (.bool false) hHeld ?_;refine tq 2 (.bool false) hHeld ?_;refine sk 3 hHeld ?_
    try simp only [LAY]
    refine sk 4 hHeld ?_
    try simp only [LAY]
    refine sk 5 hHeld ?_
    try simp only [LAY]
    refine sk 6 hHeld ?_
    try simp only [LAY]
    refine sk 7 hHeld ?_
    try simp only [LAY]
    refine sk 8 hHeld ?_
    try simp only [LAY]
    refine tq 9 (.bool false) hHeld ?_;refine dnH ?_;have HS:=Lh hHeld.2.2.2.2.2.2;clear hHeld c0 c1 c2 c3 c4 c5
    cases hn:noneB o.a o.n with
    | true=>
     have HWE:=Lh (wrong_i0 (m:=m) (o:=o) HCK.out HK.out HF.out (.inl hn));obtain ⟨ha0,hn0⟩:=none_yes hn;have c3:=HS.out.bo.cell 3 rfl;have c4:=HS.out.bo.cell 4 rfl;rw [ha0] at c3;rw [hn0] at c4;clear ha0 hn0 hn;go_wp2_with fail
     clear c3 c4
     go_loopg [7,8] m.length (fun g tn ti wr=>∃ (k c:Nat),k≤m.length∧g=m.length-k∧ti=.int .i64 (k:Int)∧tn=.int .i64 (c:Int)∧c≤k∧WrB w o wr)
     case atStart=>exact ⟨0,0,Nat.zero_le _,rfl,rfl,rfl,Nat.le_refl _,HS.out⟩
     case round=>
      obtain ⟨k,c,hk2,rfl,rfl,rfl,hck,hS⟩:=hrel;have HS9:=Lh hS;clear hS HS;by_cases hlt:k<m.length
      ·obtain ⟨g,rfl,hg,hC⟩:=HL.out.at k hlt
       generalize m[k]=x at *
       have y0:=(hC _ HS9.out.bel).1;clear hC;by_cases hx:x.k=0
       ·have hxb:(x.k==0)=true:=by simpa using hx
        clear hx;go_wp2_with fail
        go_roundg (m.length-(k+1))
        case measure=>omega
        case rel=>exact ⟨k+1,c+1,by omega,rfl,by go_num,by go_num,by omega,HS9.out⟩
       ·have hxb:(x.k==0)=false:=by simpa using hx
        clear hx;go_wp2_with fail
        go_roundg (m.length-(k+1))
        case measure=>omega
        case rel=>exact ⟨k+1,c,by omega,rfl,by go_num,rfl,by omega,HS9.out⟩
      ·go_wp2_with fail
       go_ret
       exact ⟨by rw [HWE.out]; rfl,HS9.out.bel⟩
    | false=>
     have c3:=HS.out.bo.cell 3 rfl;have c4:=HS.out.bo.cell 4 rfl;rcases fnd_spec (opB 0 o.a o.n) m 0 with ⟨hf,-⟩ | ⟨j,hj,hf,-⟩
     ·have HWE:=Lh (wrong_i6 (m:=m) (o:=o) HCK.out HK.out HF.out hn (by omega))
      have HF1:=Lh hf;clear hf;rcases none_no hn with ⟨ha0,hn0,hn1⟩ | ⟨ha0,ha1⟩
      ·rw [ha0] at c3 HF1
       go_wp2_with (go_at_call 104; refine (refHas_any 0 0 o.n m _ _ (HL.out.next HS.out.bel)).mono ?_; rintro e w3 ⟨rfl,hb⟩; rw [HF1.out])
       go_ret
       exact ⟨by rw [HWE.out]; rfl,HS.out.bel.trans (hb.mono HS.out.bel.size)⟩
      ·go_wp2_with (go_at_call 104; refine (refHas_any 0 o.a o.n m _ _ (HL.out.next HS.out.bel)).mono ?_; rintro e w3 ⟨rfl,hb⟩; rw [HF1.out])
       go_ret
       exact ⟨by rw [HWE.out]; rfl,HS.out.bel.trans (hb.mono HS.out.bel.size)⟩
     ·simp only [Nat.zero_add] at hf
      have HWE:=Lh (wrong_i0 (m:=m) (o:=o) HCK.out HK.out HF.out (.inr (by omega)));have HF1:=Lh hf;clear hf;rcases none_no hn with ⟨ha0,hn0,hn1⟩ | ⟨ha0,ha1⟩
      ·rw [ha0] at c3 HF1
       go_wp2_with (go_at_call 104; refine (refHas_any 0 0 o.n m _ _ (HL.out.next HS.out.bel)).mono ?_; rintro e w3 ⟨rfl,hb⟩; rw [HF1.out]; refine Hid.out ?_)
       have HS2:=Lh (HS.out.next hb);clear HS hb c3 c4 ha0 hn0 hn1 hn HF1;have HS:=HS2;clear HS2;refine Lh ?_;go_wp2_with fail
       go_loopg [7,8] m.length (fun g tn ti wr=>∃ (k c:Nat),k≤m.length∧g=m.length-k∧ti=.int .i64 (k:Int)∧tn=.int .i64 (c:Int)∧c≤k∧WrB w o wr)
       case atStart=>exact ⟨0,0,Nat.zero_le _,rfl,rfl,rfl,Nat.le_refl _,HS.out⟩
       case round=>
        obtain ⟨k,c,hk2,rfl,rfl,rfl,hck,hS⟩:=hrel;have HS9:=Lh hS;clear hS HS;by_cases hlt:k<m.length
        ·obtain ⟨g,rfl,hg,hC⟩:=HL.out.at k hlt
         generalize m[k]=x at *
         have y0:=(hC _ HS9.out.bel).1;clear hC;by_cases hx:x.k=0
         ·have hxb:(x.k==0)=true:=by simpa using hx
          clear hx;go_wp2_with fail
          go_roundg (m.length-(k+1))
          case measure=>omega
          case rel=>exact ⟨k+1,c+1,by omega,rfl,by go_num,by go_num,by omega,HS9.out⟩
         ·have hxb:(x.k==0)=false:=by simpa using hx
          clear hx;go_wp2_with fail
          go_roundg (m.length-(k+1))
          case measure=>omega
          case rel=>exact ⟨k+1,c,by omega,rfl,by go_num,rfl,by omega,HS9.out⟩
        ·go_wp2_with fail
         go_ret
         exact ⟨by rw [HWE.out]; rfl,HS9.out.bel⟩
      ·go_wp2_with (go_at_call 104; refine (refHas_any 0 o.a o.n m _ _ (HL.out.next HS.out.bel)).mono ?_; rintro e w3 ⟨rfl,hb⟩; rw [HF1.out]; refine Hid.out ?_)
       have HS2:=Lh (HS.out.next hb);clear HS hb c3 c4 ha0 ha1 hn HF1;have HS:=HS2;clear HS2;refine Lh ?_;go_wp2_with fail
       go_loopg [7,8] m.length (fun g tn ti wr=>∃ (k c:Nat),k≤m.length∧g=m.length-k∧ti=.int .i64 (k:Int)∧tn=.int .i64 (c:Int)∧c≤k∧WrB w o wr)
       case atStart=>exact ⟨0,0,Nat.zero_le _,rfl,rfl,rfl,Nat.le_refl _,HS.out⟩
       case round=>
        obtain ⟨k,c,hk2,rfl,rfl,rfl,hck,hS⟩:=hrel;have HS9:=Lh hS;clear hS HS;by_cases hlt:k<m.length
        ·obtain ⟨g,rfl,hg,hC⟩:=HL.out.at k hlt
         generalize m[k]=x at *
         have y0:=(hC _ HS9.out.bel).1;clear hC;by_cases hx:x.k=0
         ·have hxb:(x.k==0)=true:=by simpa using hx
          clear hx;go_wp2_with fail
          go_roundg (m.length-(k+1))
          case measure=>omega
          case rel=>exact ⟨k+1,c+1,by omega,rfl,by go_num,by go_num,by omega,HS9.out⟩
         ·have hxb:(x.k==0)=false:=by simpa using hx
          clear hx;go_wp2_with fail
          go_roundg (m.length-(k+1))
          case measure=>omega
          case rel=>exact ⟨k+1,c,by omega,rfl,by go_num,rfl,by omega,HS9.out⟩
        ·go_wp2_with fail
         go_ret
         exact ⟨by rw [HWE.out]; rfl,HS9.out.bel⟩
   ·simp only [Nat.zero_add] at hf
    have HF:=Lh hf;rw [hf];refine Lh ?_;clear hf;have HW4:=Lh (fun h=>wrong_i4 (m:=m) (o:=o) HCK.out HK.out HF.out hi h);have HW5:=Lh (fun h=>wrong_i5 (m:=m) (o:=o) HCK.out HK.out HF.out hi h);obtain ⟨g,rfl,hg,hC⟩:=HL.out.at i hi;generalize m[i]=x at *
    have HC:=Lh (fun (W:World) (hb:Below w.heap.size w W)=>hC W hb);clear hC;go_wp2_with fail
    by_cases hs:x=o
    ·have HWE:=Lh (HW4.out hs)
     clear HW4 HW5;have hs2:=hs.symm;subst hs2;refine rgH (fun W=>Cc6 W w.heap.size o.k o.c o.s o.a o.n (.int .i32 o.ch) (W.cell? ⟨g,i * 6,none⟩=some (.int .i64 o.k)∧W.cell? ⟨g,i * 6+1,none⟩=some (.int .i64 o.c)∧W.cell? ⟨g,i * 6+2,none⟩=some (.int .i64 o.s)∧W.cell? ⟨g,i * 6+3,none⟩=some (.int .i64 o.a)∧W.cell? ⟨g,i * 6+4,none⟩=some (.int .i64 o.n)∧W.cell? ⟨g,i * 6+5,none⟩=some (.int .i32 o.ch)∧WrB w o W)) (let h:=H2.out.next bdq; let c:=HC.out _ h.bel; (h.bo.d6 ⟨c.1,c.2.1,c.2.2.1,c.2.2.2.1,c.2.2.2.2.1,c.2.2.2.2.2,h⟩)) fun hHeld=>?_
     refine tq 0 (.int .i64 ((i:Int))) hHeld ?_;refine tq 1 (.bool true) hHeld ?_;refine tq 2 (.bool true) hHeld ?_;refine tq 3 (.slice ((some ⟨g,0,none⟩)) m.length cap) hHeld ?_;refine tq 4 (.int .i64 ((i:Int))) hHeld ?_;refine tq 5 (.pointer (some ⟨g,i * 6,none⟩)) hHeld ?_;refine tq 6 (.agg #[o.k,o.c,o.s,o.a,o.n,.int .i32 o.ch]) hHeld ?_;refine tq 7 (.agg #[o.k,o.c,o.s,o.a,o.n,.int .i32 o.ch]) hHeld ?_;refine tq 8 (.bool true) hHeld ?_;refine tq 9 (.bool true) hHeld ?_;refine dnH ?_;have HS:=Lh hHeld.2.2.2.2.2.2.2.2.2.2.2.2;clear hHeld c0 c1 c2 c3 c4 c5;go_wp2_with fail
     go_ret
     exact ⟨by rw [HWE.out]; rfl,HS.out.bel⟩
    ·have HWE:=Lh (HW5.out hs)
     have HNE:=Lh hs;clear HW4 HW5 hs;refine rgH (fun W=>Cc6 W w.heap.size o.k o.c o.s o.a o.n (.int .i32 o.ch) (W.cell? ⟨g,i * 6,none⟩=some (.int .i64 x.k)∧W.cell? ⟨g,i * 6+1,none⟩=some (.int .i64 x.c)∧W.cell? ⟨g,i * 6+2,none⟩=some (.int .i64 x.s)∧W.cell? ⟨g,i * 6+3,none⟩=some (.int .i64 x.a)∧W.cell? ⟨g,i * 6+4,none⟩=some (.int .i64 x.n)∧W.cell? ⟨g,i * 6+5,none⟩=some (.int .i32 x.ch)∧WrB w o W)) (let h:=H2.out.next bdq; let c:=HC.out _ h.bel; (h.bo.d6 ⟨c.1,c.2.1,c.2.2.1,c.2.2.2.1,c.2.2.2.2.1,c.2.2.2.2.2,h⟩)) fun hHeld=>?_
     refine tq 0 (.int .i64 ((i:Int))) hHeld ?_;refine tq 1 (.bool true) hHeld ?_;refine tq 2 (.bool true) hHeld ?_;refine tq 3 (.slice ((some ⟨g,0,none⟩)) m.length cap) hHeld ?_;refine tq 4 (.int .i64 ((i:Int))) hHeld ?_;refine tq 5 (.pointer (some ⟨g,i * 6,none⟩)) hHeld ?_;refine tq 6 (.agg #[x.k,x.c,x.s,x.a,x.n,.int .i32 x.ch]) hHeld ?_;refine tq 7 (.agg #[o.k,o.c,o.s,o.a,o.n,.int .i32 o.ch]) hHeld ?_;refine tk 8 (.bool false) hHeld (fun w hSw=>?_) ?_
     ·(go_simp; intro h1 h2 h3 h4 h5 h6; exact HNE.out (Oq.same h1 h2 h3 h4 h5 h6))
     try simp only [LAY]
     refine tq 9 (.bool false) hHeld ?_;refine dnH ?_;have HS:=Lh hHeld.2.2.2.2.2.2.2.2.2.2.2.2;clear hHeld c0 c1 c2 c3 c4 c5;go_wp2_with fail
     go_ret
     exact ⟨by rw [HWE.out]; rfl,HS.out.bel⟩
 ·have hcb:(chkE o.k o.c o.s o.a o.n o.ch==0)=false:=by simpa using hck
  have HWE:=Lh (wrong_chk (m:=m) hck);generalize chkE o.k o.c o.s o.a o.n o.ch=ck at *
  go_wp2_with fail
  go_ret
  exact ⟨by rw [HWE.out]; rfl,H1.out.bel⟩
end Go.Proofs.YtpbhaieclkoggaaGreatDoor
namespace Go.Proofs.YtpbhaieclkoggaaGreatDoor
def entO (m:List Oq) (x:Oq):En:=⟨x.a,x.n,x.ch,deadO m x.c x.s⟩
def mapK (m l:List Oq):List (Nat×En):=l.foldl (fun acc x=>if x.k=0 then insL (placeI x.c x.s) (entO m x) acc else acc) []
def mapL (m:List Oq):List (Nat×En):=mapK m m
def MayO (m:List Oq):Prop:=∀ x∈m,x.k=0→mayB x.c x.s=true
theorem mapK_snoc (m l:List Oq) (x:Oq):mapK m (l++[x])=if x.k=0 then insL (placeI x.c x.s) (entO m x) (mapK m l) else mapK m l:=by simp [mapK]
theorem insL_fst {at_:Nat} {e:En}:∀ {l:List (Nat×En)} {x:Nat×En},x∈insL at_ e l→x=(at_,e)∨x∈l
 | [],x,h=>by simp only [insL,List.mem_singleton] at h; exact .inl h
 | y::l,x,h=>by
  unfold insL at h
  split at h
  ·rcases List.mem_cons.1 h with rfl | h
   ·exact .inr (by simp)
   ·rcases insL_fst h with h | h
    ·exact .inl h
    ·exact .inr (by simp [h])
  ·split at h
   ·rcases List.mem_cons.1 h with rfl | h
    ·exact .inl rfl
    ·exact .inr (by simp [h])
   ·rcases List.mem_cons.1 h with rfl | h
    ·exact .inl rfl
    ·exact .inr h
theorem ris_insL {at_:Nat} {e:En}:∀ {l:List (Nat×En)},Ris l→Ris (insL at_ e l)
 | [],_=>by simp [insL,Ris]
 | y::l,h=>by
  obtain ⟨h1,h2⟩:=List.pairwise_cons.1 h;unfold insL
  split
  ·rename_i c
   refine List.pairwise_cons.2 ⟨fun x hx=>?_,ris_insL h2⟩;rcases insL_fst hx with rfl | hx
   ·exact c
   ·exact h1 x hx
  ·split
   ·rename_i c c2
    refine List.pairwise_cons.2 ⟨fun x hx=>?_,h2⟩;have:=h1 x hx
    show at_<x.1
    omega
   ·rename_i c c2
    refine List.pairwise_cons.2 ⟨fun x hx=>?_,h⟩
    show at_<x.1
    rcases List.mem_cons.1 hx with rfl | hx
    ·omega
    ·have:=h1 x hx; omega
theorem ris_mapK (m:List Oq):∀ l,Ris (mapK m l):=by
 intro l
 have H:∀ (l:List Oq) (acc:List (Nat×En)),Ris acc→Ris (l.foldl (fun acc x=>if x.k=0 then insL (placeI x.c x.s) (entO m x) acc else acc) acc):=by
  intro l
  induction l with
  | nil=>intro acc h; exact h
  | cons x l ih=>
   intro acc h
   simp only [List.foldl_cons]
   apply ih
   split
   ·exact ris_insL h
   ·exact h
 exact H l [] List.Pairwise.nil
theorem getL_insL {at_ k:Nat} {e:En}:∀ {l:List (Nat×En)},Ris l→getL k (insL at_ e l)=if k=at_ then some e else getL k l
 | [],_=>by
  by_cases h:k=at_
  ·subst h; simp [insL,getL]
  ·have h2:¬ at_=k:=fun e=>h e.symm
   simp [insL,getL,h,h2]
 | y::l,h=>by
  obtain ⟨h1,h2⟩:=List.pairwise_cons.1 h;unfold insL
  split
  ·rename_i c
   by_cases hk:y.1=k
   ·have:¬ k=at_:=by omega
    simp [getL,hk,this]
   ·simp only [getL,hk,if_false]
    rw [getL_insL h2]
  ·split
   ·rename_i c c2
    by_cases hk:k=at_
    ·subst hk; simp [getL]
    ·have h3:¬ at_=k:=fun e=>hk e.symm
     have h4:¬ y.1=k:=by omega
     simp [getL,hk,h3,h4]
   ·rename_i c c2
    by_cases hk:k=at_
    ·subst hk; simp [getL]
    ·have h3:¬ at_=k:=fun e=>hk e.symm
     simp [getL,hk,h3]
theorem ris_ext:∀ {l l':List (Nat×En)},Ris l→Ris l'→(∀ k,getL k l=getL k l')→l=l'
 | [],[],_,_,_=>rfl
 | [],y::l',_,_,h=>by have:=h y.1; simp [getL] at this
 | x::l,[],_,_,h=>by have:=h x.1; simp [getL] at this
 | x::l,y::l',hl,hl',h=>by
  obtain ⟨a1,a2⟩:=List.pairwise_cons.1 hl;obtain ⟨b1,b2⟩:=List.pairwise_cons.1 hl';have hx:x.1=y.1:=by
   rcases Nat.lt_trichotomy x.1 y.1 with c | c | c
   ·have e:=h x.1
    have:getL x.1 (y::l')=none:=getL_none _ (fun z hz=>by rcases List.mem_cons.1 hz with rfl | hz; omega; have:=b1 z hz; omega);rw [this] at e;simp [getL] at e
   ·exact c
   ·have e:=h y.1
    have:getL y.1 (x::l)=none:=getL_none _ (fun z hz=>by rcases List.mem_cons.1 hz with rfl | hz; omega; have:=a1 z hz; omega);rw [this] at e;simp [getL] at e
  have hxy:x=y:=by
   have e:=h x.1;simp only [getL,if_true,hx] at e
   exact Prod.ext hx (by simpa using e)
  subst hxy
  congr 1
  refine ris_ext a2 b2 fun k=>?_
  have e:=h k;by_cases hk:x.1=k
  ·rw [getL_none l (fun z hz=>by have:=a1 z hz; omega),getL_none l' (fun z hz=>by have:=b1 z hz; omega)]
  ·simpa [getL,hk] using e
theorem place_inj {c s d t:Int} (h1:mayB c s=true) (h2:mayB d t=true) (h:placeI c s=placeI d t):c=d∧s=t:=by
 have a:=place_nm h1;have b:=place_nm h2;rw [h] at a;exact ⟨a.1.symm.trans b.1,a.2.symm.trans b.2⟩
theorem getL_mapK (m:List Oq) {c s:Int} (hc:mayB c s=true):∀ (l:List Oq),(∀ x∈l,x.k=0→mayB x.c x.s=true) →
  (∀ x∈l,x.k=0→x.eqI c s→∀ y∈l,y.k=0→y.eqI c s→x=y) →
  (∀ x∈l,x.k=0→x.eqI c s→getL (placeI c s) (mapK m l)=some (entO m x))∧((∀ x∈l,x.k=0→¬ x.eqI c s)→getL (placeI c s) (mapK m l)=none):=by
 intro l
 have key:∀ l:List Oq,(∀ x∈l,x.k=0→mayB x.c x.s=true)→(∀ x∈l,x.k=0→x.eqI c s→∀ y∈l,y.k=0→y.eqI c s→x=y) →
   (∀ x∈l.reverse,x.k=0→x.eqI c s→getL (placeI c s) (mapK m l.reverse)=some (entO m x))∧((∀ x∈l.reverse,x.k=0→¬ x.eqI c s)→getL (placeI c s) (mapK m l.reverse)=none):=by
  intro l
  induction l with
  | nil=>intro _ _; exact ⟨by simp,fun _=>rfl⟩
  | cons y l ih=>
   intro hm hu
   have ih':=ih (fun x hx=>hm x (by simp [hx])) (fun x hx h1 h2 z hz=>hu x (by simp [hx]) h1 h2 z (by simp [hz]));simp only [List.reverse_cons,mapK_snoc]
   by_cases hy:y.k=0
   ·rw [if_pos hy,getL_insL (ris_mapK m _)]
    by_cases hp:placeI c s=placeI y.c y.s
    ·rw [if_pos hp]
     have he:=place_inj hc (hm y (by simp) hy) hp;refine ⟨fun x hx h1 h2=>?_,fun h=>absurd ⟨he.1.symm,he.2.symm⟩ (h y (by simp) hy)⟩;have:x=y:=hu x (by simpa [or_comm] using hx) h1 h2 y (by simp) hy ⟨he.1.symm,he.2.symm⟩;rw [this]
    ·rw [if_neg hp]
     refine ⟨fun x hx h1 h2=>?_,fun h=>ih'.2 fun x hx=>h x (by simp [List.mem_reverse.1 hx])⟩;rcases List.mem_append.1 hx with hx | hx
     ·exact ih'.1 x hx h1 h2
     ·rw [List.mem_singleton] at hx
      subst hx;exact absurd (by rw [h2.1,h2.2]) hp
   ·rw [if_neg hy]
    refine ⟨fun x hx h1 h2=>?_,fun h=>ih'.2 fun x hx=>h x (by simp [List.mem_reverse.1 hx])⟩;rcases List.mem_append.1 hx with hx | hx
    ·exact ih'.1 x hx h1 h2
    ·rw [List.mem_singleton] at hx
     subst hx;exact absurd h1 hy
 intro hm hu
 have:=key l.reverse (fun x hx=>hm x (List.mem_reverse.1 hx)) (fun x hx h1 h2 y hy=>hu x (List.mem_reverse.1 hx) h1 h2 y (List.mem_reverse.1 hy));rw [List.reverse_reverse] at this;exact this
structure OkO (m:List Oq):Prop where
 gd:Gd m
 may:MayO m
 del:∀ x∈m,x.k=1→∃ y∈m,y.k=0∧y.eqI x.c x.s
theorem ok_nil:OkO []:=⟨gd_nil,by intro x hx; simp at hx,by simp⟩
theorem nod_eq:∀ {l:List Oq},Nod l→∀ {x y:Oq},x∈l→y∈l→x.c=y.c→x.s=y.s→x=y
 | [],_,_,_,hx,_,_,_=>by simp at hx
 | z::l,h,x,y,hx,hy,h1,h2=>by
  obtain ⟨a,b⟩:=List.pairwise_cons.1 h;rcases List.mem_cons.1 hx with rfl | hx'
  ·rcases List.mem_cons.1 hy with rfl | hy'
   ·rfl
   ·exact absurd ⟨h1,h2⟩ (a y hy')
  ·rcases List.mem_cons.1 hy with rfl | hy'
   ·exact absurd ⟨h1.symm,h2.symm⟩ (a x hx')
   ·exact nod_eq b hx' hy' h1 h2
theorem OkO.one {m:List Oq} (h:OkO m) {x y:Oq} (hx:x∈m) (hx0:x.k=0) (hy:y∈m) (hy0:y.k=0) (h1:x.c=y.c) (h2:x.s=y.s):x=y:=
 nod_eq h.gd.nod ((h.gd.mem x).2 ⟨hx,hx0⟩) ((h.gd.mem y).2 ⟨hy,hy0⟩) h1 h2
theorem fnd_any {α:Type} (p:α→Bool) (l:List α):decide (0≤fnd p l 0)=l.any p:=by
 rcases fnd_spec p l 0 with ⟨h,h2⟩ | ⟨i,hi,h,h2⟩
 ·rw [h,List.any_eq_false.2 (fun x hx=>by simp [h2 x hx])]; rfl
 ·rw [h,List.any_eq_true.2 ⟨l[i],List.getElem_mem hi,h2⟩]; simp
theorem fnd_neg {α:Type} {p:α→Bool} {l:List α}:fnd p l 0<0↔∀ x∈l,p x=false:=by
 rcases fnd_spec p l 0 with ⟨h,h2⟩ | ⟨i,hi,h,h2⟩
 ·rw [h]; exact ⟨fun _=>h2,fun _=>by omega⟩
 ·rw [h]
  refine ⟨fun h3=>by omega,fun h3=>?_⟩;rw [h3 _ (List.getElem_mem hi)] at h2
  cases h2
theorem fnd_pos {α:Type} {p:α→Bool} {l:List α}:0≤fnd p l 0↔∃ x∈l,p x=true:=by
 have:=fnd_neg (p:=p) (l:=l)
 constructor
 ·intro h
  rcases fnd_spec p l 0 with ⟨h1,_⟩ | ⟨i,hi,_,h2⟩
  ·omega
  ·exact ⟨_,List.getElem_mem hi,h2⟩
 ·rintro ⟨x,hx,hp⟩
  rcases Int.lt_or_le (fnd p l 0) 0 with h | h
  ·rw [this.1 h x hx] at hp; cases hp
  ·exact h
theorem fnd_at {α:Type} {p:α→Bool}:∀ (l:List α) (k:Nat) {i:Nat} (hi:i<l.length),p l[i]=true→(∀ j (hj:j<l.length),j<i→p l[j]=false)→fnd p l k=((k+i:Nat):Int)
 | [],_,i,hi,_,_=>by simp at hi
 | x::l,k,0,_,h,_=>by rw [fnd_yes (by simpa using h)]; rfl
 | x::l,k,i+1,hi,h,hl=>by
  have h0:=hl 0 (by simp) (by omega);simp only [List.getElem_cons_zero] at h0
  rw [fnd_no h0,fnd_at l (k+1) (i:=i) (by simpa using hi) (by simpa using h) (fun j hj hji=>by have:=hl (j+1) (by simpa using hj) (by omega); simpa using this)]
  congr 1
  omega
theorem opB_iff {k c s:Int} {x:Oq}:opB k c s x=true↔x.k=k∧x.c=c∧x.s=s:=by simp [opB]
theorem elB_iff {c s:Int} {x:El}:elB c s x=true↔x.c=c∧x.s=s:=by simp [elB]
theorem dead_snoc (m:List Oq) (o:Oq) (c s:Int):deadO (m++[o]) c s=(deadO m c s||opB 1 c s o):=by
 simp only [deadO,fnd_any,List.any_append,List.any_cons,List.any_nil,Bool.or_false]
theorem dead_other {m:List Oq} {o:Oq} {c s:Int} (h:¬ (o.k=1∧o.c=c∧o.s=s)):deadO (m++[o]) c s=deadO m c s:=by
 rw [dead_snoc];have:opB 1 c s o=false:=by simpa [opB] using h
 rw [this,Bool.or_false]
theorem elO_other {m:List Oq} {o x:Oq} (h:¬ (o.k=1∧o.c=x.c∧o.s=x.s)):elO (m++[o]) x=elO m x:=by
 unfold elO; simp only [dead_other h]
theorem entO_other {m:List Oq} {o x:Oq} (h:¬ (o.k=1∧o.c=x.c∧o.s=x.s)):entO (m++[o]) x=entO m x:=by
 unfold entO; rw [dead_other h]
theorem map_insR (o:Oq) (m l:List Oq) (h:o.k=0):l.map (elO (m++[o]))=l.map (elO m):=
 List.map_congr_left fun x _=>elO_other (by rw [h]; omega)
theorem dead_new {m:List Oq} (h:OkO m) {c s:Int} (hn:∀ x∈m,x.k=0→¬ x.eqI c s):deadO m c s=false:=by
 unfold deadO
 rw [fnd_any,List.any_eq_false];intro x hx hp
 obtain ⟨h1,h2,h3⟩:=opB_iff.1 hp;obtain ⟨y,hy,hy0,hy1⟩:=h.del x hx h1;exact hn y hy hy0 ⟨hy1.1.trans h2,hy1.2.trans h3⟩
def posK (o:Oq):List Oq→Nat
 | []=>0
 | y::l=>if lessB o.c o.s y.c y.s=true then posK o l+1 else 0
def posA (o:Oq):List Oq→Nat
 | []=>0
 | y::l=>if y.eqI o.a o.n then posK o l+1 else posA o l+1
def posR (o:Oq) (l:List Oq):Nat:=if o.a=0∧o.n=0 then posK o l else posA o l
theorem posK_le (o:Oq):∀ l,posK o l≤l.length
 | []=>Nat.le_refl _
 | y::l=>by unfold posK; split; have:=posK_le o l; simp; omega; omega
theorem posA_le (o:Oq):∀ l,posA o l≤l.length
 | []=>Nat.le_refl _
 | y::l=>by
  unfold posA
  split
  ·have:=posK_le o l; simp; omega
  ·have:=posA_le o l; simp; omega
theorem posR_le (o:Oq) (l:List Oq):posR o l≤l.length:=by unfold posR; split; exact posK_le o l; exact posA_le o l
theorem insK_pos (o:Oq):∀ l,insK o l=l.take (posK o l)++o::l.drop (posK o l)
 | []=>rfl
 | y::l=>by
  unfold insK posK
  split
  ·rw [insK_pos o l]; simp
  ·rfl
theorem insA_pos (o:Oq):∀ l,insA o l=l.take (posA o l)++o::l.drop (posA o l)
 | []=>rfl
 | y::l=>by
  unfold insA posA
  split
  ·rw [insK_pos o l]; simp
  ·rw [insA_pos o l]; simp
theorem insR_pos (o:Oq) (l:List Oq):insR o l=l.take (posR o l)++o::l.drop (posR o l):=by
 unfold insR posR; split; exact insK_pos o l; exact insA_pos o l
def docR (m:List Oq):List El:=(rowO m).map (elO m)
theorem docR_len (m:List Oq):(docR m).length=(rowO m).length:=by simp [docR]
theorem docR_ins {m:List Oq} {o:Oq} (h:OkO m) (hc:CanI m o):docR (m++[o])=(docR m).take (posR o (rowO m))++⟨o.c,o.s,o.ch,false,o.lo,o.hi⟩::(docR m).drop (posR o (rowO m)):=by
 have hd:deadO m o.c o.s=false:=dead_new h hc.new;have he:elO (m++[o]) o=⟨o.c,o.s,o.ch,false,o.lo,o.hi⟩:=by
  rw [elO_other (by rw [hc.k]; omega)];unfold elO
  simp only [hd]
 unfold docR
 rw [row_ins h.gd hc,map_insR o m _ hc.k,insR_pos,List.map_append,List.map_cons,List.map_take,List.map_drop,←he,elO_other (by rw [hc.k]; omega)]
theorem docR_ins_at {m:List Oq} {o:Oq} (h:OkO m) (hc:CanI m o):fnd (elB o.c o.s) (docR (m++[o])) 0=(posR o (rowO m):Int):=by
 have hle:=posR_le o (rowO m);rw [docR_ins h hc];generalize posR o (rowO m)=i at *
 have hl:((docR m).take i).length=i:=by rw [List.length_take,docR_len]; omega
 rw [fnd_at _ 0 (i:=i) (by rw [List.length_append,hl]; simp) (by rw [List.getElem_append_right (by omega)]; simp [hl,elB]) (fun j hj hji=>?_),Nat.zero_add];rw [List.getElem_append_left (by omega)];have hjl:j<(rowO m).length:=by omega
 have:((docR m).take i)[j]'(by omega)=elO m ((rowO m)[j]):=by simp [docR]
 rw [this];have hm:=(h.gd.mem (rowO m)[j]).1 (List.getElem_mem hjl);exact decide_eq_false (hc.new _ hm.1 hm.2)
theorem mapL_ins {m:List Oq} {o:Oq} (h:OkO m) (hc:CanI m o):mapL (m++[o])=insL (placeI o.c o.s) ⟨o.a,o.n,o.ch,false⟩ (mapL m):=by
 have hd:deadO m o.c o.s=false:=dead_new h hc.new;have hs:∀ l:List Oq,mapK (m++[o]) l=mapK m l:=by
  intro l
  unfold mapK
  congr 1
  funext acc x
  rw [entO_other (by rw [hc.k]; omega)]
 unfold mapL
 rw [mapK_snoc,if_pos hc.k,hs,entO_other (by rw [hc.k]; omega)];unfold entO
 rw [hd]
theorem docR_del {m:List Oq} {o x:Oq} (h:OkO m) (ho:o.k=1) {i:Nat} (hi:i<(rowO m).length) (hx:(rowO m)[i]=x) (hid:x.c=o.c∧x.s=o.s):
  docR (m++[o])=(docR m).set i ⟨x.c,x.s,x.ch,true,x.lo,x.hi⟩:=by
 unfold docR
 rw [row_del (by omega)]
 apply List.ext_getElem (by simp)
 intro j h1 h2
 have hj:j<(rowO m).length:=by simpa using h1
 rw [List.getElem_map,List.getElem_set];by_cases hij:i=j
 ·subst hij
  rw [if_pos rfl,hx];unfold elO
  have:deadO (m++[o]) x.c x.s=true:=by rw [dead_snoc,opB_iff.2 ⟨ho,hid.1.symm,hid.2.symm⟩,Bool.or_true]
  simp only [this]
 ·rw [if_neg hij,List.getElem_map]
  refine elO_other ?_
  rintro ⟨_,h3,h4⟩
  have hn:=h.gd.nod;have h5:(rowO m)[i].c=(rowO m)[j].c∧(rowO m)[i].s=(rowO m)[j].s:=by rw [hx]; exact ⟨hid.1.trans h3,hid.2.trans h4⟩
  rcases Nat.lt_or_gt_of_ne hij with hlt | hlt
  ·exact List.pairwise_iff_getElem.1 hn i j hi hj hlt h5
  ·exact List.pairwise_iff_getElem.1 hn j i hj hi hlt ⟨h5.1.symm,h5.2.symm⟩
theorem docR_at {m:List Oq} (h:OkO m) {i:Nat} (hi:i<(rowO m).length):fnd (elB (rowO m)[i].c (rowO m)[i].s) (docR m) 0=(i:Int):=by
 rw [fnd_at _ 0 (i:=i) (by rw [docR_len]; exact hi) (by simp [docR,elO,elB]) (fun j hj hji=>?_),Nat.zero_add];have hjl:j<(rowO m).length:=by omega
 have:=List.pairwise_iff_getElem.1 h.gd.nod j i hjl hi hji
 simpa [docR,elO,elB] using this
theorem mapL_get {m:List Oq} (h:OkO m) {x:Oq} (hx:x∈m) (h0:x.k=0):getL (placeI x.c x.s) (mapL m)=some (entO m x):=
 (getL_mapK m (h.may x hx h0) m h.may (fun _ ha ha0 ha1 _ hb hb0 hb1=>h.one ha ha0 hb hb0 (ha1.1.trans hb1.1.symm) (ha1.2.trans hb1.2.symm))).1 x hx h0 ⟨rfl,rfl⟩
theorem mapL_none {m:List Oq} (h:OkO m) {c s:Int} (hc:mayB c s=true) (hn:∀ x∈m,x.k=0→¬ x.eqI c s):getL (placeI c s) (mapL m)=none:=
 (getL_mapK m hc m h.may (fun _ ha ha0 ha1 _ hb hb0 hb1=>h.one ha ha0 hb hb0 (ha1.1.trans hb1.1.symm) (ha1.2.trans hb1.2.symm))).2 hn
theorem mapK_key {m:List Oq}:∀ (l:List Oq) (z:Nat×En),z∈mapK m l→∃ x∈l,x.k=0∧z.1=placeI x.c x.s:=by
 intro l
 have H:∀ (l:List Oq) (acc:List (Nat×En)) (z:Nat×En),z∈l.foldl (fun acc x=>if x.k=0 then insL (placeI x.c x.s) (entO m x) acc else acc) acc→z∈acc∨∃ x∈l,x.k=0∧z.1=placeI x.c x.s:=by
  intro l
  induction l with
  | nil=>intro acc z h; exact .inl h
  | cons x l ih=>
   intro acc z hz
   simp only [List.foldl_cons] at hz
   rcases ih _ z hz with h | ⟨y,hy,h1⟩
   ·split at h
    ·rename_i h0
     rcases insL_fst h with rfl | h
     ·exact .inr ⟨x,by simp,h0,rfl⟩
     ·exact .inl h
    ·exact .inl h
   ·exact .inr ⟨y,by simp [hy],h1⟩
 intro z hz
 rcases H l [] z hz with h | h
 ·simp at h
 ·exact h
theorem mapL_del {m:List Oq} {o x:Oq} (h:OkO m) (ho:o.k=1) (hx:x∈m) (h0:x.k=0) (hid:x.c=o.c∧x.s=o.s):
  mapL (m++[o])=insL (placeI o.c o.s) ⟨x.a,x.n,x.ch,true⟩ (mapL m):=by
 have hm':∀ y∈m,y.k=0→mayB y.c y.s=true:=h.may;have hu:∀ {c s:Int},∀ a∈m,a.k=0→a.eqI c s→∀ b∈m,b.k=0→b.eqI c s→a=b:=fun a ha ha0 ha1 b hb hb0 hb1=>h.one ha ha0 hb hb0 (ha1.1.trans hb1.1.symm) (ha1.2.trans hb1.2.symm)
 unfold mapL
 rw [mapK_snoc,if_neg (by omega)];refine ris_ext (ris_mapK _ _) (ris_insL (ris_mapK _ _)) fun k=>?_
 rw [getL_insL (ris_mapK _ _)];by_cases hk:∃ y∈m,y.k=0∧k=placeI y.c y.s
 ·obtain ⟨y,hy,hy0,rfl⟩:=hk
  rw [(getL_mapK (m++[o]) (hm' y hy hy0) m hm' hu).1 y hy hy0 ⟨rfl,rfl⟩,(getL_mapK m (hm' y hy hy0) m hm' hu).1 y hy hy0 ⟨rfl,rfl⟩];by_cases he:y.c=o.c∧y.s=o.s
  ·have hyx:y=x:=h.one hy hy0 hx h0 (he.1.trans hid.1.symm) (he.2.trans hid.2.symm)
   subst hyx;rw [if_pos (by rw [he.1,he.2])];unfold entO
   rw [dead_snoc,opB_iff.2 ⟨ho,hid.1.symm,hid.2.symm⟩,Bool.or_true]
  ·have hmo:mayB o.c o.s=true:=by rw [←hid.1,←hid.2]; exact hm' x hx h0
   rw [if_neg (fun e=>he (place_inj (hm' y hy hy0) hmo e)),entO_other (by rintro ⟨_,e1,e2⟩; exact he ⟨e1.symm,e2.symm⟩)]
 ·have h1:∀ z∈mapK (m++[o]) m,z.1≠k:=fun z hz e=>by
   obtain ⟨y,hy,hy0,hz1⟩:=mapK_key m z hz;exact hk ⟨y,hy,hy0,by rw [←e]; exact hz1⟩
  have h2:∀ z∈mapK m m,z.1≠k:=fun z hz e=>by
   obtain ⟨y,hy,hy0,hz1⟩:=mapK_key m z hz;exact hk ⟨y,hy,hy0,by rw [←e]; exact hz1⟩
  rw [getL_none _ h1,getL_none _ h2,if_neg]
  rintro rfl
  exact hk ⟨x,hx,h0,by rw [hid.1,hid.2]⟩
theorem ok_ins {m:List Oq} {o:Oq} (h:OkO m) (hc:CanI m o) (hm:mayB o.c o.s=true):OkO (m++[o]) where
 gd:=gd_ins h.gd hc
 may x hx hk:=by
  rcases List.mem_append.1 hx with hx | hx
  ·exact h.may x hx hk
  ·obtain rfl:=List.mem_singleton.1 hx; exact hm
 del x hx hk:=by
  rcases List.mem_append.1 hx with hx | hx
  ·obtain ⟨y,hy,h1⟩:=h.del x hx hk
   exact ⟨y,by simp [hy],h1⟩
  ·obtain rfl:=List.mem_singleton.1 hx
   have:=hc.k;omega
theorem ok_del {m:List Oq} {o:Oq} (h:OkO m) (hk:o.k=1) (hx:∃ y∈m,y.k=0∧y.eqI o.c o.s):OkO (m++[o]) where
 gd:=gd_del h.gd (by omega)
 may x hx hk2:=by
  rcases List.mem_append.1 hx with hx | hx
  ·exact h.may x hx hk2
  ·obtain rfl:=List.mem_singleton.1 hx; omega
 del x hx2 hk2:=by
  rcases List.mem_append.1 hx2 with hx2 | hx2
  ·obtain ⟨y,hy,h1⟩:=h.del x hx2 hk2
   exact ⟨y,by simp [hy],h1⟩
  ·obtain rfl:=List.mem_singleton.1 hx2
   obtain ⟨y,hy,h1⟩:=hx;exact ⟨y,by simp [hy],h1⟩
theorem chk_parts {o:Oq} (h:chkE o.k o.c o.s o.a o.n o.ch=0):mayB o.c o.s=true∧(o.k=1∨(o.k=0∧(noneB o.a o.n=true∨mayB o.a o.n=true)∧o.a<o.c)):=by
 have hk:kindE o.k o.a o.n o.ch=0:=by
  rcases kind_two o.k o.a o.n o.ch with h1 | h1
  ·rw [chk_kind h1] at h; cases h
  ·exact h1
 have hm:mayB o.c o.s=true:=by
  cases hb:mayB o.c o.s with
  | true=>rfl
  | false=>rw [chk_id hk hb] at h; cases h
 refine ⟨hm,?_⟩;rcases kind_zero hk with h0 | ⟨h1,_⟩
 ·refine .inr ⟨h0,?_⟩
  cases hn:noneB o.a o.n with
  | true=>
   have:=none_yes hn;have:=may_pos hm;exact ⟨.inl rfl,by omega⟩
  | false=>
   have hma:mayB o.a o.n=true:=by
    cases hb:mayB o.a o.n with
    | true=>rfl
    | false=>rw [chk_anc hk hm hn hb] at h; cases h
   refine ⟨.inr hma,?_⟩;rcases Int.lt_or_le o.a o.c with hl | hl
   ·exact hl
   ·rw [chk_ord hk hm hn hma hl] at h; cases h
 ·exact .inl h1
theorem may_hi {c s:Int} (h:mayB c s=true):c≤1048576:=by simp [mayB] at h; omega
theorem wrong_zero {m:List Oq} {o:Oq} (h:wrongE m o=0):chkE o.k o.c o.s o.a o.n o.ch=0∧mayB o.c o.s=true ∧
  ((o.k=1∧(∃ y∈m,y.k=0∧y.eqI o.c o.s)∧deadO m o.c o.s=false)∨(CanI m o)):=by
 have hck:chkE o.k o.c o.s o.a o.n o.ch=0:=by
  by_cases hc:chkE o.k o.c o.s o.a o.n o.ch=0
  ·exact hc
  ·rw [wrong_chk hc] at h; exact absurd h hc
 obtain ⟨hm,hp⟩:=chk_parts hck;refine ⟨hck,hm,?_⟩;by_cases hk:o.k=1
 ·refine .inl ⟨hk,?_⟩
  rcases Int.lt_or_le (fnd (opB 0 o.c o.s) m 0) 0 with hf | hf
  ·rw [wrong_d6 hck hk hf] at h; cases h
  ·rcases Int.lt_or_le (fnd (opB 1 o.c o.s) m 0) 0 with hg | hg
   ·obtain ⟨x,hx,hp⟩:=fnd_pos.1 hf
    obtain ⟨h1,h2,h3⟩:=opB_iff.1 hp;exact ⟨⟨x,hx,h1,h2,h3⟩,by unfold deadO; exact decide_eq_false (by omega)⟩
   ·rw [wrong_d4 hck hk hf hg] at h; cases h
 ·obtain ⟨h0,hn,hlt⟩:=hp.resolve_left hk
  have hf:fnd (opB 0 o.c o.s) m 0<0:=by
   rcases fnd_spec (opB 0 o.c o.s) m 0 with ⟨hf,_⟩ | ⟨i,hi,hf,_⟩
   ·omega
   ·rw [Nat.zero_add] at hf
    by_cases hs:m[i]=o
    ·rw [wrong_i4 hck hk hf hi hs] at h; cases h
    ·rw [wrong_i5 hck hk hf hi hs] at h; cases h
  refine .inr ⟨h0,hlt,may_pos hm,may_hi hm,fun x hx hx0 he=>?_,?_⟩
  ·have:=fnd_neg.1 hf x hx
   rw [opB_iff.2 ⟨hx0,he.1,he.2⟩] at this
   cases this
  ·cases hnb:noneB o.a o.n with
   | true=>exact .inl (none_yes hnb)
   | false=>
    rcases Int.lt_or_le (fnd (opB 0 o.a o.n) m 0) 0 with hg | hg
    ·rw [wrong_i6 hck hk hf hnb hg] at h; cases h
    ·obtain ⟨x,hx,hp⟩:=fnd_pos.1 hg
     obtain ⟨h1,h2,h3⟩:=opB_iff.1 hp;exact .inr ⟨x,hx,h1,h2,h3⟩
theorem wrong_ok {m:List Oq} {o:Oq} (h:OkO m) (hw:wrongE m o=0):OkO (m++[o]):=by
 obtain ⟨_,hm,h1 | h1⟩:=wrong_zero hw
 ·exact ok_del h h1.1 h1.2.1
 ·exact ok_ins h h1 hm
end Go.Proofs.YtpbhaieclkoggaaGreatDoor
