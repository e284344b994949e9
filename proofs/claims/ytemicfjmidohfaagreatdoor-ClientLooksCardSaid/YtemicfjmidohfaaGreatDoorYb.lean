import Derived.Test.YtemicfjmidohfaaGreatDoorYa
import Derived.Test.YtemicfjmidohfaaGreatDoorWb
import Derived.Test.YtemicfjmidohfaaGreatDoorWf
import Derived.Test.YtemicfjmidohfaaGreatDoorDq
set_option maxRecDepth 100000
namespace Go.Proofs.YtemicfjmidohfaaGreatDoor
open Go Go.Proofs Go.RowKit
structure AB where
 st:List (Nat×Bool×Nat)
 up:Bool
 gone:Bool
 f1:Bool
 f2:Bool
structure AW where
 t:Nat
 k:Nat
 q:Nat
 s:Nat
 e:Bool
def AB.at (b:AB) (i:Nat):Nat×Bool×Nat:=b.st.getD i (0,false,0)
def tkA (w:AW) (b:AB) (i q:Nat):AB×AW:=bif Nat.beq (b.at i).1 0 then ({ b with st:=b.st.set i (w.t+1,(b.at i).2) },{ w with q:=q }) else (b,w)
def frA (b:AB) (i:Nat):AB:={ b with st:=b.st.set i (0,(b.at i).2) }
def stepA (w:AW) (b:AB):AB×AW:=match w.q with
 | 0=>match w.k with
  | 0=>(b,{ w with q:=11 })
  | 3=>({ b with up:=true },{ w with q:=bif b.up then 11 else 7 })
  | 1=>(b,{ w with q:=bif b.up then 11 else 1 })
  | _=>(b,{ w with q:=bif b.up then 11 else 6 })
 | 1=>tkA w b (w.t % b.st.length) 2
 | 2=>bif (b.at (w.t % b.st.length)).2.1||Nat.beq (b.at (w.t % b.st.length)).2.2 2 then (b,{ w with q:=3,e:=true })
  else ({ b with st:=b.st.set (w.t % b.st.length) ((b.at (w.t % b.st.length)).1,(b.at (w.t % b.st.length)).2.1,(b.at (w.t % b.st.length)).2.2+1) },{ w with q:=3,e:=false })
 | 3=>(frA b (w.t % b.st.length),{ w with q:=bif w.e then 11 else 4,e:=false })
 | 4=>(b,{ w with q:=bif (bif Nat.beq w.t 0 then b.f1 else b.f2) then 5 else 4 })
 | 5=>(b,{ w with q:=11 })
 | 6=>(b,{ w with q:=11 })
 | 7=>tkA w b w.s 8
 | 8=>({ b with st:=b.st.set w.s ((b.at w.s).1,true,(b.at w.s).2.2) },{ w with q:=9 })
 | 9=>(frA b w.s,{ w with s:=w.s+1,q:=bif Nat.beq (w.s+1) b.st.length then 10 else 7 })
 | 10=>(b,{ w with q:=bif b.gone then 11 else 10 })
 | _=>(b,w)
def readyA (w:AW) (b:AB):Bool:=match w.q with
 | 1=>Nat.beq (b.at (w.t % b.st.length)).1 0
 | 7=>Nat.beq (b.at w.s).1 0
 | 4=>bif Nat.beq w.t 0 then b.f1 else b.f2
 | 10=>b.gone
 | 11=>false
 | _=>true
structure AS where
 b:AB
 w:AW
 v:AW
def nextA (m i:Nat) (x:AS):AS:=
 bif Nat.blt i m||Nat.beq x.v.q 11 || !(readyA x.v x.b) then ⟨(stepA x.w x.b).1,(stepA x.w x.b).2,x.v⟩ else ⟨(stepA x.v x.b).1,x.w,(stepA x.v x.b).2⟩
def fillA (i:Nat) (x:AS):AS:=bif Nat.beq i 30 then ⟨{ x.b with f1:=true,f2:=true,gone:=true },x.w,x.v⟩ else x
def chkA (kc:Nat) (x:AS):Bool:=(Nat.beq kc 1||Nat.beq kc 3||Nat.beq x.w.q 11||readyA x.w x.b)&&x.b.st.all fun h => !(Nat.beq h.1 1&&Nat.beq x.w.q 11||Nat.beq h.1 2&&Nat.beq x.v.q 11)&&Nat.ble h.1 2
def runA (m kc:Nat):Nat→Nat→AS→Bool
 | 0,_,x=>Nat.beq x.w.q 11
 | k+1,i,x=>chkA kc (nextA m i x)&&runA m kc k (i+1) (fillA i (nextA m i x))
def begA (n kc kd:Nat):AS:=⟨⟨List.replicate n (0,false,0),false,false,false,false⟩,⟨0,kc,0,0,false⟩,⟨1,kd,0,0,false⟩⟩
def runsB (n:Nat):Bool:=(List.range 4).all fun kc=>(List.range 4).all fun kd=>(List.range 5).all fun m=>runA m kc 60 0 (begA n kc kd)
theorem runs_1:runsB 1=true:=by kernel_rfl
theorem runs_2:runsB 2=true:=by kernel_rfl
theorem runs_3:runsB 3=true:=by kernel_rfl
theorem runs_4:runsB 4=true:=by kernel_rfl
theorem runs_5:runsB 5=true:=by kernel_rfl
theorem runs_6:runsB 6=true:=by kernel_rfl
theorem runs_7:runsB 7=true:=by kernel_rfl
theorem runs_8:runsB 8=true:=by kernel_rfl
theorem run_any {n kc kd m:Nat} (hn:1≤n∧n≤8) (hc:kc<4) (hd:kd<4) (hm:m<5):runA m kc 60 0 (begA n kc kd)=true:=by
 have h1:runsB n=true:=by
  obtain ⟨h0,h8⟩:=hn;rcases (show n=1∨n=2∨n=3∨n=4∨n=5∨n=6∨n=7∨n=8 by omega) with rfl | rfl | rfl | rfl | rfl | rfl | rfl | rfl
  ·exact runs_1
  ·exact runs_2
  ·exact runs_3
  ·exact runs_4
  ·exact runs_5
  ·exact runs_6
  ·exact runs_7
  ·exact runs_8
 have h2:=List.all_eq_true.1 h1 kc (List.mem_range.2 hc);have h3:=List.all_eq_true.1 h2 kd (List.mem_range.2 hd);exact List.all_eq_true.1 h3 m (List.mem_range.2 hm)
def atA (m:Nat) (x:AS):Nat→AS
 | 0=>x
 | i+1=>fillA i (nextA m i (atA m x i))
theorem run_at {m kc:Nat} {x:AS}:∀ (k i:Nat),runA m kc k i (atA m x i)=true→(∀ j,i≤j→j<i+k→chkA kc (nextA m j (atA m x j))=true)∧(atA m x (i+k)).w.q=11
 | 0,i,h=>⟨fun j h0 h1=>absurd h1 (by omega),Nat.eq_of_beq_eq_true h⟩
 | k+1,i,h=>by
  simp only [runA,Bool.and_eq_true] at h
  have h2:=run_at k (i+1) h.2;refine ⟨fun j h0 h1=>?_,by rw [show i+(k+1)=i+1+k by omega]; exact h2.2⟩;rcases Nat.eq_or_lt_of_le h0 with rfl | h3
  ·exact h.1
  ·exact h2.1 j h3 (by omega)
def abs (b:Brd):AB:=⟨b.st.map fun x=>((x.h+1).toNat,x.z,x.q.length),b.up,b.gone,filledA b 1,filledA b 2⟩
def absK (c:Cal):Nat:=if c.k<0∨8<c.k then 0 else if c.k=8 then 3 else if c.k≤2 then 1 else 2
def absW (w:Wy):AW:=⟨w.t.toNat,absK w.c,w.q.toNat,w.s.toNat,decide (w.q=3∧w.x.e≠0)⟩
theorem absK_lt (c:Cal):absK c<4:=by
 unfold absK; repeat' split
 all_goals decide
theorem abs_at {b:Brd} {s:Int} (_:0≤s):(abs b).at s.toNat=(((b.at s).h+1).toNat,(b.at s).z,(b.at s).q.length):=by
 unfold AB.at abs Brd.at
 simp only [List.getD_eq_getElem?_getD,List.getElem?_map]
 cases b.st[s.toNat]? with
 | none=>rfl
 | some x=>rfl
theorem abs_len (b:Brd):(abs b).st.length=b.st.length:=List.length_map _
theorem abs_set {b:Brd} {s:Int} {x:Sto} {l:List Ac}:abs ((b.set s x).did l)={ abs b with st:=(abs b).st.set s.toNat ((x.h+1).toNat,x.z,x.q.length) }:=by
 unfold abs
 show AB.mk ((b.st.set s.toNat x).map _) _ _ _ _=_
 rw [List.map_set]; rfl
def HoOk (b:Brd):Prop:=∀ x∈b.st,-1≤x.h
theorem HoOk.at {b:Brd} (h:HoOk b) (s:Int) : -1≤(b.at s).h:=by
 unfold Brd.at
 rw [List.getD_eq_getElem?_getD]
 cases e:b.st[s.toNat]? with
 | none=>exact Int.le_refl _
 | some x=>exact h x (List.mem_of_getElem? e)
theorem HoOk.set {b:Brd} (h:HoOk b) (s:Int) {x:Sto} {l:List Ac} (hx : -1≤x.h):HoOk ((b.set s x).did l):=fun y hy=>by
 rcases List.mem_or_eq_of_mem_set hy with hy | rfl
 ·exact h y hy
 ·exact hx
theorem HoOk.lock {b:Brd} (h:HoOk b) {t s:Int} (ht:0≤t):HoOk (lockB b t s):=by
 unfold lockB; split
 ·exact h
 ·exact h.set s (by show -1≤t; omega)
theorem HoOk.step {b:Brd} (h:HoOk b) {w:Wy} (ht:0≤w.t):HoOk (stepW w b).1:=by
 unfold stepW
 split
 ·unfold spw0; split
  ·exact h
  split <;> exact h
 split
 ·exact h.lock ht
 split
 ·show HoOk (pushB _ _ _ _ _); unfold pushB; split
  ·exact h
  ·exact fun y hy=>(h.set (homeW w b) (l:=[]) (x:={ b.at (homeW w b) with q:=(b.at (homeW w b)).q++[⟨b.tk,w.sl,w.c⟩] }) (h.at _)) y hy
 split
 ·exact h.set _ (show (-1:Int) ≤ -1 from Int.le_refl _)
 repeat' split
 all_goals first | exact h | exact h.lock ht | exact h.set _ (show (-1:Int) ≤ -1 from Int.le_refl _) | exact h.set _ (show -1≤(b.at w.s).h from h.at _)
theorem tk_sim {w:Wy} {b:Brd} (hh:HoOk b) {s:Int} {q:Nat} (h0:0≤s) (hw:0≤w.t) (hq:w.q≠3) (hq3:q≠3):((abs (tkW w b s q).1),absW (tkW w b s q).2)=tkA (absW w) (abs b) s.toNat q:=by
 unfold tkW tkA
 rw [abs_at h0];have h1:=hh.at s;unfold lockB
 by_cases e:0≤(b.at s).h
 ·rw [if_pos e,if_neg (by omega)]
  obtain ⟨k,hk⟩:∃ k,((b.at s).h+1).toNat=k+1:=⟨(b.at s).h.toNat,by omega⟩
  rw [hk]; rfl
 ·rw [if_neg e,if_pos (by omega),show ((b.at s).h+1).toNat=0 by omega]
  show (abs ((b.set s _).did _),absW _)=_
  rw [abs_set];refine Prod.ext (by show AB.mk _ _ _ _ _=AB.mk _ _ _ _ _; rw [show ((w.t+1).toNat)=(absW w).t+1 by show _=w.t.toNat+1; omega]) ?_
  show AW.mk _ _ _ _ _=AW.mk _ _ _ _ _
  congr 1
  exact (decide_eq_false (fun e=>hq3 (by have:=e.1; omega)):decide ((q:Int)=3∧w.x.e≠0)=false).trans (decide_eq_false fun e=>hq e.1).symm
theorem home_abs {w:Wy} {b:Brd} (h:0≤w.t):(absW w).t % (abs b).st.length=(homeW w b).toNat:=by
 rw [abs_len];unfold homeW
 rw [Int.tmod_eq_emod_of_nonneg h];have h1:((w.t.toNat % b.st.length:Nat):Int)=w.t % (b.st.length:Int):=by rw [Int.natCast_emod,Int.toNat_of_nonneg h]
 show w.t.toNat % b.st.length=_
 omega
theorem step_sim {w:Wy} {b:Brd} (h:WyOk w b) (hh:HoOk b) (hr:b.room=2) (ht:w.t≤1) (hl:w.sl=w.t+1):(abs (stepW w b).1,absW (stepW w b).2)=stepA (absW w) (abs b):=by
 have hm:=h.home;have hs0:=h.s0;have ht0:=h.t0;have hq:w.q=0∨w.q=1∨w.q=2∨w.q=3∨w.q=4∨w.q=5∨w.q=6∨w.q=7∨w.q=8∨w.q=9∨w.q=10∨w.q=11:=by have:=h.q0; have:=h.q1; omega
 have hf:(bif Nat.beq (absW w).t 0 then (abs b).f1 else (abs b).f2)=filledA b w.sl:=by
  rcases (show w.t=0∨w.t=1 by omega) with e | e
  ·rw [show (absW w).t=0 by show w.t.toNat=0; omega,show w.sl=1 by omega];rfl
  ·rw [show (absW w).t=1 by show w.t.toNat=1; omega,show w.sl=2 by omega];rfl
 have hx:∀ q:Int,q≠3→∀ x:Ans,decide (q=3∧x.e≠0)=false:=fun q hq x=>decide_eq_false fun e=>hq e.1
 rcases hq with e | e | e | e | e | e | e | e | e | e | e | e
 ·have ea:(absW w).q=0:=by show w.q.toNat=0; omega
  unfold stepW stepA;rw [if_pos e,ea];unfold spw0;show _=(match absK w.c with | 0=>_ | 3=>_ | 1=>_ | _=>_);unfold absK;by_cases c1:w.c.k<0∨8<w.c.k
  ·rw [if_pos c1,if_pos c1];refine Prod.ext rfl ?_;show AW.mk _ _ _ _ _=AW.mk _ _ _ _ _;simp [absW,Wy.bad,Wy.ans,e,absK,c1]
  rw [if_neg c1,if_neg c1];by_cases c2:w.c.k=8;rw [if_pos c2,if_pos c2];rotate_left
  focus
   rw [if_neg c2,if_neg c2];by_cases c3:w.c.k≤2;rw [if_pos c3,if_pos c3];rotate_left;rw [if_neg c3,if_neg c3];rotate_left
  all_goals
   refine Prod.ext rfl ?_;unfold unlW;show absW (if b.up=true then _ else _)=AW.mk _ _ _ _ _;cases hu:b.up <;> simp [absW,abs,Wy.bad,Wy.ans,Wy.on,e,hu]
 ·have ea:(absW w).q=1:=by show w.q.toNat=1; omega
  unfold stepW stepA;rw [if_neg (by omega),if_pos e,ea];show _=tkA (absW w) (abs b) ((absW w).t % (abs b).st.length) 2;rw [home_abs ht0];exact tk_sim hh (q:=2) hm.1 ht0 (by omega) (by decide)
 ·have ea:(absW w).q=2:=by show w.q.toNat=2; omega
  unfold stepW stepA;rw [if_neg (by omega),if_neg (by omega),if_pos e,ea];rw [home_abs ht0,abs_at hm.1];unfold spw2 pushB;have hp:decide (pushE b (homeW w b)≠0)=((b.at (homeW w b)).z||Nat.beq (b.at (homeW w b)).q.length 2):=by
   unfold pushE;cases hz:(b.at (homeW w b)).z
   ·rw [if_neg (by simp),hr,Bool.false_or];by_cases hl:(b.at (homeW w b)).q.length=2
    ·rw [if_pos (by omega),hl];rfl
    ·rw [if_neg (by omega)];cases hb:Nat.beq (b.at (homeW w b)).q.length 2
     ·rfl
     ·exact absurd (Nat.eq_of_beq_eq_true hb) hl
   ·rfl
  by_cases hE:pushE b (homeW w b)=0
  ·have hz:((b.at (homeW w b)).z||Nat.beq (b.at (homeW w b)).q.length 2)=false:=by rw [←hp]; simp [hE]
   rw [if_neg (by simp [hE])];rw [hz];refine Prod.ext ?_ ?_
   ·show abs ((b.set (homeW w b) _).did [])=_;rw [abs_set];show AB.mk _ _ _ _ _=AB.mk _ _ _ _ _;simp [List.length_append]
   ·show AW.mk _ _ _ _ _=AW.mk _ _ _ _ _;simp [hE,absW]
  ·have hz:((b.at (homeW w b)).z||Nat.beq (b.at (homeW w b)).q.length 2)=true:=by rw [←hp]; simp [hE]
   rw [if_pos hE];rw [hz];refine Prod.ext rfl ?_;show AW.mk _ _ _ _ _=AW.mk _ _ _ _ _;simp [hE,absW]
 ·have ea:(absW w).q=3:=by show w.q.toNat=3; omega
  unfold stepW stepA;rw [if_neg (by omega),if_neg (by omega),if_neg (by omega),if_pos e,ea];show _=(frA (abs b) ((absW w).t % (abs b).st.length),_);rw [home_abs ht0];unfold spw3 frA;rw [abs_at hm.1];refine Prod.ext ?_ ?_
  ·show abs ((b.set (homeW w b) _).did _)=_;rw [abs_set];rfl
  ·show absW (if w.x.e=0 then _ else _)=AW.mk _ _ _ _ _;by_cases hE:w.x.e=0
   ·rw [if_pos hE];simp [absW,Wy.on,hE]
   ·rw [if_neg hE];simp [absW,Wy.bad,Wy.ans,hE,e]
 ·have ea:(absW w).q=4:=by show w.q.toNat=4; omega
  unfold stepW stepA;rw [if_neg (by omega),if_neg (by omega),if_neg (by omega),if_neg (by omega),if_pos e,ea];show _=(abs b,{ absW w with q:=bif (bif Nat.beq (absW w).t 0 then (abs b).f1 else (abs b).f2) then 5 else 4 });rw [hf];refine Prod.ext rfl ?_;show absW (if filledA b w.sl=true then _ else _)=AW.mk _ _ _ _ _;cases filledA b w.sl <;> simp [absW,Wy.on,e]
 ·have ea:(absW w).q=5:=by show w.q.toNat=5; omega
  unfold stepW stepA;rw [if_neg (by omega),if_neg (by omega),if_neg (by omega),if_neg (by omega),if_neg (by omega),if_pos e,ea];refine Prod.ext rfl ?_;show AW.mk _ _ _ _ _=AW.mk _ _ _ _ _;simp [absW,Wy.ans,spw5,e]
 ·have ea:(absW w).q=6:=by show w.q.toNat=6; omega
  unfold stepW stepA;rw [if_neg (by omega),if_neg (by omega),if_neg (by omega),if_neg (by omega),if_neg (by omega),if_neg (by omega),if_pos e,ea];refine Prod.ext rfl ?_;show AW.mk _ _ _ _ _=AW.mk _ _ _ _ _;simp [absW,Wy.ans,spw6,e]
 ·have ea:(absW w).q=7:=by show w.q.toNat=7; omega
  unfold stepW stepA;rw [if_neg (by omega),if_neg (by omega),if_neg (by omega),if_neg (by omega),if_neg (by omega),if_neg (by omega),if_neg (by omega),if_pos e,ea];exact tk_sim hh (q:=8) hs0 ht0 (by omega) (by decide)
 ·have ea:(absW w).q=8:=by show w.q.toNat=8; omega
  unfold stepW stepA;rw [if_neg (by omega),if_neg (by omega),if_neg (by omega),if_neg (by omega),if_neg (by omega),if_neg (by omega),if_neg (by omega),if_neg (by omega),if_pos e,ea];refine Prod.ext ?_ ?_
  ·show abs ((b.set w.s _).did _)=_;rw [abs_set];show _=({ abs b with st:=(abs b).st.set w.s.toNat (((abs b).at w.s.toNat).1,true,((abs b).at w.s.toNat).2.2) }:AB);rw [abs_at hs0]
  ·show AW.mk _ _ _ _ _=AW.mk _ _ _ _ _;simp [absW,Wy.on,spw8,e]
 ·have ea:(absW w).q=9:=by show w.q.toNat=9; omega
  unfold stepW stepA;rw [if_neg (by omega),if_neg (by omega),if_neg (by omega),if_neg (by omega),if_neg (by omega),if_neg (by omega),if_neg (by omega),if_neg (by omega),if_neg (by omega),if_pos e,ea];refine Prod.ext ?_ ?_
  ·show abs ((b.set w.s _).did _)=frA (abs b) w.s.toNat;unfold frA;rw [abs_set,abs_at hs0];rfl
  ·show absW (if w.s+1=b.st.length then _ else _)=({ absW w with s:=w.s.toNat+1,q:=bif Nat.beq (w.s.toNat+1) (abs b).st.length then 10 else 7 }:AW);rw [abs_len];by_cases c:w.s+1=b.st.length
   ·rw [if_pos c,show w.s.toNat+1=b.st.length by omega,Nat.beq_refl];show AW.mk _ _ _ _ _=AW.mk _ _ _ _ _;simp [absW,e];omega
   ·rw [if_neg c];have hb:Nat.beq (w.s.toNat+1) b.st.length=false:=by
     cases hb:Nat.beq (w.s.toNat+1) b.st.length
     ·rfl
     ·exact absurd (Nat.eq_of_beq_eq_true hb) (by omega)
    rw [hb];show AW.mk _ _ _ _ _=AW.mk _ _ _ _ _;simp [absW,e];omega
 ·have ea:(absW w).q=10:=by show w.q.toNat=10; omega
  unfold stepW stepA;rw [if_neg (by omega),if_neg (by omega),if_neg (by omega),if_neg (by omega),if_neg (by omega),if_neg (by omega),if_neg (by omega),if_neg (by omega),if_neg (by omega),if_neg (by omega),if_pos e,ea];refine Prod.ext rfl ?_;show absW (if b.gone=true then _ else _)=AW.mk _ _ _ _ _;cases hg:b.gone <;> simp [absW,Wy.ans,e,abs,hg]
 ·have ea:(absW w).q=11:=by show w.q.toNat=11; omega
  unfold stepW stepA;rw [if_neg (by omega),if_neg (by omega),if_neg (by omega),if_neg (by omega),if_neg (by omega),if_neg (by omega),if_neg (by omega),if_neg (by omega),if_neg (by omega),if_neg (by omega),if_neg (by omega),ea];rfl
theorem ready_sim {w:Wy} {b:Brd} (h:WyOk w b) (hh:HoOk b) (ht:w.t≤1) (hl:w.sl=w.t+1):readyW w b=readyA (absW w) (abs b):=by
 have hm:=h.home;have hs0:=h.s0;have ht0:=h.t0;have hq:w.q=0∨w.q=1∨w.q=2∨w.q=3∨w.q=4∨w.q=5∨w.q=6∨w.q=7∨w.q=8∨w.q=9∨w.q=10∨w.q=11:=by have:=h.q0; have:=h.q1; omega
 have hf:(bif Nat.beq (absW w).t 0 then (abs b).f1 else (abs b).f2)=filledA b w.sl:=by
  rcases (show w.t=0∨w.t=1 by omega) with e | e
  ·rw [show (absW w).t=0 by show w.t.toNat=0; omega,show w.sl=1 by omega]; rfl
  ·rw [show (absW w).t=1 by show w.t.toNat=1; omega,show w.sl=2 by omega]; rfl
 have hz:∀ s:Int,decide ((b.at s).h<0)=Nat.beq ((b.at s).h+1).toNat 0:=fun s=>by
  have h1:=hh.at s;by_cases e:0≤(b.at s).h
  ·rw [decide_eq_false (by omega)]
   obtain ⟨k,hk⟩:∃ k,((b.at s).h+1).toNat=k+1:=⟨(b.at s).h.toNat,by omega⟩
   rw [hk]; rfl
  ·rw [decide_eq_true (by omega),show ((b.at s).h+1).toNat=0 by omega]; rfl
 have hq2:(absW w).q=w.q.toNat:=rfl;unfold readyW readyA
 rw [hq2];rcases hq with e | e | e | e | e | e | e | e | e | e | e | e <;> rw [e]
 all_goals first
  | rfl
  | (show decide _=Nat.beq ((abs b).at ((absW w).t % (abs b).st.length)).1 0; rw [home_abs ht0,abs_at hm.1]; exact hz _)
  | (show decide _=Nat.beq ((abs b).at (absW w).s).1 0; rw [show (absW w).s=w.s.toNat from rfl,abs_at hs0]; exact hz _)
  | exact hf.symm
end Go.Proofs.YtemicfjmidohfaaGreatDoor
namespace Go.Proofs.YtemicfjmidohfaaGreatDoor
open Go Go.Proofs Go.RowKit
theorem stepW_rm (w:Wy) (b:Brd):(stepW w b).1.room=b.room:=by
 unfold stepW
 split
 ·unfold spw0; split
  ·rfl
  split <;> rfl
 split
 ·show (lockB _ _ _).room=_; unfold lockB; split <;> rfl
 split
 ·show (pushB _ _ _ _ _).room=_; unfold pushB; split <;> rfl
 repeat' split
 all_goals first | rfl | (show (lockB _ _ _).room=_; unfold lockB; split <;> rfl)
structure Pv (n:Nat) (c d:Cal) (b:Brd) (y z:Wy):Prop where
 oy:WyOk y b
 oz:WyOk z b
 ty:y.t=0
 ly:y.sl=1
 cy:y.c=c
 sy:y.q=0→y.s=0
 tz:z.t=1
 lz:z.sl=2
 cz:z.c=d
 sz:z.q=0→z.s=0
 ho:HoOk b
 rm:b.room=2
 ln:b.st.length=n
 rp:b.r=newR 1
variable {n m i:Nat} {c d:Cal} {b:Brd} {y z:Wy}
theorem Pv.stepY (h:Pv n c d b y z):Pv n c d (stepW y b).1 (stepW y b).2 z:=
 ⟨(stepW_ok0 h.oy h.sy).len (stepW_len y b),h.oz.len (stepW_len y b),(stepW_stay y b).1.trans h.ty,(stepW_stay y b).2.1.trans h.ly,(stepW_stay y b).2.2.trans h.cy,stepW_s,h.tz,h.lz,h.cz,h.sz,h.ho.step h.oy.t0,(stepW_rm y b).trans h.rm,(stepW_len y b).trans h.ln,(stepW_r y b).trans h.rp⟩
theorem Pv.stepZ (h:Pv n c d b y z):Pv n c d (stepW z b).1 y (stepW z b).2:=
 ⟨h.oy.len (stepW_len z b),(stepW_ok0 h.oz h.sz).len (stepW_len z b),h.ty,h.ly,h.cy,h.sy,(stepW_stay z b).1.trans h.tz,(stepW_stay z b).2.1.trans h.lz,(stepW_stay z b).2.2.trans h.cz,stepW_s,h.ho.step h.oz.t0,(stepW_rm z b).trans h.rm,(stepW_len z b).trans h.ln,(stepW_r z b).trans h.rp⟩
def filB (b:Brd) (x:Ans):Brd:=leaveB (fillB (fillB b 5 1 x) 5 2 x) 5
theorem Pv.fill (h:Pv n c d b y z) (x:Ans):Pv n c d (filB b x) y z:=
 ⟨h.oy.len rfl,h.oz.len rfl,h.ty,h.ly,h.cy,h.sy,h.tz,h.lz,h.cz,h.sz,h.ho,h.rm,h.ln,h.rp⟩
def absS (b:Brd) (y z:Wy):AS:=⟨abs b,absW y,absW z⟩
theorem cond_abs (h:Pv n c d b y z):(Nat.blt i m||Nat.beq (absW z).q 11 || !(readyA (absW z) (abs b)))=decide (i<m∨z.q=11∨readyW z b=false):=by
 rw [←ready_sim h.oz h.ho (by rw [h.tz]; decide) (by rw [h.lz,h.tz]; rfl)];have h1:Nat.blt i m=decide (i<m):=by
  cases e:Nat.blt i m
  ·exact (decide_eq_false fun h=>by rw [show Nat.blt i m=true by simpa [Nat.blt_eq] using h] at e; cases e).symm
  ·exact (decide_eq_true (by simpa [Nat.blt_eq] using e)).symm
 have h2:Nat.beq (absW z).q 11=decide (z.q=11):=by
  have h0:=h.oz.q0
  show Nat.beq z.q.toNat 11=_
  cases e:Nat.beq z.q.toNat 11
  ·exact (decide_eq_false fun h=>by rw [h] at e; cases e).symm
  ·exact (decide_eq_true (by have:=Nat.eq_of_beq_eq_true e; omega)).symm
 rw [h1,h2]
 cases readyW z b <;> simp
theorem nxtY (h:Pv n c d b y z) (hc:i<m∨z.q=11∨readyW z b=false):nextA m i (absS b y z)=absS (stepW y b).1 (stepW y b).2 z:=by
 unfold nextA
 rw [show (absS b y z).v=absW z from rfl,show (absS b y z).b=abs b from rfl,show (absS b y z).w=absW y from rfl,cond_abs h,decide_eq_true hc,←step_sim h.oy h.ho h.rm (by rw [h.ty]; decide) (by rw [h.ly,h.ty]; rfl)];rfl
theorem nxtZ (h:Pv n c d b y z) (hc:¬ (i<m∨z.q=11∨readyW z b=false)):nextA m i (absS b y z)=absS (stepW z b).1 y (stepW z b).2:=by
 unfold nextA
 rw [show (absS b y z).v=absW z from rfl,show (absS b y z).b=abs b from rfl,show (absS b y z).w=absW y from rfl,cond_abs h,decide_eq_false hc,←step_sim h.oz h.ho h.rm (by rw [h.tz]; decide) (by rw [h.lz,h.tz]; rfl)];rfl
theorem abs_fil (b:Brd) (x:Ans) (y z:Wy):absS (filB b x) y z=fillA 30 (absS b y z):=by
 have h1:filledA (filB b x) 1=true:=by
  show filledA (fillB (fillB b 5 1 x) 5 2 x) 1=true
  rw [filled_fill,filled_fill]; rfl
 have h2:filledA (filB b x) 2=true:=by
  show filledA (fillB (fillB b 5 1 x) 5 2 x) 2=true
  rw [filled_fill]; rfl
 show AS.mk (AB.mk _ _ _ (filledA (filB b x) 1) (filledA (filB b x) 2)) _ _=_
 rw [h1,h2]; rfl
theorem fillA_no {x:AS} (h:i≠30):fillA i x=x:=by
 unfold fillA
 cases e:Nat.beq i 30
 ·rfl
 ·exact absurd (Nat.eq_of_beq_eq_true e) h
theorem q11 {w:Wy} {b:Brd} (h:WyOk w b):Nat.beq (absW w).q 11=decide (w.q=11):=by
 have h0:=h.q0
 show Nat.beq w.q.toNat 11=_
 cases e:Nat.beq w.q.toNat 11
 ·exact (decide_eq_false fun h=>by rw [h] at e; cases e).symm
 ·exact (decide_eq_true (by have:=Nat.eq_of_beq_eq_true e; omega)).symm
theorem Pv.chk (h:Pv n c d b y z) (hk:chkA (absK c) (absS b y z)=true):(writesB c.k=true∨c.k=8∨y.q=11∨readyW y b=true)∧∀ s:Nat,s<n→¬ ((b.at s).h=0∧y.q=11)∧¬ ((b.at s).h=1∧z.q=11)∧(b.at s).h≤1:=by
 unfold chkA at hk
 rw [Bool.and_eq_true,show (absS b y z).w=absW y from rfl,show (absS b y z).v=absW z from rfl,show (absS b y z).b=abs b from rfl,q11 h.oy,q11 h.oz,←ready_sim h.oy h.ho (by rw [h.ty]; decide) (by rw [h.ly,h.ty]; rfl)] at hk;refine ⟨?_,fun s hs=>?_⟩
 ·have h1:=hk.1
  simp only [Bool.or_eq_true,decide_eq_true_eq] at h1
  rcases h1 with ((h1 | h1) | h1) | h1
  ·left
   have h2:=Nat.eq_of_beq_eq_true h1;unfold absK at h2
   unfold writesB
   repeat' split at h2
   all_goals first | exact absurd h2 (by decide) | (simp; omega)
  ·right; left
   have h2:=Nat.eq_of_beq_eq_true h1;unfold absK at h2
   repeat' split at h2
   all_goals first | exact absurd h2 (by decide) | assumption
  ·exact .inr (.inr (.inl h1))
  ·exact .inr (.inr (.inr h1))
 ·have hl:s<b.st.length:=by rw [h.ln]; exact hs
  have h2:=List.all_eq_true.1 hk.2 ((b.st[s].h+1).toNat,b.st[s].z,b.st[s].q.length) (List.mem_map.2 ⟨b.st[s],List.getElem_mem hl,rfl⟩);have h3:=h.ho _ (List.getElem_mem hl);rw [at_nat hl];rw [Bool.and_eq_true,Bool.not_eq_true',Bool.or_eq_false_iff,Bool.and_eq_false_iff,Bool.and_eq_false_iff] at h2;have h4:=Nat.le_of_ble_eq_true h2.2;refine ⟨fun e=>?_,fun e=>?_,by omega⟩
  ·rcases h2.1.1 with h5 | h5
   ·rw [show (b.st[s].h+1).toNat=1 by omega] at h5; cases h5
   ·exact of_decide_eq_false h5 e.2
  ·rcases h2.1.2 with h5 | h5
   ·rw [show (b.st[s].h+1).toNat=2 by omega] at h5; cases h5
   ·exact of_decide_eq_false h5 e.2
theorem Pv.new (h1:1≤n) (h8:n≤8):Pv n c d (newB 1 n 2) (begW 0 1 c) (begW 1 2 d)∧absS (newB 1 n 2) (begW 0 1 c) (begW 1 2 d)=begA n (absK c) (absK d):=by
 have hl:(newB 1 n 2).st.length=n:=by show (List.replicate (n:Int).toNat noSt).length=n; rw [List.length_replicate]; omega
 refine ⟨⟨?_,?_,rfl,rfl,rfl,fun _=>rfl,rfl,rfl,rfl,fun _=>rfl,fun x hx=>?_,rfl,hl,rfl⟩,?_⟩
 ·exact ⟨Int.le_refl _,by show (0:Int)≤15; decide,by show (0:Int)≤1; decide,by show (1:Int)≤800; decide,Int.le_refl _,by show (0:Int)≤11; decide,Int.le_refl _,by show (0:Int)≤_; omega,fun e=>absurd (show (7:Int)≤0 from e) (by decide),by rw [hl]; exact h1⟩
 ·exact ⟨by show (0:Int)≤1; decide,by show (1:Int)≤15; decide,by show (0:Int)≤2; decide,by show (2:Int)≤800; decide,Int.le_refl _,by show (0:Int)≤11; decide,Int.le_refl _,by show (0:Int)≤_; omega,fun e=>absurd (show (7:Int)≤0 from e) (by decide),by rw [hl]; exact h1⟩
 ·obtain rfl:=List.eq_of_mem_replicate hx; exact Int.le_refl _
 ·show AS.mk (AB.mk ((List.replicate (n:Int).toNat noSt).map _) _ _ _ _) _ _=_
  rw [List.map_replicate,Int.toNat_natCast]; rfl
theorem BOk.fil {k:Nat} (h:BOk b k) (x:Ans):BOk (filB b x) (k+3):=by
 have h1:=((h.fill 5 1 x).fill 5 2 x)
 exact BOk.did (l:=[⟨5,3,2003⟩]) (h1.up (fillB (fillB b 5 1 x) 5 2 x).up true) (by simp)
theorem two_done (w:Wy) (b:Brd) (hk:2<w.c.k) (hk8:w.c.k<8) (h0:w.q=0) (b2:Brd→Brd):(stepW (stepW w b).2 (b2 (stepW w b).1)).2.q=11:=by
 have h1:stepW w b=spw0 w b:=by unfold stepW; rw [if_pos h0]
 rw [h1];unfold spw0
 rw [if_neg (by omega),if_neg (by omega),if_neg (by omega)]
 cases hu:b.up
 ·show (stepW (w.on 6) _).2.q=11
  rfl
 ·show (stepW (w.bad 9) _).2.q=11
  rfl
end Go.Proofs.YtemicfjmidohfaaGreatDoor
set_option maxRecDepth 100000
set_option maxHeartbeats 12800000
namespace Go.Proofs.YtemicfjmidohfaaGreatDoor
open Go Go.Proofs Go.RowKit
theorem blk_nt {W:World} {g:Nat} {us vs:List Value} {t u:TypeId} (h1:Blk W g us t) (h2:Blk W g vs u) (hne:t≠u):False:=by
 unfold Blk at h1 h2
 rw [h1] at h2
 injection h2 with h3
 injection h3 with _ h4
 exact hne h4
theorem k_step {w W w3 w4 w5:World} {g g1:Nat} {b b':Brd} {y y':Wy} {cs ds:List Value} (H:K15 w g b cs W) (hg:w.heap.size≤g1) (hB:Blk W g1 (wyL y) WAY) (hb:Below W.heap.size W w3) (hI:IsBd w3 (fun _=>False) b' ds) (e4:w4=setN w3 g 0 ds) (e5:w5=setN w4 g1 0 (wyL y')):
  K15 w g b' ds w5∧Blk w5 g1 (wyL y') WAY∧∀ gx us t,gx≠g→gx≠g1→Blk W gx us t→Blk w5 gx us t:=by
 have hne:g1≠g:=fun e=>by
  subst e; exact blk_nt H.bb hB (by decide)
 have H3:=H.next hb;have H4:=H3.put hI e4;have hB4:Blk w4 g1 (wyL y) WAY:=by rw [e4]; exact (hB.next hb).setN hne _ _
 subst e5;exact ⟨⟨setN_below hg _ 0 H4.bel,H4.ge,H4.bb.setN (Ne.symm hne) _ _,H4.ib.setN hB4 way_not _⟩,setN_all hB4 rfl,fun gx us t h1 h2 hx=>by
  subst e4; exact ((hx.next hb).setN h1 _ _).setN h2 _ _⟩
def itW:Nat→Brd×Wy→Brd×Wy
 | 0,p=>p
 | k+1,p=>stepW (itW k p).2 (itW k p).1
theorem it_ok (p:Brd×Wy) (h:WyOk p.2 p.1) (hs:p.2.q=0→p.2.s=0) {k0:Nat} (hO:BOk p.1 k0) (k:Nat):WyOk (itW k p).2 (itW k p).1∧((itW k p).2.q=0→(itW k p).2.s=0)∧BOk (itW k p).1 (k0+k)∧(itW k p).1.r=p.1.r:=by
 induction k with
 | zero=>exact ⟨h,hs,hO,rfl⟩
 | succ k ih=>exact ⟨(stepW_ok0 ih.1 ih.2.1).len (stepW_len _ _),stepW_s,ih.2.2.1.step _,(stepW_r _ _).trans ih.2.2.2⟩
def y16:Wy:=begW 0 0 (cK 3)
theorem end16:(itW 2 (newB 1 2 2,y16)).2.q=11∧(itW 2 (newB 1 2 2,y16)).2.x=⟨0,0,⟨#[]⟩⟩:=by
 have h:(itW 2 (newB 1 2 2,y16)).2=(y16.on 6).ans (doR (newB 1 2 2).r (cK 3)).2.1:=rfl;rw [h];refine ⟨rfl,?_⟩;have h1:doR (newB 1 2 2).r (cK 3)=((newB 1 2 2).r,⟨0,0,txtS (docR (newB 1 2 2).r.m)⟩,[]):=do_txt (r:=(newB 1 2 2).r) (c:=cK 3) rfl rfl
 show (doR (newB 1 2 2).r (cK 3)).2.1=_
 rw [h1]
 show (⟨0,0,txtS (docR [])⟩:Ans)=_
 rw [ex8_d0]; rfl
def Awake16Ok:Prop:=∀ w:World,Pows w→Tabs w→Wq w→Calls Tryz.prog 13 #[] w (Rt (.bool true) w)
theorem awake16_any (H:BAll) (h15:Awake15Ok):Awake16Ok:=by
 intro w hp ht hq
 have hO:∀ W,Old (fun _=>False) W:=fun _ _ h=>h.elim
 have HNEW:=Lh (show Calls Tryz.prog 7 #[.int .i64 1,.int .i64 2,.int .i64 2] w (RB (newB 1 2 2) (fun _=>False) (fun v=>.tuple #[v,.int .i64 0]) w) from H.new 1 2 2 _ w (by decide) (by decide) (by decide) (by decide) (by decide) (by decide) (hO w));have hw0:WyOk y16 (newB 1 2 2):=⟨Int.le_refl _,by show (0:Int)≤15; decide,Int.le_refl _,by show (0:Int)≤800; decide,Int.le_refl _,by show (0:Int)≤11; decide,Int.le_refl _,by show (0:Int)≤2; decide,fun e=>absurd (show (7:Int)≤0 from e) (by decide),by show 1≤2; decide⟩
 have hit:=it_ok (newB 1 2 2,y16) hw0 (fun _=>rfl) (BOk.new rfl);have HS:=Lh (fun k (hk:k≤2) cs W (hb:Below w.heap.size w W) (h:IsBd W (fun _=>False) (itW k (newB 1 2 2,y16)).1 cs)=>show Calls Tryz.prog 17 #[.agg (wyL (itW k (newB 1 2 2,y16)).2).toArray,.agg cs.toArray] W (RWy (fun _=>False) (itW (k+1) (newB 1 2 2,y16)) W) from
  step16 _ _ (0+k) _ cs W (hit k).2.2.1 (by omega) h (hO W) (hit k).1 ⟨0,by decide,by rw [(hit k).2.2.2]; exact newR_ok 1⟩ (hp.next hb) (ht.next hb))
 have HB:=Lh (fun W=>show Calls Tryz.prog 14 #[.int .i64 0,.int .i64 0,.agg #[.int .i64 3,.int .i64 0,.int .i32 0,.int .i64 0,.int .i64 0,.int .i64 0,.int .i64 0,.int .i64 0,.int .i32 0,.int .i64 0,.int .i64 0]] W (fun e w'=>e=.returned (.agg (wyL y16).toArray)∧Below W.heap.size W w') from beg_any 0 0 (cK 3) W);have HA:=Lh (fun (W:World) (hb:Below w.heap.size w W)=>And.intro (h15 W (hp.next hb) (ht.next hb)) (hq.next hb));have HE:=Lh end16;clear H h15 hp ht hq hO hw0 hit;have HP0:(newB 1 2 2,y16)=itW 0 (newB 1 2 2,y16):=rfl;have HN2:=Lh (show newB 1 2 2=(itW 0 (newB 1 2 2,y16)).1∧y16=(itW 0 (newB 1 2 2,y16)).2 from ⟨rfl,rfl⟩);rw [HN2.out.1] at HNEW;rw [HN2.out.2] at HB;clear HP0 HN2;generalize (newB 1 2 2,y16)=p at *
 go_enter Tryz.func13,Tryz.ntmps13
 go_upto_region 2 with (first | (refine kst (n:=nBd) (Blk.start w1 zBd _) rfl hI.len hI.one (fun w2 hw2=>?_)) | (go_at_call 7; refine HNEW.out.mono ?_; rintro e w1 ⟨hb,cs,rfl,hI⟩))
 have H2:=Lh (K15.start hb hI hw2.out);clear hb hI hw2 HNEW;generalize w1.heap.size=g at *
 go_upto_region 3 with (first | (refine kst (n:=18) (Blk.start w3 zWy _) rfl rfl (wy_one _) (fun w4 hw4=>?_)) | (go_at_call 14; refine (HB.out _).mono ?_; rintro e w3 ⟨rfl,hb3⟩))
 have H4:=Lh (show K15 w g (itW 0 p).1 cs w4∧Blk w4 w3.heap.size (wyL (itW 0 p).2) WAY∧w.heap.size≤w3.heap.size from by
  have h3:=H2.out.next hb3;have h4:Below w3.heap.size w3 w4:=by rw [hw4.out]; exact setN_below (Nat.le_refl _) _ 0 bA
  exact ⟨h3.next h4,by rw [hw4.out]; exact setN_all (Blk.start w3 zWy _) rfl,h3.bel.size⟩)
 clear H2 hb3 hw4 HB;generalize w3.heap.size=g1 at *
 go_wp2_with fail
 go_loopg [10] 2 (fun q t10 wr=>∃ (k:Nat) (cs:List Value),k≤2∧q=2-k∧t10=.int .i64 (k:Int)∧Hid (K15 w g (itW k p).1 cs wr∧Blk wr g1 (wyL (itW k p).2) WAY∧w.heap.size≤g1))
 case atStart=>exact ⟨0,cs,by decide,rfl,rfl,H4⟩
 case round=>
  clear H4;obtain ⟨k,cs',hk,rfl,rfl,HK⟩:=hrel;by_cases hlt:k<2
  ·have hlt':decide ((k:Int)<2)=true:=decide_eq_true (by omega)
   go_wp2_with (first | (refine kld (n:=nBd) HK.out.1.bb HK.out.1.ib.len ?_) | (refine kld (n:=18) HK.out.2.1 rfl ?_) | (refine kst (n:=18) H6.out.2 rfl rfl (wy_one _) (fun w7 hw7=>?_)) | (refine kst (n:=nBd) (HK.out.1.next hb5).bb HK.out.1.ib.len hI.len hI.one (fun w6 hw6=>?_); have H6:=Lh (And.intro True.intro (show Blk w6 g1 (wyL (itW k p).2) WAY from by rw [hw6.out]; exact (HK.out.2.1.next hb5).setN (fun e=>blk_nt HK.out.1.bb (e▸HK.out.2.1) (by decide)) _ _))) | (go_at_call 17; refine (HS.out k hk _ _ HK.out.1.bel HK.out.1.ib).mono ?_; rintro e w5 ⟨hb5,ds,rfl,hI⟩))
   have H7:=k_step (y':=(itW (k+1) p).2) HK.out.1 HK.out.2.2 HK.out.2.1 hb5 hI hw6.out hw7.out
   go_roundg (2-(k+1))
   case measure=>omega
   case rel=>exact ⟨k+1,ds,by omega,rfl,by go_num,Lh ⟨H7.1,H7.2.1,HK.out.2.2⟩⟩
  ·obtain rfl:k=2:=by omega
   clear hlt hk;have hd:=HE.out.1;have HD:=Lh (fun W=>done_any (itW 2 p).2 W);have HR:=Lh (fun W=>res16 (itW 2 p).2 W);have HW:=Lh (fun W=>state16 (itW 2 p).2 (by rw [hd]; decide) (by rw [hd]; decide) W);rw [show doneW (itW 2 p).2=true by unfold doneW; rw [hd]; rfl] at HD;rw [show resW (itW 2 p).2=⟨0,0,⟨#[]⟩⟩ by unfold resW; rw [if_pos hd]; exact HE.out.2] at HR;rw [hd] at HW;have HW2:=Lh (fun W h=>show Calls Tryz.prog 65 #[.agg (wyL (itW 2 p).2).toArray] W (fun e w'=>e=.returned (.string ⟨#[100,111,110,101]⟩)∧Below W.heap.size W w') from HW.out W h);have HR2:=Lh (fun W=>show Calls Tryz.prog 66 #[.agg (wyL (itW 2 p).2).toArray] W (fun e w'=>e=.returned (.agg #[.int .i64 0,.int .i64 0,.string ⟨#[]⟩])∧Below W.heap.size W w') from HR.out W);clear hd HE HW HR HS;go_wp2_with (first | (go_at_call 6; refine (HA.out _ HK.out.1.bel).1.mono ?_; rintro e wa ⟨rfl,hba⟩; have HKa:=Lh (And.intro (HK.out.1.next hba) (HK.out.2.1.next hba)); clear hba HK) | (refine kld (n:=18) HKc.out.2 rfl ?_) | (refine kld (n:=18) HKb.out.2 rfl ?_) | (refine kld (n:=18) HKa.out.2 rfl ?_) | (go_at_call 26; refine (HD.out _).mono ?_; rintro e wb ⟨rfl,hbb⟩; have HKb:=Lh (And.intro (HKa.out.1.next hbb) (HKa.out.2.next hbb)); clear hbb HKa) | (go_at_call 65; refine (HW2.out _ (HA.out _ HKb.out.1.bel).2).mono ?_; rintro e wc ⟨rfl,hbc⟩; have HKc:=Lh (And.intro (HKb.out.1.next hbc) (HKb.out.2.next hbc)); clear hbc HKb) | (go_at_call 66; refine (HR2.out _).mono ?_; rintro e wd ⟨rfl,hbd⟩; have HKd:=Lh (HKc.out.1.next hbd); clear hbd HKc))
   go_ret
   exact ⟨rfl,HKd.out.bel⟩
end Go.Proofs.YtemicfjmidohfaaGreatDoor
namespace Go.Proofs.YtemicfjmidohfaaGreatDoor
open Go Go.Proofs Go.RowKit
structure L16 (w:World) (g g1 g2:Nat) (b:Brd) (y z:Wy) (cs:List Value) (W:World):Prop where
 k:K15 w g b cs W
 e1:w.heap.size≤g1
 e2:w.heap.size≤g2
 ne:g1≠g2
 b1:Blk W g1 (wyL y) WAY
 b2:Blk W g2 (wyL z) WAY
variable {w W W' w3 w4 w5:World} {g g1 g2 n m k cB:Nat} {b b':Brd} {y z y':Wy} {cs ds:List Value} {c d:Cal} {A A':AS}
theorem L16.next (h:L16 w g g1 g2 b y z cs W) (hb:Below W.heap.size W W'):L16 w g g1 g2 b y z cs W':=⟨h.k.next hb,h.e1,h.e2,h.ne,h.b1.next hb,h.b2.next hb⟩
theorem L16.mid (h:L16 w g g1 g2 b y z cs W) (hb:Below W.heap.size W w3) (e4:w4=setN w3 g 0 ds):Blk w4 g1 (wyL y) WAY∧Blk w4 g2 (wyL z) WAY:=by
 rw [e4]; exact ⟨(h.b1.next hb).setN (fun e=>blk_nt h.k.bb (e▸h.b1) (by decide)) _ _,(h.b2.next hb).setN (fun e=>blk_nt h.k.bb (e▸h.b2) (by decide)) _ _⟩
theorem L16.sw (h:L16 w g g1 g2 b y z cs W):L16 w g g2 g1 b z y cs W:=⟨h.k,h.e2,h.e1,h.ne.symm,h.b2,h.b1⟩
theorem L16.st (h:L16 w g g1 g2 b y z cs W) (hb:Below W.heap.size W w3) (hI:IsBd w3 (fun _=>False) b' ds) (e4:w4=setN w3 g 0 ds) (e5:w5=setN w4 g1 0 (wyL y')):L16 w g g1 g2 b' y' z ds w5:=by
 have h1:=k_step h.k h.e1 h.b1 hb hI e4 e5;exact ⟨h1.1,h.e1,h.e2,h.ne,h1.2.1,h1.2.2 _ _ _ (fun e=>blk_nt h.k.bb (e▸h.b2) (by decide)) h.ne.symm h.b2⟩
structure I16 (w:World) (g g1 g2 n:Nat) (c d:Cal) (cB k:Nat) (A:AS) (b:Brd) (y z:Wy) (cs:List Value) (W:World):Prop where
 l:L16 w g g1 g2 b y z cs W
 bc:Blk W cB (calL c) 75
 ok:BOk b k
 pv:Pv n c d b y z
 ab:absS b y z=A
theorem I16.next (h:I16 w g g1 g2 n c d cB k A b y z cs W) (hb:Below W.heap.size W W'):I16 w g g1 g2 n c d cB k A b y z cs W':=⟨h.l.next hb,h.bc.next hb,h.ok,h.pv,h.ab⟩
theorem bc_st (h:L16 w g g1 g2 b y z cs W) (hc:Blk W cB (calL c) 75) (hb:Below W.heap.size W w3) (e4:w4=setN w3 g 0 ds) (e5:w5=setN w4 g1 0 (wyL y')):Blk w5 cB (calL c) 75:=by
 rw [e5,e4];exact ((hc.next hb).setN (fun e=>blk_nt h.k.bb (e▸hc) (by decide)) _ _).setN (fun e=>blk_nt h.b1 (e▸hc) (by decide)) _ _
theorem I16.stY (h:I16 w g g1 g2 n c d cB k A b y z cs W) (hb:Below W.heap.size W w3) (hI:IsBd w3 (fun _=>False) (stepW y b).1 ds) (e4:w4=setN w3 g 0 ds) (e5:w5=setN w4 g1 0 (wyL (stepW y b).2)) (hA:absS (stepW y b).1 (stepW y b).2 z=A'):I16 w g g1 g2 n c d cB (k+1) A' (stepW y b).1 (stepW y b).2 z ds w5:=
 ⟨h.l.st hb hI e4 e5,bc_st h.l h.bc hb e4 e5,h.ok.step y,h.pv.stepY,hA⟩
theorem I16.stZ (h:I16 w g g1 g2 n c d cB k A b y z cs W) (hb:Below W.heap.size W w3) (hI:IsBd w3 (fun _=>False) (stepW z b).1 ds) (e4:w4=setN w3 g 0 ds) (e5:w5=setN w4 g2 0 (wyL (stepW z b).2)) (hA:absS (stepW z b).1 y (stepW z b).2=A'):I16 w g g1 g2 n c d cB (k+1) A' (stepW z b).1 y (stepW z b).2 ds w5:=
 ⟨(h.l.sw.st hb hI e4 e5).sw,bc_st h.l.sw h.bc hb e4 e5,h.ok.step z,h.pv.stepZ,hA⟩
theorem I16.put (h:I16 w g g1 g2 n c d cB k A b y z cs W) (hb:Below W.heap.size W w3) {x:Ans} (hI:IsBd w3 (fun _=>False) (filB b x) ds) (e4:w4=setN w3 g 0 ds):I16 w g g1 g2 n c d cB (k+3) (fillA 30 A) (filB b x) y z ds w4:=by
 have hm:=h.l.mid hb e4;exact ⟨⟨(h.l.k.next hb).put hI e4,h.l.e1,h.l.e2,h.l.ne,hm.1,hm.2⟩,by rw [e4]; exact (h.bc.next hb).setN (fun e=>blk_nt h.l.k.bb (e▸h.bc) (by decide)) _ _,h.ok.fil x,h.pv.fill x,by rw [abs_fil,h.ab]⟩
theorem I16.mo {k':Nat} (h:I16 w g g1 g2 n c d cB k A b y z cs W) (hk:k≤k') (hA:A=A'):I16 w g g1 g2 n c d cB k' A' b y z cs W:=⟨h.l,h.bc,h.ok.more hk,h.pv,hA▸h.ab⟩
structure C16 (w:World) (bt:Int) (n m:Nat) (c d:Cal):Prop where
 st:∀ (y:Wy) (b:Brd) (k:Nat) (cs:List Value) (W:World),BOk b k→k≤990→IsBd W (fun _=>False) b cs→WyOk y b→b.r=newR 1→Below w.heap.size w W→Calls Tryz.prog 17 #[.agg (wyL y).toArray,.agg cs.toArray] W (RWy (fun _=>False) (stepW y b) W)
 rd:∀ (y:Wy) (b:Brd) (k:Nat) (cs:List Value) (W:World),BOk b k→k≤990→IsBd W (fun _=>False) b cs→WyOk y b→Calls Tryz.prog 27 #[.agg (wyL y).toArray,.agg cs.toArray] W (Rt (.bool (readyW y b)) W)
 ho:∀ (b:Brd) (s:Int),0≤s→s<b.st.length→∀ (k:Nat) (cs:List Value) (W:World),BOk b k→k≤1000→IsBd W (fun _=>False) b cs→Calls Tryz.prog 29 #[.agg cs.toArray,s] W (Rt (.int .i64 (b.at s).h) W)
 fl:∀ (b:Brd) (s:Int),0≤s→s≤800→∀ (k:Nat) (cs:List Value) (W:World),BOk b k→k≤1000→IsBd W (fun _=>False) b cs→Calls Tryz.prog 19 #[.agg cs.toArray,.int .i64 5,s,.agg #[.int .i64 0,.int .i64 0,.string ⟨#[]⟩]] W (RB (fillB b 5 s ⟨0,0,⟨#[]⟩⟩) (fun _=>False) (fun v=>v) W)
 lv:∀ (b:Brd) (k:Nat) (cs:List Value) (W:World),BOk b k→k≤1000→IsBd W (fun _=>False) b cs→Calls Tryz.prog 23 #[.agg cs.toArray,.int .i64 5] W (RB (leaveB b 5) (fun _=>False) (fun v=>v) W)
 wr:∀ W,Calls Tryz.prog 28 #[c.k] W (Rt (.bool (writesB c.k)) W)
 hm:bt.tmod 5=(m:Int)
 n1:1≤n
 n8:n≤8
 m5:m<5
 run:(∀ j,0≤j→j<0+60→chkA (absK c) (nextA m j (atA m (begA n (absK c) (absK d)) j))=true)∧(atA m (begA n (absK c) (absK d)) (0+60)).w.q=11
end Go.Proofs.YtemicfjmidohfaaGreatDoor
set_option maxRecDepth 100000
namespace Go.Proofs.YtemicfjmidohfaaGreatDoor
open Go Go.Proofs Go.ChangeShapes Go.WideShapes Go.ChangeAt Go.RowKit Go.Joins Go.Deep
def laidQ:List (String×DataW Unit):=laidR [("selvedge/client.words",Rows.laid_selvedge_client_words),("internal/strconv.leftcheats",Rows.laid_internal_strconv_leftcheats),("internal/strconv.pow10Tab",Rows.laid_internal_strconv_pow10Tab)]
theorem gWdQ:Tryz.prog.globalNamed "selvedge/client.words" = some 0:=by kernel_rfl
theorem tWdQ:(Tryz.prog.globals[0]?).map (·.type)=some 216:=by kernel_rfl
theorem wdq_at {W:World} {L:List (String×DataW Unit)} (h:laidMet Tryz.prog L W) (hm:("selvedge/client.words",Rows.laid_selvedge_client_words)∈L):Wq W:=by
 intro i hi
 obtain ⟨g,t,cs,fuel,p,hg,ht,hvar,hd⟩:=Lib.laidMet.reads h hm;obtain rfl:=Option.some.inj (gWdQ.symm.trans hg);obtain rfl:=Option.some.inj (tWdQ.symm.trans ht);obtain ⟨xs,m,_,hx,_,hxl,hat⟩:=DataW.trod_array Tryz.underlying216 hd;have hel:=hat i hi;rw [show Tryz.prog.cellsOf 9=1 by kernel_rfl] at hel;obtain ⟨x,hxi⟩:∃ x,xs[i]? = some x:=⟨xs[i]'(by omega),List.getElem?_eq_getElem _⟩
 rw [hxi] at hel;obtain ⟨s,hc,hs,_⟩:=DataW.trod_string Tryz.underlying9 hel;have e2:(xs.map (·.1))[i]? = some (.lit (.string s.data.toList)):=by rw [List.getElem?_map,hxi,hs]; rfl
 have e1:xs.map (·.1)=(List.range 12).map fun (k:Nat)=>(DataW.lit (.string (wrdQ k).data.toList):DataW Unit):=by
  have:=congrArg Prod.fst hx;have hp:Rows.laid_selvedge_client_words (H:=Unit)=DataW.agg ((List.range 12).map fun (k:Nat)=>(DataW.lit (.string (wrdQ k).data.toList):DataW Unit)):=by rfl
  rw [hp] at this;exact (DataW.agg.inj this).symm
 rw [e1] at e2;have hs2:s=wrdQ i:=by
  have:(wrdQ i).data.toList=s.data.toList:=by simpa [hi] using e2
  cases s; cases hq:wrdQ i; rw [hq] at this; simp only [ByteArray.mk.injEq]; exact (Array.toList_inj.1 this).symm
 have v0:=World.var?_cell gWdQ hvar i;have c0:=congrArg (·[0]?) hc;simp only [List.getElem?_take,List.getElem?_drop] at c0
 simp at c0
 rw [←hs2];exact v0.trans c0
theorem libsQ_of_laid {W:World} (h0:laidMetH Tryz.prog laidQ W):(Pows W∧Tabs W)∧Wq W:=by
 have h:laidMet Tryz.prog laidQ W:=by rw [MakeChecks.laidMetH_plain _ _ _ (by kernel_rfl)] at h0; exact h0
 exact ⟨libs8_at h (by simp),wdq_at h (by simp [laidQ,laidR])⟩
theorem all_metQ (os:Os) (args:Array Value):laidMetH Tryz.prog laidQ ((World.laidAll Tryz.prog os laidQ).forCall (fun _ _=>0) ⟨#[],args,[]⟩).memory:=by
 rw [MakeChecks.laidMetH_plain _ _ _ (by kernel_rfl)];exact laidMet_laidAll _ (by kernel_rfl) (by kernel_rfl)
theorem wf_b8 {n:Int} (h:(Lit.int .u8 n).wf=true):0≤n∧n≤255:=by
 have:IntKind.u8.min≤n∧n≤IntKind.u8.max:=by simpa [Lit.wf] using h
 exact this
section
variable {H:Type} {enc:TypeId×Value→H} {W:World} {base:Nat}
theorem open_cl16 {r:Reach} {b0:Nat} {v:Value} {d:DataW H} {p:List MemPlace} {sp:Nat→Bool} {held:Bool}
  (hv:Value.okWide Tryz.prog W r b0 75 v) (h:DataW.Trod enc Tryz.prog W base sp held 75 v d p):∃ x:Cal,v=.agg ⟨calL x⟩:=by
 obtain ⟨⟨cs⟩,rfl,hsz⟩:=okWide_struct Tryz.underlying75 hv;obtain ⟨fuel,hf⟩:=h;obtain ⟨x,hx⟩:=call_cells hf;have hx':cs=calL x:=by simpa [Value.cells] using hx
 exact ⟨x,by rw [hx']⟩
end
end Go.Proofs.YtemicfjmidohfaaGreatDoor
