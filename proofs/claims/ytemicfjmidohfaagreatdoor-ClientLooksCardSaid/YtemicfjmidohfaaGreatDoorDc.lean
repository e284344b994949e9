import Derived.Test.YtemicfjmidohfaaGreatDoorEb
import Derived.Test.YtemicfjmidohfaaGreatDoorAb
import Derived.Deep.CutRange
import Derived.Test.YtemicfjmidohfaaGreatDoorVm8
namespace Go.Proofs.YtemicfjmidohfaaGreatDoor
open Go Go.Proofs Go.RowKit
structure Cal where
 k:Int
 p:Int
 ch:Int
 o:Oq
 a:Int
 b:Int
 lo : -2147483648≤ch
 hi:ch≤2147483647
 p0 : -9223372036854775808≤p
 p1:p≤9223372036854775807
 k0 : -9223372036854775808≤k
 k1:k≤9223372036854775807
instance:Coe Cal (Array Value):=⟨fun x=>#[x.k,x.p,.int .i32 x.ch,x.o.k,x.o.c,x.o.s,x.o.a,x.o.n,.int .i32 x.o.ch,x.a,x.b]⟩
instance:Coe Cal (List Value):=⟨fun x=>[x.k,x.p,.int .i32 x.ch,x.o.k,x.o.c,x.o.s,x.o.a,x.o.n,.int .i32 x.o.ch,x.a,x.b]⟩
def calL (x:Cal):List Value:=[.int .i64 x.k,.int .i64 x.p,.int .i32 x.ch,.int .i64 x.o.k,.int .i64 x.o.c,.int .i64 x.o.s,.int .i64 x.o.a,.int .i64 x.o.n,.int .i32 x.o.ch,.int .i64 x.a,.int .i64 x.b]
structure Rpl where
 s:Int
 m:List Oq
 l:List Oq
 z:Bool
structure Ans where
 e:Int
 n:Int
 t:ByteArray
def badA (e:Int):Ans:=⟨e,0,⟨#[]⟩⟩
def shutB (r:Rpl):Bool:=r.z||decide (r.s=0)
def sumT (m:List Oq):ByteArray:=tT [nL (idsO m),cL (idsO m),sL (idsO m),rL (idsO m),iL (idsO m)]
def wrA (r:Rpl) (e:Int) (x:Ans) (t:List Oq×List Oq×List Chg):Rpl×Ans×List Chg:=if e≠0 then (r,badA e,[]) else (⟨r.s,t.1,t.2.1,r.z⟩,x,t.2.2)
def oT (x:Oq):ByteArray:=opT x.k x.c x.s x.a x.n x.ch
def doR (r:Rpl) (c:Cal):Rpl×Ans×List Chg:=
 if c.k<0∨8<c.k then (r,badA 1,[])
 else if shutB r=true then (r,badA 9,[])
 else if c.k=0 then wrA r (inE8 r.m r.l r.s c.p c.ch c.lo c.hi) ⟨0,((inT8 r.m r.l r.s c.p c.ch c.lo c.hi).1.length:Int),oT (inV8 r.m r.l r.s c.p c.ch c.lo c.hi)⟩ (inT8 r.m r.l r.s c.p c.ch c.lo c.hi)
 else if c.k=1 then wrA r (deE8 r.m r.l c.p) ⟨0,((deT8 r.m r.l c.p).1.length:Int),oT (deV8 r.m c.p)⟩ (deT8 r.m r.l c.p)
 else if c.k=2 then wrA r (remE r.m r.l c.o) ⟨0,((remT r.m r.l c.o).2.2.length:Int),⟨#[]⟩⟩ (remT r.m r.l c.o)
 else if c.k=3 then (r,⟨0,0,txtS (docR r.m)⟩,[])
 else if c.k=4 then (r,⟨0,aliN (docR r.m),⟨#[]⟩⟩,[])
 else if c.k=5 then (if cuE (docR r.m) c.p≠0 then (r,badA (cuE (docR r.m) c.p),[]) else (r,⟨0,0,ancT (namC (docR r.m) c.p).1 (namC (docR r.m) c.p).2⟩,[]))
 else if c.k=6 then (r,⟨reE (docR r.m) c.a c.b,reN (docR r.m) c.a c.b,⟨#[]⟩⟩,[])
 else if c.k=7 then (r,⟨0,(r.m.length:Int),sumT r.m⟩,[])
 else (⟨r.s,r.m,r.l,true⟩,⟨0,0,⟨#[]⟩⟩,[])
structure RplOk (r:Rpl) (n:Nat):Prop where
 v:VOk r.m r.l n
 s0:0≤r.s
 s1:r.s≤1000
def newE (s:Int):Int:=if s<1∨1000<s then 2 else 0
def newR (s:Int):Rpl:=if s<1∨1000<s then ⟨0,[],[],false⟩ else ⟨s,[],[],false⟩
theorem newR_ok (s:Int):RplOk (newR s) 0:=by
 unfold newR
 split
 ·exact ⟨VOk.nil,by decide,by decide⟩
 ·next h=>exact ⟨VOk.nil,by show 0≤s; omega,by show s≤1000; omega⟩
theorem wrA_ok {r:Rpl} {n:Nat} {e:Int} {x:Ans} {t:List Oq×List Oq×List Chg} (h:RplOk r n) (ht:VOk t.1 t.2.1 (n+1)):RplOk (wrA r e x t).1 (n+1):=by
 unfold wrA
 split
 ·exact ⟨h.v.more (Nat.le_succ _),h.s0,h.s1⟩
 ·exact ⟨ht,h.s0,h.s1⟩
theorem doR_ok {r:Rpl} {n:Nat} (h:RplOk r n) (c:Cal):RplOk (doR r c).1 (n+1):=by
 have h':RplOk r (n+1):=⟨h.v.more (Nat.le_succ _),h.s0,h.s1⟩
 unfold doR
 split
 ·exact h'
 split
 ·exact h'
 split
 ·exact wrA_ok h (h.v.ins r.s c.p c.ch c.lo c.hi)
 split
 ·exact wrA_ok h (h.v.del c.p)
 split
 ·exact wrA_ok h (h.v.rem c.o)
 split
 ·exact h'
 split
 ·exact h'
 split
 ·split <;> exact h'
 split
 ·exact h'
 split
 ·exact h'
 ·exact ⟨h'.v,h'.s0,h'.s1⟩
theorem reN_err {L:List El} {a b:Int} (h:reE L a b≠0):reN L a b=0:=by
 unfold reE at h
 unfold reN
 split at h
 ·exact absurd rfl h
 next hn=>
  split at h
  ·next hf=>
   rw [if_neg hn];unfold rkL
   rw [show (fnd (elB a b) L 0).toNat=0 by omega];rfl
  ·exact absurd rfl h
theorem RplOk.more {r:Rpl} {n k:Nat} (h:RplOk r n) (hk:n≤k):RplOk r k:=⟨h.v.more hk,h.s0,h.s1⟩
end Go.Proofs.YtemicfjmidohfaaGreatDoor
namespace Go.Proofs.YtemicfjmidohfaaGreatDoor
open Go Go.Proofs Go.RowKit
def ex12A:Cal:=⟨0,0,97,zeroO,0,0,by decide,by decide,by decide,by decide,by decide,by decide⟩
def ex12R:Cal:=⟨3,0,0,zeroO,0,0,by decide,by decide,by decide,by decide,by decide,by decide⟩
theorem ex12_hex:hexB 97=⟨#[54,49]⟩:=by
 unfold hexB
 rw [show (97:Int).toNat=97 from rfl,hexD_more (by omega),hexD_one (by omega)];rfl
theorem ex12_dig:digB 1=⟨#[49]⟩:=by
 unfold digB
 rw [Lib.decDigits_one (by omega)];rfl
theorem ex12_t:oT (exO 0)=⟨#[43,49,46,49,32,45,32,54,49]⟩:=by
 show opT 0 1 1 0 0 97=_
 rw [opT_ins ⟨by decide,.inl (by decide),by decide,by decide,by decide,by decide⟩];have hn:noneB 0 0=true:=by decide
 unfold insX ins4 ins3 ins2 ins1 ancT
 rw [if_pos hn,ex12_hex];unfold txtB dotB
 rw [ex12_dig];rfl
theorem ex12_a:doR ⟨1,[],[],false⟩ ex12A=(⟨1,exM 1,[],false⟩,⟨0,1,⟨#[43,49,46,49,32,45,32,54,49]⟩⟩,[chgO [] (exO 0)]):=by
 have hi:=ex8_i1;have hx:inV8 [] [] 1 0 97 (by decide) (by decide)=exO 0:=rfl;unfold doR
 rw [if_neg (by decide),if_neg (by decide),if_pos (by rfl)]
 show wrA _ (inE8 [] [] 1 0 97 (by decide) (by decide)) ⟨0,((inT8 [] [] 1 0 97 (by decide) (by decide)).1.length:Int),oT (inV8 [] [] 1 0 97 (by decide) (by decide))⟩ (inT8 [] [] 1 0 97 (by decide) (by decide))=_
 rw [hx,hi.1,hi.2,ex12_t];rfl
theorem ex12_r:(doR ⟨1,exM 1,[],false⟩ ex12R).2.1=⟨0,0,⟨#[97]⟩⟩:=by
 unfold doR
 rw [if_neg (by decide),if_neg (by decide),if_neg (by decide),if_neg (by decide),if_neg (by decide),if_pos (by rfl)]
 show (⟨0,0,txtS (docR (exM 1))⟩:Ans)=_
 rw [ex8_d1];rfl
theorem ex12_ok:RplOk ⟨1,exM 1,[],false⟩ 1:=by
 have h:=doR_ok (r:=⟨1,[],[],false⟩) ⟨VOk.nil,by decide,by decide⟩ ex12A;rw [ex12_a] at h;exact h
end Go.Proofs.YtemicfjmidohfaaGreatDoor
namespace Go.Proofs.YtemicfjmidohfaaGreatDoor
open Go Go.Proofs Go.RowKit
structure IsRp (W:World) (r:Rpl) (cs:List Value):Prop where
 ex:∃ v0 v1 v2 v3 v4 v5 v6 v7,IsV W r.m r.l [v0,v1,v2,v3,v4,v5,v6,v7]∧cs=[.int .i64 r.s,.bool (!shutB r),v0,v1,v2,v3,v4,v5,v6,v7]
theorem IsRp.next {W W':World} {r:Rpl} {cs:List Value} (h:IsRp W r cs) (hb:Below W.heap.size W W'):IsRp W' r cs:=by
 obtain ⟨v0,v1,v2,v3,v4,v5,v6,v7,h1,h2⟩:=h.ex;exact ⟨v0,v1,v2,v3,v4,v5,v6,v7,h1.next hb,h2⟩
theorem IsRp.one {W:World} {r:Rpl} {cs:List Value} (h:IsRp W r cs):∀ u∈cs,u.oneCell'=true:=by
 obtain ⟨v0,v1,v2,v3,v4,v5,v6,v7,h1,rfl⟩:=h.ex;have h2:=h1.one;intro u hu
 simp only [List.mem_cons,List.not_mem_nil,or_false] at hu h2
 rcases hu with rfl | rfl | rfl | rfl | rfl | rfl | rfl | rfl | rfl | rfl
 all_goals first | rfl | exact h2 _ (by simp)
def writesB (k:Int):Bool:=decide (0≤k)&&decide (k≤2)
def PNewOk:Prop:=∀ (s:Int) (w:World),Calls Tryz.prog 33 #[s] w fun e w'=>Below w.heap.size w w'∧∃ d0 d1 d2 d3 d4 d5 d6 d7 d8 d9,e=.returned (.tuple #[.agg #[d0,d1,d2,d3,d4,d5,d6,d7,d8,d9],.int .i64 (newE s)])∧IsRp w' (newR s) [d0,d1,d2,d3,d4,d5,d6,d7,d8,d9]
def PDoOk:Prop:=∀ (r:Rpl) (n:Nat) (c:Cal) (c0 c1 c2 c3 c4 c5 c6 c7 c8 c9:Value) (w:World),RplOk r n→n≤120→IsRp w r [c0,c1,c2,c3,c4,c5,c6,c7,c8,c9]→Pows w→Tabs w→Calls Tryz.prog 53 #[.agg #[c0,c1,c2,c3,c4,c5,c6,c7,c8,c9],.agg c] w fun e w'=>Below w.heap.size w w'∧∃ d0 d1 d2 d3 d4 d5 d6 d7 d8 d9,e=.returned (.tuple #[.agg #[d0,d1,d2,d3,d4,d5,d6,d7,d8,d9],.agg #[.int .i64 (doR r c).2.1.e,.int .i64 (doR r c).2.1.n,.string (doR r c).2.1.t]])∧IsRp w' (doR r c).1 [d0,d1,d2,d3,d4,d5,d6,d7,d8,d9]
def PLookOk:Prop:=∀ (r:Rpl) (n:Nat) (c:Cal) (c0 c1 c2 c3 c4 c5 c6 c7 c8 c9:Value) (w:World),RplOk r n→n≤120→IsRp w r [c0,c1,c2,c3,c4,c5,c6,c7,c8,c9]→Pows w→Tabs w→Calls Tryz.prog 58 #[.agg #[c0,c1,c2,c3,c4,c5,c6,c7,c8,c9],.agg c] w fun e w'=>e=.returned (.agg #[.int .i64 (doR r c).2.1.e,.int .i64 (doR r c).2.1.n,.string (doR r c).2.1.t])∧Below w.heap.size w w'
def PChOk:Prop:=∀ (r:Rpl) (n:Nat) (c:Cal) (c0 c1 c2 c3 c4 c5 c6 c7 c8 c9:Value) (w:World),RplOk r n→n≤120→IsRp w r [c0,c1,c2,c3,c4,c5,c6,c7,c8,c9]→Pows w→Tabs w→Calls Tryz.prog 91 #[.agg #[c0,c1,c2,c3,c4,c5,c6,c7,c8,c9],.agg c] w fun e w'=>Below w.heap.size w w'∧∃ d0 d1 d2 d3 d4 d5 d6 d7 d8 d9 lc,e=.returned (.tuple #[.agg #[d0,d1,d2,d3,d4,d5,d6,d7,d8,d9],.agg #[.int .i64 (doR r c).2.1.e,.int .i64 (doR r c).2.1.n,.string (doR r c).2.1.t],lc])∧IsRp w' (doR r c).1 [d0,d1,d2,d3,d4,d5,d6,d7,d8,d9]∧IsVC w' lc (doR r c).2.2
def PShutOk:Prop:=∀ (r:Rpl) (n:Nat) (c0 c1 c2 c3 c4 c5 c6 c7 c8 c9:Value) (w:World),RplOk r n→n≤130→IsRp w r [c0,c1,c2,c3,c4,c5,c6,c7,c8,c9]→Calls Tryz.prog 150 #[.agg #[c0,c1,c2,c3,c4,c5,c6,c7,c8,c9]] w (Rt (.bool (shutB r)) w)
def PWrOk:Prop:=∀ (k:Int) (w:World),-9223372036854775808≤k→k≤9223372036854775807→Calls Tryz.prog 28 #[k] w (Rt (.bool (writesB k)) w)
structure PAll:Prop where
 new:PNewOk
 do_:PDoOk
 look:PLookOk
 ch:PChOk
 shut:PShutOk
 wr:PWrOk
def cK (k:Int) (h0 : -9223372036854775808≤k:=by decide) (h1:k≤9223372036854775807:=by decide):Cal:=⟨k,0,0,zeroO,0,0,by decide,by decide,by decide,by decide,h0,h1⟩
theorem IsRp.setN {W:World} {r:Rpl} {cs zs:List Value} {b:Nat} {t:TypeId} (h:IsRp W r cs) (hB:Blk W b zs t) (h1:t≠363) (h2:t≠353) (h3:t≠73) (us:List Value):IsRp (setN W b 0 us) r cs:=by
 obtain ⟨v0,v1,v2,v3,v4,v5,v6,v7,hv,hc⟩:=h.ex;exact ⟨v0,v1,v2,v3,v4,v5,v6,v7,hv.kt (KT.setN h1 _ 0 hB) (KT.setN h2 _ 0 hB) (KT.setN h3 _ 0 hB) (Nat.le_of_eq (setN_size _ 0).symm),hc⟩
abbrev StG (c:Value):Prop:=∀ (W:World) (a:Addr) (m:Mode),(store a c m).run Tryz.prog W=match W.cell? a with
 | some _=>if W.frozen? a then .halt (.unsupported (.unsafePointer "a write to bytes that a string shares")) W else .ok () (W.setCell a c)
 | none=>match W.farStore Tryz.prog a c (m == .atomic) with
  | .ok (w',_)=>.ok () w'
  | .error h=>.halt h W
theorem st10 {d0 d1 d2 d3 d4 d5 d6 d7 d8 d9:Value} (h:∀ u∈[d0,d1,d2,d3,d4,d5,d6,d7,d8,d9],u.oneCell'=true):StG d0∧StG d1∧StG d2∧StG d3∧StG d4∧StG d5∧StG d6∧StG d7∧StG d8∧StG d9:=
 have k:∀ u∈[d0,d1,d2,d3,d4,d5,d6,d7,d8,d9],StG u:=fun u hu W a m=>run_store Tryz.prog W a u m (h u hu)
 ⟨k d0 (by simp),k d1 (by simp),k d2 (by simp),k d3 (by simp),k d4 (by simp),k d5 (by simp),k d6 (by simp),k d7 (by simp),k d8 (by simp),k d9 (by simp)⟩
theorem bl1 (w:World) (l:List Value) (t:TypeId):Below w.heap.size w (w.alloc (.cells ⟨l⟩ t)):=bA
theorem bl2 (w:World) (l k:List Value) (t u:TypeId):Below w.heap.size w ((w.alloc (.cells ⟨l⟩ t)).alloc (.cells ⟨k⟩ u)):=(bA).alloc (by simp) _
def Awake12Ok:Prop:=∀ w:World,Pows w→Tabs w→Calls Tryz.prog 31 #[] w (Rt (.bool true) w)
end Go.Proofs.YtemicfjmidohfaaGreatDoor
namespace Go.Proofs.YtemicfjmidohfaaGreatDoor
open Go Go.Proofs Go.RowKit
theorem nam_may {m:List Oq} (h:OkO m) (k:Int):noneB (namC (docR m) k).1 (namC (docR m) k).2=true∨mayB (namC (docR m) k).1 (namC (docR m) k).2=true:=by
 by_cases hn:namC (docR m) k=(0,0)
 ·left; rw [hn]; rfl
 ·right
  obtain ⟨h0,h1⟩:=nam_yes hn;obtain ⟨y,hy,hk,e,_⟩:=nam_in h h0 h1;rw [e]; exact h.may y hy hk
end Go.Proofs.YtemicfjmidohfaaGreatDoor
