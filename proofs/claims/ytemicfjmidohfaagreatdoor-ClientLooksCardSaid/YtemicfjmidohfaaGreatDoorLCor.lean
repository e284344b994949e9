import Derived.Test.YtemicfjmidohfaaGreatDoorLIs3
import Derived.Test.YtemicfjmidohfaaGreatDoorLIs4
set_option maxRecDepth 100000
set_option maxHeartbeats 12800000
namespace Go.Proofs.YtemicfjmidohfaaGreatDoor
open Go Go.Proofs Go.RowKit
structure StO (W:World) (m:List Oq) (p q:Option Addr) (T:Tr) (P:Pt):Prop where
 tr:Is W p T
 avl:Avl T
 row:T.els=(rowO m).map (elO m)
 ma:IsM W q P
 mels:els P=mapL m
 full:Full 10 P
 good:Good P
theorem StO.next {W W':World} {m:List Oq} {p q:Option Addr} {T:Tr} {P:Pt} (h:StO W m p q T P) (hb:Below W.heap.size W W'):StO W' m p q T P:=
 ⟨h.tr.next hb,h.avl,h.row,h.ma.next hb,h.mels,h.full,h.good⟩
theorem mapK_len (m:List Oq):∀ l:List Oq,(mapK m l).length≤l.length:=by
 intro l
 have H:∀ (l:List Oq) (acc:List (Nat×En)),Ris acc→(l.foldl (fun acc x=>if x.k=0 then insL (placeI x.c x.s) (entO m x) acc else acc) acc).length≤acc.length+l.length:=by
  intro l
  induction l with
  | nil=>intro acc _; exact Nat.le_refl _
  | cons x l ih=>
   intro acc h
   simp only [List.foldl_cons,List.length_cons]
   split
   ·have h1:=ih _ (ris_insL (at_:=placeI x.c x.s) (e:=entO m x) h)
    have h2:=insL_length (at_:=placeI x.c x.s) (e:=entO m x) h;split at h2 <;> omega
   ·have:=ih acc h; omega
 have:=H l [] List.Pairwise.nil
 simpa [mapK] using this
def ApplyOk (N:Nat):Prop:=∀ (m:List Oq) (o:Oq) (p q:Option Addr) (T:Tr) (P:Pt) (w:World),m.length≤N→OkO m→StO w m p q T P →
 Calls Tryz.prog 244 #[.agg #[.pointer p,.pointer q,.int .i64 (cnt P)],.agg o] w fun r w'=>Below w.heap.size w w' ∧
  ((wrongE m o≠0∧r=.returned (.tuple #[.agg #[.pointer p,.pointer q,.int .i64 (cnt P)],.int .i64 (-1),.int .i64 (wrongE m o)])) ∨
   (wrongE m o=0∧∃ p' q' T' P',r=.returned (.tuple #[.agg #[.pointer p',.pointer q',.int .i64 (cnt P')],.int .i64 (fnd (elB o.c o.s) (docR (m++[o])) 0),.int .i64 0])∧StO w' (m++[o]) p' q' T' P'))
theorem ApplyOk.one {N:Nat} (h:ApplyOk N) (m:List Oq) (o:Oq) (p q:Option Addr) (T:Tr) (P:Pt) (w:World) (hm:m.length≤N) (hk:OkO m) (hs:StO w m p q T P):
  Calls Tryz.prog 244 #[.agg #[.pointer p,.pointer q,.int .i64 (cnt P)],.agg o] w fun r w'=>Below w.heap.size w w' ∧
   ∃ (p' q':Option Addr) (T':Tr) (P':Pt) (m':List Oq) (z:Int),r=.returned (.tuple #[.agg #[.pointer p',.pointer q',.int .i64 (cnt P')],z,.int .i64 (wrongE m o)])∧StO w' m' p' q' T' P' ∧
    ((wrongE m o≠0∧m'=m∧z = -1)∨(wrongE m o=0∧m'=m++[o]∧z=fnd (elB o.c o.s) (docR (m++[o])) 0)):=by
 refine (h m o p q T P w hm hk hs).mono ?_
 rintro r w' ⟨hb,⟨h1,rfl⟩ | ⟨h1,p',q',T',P',rfl,h2⟩⟩
 ·exact ⟨hb,p,q,T,P,m,-1,rfl,hs.next hb,.inl ⟨h1,rfl,rfl⟩⟩
 ·exact ⟨hb,p',q',T',P',m++[o],_,by rw [h1],h2,.inr ⟨h1,rfl,rfl⟩⟩
def Awake6Ok:Prop:=∀ w:World,Tabs w→Calls Tryz.prog 233 #[] w (Rt (.bool true) w)
def KT (t:TypeId) (W W':World):Prop:=∀ b vs,Blk W b vs t→Blk W' b vs t
theorem KT.trans {t:TypeId} {W W' W'':World} (h:KT t W W') (k:KT t W' W''):KT t W W'':=fun b vs hb=>k b vs (h b vs hb)
theorem KT.set {t u:TypeId} {W:World} {b:Nat} {us:List Value} (hB:Blk W b us u) (hne:u≠t) (i:Nat) (x:Value):KT t W (W.setCell ⟨b,i,none⟩ x):=fun c vs hc=>hc.other _ (fun e=>by
 have e':c=b:=e;subst e';unfold Blk at hB hc
 rw [hB] at hc
 cases hc
 exact hne rfl) _
theorem KT.apart {t e:TypeId} {W W':World} {base sz n:Nat} {vo:Value} {xs:List Value} (ho:W.ownsRow base e sz vo n xs) (hne:t≠e) (hg:W.grownBy W' vo.ownBlock):KT t W W':=by
 intro b vs hb
 refine (hg.block b hb.lt fun e'=>?_).trans hb;rcases ho.2 with ⟨rfl,_⟩ | ⟨g2,cap2,cur2,rfl,_,hh2,_⟩
 ·cases e'
 ·simp only [Value.ownBlock,Option.some.injEq] at e'
  subst e';unfold Blk at hb
  rw [hb] at hh2
  cases hh2
  exact hne rfl
theorem IsT.kt {n:Nat} {W W':World} (hk:KT 363 W W'):∀ {p:Option Addr} {T:Tr},IsT n W p T→IsT n W' p T
 | _,.nil,h=>h
 | _,.node _ _ _,⟨c,pl,pr,hp,hn,hC,hl,hr⟩=>⟨c,pl,pr,hp,hn,hk _ _ hC,IsT.kt hk hl,IsT.kt hk hr⟩
theorem IsP.kt {n:Nat} {W W':World} (hk:KT 353 W W'):∀ {T:Pt} {p:Option Addr},IsP n W p T→IsP n W' p T
 | .nil,_,h=>h
 | .part _ _,_,⟨c,ps,hp,hn,hC,hc⟩=>⟨c,ps,hp,hn,hk _ _ hC,fun d hd=>IsP.kt hk (hc d hd)⟩
theorem StO.kt {W W':World} {m:List Oq} {p q:Option Addr} {T:Tr} {P:Pt} (h:StO W m p q T P) (h1:KT 363 W W') (h2:KT 353 W W') (hs:W.heap.size≤W'.heap.size):StO W' m p q T P:=
 ⟨(IsT.kt h1 h.tr).mono hs,h.avl,h.row,(IsP.kt h2 h.ma).mono hs,h.mels,h.full,h.good⟩
theorem own_kt {W W':World} {b size n:Nat} {e:TypeId} {v:Value} {xs:List Value} (h:W.ownsRow b e size v n xs) (hk:KT e W W'):W'.ownsRow b e size v n xs:=by
 refine ⟨h.1,?_⟩;rcases h.2 with h | ⟨g,cap,cur,hv,hg,hh,h⟩
 ·exact .inl h
 ·exact .inr ⟨g,cap,cur,hv,hg,hk g cur.toList hh,h⟩
def stL (p q:Option Addr) (P:Pt):List Value:=[.pointer p,.pointer q,.int .i64 (cnt P)]
theorem StO.nil (W:World):StO W [] none none .nil .nil:=
 ⟨rfl,trivial,by rw [row_nil]; rfl,by unfold IsM; rfl,rfl,full_nil 10,good_nil⟩
theorem cnt_nil:cnt .nil=0:=rfl
end Go.Proofs.YtemicfjmidohfaaGreatDoor
namespace Go.Proofs.YtemicfjmidohfaaGreatDoor
theorem eqI_iff {m:List Oq} {c s:Int}:0≤fnd (opB 0 c s) m 0↔∃ x∈m,x.k=0∧x.eqI c s:=by
 rw [fnd_pos]
 constructor
 ·rintro ⟨x,hx,hp⟩; obtain ⟨h1,h2,h3⟩:=opB_iff.1 hp; exact ⟨x,hx,h1,h2,h3⟩
 ·rintro ⟨x,hx,h1,h2,h3⟩; exact ⟨x,hx,opB_iff.2 ⟨h1,h2,h3⟩⟩
theorem row_has {m:List Oq} (h:OkO m) {c s:Int}:0≤fnd (elB c s) (docR m) 0↔0≤fnd (opB 0 c s) m 0:=by
 rw [eqI_iff,fnd_pos]
 constructor
 ·rintro ⟨e,he,hp⟩
  obtain ⟨x,hx,rfl⟩:=List.mem_map.1 he;obtain ⟨h1,h2⟩:=elB_iff.1 hp;obtain ⟨hm,h0⟩:=(h.gd.mem x).1 hx;exact ⟨x,hm,h0,h1,h2⟩
 ·rintro ⟨x,hx,h0,h1,h2⟩
  exact ⟨elO m x,List.mem_map.2 ⟨x,(h.gd.mem x).2 ⟨hx,h0⟩,rfl⟩,elB_iff.2 ⟨h1,h2⟩⟩
theorem getM_some {m:List Oq} {P:Pt} (h:OkO m) (he:els P=mapL m) {x:Oq} (hx:x∈m) (h0:x.k=0):getM P x.c x.s=some (entO m x):=by
 have hm:=h.may x hx h0;unfold getM
 rw [if_pos hm,getT_getL _ (place_lt hm),he];exact mapL_get h hx h0
theorem getM_none {m:List Oq} {P:Pt} (h:OkO m) (he:els P=mapL m) {c s:Int} (hn:∀ x∈m,x.k=0→¬ x.eqI c s):getM P c s=none:=by
 unfold getM
 split
 ·rename_i hm
  rw [getT_getL _ (place_lt hm),he];exact mapL_none h hm hn
 ·rfl
theorem getM_has {m:List Oq} {P:Pt} (h:OkO m) (he:els P=mapL m) (c s:Int):(getM P c s).isSome=decide (0≤fnd (opB 0 c s) m 0):=by
 by_cases hx:∃ x∈m,x.k=0∧x.eqI c s
 ·obtain ⟨x,hx,h0,rfl,rfl⟩:=hx
  rw [getM_some h he hx h0,decide_eq_true (eqI_iff.2 ⟨x,hx,h0,rfl,rfl⟩)];rfl
 ·rw [getM_none h he (fun x h1 h2 h3=>hx ⟨x,h1,h2,h3⟩),decide_eq_false (fun h1=>hx (eqI_iff.1 h1))]
  rfl
def gapE (c s a n:Int):Bool→List El→Nat
 | _,[]=>0
 | b,y::l=>if (b&&lessB y.c y.s c s)=true then 0 else gapE c s a n (b||elB a n y) l+1
theorem gap_le (c s a n:Int):∀ (l:List El) (b:Bool),gapE c s a n b l≤l.length
 | [],_=>Nat.le_refl _
 | y::l,b=>by
  unfold gapE
  split
  ·omega
  ·have:=gap_le c s a n l (b||elB a n y); simp; omega
theorem gap_posK {m:List Oq} {o:Oq} {a n:Int}:∀ (l:List Oq),(∀ y∈l,¬ (y.c=o.c∧y.s=o.s))→gapE o.c o.s a n true (l.map (elO m))=posK o l
 | [],_=>rfl
 | y::l,h=>by
  have hy:=h y (by simp);have ih:=gap_posK (m:=m) (o:=o) (a:=a) (n:=n) l (fun z hz=>h z (by simp [hz]));have e1:(elO m y).c=y.c:=rfl;have e2:(elO m y).s=y.s:=rfl;unfold posK
  rw [List.map_cons,gapE,e1,e2,Bool.true_and,Bool.true_or]
  cases hl:lessB o.c o.s y.c y.s with
  | true=>rw [less_asymm hl,if_neg (by simp),if_pos rfl,ih]
  | false=>rw [less_conn hl (fun e=>hy ⟨e.1.symm,e.2.symm⟩),if_pos rfl,if_neg (by simp)]
theorem gap_posA {m:List Oq} {o:Oq}:∀ (l:List Oq),(∀ y∈l,¬ (y.c=o.c∧y.s=o.s))→gapE o.c o.s o.a o.n false (l.map (elO m))=posA o l
 | [],_=>rfl
 | y::l,h=>by
  have hl:=fun z (hz:z∈l)=>h z (by simp [hz])
  unfold posA
  rw [List.map_cons,gapE,Bool.false_and,Bool.false_or,if_neg (by simp)];by_cases he:y.eqI o.a o.n
  ·rw [if_pos he,show elB o.a o.n (elO m y)=true from elB_iff.2 he,gap_posK l hl]
  ·rw [if_neg he,show elB o.a o.n (elO m y)=false from decide_eq_false (fun e=>he e),gap_posA l hl]
theorem gap_posR {m:List Oq} {o:Oq} (h:OkO m) (hc:CanI m o):gapE o.c o.s o.a o.n (noneB o.a o.n) (docR m)=posR o (rowO m):=by
 have hn:∀ y∈rowO m,¬ (y.c=o.c∧y.s=o.s):=fun y hy e=>by
  obtain ⟨h1,h2⟩:=(h.gd.mem y).1 hy;exact hc.new y h1 h2 e
 unfold posR docR
 cases hb:noneB o.a o.n with
 | true=>rw [if_pos (none_yes hb),gap_posK _ hn]
 | false=>
  rw [if_neg,gap_posA _ hn]
  rintro ⟨h1,h2⟩
  rw [h1,h2] at hb
  cases hb
theorem gap_past {c s a n:Int}:∀ {l t:List El} {b:Bool},gapE c s a n b l=l.length→gapE c s a n b (l++t)=l.length+gapE c s a n (b||l.any (elB a n)) t
 | [],t,b,_=>by simp
 | y::l,t,b,h=>by
  unfold gapE at h
  split at h
  ·simp at h
  ·rename_i hs
   have h1:gapE c s a n (b||elB a n y) l=l.length:=by simpa using h
   rw [List.cons_append,gapE,if_neg hs,gap_past h1];simp only [List.length_cons,List.any_cons,Bool.or_assoc]
   omega
theorem gap_stop {c s a n:Int} {l t:List El} {y:El} {b:Bool} (h:gapE c s a n b l=l.length) (hb:(b||l.any (elB a n))=true) (hy:lessB y.c y.s c s=true):gapE c s a n b (l++y::t)=l.length:=by
 rw [gap_past h,gapE,if_pos (by rw [hb,hy]; rfl)]; rfl
theorem gap_go {c s a n:Int} {l:List El} {y:El} {b:Bool} (h:gapE c s a n b l=l.length) (hy:((b||l.any (elB a n))&&lessB y.c y.s c s)=false):gapE c s a n b (l++[y])=(l++[y]).length:=by
 rw [gap_past h,gapE,if_neg (by rw [hy]; simp)]; simp [gapE]
theorem idx_snd:∀ (k:Nat) (l:List El),(idx k l).map Prod.snd=l
 | _,[]=>rfl
 | k,x::l=>by simp [idx,idx_snd (k+1) l]
theorem idx_end {L:List El} {pre:List (Nat×El)} {x:Nat×El} (h:pre++[x] <+: idx 0 L):x.1=pre.length∧∃ t,L=pre.map Prod.snd++x.2::t:=by
 obtain ⟨t,ht⟩:=h;have h1:L=pre.map Prod.snd++x.2::t.map Prod.snd:=by
  rw [←idx_snd 0 L,←ht]; simp
 refine ⟨?_,_,h1⟩;subst h1;rw [idx_append,idx] at ht;have h2:pre.length=(idx 0 (pre.map Prod.snd)).length:=by rw [idx_length]; simp
 rw [List.append_assoc] at ht;have h3:=(List.append_inj ht h2).2;have h4:=List.head_eq_of_cons_eq h3;rw [h4];simp
theorem fnd_row {c s:Int} {l t:List El} {y:El} (h:∀ z∈l,elB c s z=false) (hy:elB c s y=true):fnd (elB c s) (l++y::t) 0=(l.length:Int):=by
 rw [fnd_at _ 0 (i:=l.length) (by simp) (by simpa using hy) (fun j hj hji=>?_),Nat.zero_add];rw [List.getElem_append_left hji];exact h _ (List.getElem_mem hji)
end Go.Proofs.YtemicfjmidohfaaGreatDoor
namespace Go.Proofs.YtemicfjmidohfaaGreatDoor
open Go Go.Proofs Go.RowKit
structure CSt (w:World) (p q:Option Addr) (n:Int) (l:List Value) (t:TypeId) (W:World):Prop where
 bel:Below w.heap.size w W
 bs:Blk W w.heap.size [.pointer p,.pointer q,n] 35
 ba:Blk W (w.heap.size+1) l t
theorem CSt.next {w:World} {p q:Option Addr} {n:Int} {l:List Value} {t:TypeId} {W W':World} (h:CSt w p q n l t W) (hb:Below W.heap.size W W'):CSt w p q n l t W':=
 ⟨h.bel.trans (hb.mono h.bel.size),h.bs.next hb,h.ba.next hb⟩
theorem CSt.start (w:World) (p q:Option Addr) (n:Int) (l:List Value) (t:TypeId):CSt w p q n l t ((w.alloc (.cells #[.pointer p,.pointer q,n] 35)).alloc (.cells ⟨l⟩ t)):=
 ⟨(bA).alloc (by simp) _,(Blk.start w _ _).alloc _,Blk.startAt (by simp)⟩
theorem hasC_any {p q:Option Addr} {P:Pt} (n c s:Int) (w:World) (hP:IsM w q P):
  Calls Tryz.prog 254 #[.agg #[.pointer p,.pointer q,n],.agg #[c,s]] w (Rt (.bool (getM P c s).isSome) w):=by
 have H0:=Lh (CSt.start w p q n [c,s] 71);have HP:=Lh hP;clear hP
 go_enter Tryz.func254,Tryz.ntmps254
 go_wp2_with (go_at_call 275; refine (get_any _ c s _ (HP.out.next H0.out.bel)).mono ?_; rintro e w1 ⟨rfl,hb⟩; generalize (getM P c s).getD .zero=en; simp only [enV])
 go_ret
 exact ⟨rfl,H0.out.bel.trans ((hb.alloc hb.size _).mono H0.out.bel.size)⟩
def delE (r:Option En):Int:=match r with | none=>6 | some x=>if x.d=true then 4 else 0
theorem checkDel_any {p q:Option Addr} {P:Pt} (n:Int) (o:Oq) (w:World) (hP:IsM w q P):
  Calls Tryz.prog 284 #[.agg #[.pointer p,.pointer q,n],.agg o] w
   fun e w'=>e=.returned (.int .i64 (delE (getM P o.c o.s)))∧Below w.heap.size w w':=by
 have H0:=Lh (CSt.start w p q n (oqL o) 73);have HG:=Lh (fun W (h:Below w.heap.size w W)=>get_any (p:=q) n o.c o.s W (hP.next h));clear hP
 cases hr:getM P o.c o.s with
 | none=>
  rw [hr] at HG
  go_enter Tryz.func284,Tryz.ntmps284
  go_wp2_with (go_at_call 275; refine (HG.out _ H0.out.bel).mono ?_; rintro e w1 ⟨rfl,hb⟩; simp only [enV,Option.getD_none,Option.isSome_none,En.zero])
  go_ret
  exact ⟨rfl,H0.out.bel.trans ((hb.alloc hb.size _).mono H0.out.bel.size)⟩
 | some x=>
  rw [hr] at HG
  cases hd:x.d with
  | true=>
   have HD:=Lh (show delE (some x)=4 by unfold delE; simp [hd])
   go_enter Tryz.func284,Tryz.ntmps284
   go_wp2_with (go_at_call 275; refine (HG.out _ H0.out.bel).mono ?_; rintro e w1 ⟨rfl,hb⟩; simp only [enV,Option.getD_some,Option.isSome_some,hd])
   go_ret
   exact ⟨by rw [HD.out]; rfl,H0.out.bel.trans ((hb.alloc hb.size _).mono H0.out.bel.size)⟩
  | false=>
   have HD:=Lh (show delE (some x)=0 by unfold delE; simp [hd])
   go_enter Tryz.func284,Tryz.ntmps284
   go_wp2_with (go_at_call 275; refine (HG.out _ H0.out.bel).mono ?_; rintro e w1 ⟨rfl,hb⟩; simp only [enV,Option.getD_some,Option.isSome_some,hd])
   go_ret
   exact ⟨by rw [HD.out]; rfl,H0.out.bel.trans ((hb.alloc hb.size _).mono H0.out.bel.size)⟩
def insE (r ra:Option En) (N:Int) (o:Oq):Int:=match r with
 | some x=>if x.ac=o.a∧x.an=o.n∧x.ch=o.ch then 4 else 5
 | none=>if noneB o.a o.n=false∧ra.isSome=false then 6 else if 4096≤N then 7 else 0
theorem checkIns_any {p q:Option Addr} {T:Tr} {P:Pt} (n:Int) (o:Oq) (w:World) (hT:Is w p T) (hP:IsM w q P):
  Calls Tryz.prog 285 #[.agg #[.pointer p,.pointer q,n],.agg o] w
   fun e w'=>e=.returned (.int .i64 (insE (getM P o.c o.s) (getM P o.a o.n) T.size o))∧Below w.heap.size w w':=by
 have H0:=Lh (CSt.start w p q n (oqL o) 73);have HG:=Lh (fun W (h:Below w.heap.size w W)=>get_any (p:=q) n o.c o.s W (hP.next h));have HH:=Lh (fun W (h:Below w.heap.size w W)=>hasC_any (p:=p) n o.a o.n W (hP.next h));have HL:=Lh (fun W (h:Below w.heap.size w W)=>len_any W (hT.next h));clear hP hT;generalize getM P o.a o.n=ra at *;obtain ⟨k,c,s,a,nn,ch,hlo,hhi⟩:=o;simp only [oqL] at *;cases hr:getM P c s with
 | some x=>
  rw [hr] at HG;obtain ⟨xa,xn,xc,xd⟩:=x;clear hr HH HL;by_cases h1:xa=a;rotate_left
  ·have HE:=Lh (show insE (some ⟨xa,xn,xc,xd⟩) ra (T.size:Int) ⟨k,c,s,a,nn,ch,hlo,hhi⟩=5 by unfold insE; simp [*]);go_enter Tryz.func285,Tryz.ntmps285;go_wp2_with fail;refine (HG.out _ H0.out.bel).mono ?_;rintro e w1 ⟨rfl,hb⟩;simp only [enV, Option.getD_some, Option.isSome_some];have HW:=Lh (hb.alloc hb.size (.cells #[xa,xn,.int .i32 xc,.bool xd] 351));have H1:=Lh (H0.out.next HW.out);have hB:=Lh (Blk.start w1 [xa,xn,.int .i32 xc,.bool xd] 351);clear H0 hb HW;have k0 := hB.out.c3;have o3:=H1.out.ba.cell 3 rfl;have o4:=H1.out.ba.cell 4 rfl;have o5:=H1.out.ba.cell 5 rfl;go_wp2_with fail;go_ret;exact ⟨by rw [HE.out]; rfl,H1.out.bel⟩
  subst h1;by_cases h2:xn=nn;rotate_left
  ·have HE:=Lh (show insE (some ⟨xa,xn,xc,xd⟩) ra (T.size:Int) ⟨k,c,s,xa,nn,ch,hlo,hhi⟩=5 by unfold insE; simp [*]);go_enter Tryz.func285,Tryz.ntmps285;go_wp2_with fail;refine (HG.out _ H0.out.bel).mono ?_;rintro e w1 ⟨rfl,hb⟩;simp only [enV, Option.getD_some, Option.isSome_some];have HW:=Lh (hb.alloc hb.size (.cells #[xa,xn,.int .i32 xc,.bool xd] 351));have H1:=Lh (H0.out.next HW.out);have hB:=Lh (Blk.start w1 [xa,xn,.int .i32 xc,.bool xd] 351);clear H0 hb HW;have k0 := hB.out.c3;have o3:=H1.out.ba.cell 3 rfl;have o4:=H1.out.ba.cell 4 rfl;have o5:=H1.out.ba.cell 5 rfl;go_wp2_with fail;go_ret;exact ⟨by rw [HE.out]; rfl,H1.out.bel⟩
  subst h2;by_cases h3:xc=ch;rotate_left
  ·have HE:=Lh (show insE (some ⟨xa,xn,xc,xd⟩) ra (T.size:Int) ⟨k,c,s,xa,xn,ch,hlo,hhi⟩=5 by unfold insE; simp [*]);go_enter Tryz.func285,Tryz.ntmps285;go_wp2_with fail;refine (HG.out _ H0.out.bel).mono ?_;rintro e w1 ⟨rfl,hb⟩;simp only [enV, Option.getD_some, Option.isSome_some];have HW:=Lh (hb.alloc hb.size (.cells #[xa,xn,.int .i32 xc,.bool xd] 351));have H1:=Lh (H0.out.next HW.out);have hB:=Lh (Blk.start w1 [xa,xn,.int .i32 xc,.bool xd] 351);clear H0 hb HW;have k0 := hB.out.c3;have o3:=H1.out.ba.cell 3 rfl;have o4:=H1.out.ba.cell 4 rfl;have o5:=H1.out.ba.cell 5 rfl;go_wp2_with fail;go_ret;exact ⟨by rw [HE.out]; rfl,H1.out.bel⟩
  subst h3
  ·have HE:=Lh (show insE (some ⟨xa,xn,xc,xd⟩) ra (T.size:Int) ⟨k,c,s,xa,xn,xc,hlo,hhi⟩=4 by unfold insE; simp [*]);go_enter Tryz.func285,Tryz.ntmps285;go_wp2_with fail;refine (HG.out _ H0.out.bel).mono ?_;rintro e w1 ⟨rfl,hb⟩;simp only [enV, Option.getD_some, Option.isSome_some];have HW:=Lh (hb.alloc hb.size (.cells #[xa,xn,.int .i32 xc,.bool xd] 351));have H1:=Lh (H0.out.next HW.out);have hB:=Lh (Blk.start w1 [xa,xn,.int .i32 xc,.bool xd] 351);clear H0 hb HW;have k0 := hB.out.c3;have o3:=H1.out.ba.cell 3 rfl;have o4:=H1.out.ba.cell 4 rfl;have o5:=H1.out.ba.cell 5 rfl;go_wp2_with fail;go_ret;exact ⟨by rw [HE.out]; rfl,H1.out.bel⟩
 | none=>
  rw [hr] at HG;clear hr;go_enter Tryz.func285,Tryz.ntmps285;go_wp2_with fail;refine (HG.out _ H0.out.bel).mono ?_;rintro e w1 ⟨rfl,hb⟩;simp only [enV, Option.getD_none, Option.isSome_none, En.zero];have HW:=Lh (hb.alloc hb.size (.cells #[.int .i64 0,.int .i64 0,.int .i32 0,.bool false] 351));have H1:=Lh (H0.out.next HW.out);clear H0 hb HG;have o3:=H1.out.ba.cell 3 rfl;have o4:=H1.out.ba.cell 4 rfl;cases hn:noneB a nn with
  | true=>
   go_wp2_with fail;refine (none_any _ _ _).mono ?_;rintro e w2 ⟨rfl,hb2⟩;rw [hn];have H2:=Lh (H1.out.next hb2);clear H1 hb2 o3 o4;have s0:=H2.out.bs.cell 0 rfl;by_cases hT:(4096:Int)≤(T.size:Int);have HE:=Lh (show insE none ra (T.size:Int) ⟨k,c,s,a,nn,ch,hlo,hhi⟩=7 by unfold insE; simp [hn, hT]);rotate_left;have HE:=Lh (show insE none ra (T.size:Int) ⟨k,c,s,a,nn,ch,hlo,hhi⟩=0 by unfold insE; simp [hn, hT]);rotate_left
   all_goals
    go_wp2_with (go_at_call 207; refine (HL.out _ H2.out.bel).mono ?_; rintro e w3 ⟨rfl,hb⟩);go_ret;exact ⟨by rw [HE.out]; rfl,H2.out.bel.trans (hb.mono H2.out.bel.size)⟩
  | false=>
   go_wp2_with fail;refine (none_any _ _ _).mono ?_;rintro e w2 ⟨rfl,hb2⟩;rw [hn];have H2:=Lh (H1.out.next hb2);clear H1 hb2 o3 o4 HW;obtain ⟨s0,s1,s2⟩:=H2.out.bs.c3;have o3:=H2.out.ba.cell 3 rfl;have o4:=H2.out.ba.cell 4 rfl;cases hra:ra.isSome with
   | false=>
    have HE:=Lh (show insE none ra (T.size:Int) ⟨k,c,s,a,nn,ch,hlo,hhi⟩=6 by unfold insE; simp [hn, hra]);go_wp2_with (go_at_call 254; refine (HH.out _ H2.out.bel).mono ?_; rintro e w3 ⟨rfl,hb⟩; rw [hra]);go_ret;exact ⟨by rw [HE.out]; rfl,H2.out.bel.trans (hb.mono H2.out.bel.size)⟩
   | true=>
    go_wp2_with fail;refine (HH.out _ H2.out.bel).mono ?_;rintro e w3 ⟨rfl,hb⟩;rw [hra];have H3:=Lh (H2.out.next hb);clear H2 hb s0 s1 s2 o3 o4;have s0:=H3.out.bs.cell 0 rfl;by_cases hT:(4096:Int)≤(T.size:Int);have HE:=Lh (show insE none ra (T.size:Int) ⟨k,c,s,a,nn,ch,hlo,hhi⟩=7 by unfold insE; simp [hn, hT, hra]);rotate_left;have HE:=Lh (show insE none ra (T.size:Int) ⟨k,c,s,a,nn,ch,hlo,hhi⟩=0 by unfold insE; simp [hn, hT, hra]);rotate_left
    all_goals
     go_wp2_with (go_at_call 207; refine (HL.out _ H3.out.bel).mono ?_; rintro e w4 ⟨rfl,hb⟩);go_ret;exact ⟨by rw [HE.out]; rfl,H3.out.bel.trans (hb.mono H3.out.bel.size)⟩
def chkSt (r ra:Option En) (N:Int) (o:Oq):Int:=if chkE o.k o.c o.s o.a o.n o.ch≠0 then chkE o.k o.c o.s o.a o.n o.ch else if o.k=1 then delE r else insE r ra N o
theorem checkSt_any {p q:Option Addr} {T:Tr} {P:Pt} (n:Int) (o:Oq) (w:World) (hT:Is w p T) (hP:IsM w q P):
  Calls Tryz.prog 267 #[.agg #[.pointer p,.pointer q,n],.agg o] w
   fun e w'=>e=.returned (.int .i64 (chkSt (getM P o.c o.s) (getM P o.a o.n) T.size o))∧Below w.heap.size w w':=by
 have H0:=Lh (CSt.start w p q n (oqL o) 73);have HI:=Lh (fun W (h:Below w.heap.size w W)=>checkIns_any (p:=p) (q:=q) n o W (hT.next h) (hP.next h));have HD:=Lh (fun W (h:Below w.heap.size w W)=>checkDel_any (p:=p) (q:=q) n o W (hP.next h));clear hP hT;generalize getM P o.a o.n=ra at *;generalize getM P o.c o.s=r at *;by_cases hc:chkE o.k o.c o.s o.a o.n o.ch=0
 ·go_enter Tryz.func267,Tryz.ntmps267;go_wp2_with fail;refine (opcheck_any _ _ _ _ _ _ _).mono ?_;rintro e w1 ⟨rfl,hb⟩;rw [hc];have H1:=Lh (H0.out.next hb);clear H0 hb;have s0 := H1.out.bs.c3;have o0 := H1.out.ba.c6;by_cases hk:o.k=1;have hkb:(o.k==1)=true:=by simpa using hk
  have HE:=Lh (show chkSt r ra (T.size:Int) o=delE r by unfold chkSt; rw [if_neg (by simp [hc]),if_pos hk]);clear hk hc HI;go_wp2_with (go_at_call 284; refine (HD.out _ H1.out.bel).mono ?_; rintro e w2 ⟨rfl,hb⟩);rotate_left;have hkb:(o.k==1)=false:=by simpa using hk
  have HE:=Lh (show chkSt r ra (T.size:Int) o=insE r ra (T.size:Int) o by unfold chkSt; rw [if_neg (by simp [hc]),if_neg hk]);clear hk hc HD;go_wp2_with (go_at_call 285; refine (HI.out _ H1.out.bel).mono ?_; rintro e w2 ⟨rfl,hb⟩);rotate_left
  all_goals
   go_ret;exact ⟨by rw [HE.out]; rfl,H1.out.bel.trans (hb.mono H1.out.bel.size)⟩
 ·have HE:=Lh (show chkSt r ra (T.size:Int) o=chkE o.k o.c o.s o.a o.n o.ch by unfold chkSt; rw [if_pos hc]);have hop:=fun W=>opcheck_any o.k o.c o.s o.a o.n o.ch W
  generalize chkE o.k o.c o.s o.a o.n o.ch=z at *;have HO:=Lh hop;have hz:(z==0)=false:=by simpa using hc
  clear hop hc HI HD;go_enter Tryz.func267,Tryz.ntmps267;go_wp2_with (go_at_call 179; refine (HO.out _).mono ?_; rintro e w1 ⟨rfl,hb⟩);go_ret;exact ⟨by rw [HE.out]; rfl,H0.out.bel.trans (hb.mono H0.out.bel.size)⟩
attribute [local go_sem] Oper.semAt_some
theorem keeps_below {W W':World} (hb:Below W.heap.size W W'):KeepsOthers W W':=⟨hb.size,fun k o hk _=>by rw [hb.block k (Array.getElem?_eq_some_iff.1 hk).1]; exact hk⟩
theorem any_snd (p:El→Bool) (pre:List (Nat×El)) (x:Nat×El):((pre++[x]).map Prod.snd).any p=((pre.map Prod.snd).any p||p x.2):=by simp
structure GapI (w w1:World) (c s a n:Int) (pre:List (Nat×El)) (W:World):Prop where
 bb:Blk W w1.heap.size [.bool (noneB a n||(pre.map Prod.snd).any (elB a n))] 4
 br:Blk W (w.heap.size+1+1) [.int .i64 0] 3
 bel:Below w1.heap.size w1 W
 go:gapE c s a n (noneB a n) (pre.map Prod.snd)=pre.length
structure GapX (w:World) (c s a n:Int) (cd:Code) (pre:List (Nat×El)) (W:World):Prop where
 ex:∃ pre0 x,pre=pre0++[x]∧cd=.ret∧Blk W (w.heap.size+1+1) [.int .i64 (x.1:Int)] 3∧Below w.heap.size w W∧gapE c s a n (noneB a n) (pre0.map Prod.snd)=pre0.length∧(noneB a n||(pre0.map Prod.snd).any (elB a n))=true∧lessB x.2.c x.2.s c s=true
theorem GapI.own {w w1:World} {c s a n:Int} {B:Nat} (h:w1.heap.size≤B):OwnFrom B (GapI w w1 c s a n):=fun st A B' row hs hg hr=>
 ⟨hs.bb.grown hg (fun r e=>(hr r e).2),hs.br.grown hg (fun r e=>(hr r e).2),ownFrom_below (β:=List (Nat×El)) (Nat.le_refl _) h st A B' row hs.bel hg hr,hs.go⟩
theorem GapX.own {w:World} {c s a n:Int} {B:Nat} (h:w.heap.size≤B) (cd:Code):OwnFrom B (GapX w c s a n cd):=fun st A B' row hs hg hr=>by
 obtain ⟨pre0,x,h1,h2,h3,h4,h5⟩:=hs.ex;exact ⟨pre0,x,h1,h2,h3.grown hg (fun r e=>(hr r e).2),ownFrom_below (β:=List (Nat×El)) (Nat.le_refl _) h st A B' row h4 hg hr,h5⟩
theorem GapI.alloc {w w1:World} {c s a n:Int} {pre:List (Nat×El)} {W:World} (h:GapI w w1 c s a n pre W) (o:Obj):GapI w w1 c s a n pre (W.alloc o):=
 ⟨h.bb.alloc _,h.br.alloc _,h.bel.alloc h.bel.size _,h.go⟩
theorem GapI.step {w w1:World} {c s a n:Int} {pre:List (Nat×El)} {W W1:World} (h:GapI w w1 c s a n pre W) (hb:Below W.heap.size W W1) (hlt:w.heap.size+1+1<w1.heap.size) {x:Nat×El} {B:Nat} {Ix:Code→List (Nat×El)→World→Prop}
  (hg:((noneB a n||(pre.map Prod.snd).any (elB a n))&&lessB x.2.c x.2.s c s)=false) {b:Bool} (hB:b=((noneB a n||(pre.map Prod.snd).any (elB a n))||elB a n x.2)) (ac:Act):
  ownPostG B (Below w1.heap.size) (GapI w w1 c s a n) Ix (pre++[x]) W .normal ac (W1.setCell ⟨w1.heap.size,0,none⟩ (.bool b)):=by
 refine ⟨((keeps_below hb).trans (KeepsOthers.setCell _ _ _)).from _,(hb.mono h.bel.size).setCell (p:=⟨w1.heap.size,0,none⟩) (Nat.le_refl _) _,?_,(h.br.next hb).other ⟨w1.heap.size,0,none⟩ (by show w.heap.size+1+1≠w1.heap.size; omega) _,(h.bel.trans (hb.mono h.bel.size)).setCell (p:=⟨w1.heap.size,0,none⟩) (Nat.le_refl _) _,?_⟩
 ·rw [any_snd,←Bool.or_assoc,←hB]
  exact (h.bb.next hb).set 0 _
 ·have:=gap_go (c:=c) (s:=s) (a:=a) (n:=n) (b:=noneB a n) (l:=pre.map Prod.snd) (y:=x.2) (by simpa using h.go) hg
  simpa using this
theorem blk_put {W:World} {D b:Nat} {vs:List Value} {t:TypeId} (hB:Blk W b vs t) (hK:W.heap[D]? = some (.deferred (some []))) (o:Obj):Blk (W.putObj D o) b vs t:=by
 have hne:b≠D:=fun e=>by subst e; unfold Blk at hB; rw [hB] at hK; cases hK
 unfold Blk at hB ⊢
 rw [←hB];simp [World.putObj,Ne.symm hne]
theorem gap_any {p q:Option Addr} {T:Tr} (n:Int) (o:Oq) (w:World) (hT:Is w p T) (hs:T.size≤20000):
  Calls Tryz.prog 287 #[.agg #[.pointer p,.pointer q,n],.agg o] w
   fun e w'=>e=.returned (.int .i64 (gapE o.c o.s o.a o.n (noneB o.a o.n) T.els:Nat))∧Below w.heap.size w w':=by
 obtain ⟨k,c,s,a,nn,ch,hlo,hhi⟩:=o;have h00:=CSt.start w p q n [k,c,s,a,nn,.int .i32 ch] 73;have H0:=Lh (And.intro (h00.next ((Below.refl _ _).alloc (Nat.le_refl _) (.cells #[.int .i64 0] 3))) (Blk.startAt (W:=(w.alloc (.cells #[.pointer p,.pointer q,n] 35)).alloc (.cells #[k,c,s,a,nn,.int .i32 ch] 73)) (b:=w.heap.size+1+1) (vs:=[.int .i64 0]) (t:=3) (by simp)));have HT:=Lh (fun W (h:Below w.heap.size w W)=>(hT.next h:Is W p T));have HL:=Lh (fun W (h:Below w.heap.size w W)=>len_any W (hT.next h));clear hT h00;refine (callsIn_wide (n:=5)).1 (callsIn_of_wp_marks Tryz.func287 rfl trivial (wpIn_wide.2 ?_) rfl);simp only [Tryz.ntmps287, List.size_toArray, List.length_cons, List.length_nil, Nat.reduceAdd, Nat.reduceSub, Array.replicate_succ, Array.replicate_zero, List.push_toArray, List.append_toArray, List.nil_append, List.cons_append]
 go_wp2_with fail;refine (none_any _ _ _).mono ?_;rintro e w1 ⟨rfl,hb1⟩
 have H1:=Lh (And.intro (H0.out.1.next hb1) (H0.out.2.next hb1));clear H0 hb1;have hbw:Below w1.heap.size w1 (w1.alloc (.cells #[.bool (noneB a nn)] 4)):=bA;have s0:=(H1.out.1.next hbw).bs.cell 0 rfl;go_wp2_with (go_at_call 222; refine (all_any _ _).mono ?_; rintro e w' ⟨rfl,rfl⟩)
 clear s0;have hbt:=(Blk.startAt (W:=w1.alloc (.cells #[.bool (noneB a nn)] 4)) (b:=w1.heap.size+1) (vs:=[.pointer p]) (t:=30) (by simp)).cell 0 rfl;have hb3:Below w1.heap.size w1 ((w1.alloc (.cells #[.bool (noneB a nn)] 4)).alloc (.cells #[.pointer p] 30)):=hbw.alloc (by simp) _;have hI0:GapI w w1 c s a nn [] ((w1.alloc (.cells #[.bool (noneB a nn)] 4)).alloc (.cells #[.pointer p] 30)):=
  ⟨by simpa using (Blk.start w1 [.bool (noneB a nn)] 4).alloc (.cells #[.pointer p] 30),H1.out.2.next hb3,hb3,rfl⟩
 have hz3:w1.heap.size+1<((w1.alloc (.cells #[.bool (noneB a nn)] 4)).alloc (.cells #[.pointer p] 30)).heap.size:=by simp
 generalize (w1.alloc (.cells #[.bool (noneB a nn)] 4)).alloc (.cells #[.pointer p] 30)=W3 at *
 have hT3:IsT w1.heap.size W3 p T:=(show IsT w1.heap.size w1 p T from HT.out w1 H1.out.1.bel).below hb3;have hlt:=H1.out.2.lt;have hws:=H1.out.1.bel.size;have hmx:Tryz.prog.follows .mixedOrders=true:=by kernel_rfl
 clear hbw;refine (wpIn_wide (n:=5)).1 ?_;refine wpIn_rangeFunc_ownH rfl (by omega) (gf:=251) (lb := #[.pointer (some ⟨w1.heap.size+1,0,none⟩)]) rfl trivial (enters_of Tryz.func251 (by kernel_rfl) rfl)
  (all_stops _ (w1.heap.size+1) w1.heap.size p T W3 hz3 (by omega) (by omega) hbt hT3) belowK_t (belowK_b (by omega)) (Below.refl _ _) (fun _=>rfl)
  (GapI w w1 c s a nn) (GapX w c s a nn) (GapI.own (by omega)) (GapX.own (by omega)) hI0
  (fun x a' W=>∃ Bx,Blk W Bx (elL x.2) 322∧a'={ tmps := #[.agg #[.pointer p,.pointer q,n],.agg #[k,c,s,a,nn,.int .i32 ch],.pointer (some ⟨w.heap.size,0,none⟩),.pointer (some ⟨w.heap.size+1,0,none⟩),.pointer (some ⟨w.heap.size+1+1,0,none⟩),.pointer (some ⟨w1.heap.size,0,none⟩),.int .i64 (x.1:Int),.pointer (some ⟨Bx,0,none⟩),.pointer (some ⟨w.heap.size+1,3,none⟩),.agg #[a,nn],.bool (noneB a nn),.pointer (some ⟨w.heap.size,0,none⟩),.agg #[.pointer p],.func (.func 251) #[] #[.pointer (some ⟨w1.heap.size+1,0,none⟩)],.int .i64 (x.1:Int),.agg x.2,undef,undef,undef,undef,undef,undef,undef,undef,undef,undef,undef,undef,undef,undef,undef,undef,undef,undef,undef,undef],defers:=[] })
  (fun x a' _ W W' row hs hg hr=>by obtain ⟨Bx,hb,he⟩:=hs; exact ⟨Bx,hb.grown hg (fun r e=>(hr r e).2),he⟩)
  ?assign ?body ?done ?stop
 case assign=>
  rintro l' pre x W K hI hK
  gi_wp2
  exact hK _ _ ((KeepsOthers.alloc _ _).from _) ((Below.refl _ W).alloc hI.bel.size _) (hI.alloc _) ⟨W.heap.size,Blk.start _ _ _,rfl⟩
 case body=>
  rintro l' pre ⟨i,ec,es,ech,ed,elo,ehi⟩ a' W hl'-hI ⟨Bx,hbe,rfl⟩ hlt'
  have hbe:Blk W Bx [ec,es,.int .i32 ech,.bool ed] 322:=hbe;have HB:=Lh (H1.out.1.next hI.bel);have HI:=Lh hI;have hdep:∀ k:Nat,((Fence.wide.inRound l').depth.isSome=true→1≤k):=fun k h=>by cases h
  have e0 := hbe.c2;have o1:=HB.out.ba.cell 1 rfl;have o2:=HB.out.ba.cell 2 rfl;have o3:=HB.out.ba.cell 3 rfl;have o4:=HB.out.ba.cell 4 rfl;have hLT:=Lh hlt;have HBE:=Lh hbe;clear hI hlt hbe hI0 hbt hb3 hz3 hT3 hlt'
  cases hB:(noneB a nn||(pre.map Prod.snd).any (elB a nn)) with
  | false=>
   have v0:=HI.out.bb.cell 0 rfl;have vf:=HI.out.bb.free 0;rw [hB] at v0;have HF:=Lh (fun (ac:Act) (b:Bool) (hb:b=elB a nn ⟨ec,es,ech,ed,elo,ehi⟩)=>HI.out.step (Below.refl _ _) hLT.out (x:=(i,⟨ec,es,ech,ed,elo,ehi⟩)) (B:=W3.heap.size) (Ix:=GapX w c s a nn) (by rw [hB]; rfl) (b:=b) (by rw [hB]; exact hb) ac);clear HI hLT hB;by_cases h1:ec=a
   ·subst h1
    by_cases h2:es=nn
    ·subst h2
     gi_wp2_with (refine ⟨trivial,?_⟩)
     exact HF.out _ true (by simp [elB])
    ·gi_wp2_with (refine ⟨trivial,?_⟩)
     exact HF.out _ false (by simp [elB, h2])
   ·gi_wp2_with (refine ⟨trivial,?_⟩)
    exact HF.out _ false (by simp [elB, h1])
  | true=>
   have v0:=HI.out.bb.cell 0 rfl;rw [hB] at v0;have HLE:=Lh (fun (n:Nat) X=>CallsIn.inRound (n:=n) l' (callsIn_wide.2 (less_any ec es c s X)));have HBB:=Lh hB
   cases hl:lessB ec es c s with
   | false=>
    rw [hl] at HLE;have HL2:=Lh hl;clear hl hB
    gi_wp2_with ((try refine ⟨hdep _,?_⟩); (try refine ⟨trivial,?_⟩); gi_at_call 258; refine (HLE.out _ _).mono ?_; rintro e X1 ⟨rfl,hb⟩; refine Hid.out ?_)
    have HF:=Lh (fun (ac:Act)=>HI.out.step hb hLT.out (x:=(i,⟨ec,es,ech,ed,elo,ehi⟩)) (B:=W3.heap.size) (Ix:=GapX w c s a nn) (by rw [HBB.out]; exact HL2.out) (b:=true) (by rw [HBB.out]; rfl) ac);have v1:=(HI.out.bb.next hb).cell 0 rfl;have vf:=(HI.out.bb.next hb).free 0;rw [HBB.out] at v1;clear hb;refine Lh ?_
    gi_wp2_with (refine ⟨trivial,?_⟩)
    exact HF.out _
   | true=>
    rw [hl] at HLE;have HL2:=Lh hl;clear hl hB
    gi_wp2_with ((try refine ⟨hdep _,?_⟩); (try refine ⟨trivial,?_⟩); gi_at_call 258; refine (HLE.out _ _).mono ?_; rintro e X1 ⟨rfl,hb⟩; refine Hid.out ?_)
    have HF:=Lh (And.intro (HI.out.br.next hb) (And.intro ((keeps_below hb).from W3.heap.size) (HI.out.bel.trans (hb.mono HI.out.bel.size))));have v1:=HF.out.1.cell 0 rfl;have vf:=HF.out.1.free 0;clear hb;refine Lh ?_
    gi_wp2_with (refine ⟨trivial,?_⟩)
    exact ⟨HF.out.2.1.trans ((KeepsOthers.setCell _ _ _).from _),pre,(i,⟨ec,es,ech,ed,elo,ehi⟩),rfl,rfl,HF.out.1.set 0 _,(H1.out.1.bel.trans (HF.out.2.2.mono H1.out.1.bel.size)).setCell (p:=⟨w.heap.size+1+1,0,none⟩) (by show w.heap.size≤w.heap.size+1+1; omega) _,HI.out.go,HBB.out,HL2.out⟩
 case stop=>
  rintro D cd pre W hD hpre hX hK
  have hDw:w.heap.size+1+1<D:=by omega
  obtain ⟨pre0,x,rfl,rfl,h1,h2,h3,h4,h5⟩:=hX.ex;obtain ⟨hx,t,ht⟩:=idx_end hpre;have hR:=gap_stop (t:=t) (by simpa using h3) h4 h5;rw [←ht] at hR;have HR:=Lh (show (x.1:Int)=(gapE c s a nn (noneB a nn) T.els:Nat) by rw [hR,hx]; simp);have HH:=Lh (And.intro ((blk_put h1 hK (.deferred none)).cell 0 rfl) (h2.trans (belowK_b (w:=w) (Nat.le_refl _) W D _ (.deferred none) (by omega) hK rfl rfl)));clear hx hR h3 h4 h5 hpre ht h1 h2 hbt hb3 hz3 hT3 hI0 hX;refine wpIn_wide.2 ?_;go_wp2_with fail
  refine ⟨by simp,.inl ⟨_,_,rfl,run_takeDeferred hK,?_⟩⟩;have h1:=HH.out.1;exact ⟨.int .i64 (x.1:Int),by simp [results, Tryz.results287, go_sem, h1],by rw [HR.out],HH.out.2⟩
 case done=>
  rintro D ys W hD rfl hI hK
  have hDw:w.heap.size+1+1<D:=by omega
  have hgo:=hI.go;rw [idx_snd,idx_length,Tr.els_length] at hgo;have HB:=Lh (H1.out.1.next hI.bel);have HI:=Lh hI.br;have HR:=Lh (show (T.size:Int)=(gapE c s a nn (noneB a nn) T.els:Nat) by rw [hgo]);clear hgo hbt hb3 hz3 hT3 hI0 hI;have s0:=HB.out.bs.cell 0 rfl;have HKD:=Lh hK;have r0:=HI.out.cell 0 rfl;clear hK;go_wp2_with fail;refine (HL.out _ HB.out.bel).mono ?_;rintro e w5 ⟨rfl,hb⟩
  have HI1:=Lh (And.intro (HI.out.next hb) (HB.out.bel.trans (hb.mono HB.out.bel.size)));have hK5:w5.heap[D]? = some (.deferred (some [])):=by rw [hb.block D (Array.getElem?_eq_some_iff.1 HKD.out).1]; exact HKD.out
  have r1:=HI1.out.1.cell 0 rfl;have vf:=HI1.out.1.free 0;have HE:=Lh (And.intro (HI1.out.1.set 0 (.int .i64 (T.size:Int))) (HI1.out.2.setCell (p:=⟨w.heap.size+1+1,0,none⟩) (by show w.heap.size≤w.heap.size+1+1; omega) (.int .i64 (T.size:Int))));have HK6:=Lh (show (w5.setCell ⟨w.heap.size+1+1,0,none⟩ (.int .i64 (T.size:Int))).heap[D]? = some (.deferred (some [])) from by
   rw [Below.heap_setCell _ _ _ _ (show D≠w.heap.size+1+1 by omega)]; exact hK5)
  clear r0 s0 hb hK5;go_wp2_with fail
  have HH:=Lh (And.intro ((blk_put HE.out.1 HK6.out (.deferred none)).cell 0 rfl) (HE.out.2.trans (belowK_b (w:=w) (Nat.le_refl _) _ D _ (.deferred none) (by omega) HK6.out rfl rfl)));refine ⟨by simp,.inl ⟨_,_,rfl,run_takeDeferred HK6.out,?_⟩⟩;have h1:=HH.out.1;exact ⟨.int .i64 (T.size:Int),by simp [results, Tryz.results287, go_sem, h1],by rw [HR.out],HH.out.2⟩
structure FndI (w w1:World) (c s:Int) (pre:List (Nat×El)) (W:World):Prop where
 br:Blk W (w.heap.size+1+1) [.int .i64 0] 3
 bo:Blk W (w.heap.size+1+1+1) [.bool false] 4
 bel:Below w1.heap.size w1 W
 go:∀ z∈pre.map Prod.snd,elB c s z=false
structure FndX (w:World) (c s:Int) (cd:Code) (pre:List (Nat×El)) (W:World):Prop where
 ex:∃ pre0 x,pre=pre0++[x]∧cd=.ret∧Blk W (w.heap.size+1+1) [.int .i64 (x.1:Int)] 3∧Blk W (w.heap.size+1+1+1) [.bool true] 4∧Below w.heap.size w W∧(∀ z∈pre0.map Prod.snd,elB c s z=false)∧elB c s x.2=true
theorem FndI.own {w w1:World} {c s:Int} {B:Nat} (h:w1.heap.size≤B):OwnFrom B (FndI w w1 c s):=fun st A B' row hs hg hr=>
 ⟨hs.br.grown hg (fun r e=>(hr r e).2),hs.bo.grown hg (fun r e=>(hr r e).2),ownFrom_below (β:=List (Nat×El)) (Nat.le_refl _) h st A B' row hs.bel hg hr,hs.go⟩
theorem FndX.own {w:World} {c s:Int} {B:Nat} (h:w.heap.size≤B) (cd:Code):OwnFrom B (FndX w c s cd):=fun st A B' row hs hg hr=>by
 obtain ⟨pre0,x,h1,h2,h3,h3',h4,h5⟩:=hs.ex;exact ⟨pre0,x,h1,h2,h3.grown hg (fun r e=>(hr r e).2),h3'.grown hg (fun r e=>(hr r e).2),ownFrom_below (β:=List (Nat×El)) (Nat.le_refl _) h st A B' row h4 hg hr,h5⟩
theorem FndI.alloc {w w1:World} {c s:Int} {pre:List (Nat×El)} {W:World} (h:FndI w w1 c s pre W) (o:Obj):FndI w w1 c s pre (W.alloc o):=
 ⟨h.br.alloc _,h.bo.alloc _,h.bel.alloc h.bel.size _,h.go⟩
theorem findC_any {p q:Option Addr} {T:Tr} {P:Pt} (n c s:Int) (w:World) (hT:Is w p T) (hP:IsM w q P) (hs:T.size≤20000) (hh:(getM P c s).isSome=decide (0≤fnd (elB c s) T.els 0)):
  Calls Tryz.prog 227 #[.agg #[.pointer p,.pointer q,n],.agg #[c,s]] w
   fun e w'=>e=.returned (.tuple #[.int .i64 (fnd (elB c s) T.els 0),.bool (decide (0≤fnd (elB c s) T.els 0))])∧Below w.heap.size w w':=by
 have h00:=CSt.start w p q n [c,s] 71;have h01:=h00.next ((Below.refl _ _).alloc (Nat.le_refl _) (.cells #[.int .i64 0] 3));have h02:=Blk.startAt (W:=(w.alloc (.cells #[.pointer p,.pointer q,n] 35)).alloc (.cells #[c,s] 71)) (b:=w.heap.size+1+1) (vs:=[.int .i64 0]) (t:=3) (by simp);have H0:=Lh (And.intro (h01.next ((Below.refl _ _).alloc (Nat.le_refl _) (.cells #[.bool false] 4))) (And.intro (h02.alloc (.cells #[.bool false] 4)) (Blk.startAt (W:=((w.alloc (.cells #[.pointer p,.pointer q,n] 35)).alloc (.cells #[c,s] 71)).alloc (.cells #[.int .i64 0] 3)) (b:=w.heap.size+1+1+1) (vs:=[.bool false]) (t:=4) (by simp))));have HT:=Lh (fun W (h:Below w.heap.size w W)=>(hT.next h:Is W p T));have HH:=Lh (fun W (h:Below w.heap.size w W)=>hasC_any (p:=p) n c s W (hP.next h));rw [hh] at HH;clear hT hP h00 h01 h02 hh
 cases hb0:decide (0≤fnd (elB c s) T.els 0) with
 | false=>
  rw [hb0] at HH;have hf:fnd (elB c s) T.els 0 = -1:=by
   rcases fnd_spec (elB c s) T.els 0 with ⟨h,_⟩ | ⟨i,_,h,_⟩
   ·exact h
   ·rw [h] at hb0; simp at hb0
  have HF:=Lh hf;clear hf hb0
  go_enter Tryz.func227,Tryz.ntmps227
  go_wp2_with fail;refine (HH.out _ H0.out.1.bel).mono ?_;rintro e w1 ⟨rfl,hb⟩
  have H1:=Lh (And.intro (H0.out.1.next hb) (And.intro (H0.out.2.1.next hb) (H0.out.2.2.next hb)));clear H0 hb;have r0:=H1.out.2.1.cell 0 rfl;have rf:=H1.out.2.1.free 0;have o0:=H1.out.2.2.cell 0 rfl;have of:=H1.out.2.2.free 0;have o1:=fun v=>(H1.out.2.2.other ⟨w.heap.size+1+1,0,none⟩ (by show w.heap.size+1+1+1≠w.heap.size+1+1; omega) v).cell 0 rfl
  have o2:=fun v=>(H1.out.2.2.other ⟨w.heap.size+1+1,0,none⟩ (by show w.heap.size+1+1+1≠w.heap.size+1+1; omega) v).free 0
  have HZ:=Lh (And.intro (((H1.out.2.1.set 0 (.int .i64 (-1))).other ⟨w.heap.size+1+1+1,0,none⟩ (by show w.heap.size+1+1≠w.heap.size+1+1+1; omega) (.bool false)).cell 0 rfl) (((H1.out.2.2.other ⟨w.heap.size+1+1,0,none⟩ (by show w.heap.size+1+1+1≠w.heap.size+1+1; omega) (.int .i64 (-1))).set 0 (.bool false)).cell 0 rfl));go_wp2_with fail
  have z1:=HZ.out.1;have z2:=HZ.out.2;exact bodyPost_ret (v:=.tuple #[.int .i64 (-1),.bool false]) (by simp [results, Tryz.results227, go_sem, z1, z2]) rfl
   ⟨by rw [HF.out],(H1.out.1.bel.setCell (p:=⟨w.heap.size+1+1,0,none⟩) (by show w.heap.size≤w.heap.size+1+1; omega) _).setCell (p:=⟨w.heap.size+1+1+1,0,none⟩) (by show w.heap.size≤w.heap.size+1+1+1; omega) _⟩
 | true=>
  rw [hb0] at HH;have HB0:=Lh hb0;clear hb0;refine (callsIn_wide (n:=5)).1 (callsIn_of_wp_marks Tryz.func227 rfl trivial (wpIn_wide.2 ?_) rfl);simp only [Tryz.ntmps227, List.size_toArray, List.length_cons, List.length_nil, Nat.reduceAdd, Nat.reduceSub, Array.replicate_succ, Array.replicate_zero, List.push_toArray, List.append_toArray, List.nil_append, List.cons_append]
  go_wp2_with fail;refine (HH.out _ H0.out.1.bel).mono ?_;rintro e w1 ⟨rfl,hb⟩
  have H1:=Lh (And.intro (H0.out.1.next hb) (And.intro (H0.out.2.1.next hb) (H0.out.2.2.next hb)));clear H0 hb HH;have s0:=H1.out.1.bs.cell 0 rfl;go_wp2_with (go_at_call 222; refine (all_any _ _).mono ?_; rintro e w' ⟨rfl,rfl⟩)
  clear s0;have hbt:=(Blk.start w1 [.pointer p] 30).cell 0 rfl;have hb3:Below w1.heap.size w1 (w1.alloc (.cells #[.pointer p] 30)):=bA;have hI0:FndI w w1 c s [] (w1.alloc (.cells #[.pointer p] 30)):=⟨H1.out.2.1.next hb3,H1.out.2.2.next hb3,hb3,by simp⟩
  have hz3:w1.heap.size<(w1.alloc (.cells #[.pointer p] 30)).heap.size:=by simp
  generalize w1.alloc (.cells #[.pointer p] 30)=W3 at *
  have hT3:IsT w1.heap.size W3 p T:=(show IsT w1.heap.size w1 p T from HT.out w1 H1.out.1.bel).below hb3;have hlt:=H1.out.2.2.lt;have hmx:Tryz.prog.follows .mixedOrders=true:=by kernel_rfl
  refine (wpIn_wide (n:=5)).1 ?_;refine wpIn_rangeFunc_ownH rfl (by omega) (gf:=251) (lb := #[.pointer (some ⟨w1.heap.size,0,none⟩)]) rfl trivial (enters_of Tryz.func251 (by kernel_rfl) rfl)
   (all_stops _ w1.heap.size w1.heap.size p T W3 hz3 (by omega) (by omega) hbt hT3) belowK_t (belowK_b (by omega)) (Below.refl _ _) (fun _=>rfl)
   (FndI w w1 c s) (FndX w c s) (FndI.own (by omega)) (FndX.own (by omega)) hI0
   (fun x a' W=>∃ Bx,Blk W Bx (elL x.2) 322∧a'={ tmps := #[.agg #[.pointer p,.pointer q,n],.agg #[c,s],.pointer (some ⟨w.heap.size,0,none⟩),.pointer (some ⟨w.heap.size+1,0,none⟩),.pointer (some ⟨w.heap.size+1+1,0,none⟩),.pointer (some ⟨w.heap.size+1+1+1,0,none⟩),.int .i64 (x.1:Int),.pointer (some ⟨Bx,0,none⟩),.agg #[.pointer p,.pointer q,n],.agg #[c,s],.bool true,.bool false,.pointer (some ⟨w.heap.size,0,none⟩),.agg #[.pointer p],.func (.func 251) #[] #[.pointer (some ⟨w1.heap.size,0,none⟩)],.int .i64 (x.1:Int),.agg x.2,undef,undef,undef,undef,undef],defers:=[] })
   (fun x a' _ W W' row hs hg hr=>by obtain ⟨Bx,hb,he⟩:=hs; exact ⟨Bx,hb.grown hg (fun r e=>(hr r e).2),he⟩)
   ?assign ?body ?done ?stop
  case assign=>
   rintro l' pre x W K hI hK
   gi_wp2
   exact hK _ _ ((KeepsOthers.alloc _ _).from _) ((Below.refl _ W).alloc hI.bel.size _) (hI.alloc _) ⟨W.heap.size,Blk.start _ _ _,rfl⟩
  case body=>
   rintro l' pre ⟨i,ec,es,ech,ed,elo,ehi⟩ a' W hl'-hI ⟨Bx,hbe,rfl⟩ hlt'
   have hbe:Blk W Bx [ec,es,.int .i32 ech,.bool ed] 322:=hbe;have HB:=Lh (H1.out.1.next hI.bel);have HI:=Lh hI;have e0 := hbe.c2;obtain ⟨o0,o1⟩:=HB.out.ba.c2;have hLT:=Lh hlt;have HF:=Lh (fun (ac:Act) (h:elB c s ⟨ec,es,ech,ed,elo,ehi⟩=false)=>show ownPostG W3.heap.size (Below w1.heap.size) (FndI w w1 c s) (FndX w c s) (pre++[(i,(⟨ec,es,ech,ed,elo,ehi⟩:El))]) W .normal ac W from
    ⟨KeepsFrom.refl _ _,Below.refl _ _,hI.br,hI.bo,hI.bel,by
     intro z hz
     rw [List.map_append,List.mem_append] at hz;rcases hz with hz | hz
     ·exact hI.go z hz
     ·simp only [List.map_cons, List.map_nil, List.mem_singleton] at hz; subst hz; exact h⟩)
   clear hI hlt hbe hI0 hbt hb3 hz3 hT3 hlt';by_cases h1:ec=c
   ·subst h1
    by_cases h2:es=s
    ·subst h2
     have r0:=HI.out.br.cell 0 rfl;have rf:=HI.out.br.free 0;have p0:=HI.out.bo.cell 0 rfl;have pf:=HI.out.bo.free 0;have p1:=fun v=>(HI.out.bo.other ⟨w.heap.size+1+1,0,none⟩ (by show w.heap.size+1+1+1≠w.heap.size+1+1; omega) v).cell 0 rfl
     have p2:=fun v=>(HI.out.bo.other ⟨w.heap.size+1+1,0,none⟩ (by show w.heap.size+1+1+1≠w.heap.size+1+1; omega) v).free 0
     gi_wp2_with (refine ⟨trivial,?_⟩)
     exact ⟨((KeepsOthers.setCell _ _ _).trans (KeepsOthers.setCell _ _ _)).from _,pre,(i,⟨ec,es,ech,ed,elo,ehi⟩),rfl,rfl,(HI.out.br.set 0 _).other ⟨w.heap.size+1+1+1,0,none⟩ (by show w.heap.size+1+1≠w.heap.size+1+1+1; omega) _,
      (HI.out.bo.other ⟨w.heap.size+1+1,0,none⟩ (by show w.heap.size+1+1+1≠w.heap.size+1+1; omega) _).set 0 _,
      ((H1.out.1.bel.trans (HI.out.bel.mono H1.out.1.bel.size)).setCell (p:=⟨w.heap.size+1+1,0,none⟩) (by show w.heap.size≤w.heap.size+1+1; omega) _).setCell (p:=⟨w.heap.size+1+1+1,0,none⟩) (by show w.heap.size≤w.heap.size+1+1+1; omega) _,HI.out.go,by simp [elB]⟩
    ·gi_wp2_with (refine ⟨trivial,?_⟩)
     exact HF.out _ (by simp [elB, h2])
   ·gi_wp2_with (refine ⟨trivial,?_⟩)
    exact HF.out _ (by simp [elB, h1])
  case stop=>
   rintro D cd pre W hD hpre hX hK
   have hDw:w.heap.size+1+1+1<D:=by omega
   obtain ⟨pre0,x,rfl,rfl,h1,h1',h2,h3,h4⟩:=hX.ex;obtain ⟨hx,t,ht⟩:=idx_end hpre;have hR:=fnd_row (t:=t) h3 h4;rw [←ht] at hR;have HR:=Lh (show (x.1:Int)=fnd (elB c s) T.els 0 by rw [hR,hx]; simp);have HH:=Lh (And.intro ((blk_put h1 hK (.deferred none)).cell 0 rfl) (And.intro ((blk_put h1' hK (.deferred none)).cell 0 rfl) (h2.trans (belowK_b (w:=w) (Nat.le_refl _) W D _ (.deferred none) (by omega) hK rfl rfl))));clear hx hR h3 h4 hpre ht h1 h1' h2 hbt hb3 hz3 hT3 hI0 hX;refine wpIn_wide.2 ?_;go_wp2_with fail
   refine ⟨by simp,.inl ⟨_,_,rfl,run_takeDeferred hK,?_⟩⟩;have h1:=HH.out.1;have h2:=HH.out.2.1;exact ⟨.tuple #[.int .i64 (x.1:Int),.bool true],by simp [results, Tryz.results227, go_sem, h1, h2],by rw [HR.out],HH.out.2.2⟩
  case done=>
   rintro D ys W hD rfl hI hK
   have hgo:=hI.go;rw [idx_snd] at hgo;have:=fnd_neg.2 hgo;have h0:=of_decide_eq_true HB0.out;omega
theorem is_kt {W W':World} {p:Option Addr} {T:Tr} (h:Is W p T) (k:KT 363 W W') (hs:W.heap.size≤W'.heap.size):Is W' p T:=(IsT.kt k h).mono hs
theorem isM_kt {W W':World} {q:Option Addr} {P:Pt} (h:IsM W q P) (k:KT 353 W W') (hs:W.heap.size≤W'.heap.size):IsM W' q P:=(IsP.kt k h).mono hs
structure WSt (w:World) (sv l:List Value) (t:TypeId) (rv:List Value) (W:World):Prop where
 bel:Below w.heap.size w W
 bs:Blk W w.heap.size sv 35
 ba:Blk W (w.heap.size+1) l t
 br:Blk W (w.heap.size+1+1) rv 35
theorem WSt.next {w:World} {sv l:List Value} {t:TypeId} {rv:List Value} {W W':World} (h:WSt w sv l t rv W) (hb:Below W.heap.size W W'):WSt w sv l t rv W':=
 ⟨h.bel.trans (hb.mono h.bel.size),h.bs.next hb,h.ba.next hb,h.br.next hb⟩
theorem WSt.start (w:World) (sv l:List Value) (t:TypeId):WSt w sv l t [.pointer none,.pointer none,.int .i64 0] (((w.alloc (.cells ⟨sv⟩ 35)).alloc (.cells ⟨l⟩ t)).alloc (.cells #[.pointer none,.pointer none,.int .i64 0] 35)):=
 ⟨((bA).alloc (by simp) _).alloc (by simp; omega) _,((Blk.start w _ _).alloc _).alloc _,(Blk.startAt (by simp)).alloc _,Blk.startAt (by simp)⟩
theorem WSt.setS {w:World} {sv l:List Value} {t:TypeId} {rv:List Value} {W:World} (h:WSt w sv l t rv W) (i:Nat) (v:Value):WSt w (sv.set i v) l t rv (W.setCell ⟨w.heap.size,i,none⟩ v)∧(∀ u,35≠u→KT u W (W.setCell ⟨w.heap.size,i,none⟩ v)):=
 ⟨⟨h.bel.setCell (p:=⟨w.heap.size,i,none⟩) (Nat.le_refl _) _,h.bs.set i v,h.ba.other ⟨w.heap.size,i,none⟩ (by show w.heap.size+1≠w.heap.size; omega) _,h.br.other ⟨w.heap.size,i,none⟩ (by show w.heap.size+1+1≠w.heap.size; omega) _⟩,fun _ hu=>KT.set h.bs hu i v⟩
theorem WSt.setR {w:World} {sv l:List Value} {t:TypeId} {rv:List Value} {W:World} (h:WSt w sv l t rv W) (i:Nat) (v:Value):WSt w sv l t (rv.set i v) (W.setCell ⟨w.heap.size+1+1,i,none⟩ v)∧(∀ u,35≠u→KT u W (W.setCell ⟨w.heap.size+1+1,i,none⟩ v)):=
 ⟨⟨h.bel.setCell (p:=⟨w.heap.size+1+1,i,none⟩) (by show w.heap.size≤w.heap.size+1+1; omega) _,h.bs.other ⟨w.heap.size+1+1,i,none⟩ (by show w.heap.size≠w.heap.size+1+1; omega) _,h.ba.other ⟨w.heap.size+1+1,i,none⟩ (by show w.heap.size+1≠w.heap.size+1+1; omega) _,h.br.set i v⟩,fun _ hu=>KT.set h.br hu i v⟩
theorem WSt.out {w:World} {l:List Value} {t:TypeId} {p q:Option Addr} {n:Int} {sv:List Value} {r0 r1 r2:Value} {T:Tr} {P:Pt} {W:World} (h:WSt w sv l t [r0,r1,r2] W) (hT:Is W p T) (hP:IsM W q P):
  (WSt w sv l t [.pointer p,.pointer q,n] (((W.setCell ⟨w.heap.size+1+1,0,none⟩ (.pointer p)).setCell ⟨w.heap.size+1+1,1,none⟩ (.pointer q)).setCell ⟨w.heap.size+1+1,2,none⟩ n)) ∧
  Is (((W.setCell ⟨w.heap.size+1+1,0,none⟩ (.pointer p)).setCell ⟨w.heap.size+1+1,1,none⟩ (.pointer q)).setCell ⟨w.heap.size+1+1,2,none⟩ n) p T ∧
  IsM (((W.setCell ⟨w.heap.size+1+1,0,none⟩ (.pointer p)).setCell ⟨w.heap.size+1+1,1,none⟩ (.pointer q)).setCell ⟨w.heap.size+1+1,2,none⟩ n) q P:=by
 obtain ⟨a1,k1⟩:=h.setR 0 (.pointer p);obtain ⟨a2,k2⟩:=a1.setR 1 (.pointer q);obtain ⟨a3,k3⟩:=a2.setR 2 n;have k:=fun u hu=>((k1 u hu).trans (k2 u hu)).trans (k3 u hu)
 exact ⟨a3,is_kt hT (k _ (by decide)) (by simp),isM_kt hP (k _ (by decide)) (by simp)⟩
theorem withC_any {p q:Option Addr} {T:Tr} {P:Pt} (o:Oq) (w:World) (hT:Is w p T) (hP:IsM w q P) (hs:T.size≤5000) (hn:(els P).length≤1000000):
  Calls Tryz.prog 269 #[.agg #[.pointer p,.pointer q,.int .i64 (cnt P)],.agg o] w
   fun r w'=>Below w.heap.size w w'∧∃ p' q':Option Addr,r=.returned (.tuple #[.agg #[.pointer p',.pointer q',.int .i64 (cnt (putM P o.c o.s ⟨o.a,o.n,o.ch,false⟩))],.int .i64 (gapE o.c o.s o.a o.n (noneB o.a o.n) T.els:Nat)]) ∧
    Is w' p' (insTop T (gapE o.c o.s o.a o.n (noneB o.a o.n) T.els:Nat) ⟨o.c,o.s,o.ch,false,o.lo,o.hi⟩)∧IsM w' q' (putM P o.c o.s ⟨o.a,o.n,o.ch,false⟩):=by
 have H0:=Lh (WSt.start w [.pointer p,.pointer q,.int .i64 (cnt P)] (oqL o) 73);have HG:=Lh (fun W (h:Below w.heap.size w W)=>gap_any (q:=q) (cnt P) o W (hT.next h) (by omega));have hGle:=gap_le o.c o.s o.a o.n T.els (noneB o.a o.n);rw [Tr.els_length] at hGle;generalize gapE o.c o.s o.a o.n (noneB o.a o.n) T.els=G at *
 have HIn:=Lh (fun W (h:Below w.heap.size w W)=>Insert_any (G:Int) ⟨o.c,o.s,o.ch,false,o.lo,o.hi⟩ W (hT.next h) (by omega));have HPu:=Lh (fun W (h:Below w.heap.size w W)=>Put_any o.c o.s ⟨o.a,o.n,o.ch,false⟩ W (hP.next h) hn);clear hP hT hn;generalize cnt (putM P o.c o.s ⟨o.a,o.n,o.ch,false⟩)=N' at *
 generalize putM P o.c o.s ⟨o.a,o.n,o.ch,false⟩=P' at *
 generalize insTop T (G:Int) ⟨o.c,o.s,o.ch,false,o.lo,o.hi⟩=T' at *
 generalize insTB T (G:Int)=bI at *
 generalize mayB o.c o.s=bP at *
 generalize cnt P=N at *
 go_enter Tryz.func269,Tryz.ntmps269
 go_wp2_with fail;refine (HG.out _ H0.out.bel).mono ?_;rintro e w1 ⟨rfl,hb⟩
 have H1:=Lh (H0.out.next hb);clear H0 hb HG;have s0:=H1.out.bs.cell 0 rfl;have o1:=H1.out.ba.cell 1 rfl;have o2:=H1.out.ba.cell 2 rfl;have o5:=H1.out.ba.cell 5 rfl;go_wp2_with fail;refine (HIn.out _ H1.out.bel).mono ?_;rintro e w2 ⟨p',rfl,hI,hb⟩
 have H2:=Lh (And.intro (H1.out.next hb) hI);clear H1 hb hI s0 o1 o2 o5 HIn;have s0:=H2.out.1.bs.cell 0 rfl;have sf:=H2.out.1.bs.free 0;have hA:=H2.out.1.setS 0 (.pointer p');have HA:=Lh (And.intro hA.1 (is_kt H2.out.2 (hA.2 _ (by decide)) (by simp)));have t1:=HA.out.1.bs.cell 1 rfl;have t2:=HA.out.1.bs.cell 2 rfl;have o1:=HA.out.1.ba.cell 1 rfl;have o2:=HA.out.1.ba.cell 2 rfl;have o3:=HA.out.1.ba.cell 3 rfl;have o4:=HA.out.1.ba.cell 4 rfl;have o5:=HA.out.1.ba.cell 5 rfl;clear hA;go_wp2_with fail;refine (HPu.out _ HA.out.1.bel).mono ?_;rintro e w3 ⟨q',rfl,hM,hb⟩
 have HC:=Lh (And.intro (HA.out.1.next hb) (And.intro (HA.out.2.next hb) hM));clear HA H2 hb hM s0 sf t1 t2 o1 o2 o3 o4 o5 HPu;have s1:=HC.out.1.bs.free 1;have s2:=(HC.out.1.setS 1 (.pointer q')).1.bs.free 2;have s3:=HC.out.1.bs.cell 1 rfl;have s4:=(HC.out.1.setS 1 (.pointer q')).1.bs.cell 2 rfl;have hD:=(HC.out.1.setS 1 (.pointer q')).1.setS 2 N';have hK:=fun u hu=>(((HC.out.1.setS 1 (.pointer q')).2 u hu).trans (hD.2 u hu))
 have HD:=Lh (And.intro hD.1 (And.intro (is_kt HC.out.2.1 (hK _ (by decide)) (by simp)) (isM_kt HC.out.2.2 (hK _ (by decide)) (by simp))));have HE:=Lh (HD.out.1.out (n:=N') HD.out.2.1 HD.out.2.2);have d0 := HD.out.1.bs.c3;have e0:=HD.out.1.br.cell 0 rfl;have e1:=(HD.out.1.setR 0 (.pointer p')).1.br.cell 1 rfl;have e2:=((HD.out.1.setR 0 (.pointer p')).1.setR 1 (.pointer q')).1.br.cell 2 rfl;have f0:=HD.out.1.br.free 0;have f1:=(HD.out.1.setR 0 (.pointer p')).1.br.free 1;have f2:=((HD.out.1.setR 0 (.pointer p')).1.setR 1 (.pointer q')).1.br.free 2;clear hD hK HC;go_wp2_with fail
 have z0 := HE.out.1.br.c3;exact bodyPost_ret (by simp [results, Tryz.results269, go_sem, z0]) rfl ⟨HE.out.1.bel,p',q',rfl,HE.out.2.1,HE.out.2.2⟩
theorem woutC_any {p q:Option Addr} {T:Tr} {P:Pt} (c s:Int) (x:En) (hlo : -2147483648≤x.ch) (hhi:x.ch≤2147483647) (i:Nat) (w:World) (hT:Is w p T) (hP:IsM w q P) (hs:T.size≤5000) (hn:(els P).length≤1000000)
  (hx:getM P c s=some x) (hf:fnd (elB c s) T.els 0=(i:Int)):
  Calls Tryz.prog 268 #[.agg #[.pointer p,.pointer q,.int .i64 (cnt P)],.agg #[c,s]] w
   fun r w'=>Below w.heap.size w w'∧∃ p' q':Option Addr,r=.returned (.tuple #[.agg #[.pointer p',.pointer q',.int .i64 (cnt (putM P c s ⟨x.ac,x.an,x.ch,true⟩))],.int .i64 (i:Int)]) ∧
    Is w' p' (setTop T (i:Int) ⟨c,s,x.ch,true,hlo,hhi⟩)∧IsM w' q' (putM P c s ⟨x.ac,x.an,x.ch,true⟩):=by
 have H0:=Lh (WSt.start w [.pointer p,.pointer q,.int .i64 (cnt P)] [c,s] 71);have hFi:=fun W (h:Below w.heap.size w W)=>findC_any (cnt P) c s W (hT.next h) (hP.next h) (by omega) (by rw [hx,hf]; simp)
 rw [hf] at hFi;have hd0:decide (0≤(i:Int))=true:=by simp
 rw [hd0] at hFi;have HFi:=Lh hFi;have hGe:=fun W (h:Below w.heap.size w W)=>get_any (cnt P) c s W (hP.next h)
 rw [hx] at hGe;have HGe:=Lh hGe;have HSe:=Lh (fun W (h:Below w.heap.size w W)=>Set_any (i:Int) ⟨c,s,x.ch,true,hlo,hhi⟩ W (hT.next h) (by omega));have HPu:=Lh (fun W (h:Below w.heap.size w W)=>Put_any c s ⟨x.ac,x.an,x.ch,true⟩ W (hP.next h) hn);clear hP hT hn hFi hGe hx hf hd0;generalize cnt (putM P c s ⟨x.ac,x.an,x.ch,true⟩)=N' at *
 generalize putM P c s ⟨x.ac,x.an,x.ch,true⟩=P' at *
 generalize setTop T (i:Int) ⟨c,s,x.ch,true,hlo,hhi⟩=T' at *
 generalize setTB T (i:Int)=bI at *
 generalize mayB c s=bP at *
 generalize cnt P=N at *
 go_enter Tryz.func268,Tryz.ntmps268
 go_wp2_with fail;refine (HFi.out _ H0.out.bel).mono ?_;rintro e w1 ⟨rfl,hb⟩
 have H1:=Lh (H0.out.next hb);clear H0 hb HFi;have s1:=H1.out.bs.cell 1 rfl;have s2:=H1.out.bs.cell 2 rfl;have o1 := H1.out.ba.c2;go_wp2_with fail;refine (HGe.out _ H1.out.bel).mono ?_;rintro e w2 ⟨rfl,hb⟩; simp only [enV, Option.getD_some, Option.isSome_some]
 have HW:=Lh (hb.alloc hb.size (.cells #[x.ac,x.an,.int .i32 x.ch,.bool true] 351));have H2:=Lh (And.intro (H1.out.next HW.out) (Blk.start w2 [x.ac,x.an,.int .i32 x.ch,.bool true] 351));clear H1 hb s1 s2 o1 HGe HW;have k2:=H2.out.2.cell 2 rfl;have s0:=H2.out.1.bs.cell 0 rfl;have o1 := H2.out.1.ba.c2;obtain ⟨be,hbe⟩:∃ be,be=w2.heap.size:=⟨_,rfl⟩
 have HBE:=Lh hbe;clear hbe;go_wp2_with fail;refine (HSe.out _ H2.out.1.bel).mono ?_;rintro e w3 ⟨p',rfl,hI,hb⟩
 have H3:=Lh (And.intro (H2.out.1.next hb) (And.intro hI (H2.out.2.next hb)));rw [←HBE.out] at H3;rw [←HBE.out];clear H2 hb hI s0 o1 k2 HSe;have s0:=H3.out.1.bs.cell 0 rfl;have sf:=H3.out.1.bs.free 0;have hne:be≠w.heap.size:=fun e=>by
  have h1:=H3.out.2.2;have h2:=H3.out.1.bs;subst e;unfold Blk at h1 h2
  rw [h1] at h2;simp at h2
 have hA:=H3.out.1.setS 0 (.pointer p');have HA:=Lh (And.intro hA.1 (And.intro (is_kt H3.out.2.1 (hA.2 _ (by decide)) (by simp)) (H3.out.2.2.other ⟨w.heap.size,0,none⟩ hne (.pointer p'))));have t1:=HA.out.1.bs.cell 1 rfl;have t2:=HA.out.1.bs.cell 2 rfl;have o1 := HA.out.1.ba.c2;obtain ⟨k0,k1,k2,k3⟩:=HA.out.2.2.c4;clear hA hne;go_wp2_with fail;refine (HPu.out _ HA.out.1.bel).mono ?_;rintro e w4 ⟨q',rfl,hM,hb⟩
 have HC:=Lh (And.intro (HA.out.1.next hb) (And.intro (HA.out.2.1.next hb) hM));clear HA H3 hb hM s0 sf t1 t2 o1 k0 k1 k2 k3 HPu;have s1:=HC.out.1.bs.free 1;have s2:=(HC.out.1.setS 1 (.pointer q')).1.bs.free 2;have s3:=HC.out.1.bs.cell 1 rfl;have s4:=(HC.out.1.setS 1 (.pointer q')).1.bs.cell 2 rfl;have hD:=(HC.out.1.setS 1 (.pointer q')).1.setS 2 N';have hK:=fun u hu=>(((HC.out.1.setS 1 (.pointer q')).2 u hu).trans (hD.2 u hu))
 have HD:=Lh (And.intro hD.1 (And.intro (is_kt HC.out.2.1 (hK _ (by decide)) (by simp)) (isM_kt HC.out.2.2 (hK _ (by decide)) (by simp))));have HE:=Lh (HD.out.1.out (n:=N') HD.out.2.1 HD.out.2.2);have d0 := HD.out.1.bs.c3;have e0:=HD.out.1.br.cell 0 rfl;have e1:=(HD.out.1.setR 0 (.pointer p')).1.br.cell 1 rfl;have e2:=((HD.out.1.setR 0 (.pointer p')).1.setR 1 (.pointer q')).1.br.cell 2 rfl;have f0:=HD.out.1.br.free 0;have f1:=(HD.out.1.setR 0 (.pointer p')).1.br.free 1;have f2:=((HD.out.1.setR 0 (.pointer p')).1.setR 1 (.pointer q')).1.br.free 2;clear hD hK HC;go_wp2_with fail
 have z0 := HE.out.1.br.c3;exact bodyPost_ret (by simp [results, Tryz.results268, go_sem, z0]) rfl ⟨HE.out.1.bel,p',q',rfl,HE.out.2.1,HE.out.2.2⟩
theorem ap_start (w:World) (p q:Option Addr) (n:Int) (o:Oq):WSt w [.pointer p,.pointer q,n] (oqL o) 73 [.pointer none,.pointer none,.int .i64 0] (((w.alloc (.cells #[.pointer p,.pointer q,n] 35)).alloc (.cells ⟨oqL o⟩ 73)).alloc (.cells #[.pointer none,.pointer none,.int .i64 0] 35)):=
 WSt.start w _ _ _
theorem applyC_err {p q:Option Addr} {T:Tr} {P:Pt} (n:Int) (o:Oq) (w:World) (hT:Is w p T) (hP:IsM w q P) {E:Int} (hE:chkSt (getM P o.c o.s) (getM P o.a o.n) T.size o=E) (h0:E≠0):
  Calls Tryz.prog 244 #[.agg #[.pointer p,.pointer q,n],.agg o] w
   fun r w'=>Below w.heap.size w w'∧r=.returned (.tuple #[.agg #[.pointer p,.pointer q,n],.int .i64 (-1),E]):=by
 have H0:=Lh (ap_start w p q n o);have hC:=fun W (h:Below w.heap.size w W)=>checkSt_any (p:=p) (q:=q) n o W (hT.next h) (hP.next h)
 rw [hE] at hC;have HC:=Lh hC;have HT:=Lh (fun W (h:Below w.heap.size w W)=>And.intro (show Is W p T from hT.next h) (show IsM W q P from hP.next h));have hz:(E==0)=false:=by simpa using h0
 clear hC hT hP hE h0
 go_enter Tryz.func244,Tryz.ntmps244
 go_wp2_with fail;refine (HC.out _ H0.out.bel).mono ?_;rintro e w1 ⟨rfl,hb⟩
 have HD:=Lh (And.intro (H0.out.next hb) (And.intro (HT.out _ (H0.out.next hb).bel).1 (HT.out _ (H0.out.next hb).bel).2));have HE:=Lh (HD.out.1.out (n:=n) HD.out.2.1 HD.out.2.2);clear H0 hb HC;have d0 := HD.out.1.bs.c3;have e0:=HD.out.1.br.cell 0 rfl;have e1:=(HD.out.1.setR 0 (.pointer p)).1.br.cell 1 rfl;have e2:=((HD.out.1.setR 0 (.pointer p)).1.setR 1 (.pointer q)).1.br.cell 2 rfl;have f0:=HD.out.1.br.free 0;have f1:=(HD.out.1.setR 0 (.pointer p)).1.br.free 1;have f2:=((HD.out.1.setR 0 (.pointer p)).1.setR 1 (.pointer q)).1.br.free 2;go_wp2_with fail
 have z0 := HE.out.1.br.c3;exact bodyPost_ret (by simp [results, Tryz.results244, go_sem, z0]) rfl ⟨HE.out.1.bel,rfl⟩
theorem applyC_ins {p q:Option Addr} {T T':Tr} {P P':Pt} {N' z:Int} (n:Int) (o:Oq) (w:World) (hT:Is w p T) (hP:IsM w q P) (hE:chkSt (getM P o.c o.s) (getM P o.a o.n) T.size o=0) (hk:(o.k==1)=false)
  (hW:∀ W,Below w.heap.size w W→Calls Tryz.prog 269 #[.agg #[.pointer p,.pointer q,n],.agg o] W fun r w'=>Below W.heap.size W w'∧∃ p' q':Option Addr,r=.returned (.tuple #[.agg #[.pointer p',.pointer q',N'],z])∧Is w' p' T'∧IsM w' q' P'):
  Calls Tryz.prog 244 #[.agg #[.pointer p,.pointer q,n],.agg o] w
   fun r w'=>Below w.heap.size w w'∧∃ p' q':Option Addr,r=.returned (.tuple #[.agg #[.pointer p',.pointer q',N'],z,.int .i64 0])∧Is w' p' T'∧IsM w' q' P':=by
 have H0:=Lh (ap_start w p q n o);have hC:=fun W (h:Below w.heap.size w W)=>checkSt_any (p:=p) (q:=q) n o W (hT.next h) (hP.next h)
 rw [hE] at hC;have HC:=Lh hC;have HW:=Lh hW;clear hC hT hP hE hW
 go_enter Tryz.func244,Tryz.ntmps244
 go_wp2_with fail;refine (HC.out _ H0.out.bel).mono ?_;rintro e w1 ⟨rfl,hb⟩
 have H1:=Lh (H0.out.next hb);clear H0 hb HC;have s0 := H1.out.bs.c3;have o0 := H1.out.ba.c6;go_wp2_with fail;refine (HW.out _ H1.out.bel).mono ?_;rintro e w2 ⟨hb,p',q',rfl,hI,hM⟩
 have HD:=Lh (And.intro (H1.out.next hb) (And.intro hI hM));have HE:=Lh (HD.out.1.out (n:=N') HD.out.2.1 HD.out.2.2);have HF:=Lh (HE.out.1.out (n:=N') HE.out.2.1 HE.out.2.2);clear H1 hb hI hM HW s0 o0;have e0:=HD.out.1.br.cell 0 rfl;have e1:=(HD.out.1.setR 0 (.pointer p')).1.br.cell 1 rfl;have e2:=((HD.out.1.setR 0 (.pointer p')).1.setR 1 (.pointer q')).1.br.cell 2 rfl;have f0:=HD.out.1.br.free 0;have f1:=(HD.out.1.setR 0 (.pointer p')).1.br.free 1;have f2:=((HD.out.1.setR 0 (.pointer p')).1.setR 1 (.pointer q')).1.br.free 2;have g0 := HE.out.1.br.c3;have h1:=(HE.out.1.setR 0 (.pointer p')).1.br.cell 1 rfl;have h2:=((HE.out.1.setR 0 (.pointer p')).1.setR 1 (.pointer q')).1.br.cell 2 rfl;have i0:=HE.out.1.br.free 0;have i1:=(HE.out.1.setR 0 (.pointer p')).1.br.free 1;have i2:=((HE.out.1.setR 0 (.pointer p')).1.setR 1 (.pointer q')).1.br.free 2;go_wp2_with fail
 have z0 := HF.out.1.br.c3;exact bodyPost_ret (by simp [results, Tryz.results244, go_sem, z0]) rfl ⟨HF.out.1.bel,p',q',rfl,HF.out.2.1,HF.out.2.2⟩
theorem applyC_del {p q:Option Addr} {T T':Tr} {P P':Pt} {N' z:Int} (n:Int) (o:Oq) (w:World) (hT:Is w p T) (hP:IsM w q P) (hE:chkSt (getM P o.c o.s) (getM P o.a o.n) T.size o=0) (hk:(o.k==1)=true)
  (hW:∀ W,Below w.heap.size w W→Calls Tryz.prog 268 #[.agg #[.pointer p,.pointer q,n],.agg #[o.c,o.s]] W fun r w'=>Below W.heap.size W w'∧∃ p' q':Option Addr,r=.returned (.tuple #[.agg #[.pointer p',.pointer q',N'],z])∧Is w' p' T'∧IsM w' q' P'):
  Calls Tryz.prog 244 #[.agg #[.pointer p,.pointer q,n],.agg o] w
   fun r w'=>Below w.heap.size w w'∧∃ p' q':Option Addr,r=.returned (.tuple #[.agg #[.pointer p',.pointer q',N'],z,.int .i64 0])∧Is w' p' T'∧IsM w' q' P':=by
 have H0:=Lh (ap_start w p q n o);have hC:=fun W (h:Below w.heap.size w W)=>checkSt_any (p:=p) (q:=q) n o W (hT.next h) (hP.next h)
 rw [hE] at hC;have HC:=Lh hC;have HW:=Lh hW;clear hC hT hP hE hW
 go_enter Tryz.func244,Tryz.ntmps244
 go_wp2_with fail;refine (HC.out _ H0.out.bel).mono ?_;rintro e w1 ⟨rfl,hb⟩
 have H1:=Lh (H0.out.next hb);clear H0 hb HC;have s0 := H1.out.bs.c3;have o0 := H1.out.ba.c6;go_wp2_with fail;refine (HW.out _ H1.out.bel).mono ?_;rintro e w2 ⟨hb,p',q',rfl,hI,hM⟩
 have HD:=Lh (And.intro (H1.out.next hb) (And.intro hI hM));have HE:=Lh (HD.out.1.out (n:=N') HD.out.2.1 HD.out.2.2);have HF:=Lh (HE.out.1.out (n:=N') HE.out.2.1 HE.out.2.2);clear H1 hb hI hM HW s0 o0;have e0:=HD.out.1.br.cell 0 rfl;have e1:=(HD.out.1.setR 0 (.pointer p')).1.br.cell 1 rfl;have e2:=((HD.out.1.setR 0 (.pointer p')).1.setR 1 (.pointer q')).1.br.cell 2 rfl;have f0:=HD.out.1.br.free 0;have f1:=(HD.out.1.setR 0 (.pointer p')).1.br.free 1;have f2:=((HD.out.1.setR 0 (.pointer p')).1.setR 1 (.pointer q')).1.br.free 2;have g0 := HE.out.1.br.c3;have h1:=(HE.out.1.setR 0 (.pointer p')).1.br.cell 1 rfl;have h2:=((HE.out.1.setR 0 (.pointer p')).1.setR 1 (.pointer q')).1.br.cell 2 rfl;have i0:=HE.out.1.br.free 0;have i1:=(HE.out.1.setR 0 (.pointer p')).1.br.free 1;have i2:=((HE.out.1.setR 0 (.pointer p')).1.setR 1 (.pointer q')).1.br.free 2;go_wp2_with fail
 have z0 := HF.out.1.br.c3;exact bodyPost_ret (by simp [results, Tryz.results244, go_sem, z0]) rfl ⟨HF.out.1.bel,p',q',rfl,HF.out.2.1,HF.out.2.2⟩
theorem StO.docR {W:World} {m:List Oq} {p q:Option Addr} {T:Tr} {P:Pt} (h:StO W m p q T P):T.els=docR m:=h.row
theorem StO.size {W:World} {m:List Oq} {p q:Option Addr} {T:Tr} {P:Pt} (h:StO W m p q T P):T.size=(rowO m).length:=by
 rw [←Tr.els_length,h.row,List.length_map]
theorem mapL_len (m:List Oq):(mapL m).length≤m.length:=mapK_len m m
theorem chk_wrong {m:List Oq} {o:Oq} {P:Pt} {N:Int} (h:OkO m) (he:els P=mapL m) (hN:N<4096):chkSt (getM P o.c o.s) (getM P o.a o.n) N o=wrongE m o:=by
 unfold chkSt
 by_cases hc:chkE o.k o.c o.s o.a o.n o.ch=0
 ·rw [if_neg (by simp [hc])]
  by_cases hk:o.k=1
  ·rw [if_pos hk]
   rcases Int.lt_or_le (fnd (opB 0 o.c o.s) m 0) 0 with hf | hf
   ·rw [wrong_d6 hc hk hf,getM_none h he (fun x h1 h2 h3=>by have:=eqI_iff.2 ⟨x,h1,h2,h3⟩; omega)]
    rfl
   ·obtain ⟨x,hx,h0,h1,h2⟩:=eqI_iff.1 hf
    have hg:=getM_some h he hx h0;rw [h1,h2] at hg;rw [hg];unfold delE entO deadO
    simp only [h1,h2]
    rcases Int.lt_or_le (fnd (opB 1 o.c o.s) m 0) 0 with hd | hd
    ·rw [wrong_d0 hc hk hf hd,decide_eq_false (by omega),if_neg (by simp)]
    ·rw [wrong_d4 hc hk hf hd,decide_eq_true hd,if_pos rfl]
  ·rw [if_neg hk]
   obtain ⟨_,hp⟩:=chk_parts hc;obtain ⟨hk0,_,_⟩:=hp.resolve_left hk;rcases fnd_spec (opB 0 o.c o.s) m 0 with ⟨hf,hno⟩ | ⟨i,hi,hf,hyes⟩
   ·have hg:getM P o.c o.s=none:=getM_none h he (fun x h1 h2 h3=>by have:=eqI_iff.2 ⟨x,h1,h2,h3⟩; omega)
    rw [hg];unfold insE
    rw [getM_has h he];simp only []
    cases hn:noneB o.a o.n with
    | true=>rw [wrong_i0 hc hk (by omega) (.inl hn),if_neg (by simp),if_neg (by omega)]
    | false=>
     rcases Int.lt_or_le (fnd (opB 0 o.a o.n) m 0) 0 with ha | ha
     ·rw [wrong_i6 hc hk (by omega) hn ha,if_pos ⟨rfl,decide_eq_false (by omega)⟩]
     ·rw [wrong_i0 hc hk (by omega) (.inr ha),if_neg (by simp [ha]),if_neg (by omega)]
   ·rw [Nat.zero_add] at hf
    obtain ⟨h0,h1,h2⟩:=opB_iff.1 hyes;have hg:=getM_some h he (List.getElem_mem hi) h0;rw [h1,h2] at hg;rw [hg];unfold insE entO
    simp only []
    by_cases hs:m[i]=o
    ·rw [wrong_i4 hc hk hf hi hs,if_pos (by rw [hs]; exact ⟨rfl,rfl,rfl⟩)]
    ·rw [wrong_i5 hc hk hf hi hs,if_neg]
     rintro ⟨h3,h4,h5⟩
     exact hs (Oq.same (h0.trans hk0.symm) h1 h2 h3 h4 h5)
 ·rw [if_pos hc,wrong_chk hc]
theorem findO_ok {N:Nat} (hN:N≤20000):∀ (m:List Oq) (c s:Int) (p q:Option Addr) (T:Tr) (P:Pt) (w:World),m.length≤N→OkO m→StO w m p q T P →
  Calls Tryz.prog 227 #[.agg #[.pointer p,.pointer q,.int .i64 (cnt P)],.agg #[c,s]] w fun r w'=>
   r=.returned (.tuple #[.int .i64 (fnd (elB c s) (docR m) 0),.bool (decide (0≤fnd (elB c s) (docR m) 0))])∧Below w.heap.size w w':=by
 intro m c s p q T P w hm hk hs
 have hl:=row_len hk.gd;have h:=findC_any (cnt P) c s w hs.tr hs.ma (by rw [hs.size]; omega) (by
  rw [getM_has hk hs.mels,hs.docR];exact decide_eq_decide.2 (row_has hk).symm)
 rw [hs.docR] at h;exact h
theorem apply_ok_all:ApplyOk 4095:=by
 intro m o p q T P w hm hk hs
 have hl:=row_len hk.gd;have hsz:T.size≤4095:=by rw [hs.size]; omega
 have hmn:(els P).length≤1000000:=by rw [hs.mels]; have:=mapL_len m; omega
 have hcw:=chk_wrong (o:=o) (N:=(T.size:Int)) hk hs.mels (by omega);by_cases hw:wrongE m o=0
 ·obtain ⟨hchk,hmay,hd | hc⟩:=wrong_zero hw
  ·obtain ⟨hk1,⟨x,hx,h0,h1,h2⟩,-⟩:=hd
   have hg:=getM_some hk hs.mels hx h0;rw [h1,h2] at hg;obtain ⟨i,hi,hxi⟩:=List.getElem_of_mem ((hk.gd.mem x).2 ⟨hx,h0⟩);have hok2:=ok_del hk hk1 ⟨x,hx,h0,h1,h2⟩;have hfi:=docR_at hk hi;rw [hxi,h1,h2] at hfi;have hrow2:rowO (m++[o])=rowO m:=row_del (by omega);have hfi2:fnd (elB o.c o.s) (docR (m++[o])) 0=(i:Int):=by
    have hi2:i<(rowO (m++[o])).length:=by rw [hrow2]; exact hi
    have:=docR_at hok2 hi2;have e:(rowO (m++[o]))[i]=x:=by simp only [hrow2]; exact hxi
    rw [e,h1,h2] at this;exact this
   have hiT:i<T.size:=by rw [hs.size]; exact hi
   have hmay':mayB o.c o.s=true:=hmay;refine (applyC_del (T':=setTop T (i:Int) ⟨o.c,o.s,x.ch,true,x.lo,x.hi⟩) (P':=putM P o.c o.s ⟨x.a,x.n,x.ch,true⟩) (N':=cnt (putM P o.c o.s ⟨x.a,x.n,x.ch,true⟩)) (z:=(i:Int)) (cnt P) o w hs.tr hs.ma (by rw [hcw,hw]) (by simp [hk1]) (fun W hb=>
    woutC_any o.c o.s (entO m x) x.lo x.hi i W (hs.tr.next hb) (hs.ma.next hb) (by omega) hmn hg (by rw [hs.docR]; exact hfi))).mono ?_
   rintro r w' ⟨hb,p',q',rfl,hT',hP'⟩
   refine ⟨hb,.inr ⟨hw,p',q',_,_,by rw [hfi2],⟨hT',?_,?_,hP',?_,full_putM _ _ _ hs.full,good_putM _ _ _ hs.good⟩⟩⟩
   ·unfold setTop; rw [if_pos ⟨by omega,by omega⟩]; exact (setT_avl _ T i hs.avl).1
   ·show (setTop T (i:Int) _).els=docR (m++[o])
    unfold setTop
    rw [if_pos ⟨by omega,by omega⟩,setT_els _ T i hiT,docR_del hk hk1 hi hxi ⟨h1,h2⟩,hs.docR];simp only [h1,h2]
   ·unfold putM
    rw [if_pos hmay',els_insL P _ (place_lt hmay'),hs.mels,mapL_del hk hk1 hx h0 ⟨h1,h2⟩]
  ·have hG:=gap_posR hk hc
   rw [←hs.docR] at hG;have hGle:=posR_le o (rowO m);rw [←hs.size] at hGle;refine (applyC_ins (T':=insTop T (gapE o.c o.s o.a o.n (noneB o.a o.n) T.els:Nat) ⟨o.c,o.s,o.ch,false,o.lo,o.hi⟩) (P':=putM P o.c o.s ⟨o.a,o.n,o.ch,false⟩) (N':=cnt (putM P o.c o.s ⟨o.a,o.n,o.ch,false⟩)) (z:=(gapE o.c o.s o.a o.n (noneB o.a o.n) T.els:Nat)) (cnt P) o w hs.tr hs.ma (by rw [hcw,hw]) (by simp [hc.k]) (fun W hb=>
    withC_any o W (hs.tr.next hb) (hs.ma.next hb) (by omega) hmn)).mono ?_
   rintro r w' ⟨hb,p',q',rfl,hT',hP'⟩
   refine ⟨hb,.inr ⟨hw,p',q',_,_,by rw [docR_ins_at hk hc,hG],⟨hT',?_,?_,hP',?_,full_putM _ _ _ hs.full,good_putM _ _ _ hs.good⟩⟩⟩
   ·rw [hG]; unfold insTop; rw [if_pos ⟨by omega,by omega⟩]; exact (insT_avl _ T _ hs.avl).1
   ·show (insTop T _ _).els=docR (m++[o])
    rw [hG];unfold insTop
    rw [if_pos ⟨by omega,by omega⟩,insT_els _ T _ hGle,docR_ins hk hc,hs.docR]
   ·unfold putM
    rw [if_pos hmay,els_insL P _ (place_lt hmay),hs.mels,mapL_ins hk hc]
 ·refine (applyC_err (T:=T) (P:=P) (cnt P) o w hs.tr hs.ma hcw hw).mono ?_
  rintro r w' ⟨hb,rfl⟩
  exact ⟨hb,.inl ⟨hw,rfl⟩⟩
theorem apply_ok:ApplyOk 50:=fun m o p q T P w hm=>apply_ok_all m o p q T P w (by omega)
end Go.Proofs.YtemicfjmidohfaaGreatDoor
