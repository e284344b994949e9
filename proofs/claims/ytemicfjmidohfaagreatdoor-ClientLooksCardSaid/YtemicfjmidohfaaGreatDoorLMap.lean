import Derived.Laws.BitsLemmas
import Derived.Stop.RegionWithIn
import Derived.WalkSmall
import Derived.Test.YtemicfjmidohfaaGreatDoorLBase
set_option maxRecDepth 100000
set_option maxHeartbeats 12800000
namespace Go.Proofs.YtemicfjmidohfaaGreatDoor
open Go Go.Proofs Go.RowKit
theorem Blk.put4 {W:World} {b:Nat} {a0 a1 a2 a3:Value} {t:TypeId} (h:Blk W b [a0,a1,a2,a3] t) (x0 x1 x2 x3:Value):
  Blk ((((W.setCell ⟨b,0,none⟩ x0).setCell ⟨b,1,none⟩ x1).setCell ⟨b,2,none⟩ x2).setCell ⟨b,3,none⟩ x3) b [x0,x1,x2,x3] t:=(((h.set 0 x0).set 1 x1).set 2 x2).set 3 x3
theorem below_put4 {B:Nat} {W0 W:World} (h:Below B W0 W) {b:Nat} (hb:B≤b) (i:Nat) (x0 x1 x2 x3:Value):
  Below B W0 ((((W.setCell ⟨b,i,none⟩ x0).setCell ⟨b,i+1,none⟩ x1).setCell ⟨b,i+2,none⟩ x2).setCell ⟨b,i+3,none⟩ x3):=
 (((h.setCell (p:=⟨b,i,none⟩) hb _).setCell (p:=⟨b,i+1,none⟩) hb _).setCell (p:=⟨b,i+2,none⟩) hb _).setCell (p:=⟨b,i+3,none⟩) hb _
def enL (e:En):List Value:=[.int .i64 e.ac,.int .i64 e.an,.int .i32 e.ch,.bool e.d]
def ptL (ps:Nat→Option Addr) (e:En):List Value:=
 [.pointer (ps 0),.pointer (ps 1),.pointer (ps 2),.pointer (ps 3),.pointer (ps 4),.pointer (ps 5),.pointer (ps 6),.pointer (ps 7),e.ac,e.an,.int .i32 e.ch,.bool e.d]
theorem ptL_ptr (ps:Nat→Option Addr) (e:En) {d:Nat} (h:d<8):(ptL ps e)[d]? = some (.pointer (ps d)):=by
 match d,h with
 | 0,_=>rfl
 | 1,_=>rfl
 | 2,_=>rfl
 | 3,_=>rfl
 | 4,_=>rfl
 | 5,_=>rfl
 | 6,_=>rfl
 | 7,_=>rfl
theorem ptL_set (ps:Nat→Option Addr) (e:En) (q:Option Addr) {d:Nat} (h:d<8):(ptL ps e).set d (.pointer q)=ptL (fun j=>if j=d then q else ps j) e:=by
 match d,h with
 | 0,_=>rfl
 | 1,_=>rfl
 | 2,_=>rfl
 | 3,_=>rfl
 | 4,_=>rfl
 | 5,_=>rfl
 | 6,_=>rfl
 | 7,_=>rfl
theorem ptL_en (ps:Nat→Option Addr) (e f:En):(((((ptL ps e).set 8 f.ac).set 9 f.an).set 10 (.int .i32 f.ch)).set 11 (.bool f.d))=ptL ps f:=rfl
def IsP (n:Nat) (W:World):Option Addr→Pt→Prop
 | p,.nil=>p=none
 | p,.part nx e=>∃ (b:Nat) (ps:Nat→Option Addr),p=some ⟨b,0,none⟩∧b<n∧Blk W b (ptL ps e) 353∧∀ d,d<8→IsP n W (ps d) (nx d)
theorem IsP.same {n:Nat} {W W':World} (hb:∀ b,b<n→W'.heap[b]? = W.heap[b]?):∀ {T:Pt} {p:Option Addr},IsP n W p T→IsP n W' p T
 | .nil,_,h=>h
 | .part _ _,_,⟨b,ps,hp,hn,hB,hc⟩=>⟨b,ps,hp,hn,by unfold Blk at hB ⊢; rw [hb b hn]; exact hB,fun d hd=>IsP.same hb (hc d hd)⟩
theorem IsP.below {n:Nat} {W W':World} (hb:Below n W W') {p:Option Addr} {T:Pt} (h:IsP n W p T):IsP n W' p T:=h.same hb.block
theorem IsP.mono {n m:Nat} (hm:n≤m) {W:World}:∀ {T:Pt} {p:Option Addr},IsP n W p T→IsP m W p T
 | .nil,_,h=>h
 | .part _ _,_,⟨b,ps,hp,hn,hB,hc⟩=>⟨b,ps,hp,Nat.lt_of_lt_of_le hn hm,hB,fun d hd=>IsP.mono hm (hc d hd)⟩
abbrev IsM (W:World) (p:Option Addr) (T:Pt):Prop:=IsP W.heap.size W p T
theorem IsP.is {n:Nat} {W:World}:∀ {T:Pt} {p:Option Addr},IsP n W p T→IsM W p T
 | .nil,_,h=>h
 | .part _ _,_,⟨b,ps,hp,_,hB,hc⟩=>⟨b,ps,hp,hB.lt,hB,fun d hd=>IsP.is (hc d hd)⟩
theorem IsM.next {W W':World} {p:Option Addr} {T:Pt} (h:IsM W p T) (hb:Below W.heap.size W W'):IsM W' p T:=(IsP.below hb h).mono hb.size
theorem IsP.cases {n:Nat} {W:World} {p:Option Addr} {T:Pt} (h:IsP n W p T):
  (p=none∧T=.nil)∨∃ b ps,p=some ⟨b,0,none⟩∧b<n∧Blk W b (ptL ps T.en) 353∧T.isNil=false∧∀ d,d<8→IsP n W (ps d) (T.nx d):=by
 cases T with
 | nil=>exact .inl ⟨h,rfl⟩
 | part f e=>
  obtain ⟨b,ps,hp,hn,hB,hc⟩:=h;exact .inr ⟨b,ps,hp,hn,hB,rfl,hc⟩
theorem wraps_i64 (n:Int) (h₀:0≤n) (h₁:n<2 ^ 62):IntKind.i64.wrap n=n:=IntWalk.i64_in _ (by omega)
theorem and7 (x:Int) (h₀:0≤x) (h₁:x<4611686018427387904):bits .and .i64 x 7=x % 8:=bits_mask .i64 62 (by decide) wraps_i64 3 (by decide) x h₀ h₁
theorem and1023 (x:Int) (h₀:0≤x) (h₁:x<4611686018427387904):bits .and .i64 x 1023=x % 1024:=bits_mask .i64 62 (by decide) wraps_i64 10 (by decide) x h₀ h₁
theorem or8 (x y:Int) (h₀:0≤x) (h₁:x<1152921504606846976) (hx:x % 8=0) (h₂:0≤y) (h₃:y<8):bits .or .i64 x y=x+y:=
 bits_join .i64 62 (by decide) wraps_i64 3 x y h₀ hx (by omega) h₂ (by omega) (by omega)
theorem or1024 (x y:Int) (h₀:0≤x) (h₁:x<1152921504606846976) (hx:x % 1024=0) (h₂:0≤y) (h₃:y<1024):bits .or .i64 x y=x+y:=
 bits_join .i64 62 (by decide) wraps_i64 10 x y h₀ hx (by omega) h₂ (by omega) (by omega)
theorem mayBe_any (c s:Int) (w:World):
  Calls Tryz.prog 289 #[.agg #[c,s]] w (Rt (.bool (mayB c s)) w):=by
 have hb0:=Lh ((Below.refl w.heap.size w).alloc (Nat.le_refl _) (.cells #[c,s] 71))
 cases h:mayB c s with
 | true=>
  go_enter Tryz.func289,Tryz.ntmps289
  go_wp2_with (go_at_call 189; refine (check_yes c s _ h).mono ?_; rintro e w1 ⟨rfl,hb⟩)
  go_ret
  exact ⟨rfl,hb0.out.trans (hb.mono hb0.out.size)⟩
 | false=>
  go_enter Tryz.func289,Tryz.ntmps289
  go_wp2_with (go_at_call 189; refine (check_no c s _ h).mono ?_; rintro e w1 ⟨rfl,hb⟩)
  go_ret
  exact ⟨rfl,hb0.out.trans (hb.mono hb0.out.size)⟩
theorem place_any (c s:Int) (w:World) (h:mayB c s=true):
  Calls Tryz.prog 291 #[.agg #[c,s]] w (Rt (.int .i64 (placeI c s:Nat)) w):=by
 have hm:1≤c∧c≤1048576∧1≤s∧s≤1000:=by simpa [mayB] using h
 have hv:((placeI c s:Nat):Int)=(c - 1) * 1024+(s - 1):=by unfold placeI; omega
 have s1:IntKind.i64.wrap (c - 1)=c - 1:=IntWalk.i64_in _ (by omega);have s2:IntKind.i64.wrap ((c - 1) * 1024)=(c - 1) * 1024:=IntWalk.i64_in _ (by omega);have s3:IntKind.i64.wrap (s - 1)=s - 1:=IntWalk.i64_in _ (by omega);have s4:=or1024 ((c - 1) * 1024) (s - 1) (by omega) (by omega) (by omega) (by omega) (by omega);rw [hv];clear h hv
 go_enter Tryz.func291,Tryz.ntmps291
 go_wp2
 go_ret
 exact ⟨rfl,bA⟩
theorem pow8 (i:Nat) (h:i<10):((2:Int) ^ (3 * (9-i)))=((8 ^ (9-i):Nat):Int):=by
 match i,h with
 | 0,_=>decide
 | 1,_=>decide
 | 2,_=>decide
 | 3,_=>decide
 | 4,_=>decide
 | 5,_=>decide
 | 6,_=>decide
 | 7,_=>decide
 | 8,_=>decide
 | 9,_=>decide
theorem digitM_any (x i:Nat) (w:World) (hx:x<1073741824) (hi:i<10):
  Calls Tryz.prog 309 #[.int .i64 (x:Int),.int .i64 (i:Int)] w fun e w'=>e=.returned (.int .i64 ((x / 8 ^ (9-i) % 8:Nat):Int))∧w'=w:=by
 have s1:IntKind.i64.wrap (9-(i:Int))=9-i:=IntWalk.i64_in _ (by omega);have s2:IntKind.i64.wrap (3 * (9-(i:Int)))=3 * (9-i):=IntWalk.i64_in _ (by omega);have s3:(x:Int) / 2 ^ (3 * (9-i))=((x / 8 ^ (9-i):Nat):Int):=by rw [pow8 i hi]; rfl
 have hq:x / 8 ^ (9-i)≤x:=Nat.div_le_self _ _;generalize x / 8 ^ (9-i)=y at *
 have s4:=and7 (y:Int) (by omega) (by omega);have hv:((y % 8:Nat):Int)=(y:Int) % 8:=by omega
 rw [hv];clear hv hq
 go_enter Tryz.func309,Tryz.ntmps309
 go_wp2
 go_ret
 exact ⟨rfl,rfl⟩
theorem named_any (x:Nat) (w:World) (hx:x<1073741824):
  Calls Tryz.prog 237 #[.int .i64 (x:Int)] w (Rt (.agg #[.int .i64 (nmC x),.int .i64 (nmS x)]) w):=by
 have s1:IntKind.i64.wrap ((x:Int) / 1024+1)=(x:Int) / 1024+1:=IntWalk.i64_in _ (by omega);have s2:=and1023 (x:Int) (by omega) (by omega);have s3:IntKind.i64.wrap ((x:Int) % 1024+1)=(x:Int) % 1024+1:=IntWalk.i64_in _ (by omega);have e1:nmC x=(x:Int) / 1024+1:=by unfold nmC; omega
 have e2:nmS x=(x:Int) % 1024+1:=by unfold nmS; omega
 rw [e1,e2];clear e1 e2
 go_enter Tryz.func237,Tryz.ntmps237
 go_wp2
 exact bodyPost_ret (by simp [results,Tryz.results237,go_sem]) rfl ⟨rfl,bA⟩
def RetN (ps:Nat→Option Addr) (e:En) (w:World) (r:Ending) (w':World):Prop:=
 r=.returned (.pointer (some ⟨w.heap.size,0,none⟩))∧Below w.heap.size w w'∧w.heap.size<w'.heap.size∧Blk w' w.heap.size (ptL ps e) 353
theorem renew_nil (w:World):Calls Tryz.prog 331 #[.pointer none] w (RetN (fun _=>none) .zero w):=by
 go_enter Tryz.func331,Tryz.ntmps331
 go_wp2
 go_ret
 exact ⟨rfl,bA,by simp,Blk.start w _ _⟩
theorem renew_part {b:Nat} {ps:Nat→Option Addr} {e:En} (w:World) (hB:Blk w b (ptL ps e) 353):
  Calls Tryz.prog 331 #[.pointer (some ⟨b,0,none⟩)] w (RetN ps e w):=by
 have hlt:=hB.lt;have hne:b≠w.heap.size:=by omega
 have c0 := hB.c10;have c10:=hB.cell 10 rfl;have c11:=hB.cell 11 rfl;clear hB
 go_enter Tryz.func331,Tryz.ntmps331
 go_wp2
 go_ret
 exact ⟨rfl,bA,by simp,Blk.start w _ _⟩
def FoundAt (w:World) (q:Option Addr) (r:Option En):Prop:=
 (q=none∧r=none)∨∃ b ps v,q=some ⟨b,0,none⟩∧Blk w b (ptL ps v) 353∧r=some v
theorem FoundAt.next {w w':World} {q:Option Addr} {r:Option En} (h:FoundAt w q r) (hb:Below w.heap.size w w'):FoundAt w' q r:=by
 rcases h with h | ⟨b,ps,v,hq,hB,hr⟩
 ·exact .inl h
 ·exact .inr ⟨b,ps,v,hq,hB.next hb,hr⟩
theorem getT_step {k:Nat} (hk:k<10) (U:Pt) (x:Nat):getT (10-(k+1)) (U.nx (x / 8 ^ (9-k) % 8)) x=getT (10-k) U x:=by
 have:10-k=(10-(k+1))+1:=by omega
 rw [this];simp only [getT]
 rw [show 10-(k+1)=9-k by omega]
theorem find_any {n:Nat} {p:Option Addr} {T:Pt} (x:Nat) (w:World) (h:IsP n w p T) (hx:x<1073741824):
  Calls Tryz.prog 290 #[.pointer p,.int .i64 (x:Int)] w fun e w'=>(∃ q,e=.returned (.pointer q)∧FoundAt w q (getT 10 T x))∧Below w.heap.size w w':=by
 go_enter Tryz.func290,Tryz.ntmps290
 go_wp2
 go_loopg [0,6] 10 (fun g tp ti wr=>∃ k:Nat,k≤10∧g=10-k∧ti=.int .i64 (k:Int)∧∃ q U,tp=.pointer q∧IsP n w q U∧getT (10-k) U x=getT 10 T x∧Below w.heap.size w wr)
 case atStart=>exact ⟨0,by omega,rfl,rfl,p,T,rfl,h,rfl,Below.refl _ _⟩
 case round=>
  obtain ⟨k,hk,rfl,rfl,q,U,rfl,hU,hg,hb⟩:=hrel;by_cases hlt:k<10
  ·rcases hU.cases with ⟨rfl,rfl⟩ | ⟨b,ps,rfl,hbn,hB,hnn,hc⟩
   ·go_wp2
    go_ret
    exact ⟨⟨none,rfl,.inl ⟨rfl,by rw [←hg,getT_nil]⟩⟩,hb⟩
   ·have HG:=Lh (And.intro (getT_step hlt U x) (And.intro hg (And.intro hb (hc _ (Nat.mod_lt (x / 8 ^ (9-k)) (by decide:0<8))))))
    have hd:x / 8 ^ (9-k) % 8<8:=Nat.mod_lt _ (by decide);have hcell:=(hB.next hb).cell _ (ptL_ptr ps U.en hd);have HD:=Lh (digitM_any x k);clear hc hU hg hb hnn hB;generalize x / 8 ^ (9-k) % 8=D at *
    go_wp2_with fail
    go_quiet ((go_at_call 309; exact Calls.quiet_of_same (HD.out _ hx hlt)))
    go_wp2
    go_roundg (10-(k+1))
    case measure=>omega
    case rel=>exact ⟨k+1,by omega,rfl,by go_num,_,_,rfl,HG.out.2.2.2,HG.out.1.trans HG.out.2.1,Below.trans HG.out.2.2.1 (below_drewN (Below.refl _ _) _)⟩
  ·obtain rfl:k=10:=by omega
   go_wp2
   go_ret
   refine ⟨⟨q,rfl,?_⟩,hb⟩;rcases hU.cases with ⟨rfl,rfl⟩ | ⟨b,ps,rfl,hbn,hB,hnn,hc⟩
   ·exact .inl ⟨rfl,by rw [←hg]; rfl⟩
   ·obtain ⟨f,e,rfl⟩:=Pt.isNil_false hnn
    exact .inr ⟨b,ps,e,rfl,hB,by rw [←hg]; rfl⟩
def getM (T:Pt) (c s:Int):Option En:=if mayB c s=true then getT 10 T (placeI c s) else none
def enV (e:En):Value:=.agg #[e.ac,e.an,.int .i32 e.ch,.bool e.d]
structure GetS (w:World) (p:Option Addr) (n c s:Int) (T:Pt) (W:World):Prop where
 bel:Below w.heap.size w W
 bm:Blk W w.heap.size [.pointer p,n] 33
 ba:Blk W (w.heap.size+1) [c,s] 71
 br:Blk W (w.heap.size+1+1) (enL .zero) 351
 tr:IsM W p T
theorem GetS.next {w:World} {p:Option Addr} {n c s:Int} {T:Pt} {W W':World} (h:GetS w p n c s T W) (hb:Below W.heap.size W W'):GetS w p n c s T W':=
 ⟨h.bel.trans (hb.mono h.bel.size),h.bm.next hb,h.ba.next hb,h.br.next hb,h.tr.next hb⟩
theorem GetS.s {w:World} {p:Option Addr} {n c s:Int} {T:Pt} {W:World} (h:GetS w p n c s T W):
  W.cell? ⟨w.heap.size,0,none⟩=some (.pointer p)∧W.cell? ⟨w.heap.size+1,0,none⟩=some (.int .i64 c)∧W.cell? ⟨w.heap.size+1,1,none⟩=some (.int .i64 s)∧GetS w p n c s T W:=
 ⟨h.bm.cell 0 rfl,h.ba.d2 h⟩
theorem GetS.start {w:World} {p:Option Addr} {n c s:Int} {T:Pt} (h:IsM w p T):GetS w p n c s T (((w.alloc (.cells #[.pointer p,n] 33)).alloc (.cells #[c,s] 71)).alloc (.cells #[.int .i64 0,.int .i64 0,.int .i32 0,.bool false] 351)):=by
 have hb:Below w.heap.size w (((w.alloc (.cells #[.pointer p,n] 33)).alloc (.cells #[c,s] 71)).alloc (.cells #[.int .i64 0,.int .i64 0,.int .i32 0,.bool false] 351)):=((bA).alloc (by simp) _).alloc (by simp; omega) _;exact ⟨hb,((Blk.start w _ _).alloc _).alloc _,(Blk.startAt (by simp)).alloc _,Blk.startAt (by simp),h.next hb⟩
theorem get_any {p:Option Addr} {T:Pt} (n c s:Int) (w:World) (hT:IsM w p T):
  Calls Tryz.prog 275 #[.agg #[.pointer p,n],.agg #[c,s]] w
   fun e w'=>e=.returned (.tuple #[enV ((getM T c s).getD .zero),.bool (getM T c s).isSome])∧Below w.heap.size w w':=by
 have H0:=Lh (GetS.start (n:=n) (c:=c) (s:=s) hT);clear hT;by_cases h:mayB c s=true
 ·have hg:getM T c s=getT 10 T (placeI c s):=if_pos h
  rw [hg];clear hg
  go_enter Tryz.func275,Tryz.ntmps275
  go_wp2_with fail;refine (mayBe_any _ _ _).mono ?_;rintro e w1 ⟨rfl,hb⟩; rw [h]
  have HS:=Lh (H0.out.next hb);clear H0 hb;go_wp2_with fail
  refine rgH (fun W=>Ce W w.heap.size 0 (.pointer p)∧Cc2 W (w.heap.size+1) c s (GetS w p n c s T W)) ((HS.out.next bdq).s) fun hH=>?_
  clear HS;refine ta 0 hH ?_;refine ta 1 hH ?_;refine ta 2 hH ?_;refine rc 3 (place_any c s _ h) ?_
  rintro e u1 ⟨rfl,hb⟩
  refine rp ((hH.2.2.2.next hb).s) ?_;clear hH hb;intro hH
  refine rc 4 (find_any _ _ hH.2.2.2.tr (place_lt h)) ?_
  rintro e u2 ⟨⟨q,rfl,hq⟩,hb⟩
  refine rp ((hH.2.2.2.next hb).s) ?_;clear hH;intro hH
  have HQ:=Lh (hq.next hb);clear hq hb;refine ta 5 hH ?_;refine dnH ?_;have HS:=Lh hH.2.2.2;clear hH;rcases HQ.out with ⟨rfl,hr⟩ | ⟨b,ps,v,rfl,hB,hr⟩
  ·skip
   have f0 := HS.out.br.c4;have z0 := HS.out.br.f4;go_wp2_with fail
   have hz:=HS.out.br.put4 (.int .i64 0) (.int .i64 0) (.int .i32 0) (.bool false);have y0 := hz.c4;have hbe:=below_put4 HS.out.bel (show w.heap.size≤w.heap.size+1+1 by omega) 0 (.int .i64 0) (.int .i64 0) (.int .i32 0) (.bool false);exact bodyPost_ret (v:=.tuple #[enV .zero,.bool false]) (by simp [results, Tryz.results275, go_sem, y0, enV, En.zero]) rfl ⟨by rw [hr]; rfl,hbe⟩
  ·skip
   have f0 := HS.out.br.c4;have z0 := HS.out.br.f4;have k0:=hB.cell 8 rfl;have k1:=hB.cell 9 rfl;have k2:=hB.cell 10 rfl;have k3:=hB.cell 11 rfl;go_wp2_with fail
   have hz:=HS.out.br.put4 v.ac v.an (.int .i32 v.ch) (.bool v.d);have y0 := hz.c4;have hbe:=below_put4 HS.out.bel (show w.heap.size≤w.heap.size+1+1 by omega) 0 v.ac v.an (.int .i32 v.ch) (.bool v.d);exact bodyPost_ret (v:=.tuple #[enV v,.bool true]) (by simp [results, Tryz.results275, go_sem, y0, enV]) rfl ⟨by rw [hr]; rfl,hbe⟩
 ·have hg:getM T c s=none:=if_neg h
  have h':mayB c s=false:=by simpa using h
  rw [hg];clear hg
  go_enter Tryz.func275,Tryz.ntmps275
  go_wp2_with fail;refine (mayBe_any _ _ _).mono ?_;rintro e w1 ⟨rfl,hb⟩; rw [h']
  have HS:=Lh (H0.out.next hb);clear H0 hb;have f0 := HS.out.br.c4;have z0 := HS.out.br.f4;go_wp2_with fail
  have hz:=HS.out.br.put4 (.int .i64 0) (.int .i64 0) (.int .i32 0) (.bool false);have y0 := hz.c4;have hbe:=below_put4 HS.out.bel (show w.heap.size≤w.heap.size+1+1 by omega) 0 (.int .i64 0) (.int .i64 0) (.int .i32 0) (.bool false);exact bodyPost_ret (v:=.tuple #[enV .zero,.bool false]) (by simp [results, Tryz.results275, go_sem, y0, enV, En.zero]) rfl ⟨rfl,hbe⟩
def Hole (W:World) (r b:Nat) (plug:Pt→Pt):Prop:=
 ∀ (W':World) (T':Pt),(∀ c,c<W.heap.size→c≠b→W'.heap[c]? = W.heap[c]?)→W.heap.size≤W'.heap.size→IsM W' (some ⟨b,0,none⟩) T'→IsM W' (some ⟨r,0,none⟩) (plug T')
theorem Hole.next {W W':World} {r b:Nat} {plug:Pt→Pt} (h:Hole W r b plug) (hb:Below W.heap.size W W'):Hole W' r b plug:=fun W2 T' h1 h2 h3=>
 h W2 T' (fun c hc hne=>(h1 c (Nat.lt_of_lt_of_le hc hb.size) hne).trans (hb.block c hc)) (Nat.le_trans hb.size h2) h3
structure PutS (w:World) (e:En) (r:Nat) (T:Pt) (x k b:Nat) (U:Pt) (ps:Nat→Option Addr) (W:World):Prop where
 bel:Below w.heap.size w W
 be:Blk W w.heap.size (enL e) 351
 new:w.heap.size<b
 bb:Blk W b (ptL ps U.en) 353
 kids:∀ d,d<8→IsP w.heap.size W (ps d) (U.nx d)
 hole:∃ plug:Pt→Pt,Hole W r b plug∧plug (putT (10-k) U x e)=putT 10 T x e
theorem PutS.next {w:World} {e:En} {r:Nat} {T:Pt} {x k b:Nat} {U:Pt} {ps:Nat→Option Addr} {W W':World} (h:PutS w e r T x k b U ps W) (hb:Below W.heap.size W W'):PutS w e r T x k b U ps W':=
 ⟨h.bel.trans (hb.mono h.bel.size),h.be.next hb,h.new,h.bb.next hb,fun d hd=>(h.kids d hd).below (hb.mono h.bel.size),let ⟨p,h1,h2⟩:=h.hole; ⟨p,h1.next hb,h2⟩⟩
theorem kid_of {n:Nat} {W:World} {p:Option Addr} {U:Pt} (h:IsP n W p U):∃ ps',(∀ W1,(Calls Tryz.prog 331 #[.pointer p] W1 (RetN ps' U.en W1))∨¬ Below W.heap.size W W1)∧∀ d,d<8→IsP n W (ps' d) (U.nx d):=by
 rcases h.cases with ⟨rfl,rfl⟩ | ⟨b,ps,rfl,hbn,hB,hnn,hc⟩
 ·exact ⟨fun _=>none,fun W1=>.inl (renew_nil W1),fun d _=>rfl⟩
 ·refine ⟨ps,fun W1=>?_,hc⟩
  by_cases hb:Below W.heap.size W W1
  ·exact .inl (renew_part W1 (hB.next hb))
  ·exact .inr hb
theorem renew_at {W W1:World} {p:Option Addr} {U:Pt} {ps':Nat→Option Addr} (h:∀ W1,(Calls Tryz.prog 331 #[.pointer p] W1 (RetN ps' U.en W1))∨¬ Below W.heap.size W W1) (hb:Below W.heap.size W W1):
  Calls Tryz.prog 331 #[.pointer p] W1 (RetN ps' U.en W1):=(h W1).elim id fun hn=>absurd hb hn
theorem putT_step {k:Nat} (hk:k<10) (U:Pt) (x:Nat) (e:En):putT (10-k) U x e=.part (fun d=>if d=x / 8 ^ (9-k) % 8 then putT (10-(k+1)) (U.nx d) x e else U.nx d) U.en:=by
 have:10-k=(10-(k+1))+1:=by omega
 rw [this];simp only [putT]
 rw [show 10-(k+1)=9-k by omega]
theorem PutS.step {w:World} {e:En} {r:Nat} {T:Pt} {x k b:Nat} {U:Pt} {ps:Nat→Option Addr} {W W1:World} (hk:k<10) (h:PutS w e r T x k b U ps W) {D:Nat} (hD:D=x / 8 ^ (9-k) % 8) {ps':Nat→Option Addr}
  (hkid:∀ d,d<8→IsP w.heap.size W (ps' d) ((U.nx D).nx d)) (hb:Below W.heap.size W W1) (hs:W.heap.size<W1.heap.size) (hN:Blk W1 W.heap.size (ptL ps' (U.nx D).en) 353):
  PutS w e r T x (k+1) W.heap.size (U.nx D) ps' (W1.setCell ⟨b,D,none⟩ (.pointer (some ⟨W.heap.size,0,none⟩))):=by
 have hD8:D<8:=hD▸Nat.mod_lt _ (by decide)
 have hbW:=h.bb.lt;have h1:=h.next hb;have hb1:b<W1.heap.size:=h1.bb.lt;have hnew:=h.new;have hne:∀ c,c≠b→(W1.setCell ⟨b,D,none⟩ (.pointer (some ⟨W.heap.size,0,none⟩))).heap[c]? = W1.heap[c]? := fun c hc=>Below.heap_setCell _ _ _ _ hc
 have hset:=h1.bb.set D (.pointer (some ⟨W.heap.size,0,none⟩));rw [ptL_set _ _ _ hD8] at hset;have hlow:∀ c,c<w.heap.size→(W1.setCell ⟨b,D,none⟩ (.pointer (some ⟨W.heap.size,0,none⟩))).heap[c]? = W1.heap[c]? := fun c hc=>hne c (by omega)
 refine ⟨h1.bel.setCell (p:=⟨b,D,none⟩) (Nat.le_of_lt hnew) _,h1.be.other _ (by show w.heap.size≠b; omega) _,Nat.lt_trans hnew hbW,hN.other _ (by show W.heap.size≠b; omega) _,fun d hd=>((hkid d hd).below (hb.mono h.bel.size)).same hlow,?_⟩;obtain ⟨plug,hh,hp⟩:=h.hole;refine ⟨fun T'=>plug (.part (fun j=>if j=D then T' else U.nx j) U.en),fun W' T' ha hsz hT'=>?_,?_⟩
 ·have hsz1:(W1.setCell ⟨b,D,none⟩ (.pointer (some ⟨W.heap.size,0,none⟩))).heap.size=W1.heap.size:=by simp
  rw [hsz1] at hsz ha;have hold:∀ c,c<W.heap.size→c≠b→W'.heap[c]? = W.heap[c]? := fun c hc hcb=>by
   rw [ha c (Nat.lt_trans hc hs) (by omega),hne c hcb,hb.block c hc]
  refine hh W' _ hold (by omega) ⟨b,fun j=>if j=D then some ⟨W.heap.size,0,none⟩ else ps j,rfl,by omega,?_,fun d hd=>?_⟩
  ·have:=ha b hb1 (by omega)
   unfold Blk at hset ⊢
   rw [this];exact hset
  ·by_cases hdD:d=D
   ·simp only [if_pos hdD]
    exact hT'
   ·simp only [if_neg hdD]
    have hlt:=h.bel.size;exact ((h.kids d hd).same (W':=W') fun c hc=>hold c (by omega) (by omega)).mono (by omega)
 ·rw [←hp,putT_step hk,hD]
  show plug (.part _ _)=plug (.part _ _)
  congr 2
  funext j
  split
  ·rename_i hj; rw [hj]
  ·rfl
theorem PutS.done {w:World} {e:En} {r:Nat} {T:Pt} {x b:Nat} {U:Pt} {ps:Nat→Option Addr} {W:World} (h:PutS w e r T x 10 b U ps W):
  Below w.heap.size w ((((W.setCell ⟨b,8,none⟩ e.ac).setCell ⟨b,9,none⟩ e.an).setCell ⟨b,10,none⟩ (.int .i32 e.ch)).setCell ⟨b,11,none⟩ (.bool e.d)) ∧
  IsM ((((W.setCell ⟨b,8,none⟩ e.ac).setCell ⟨b,9,none⟩ e.an).setCell ⟨b,10,none⟩ (.int .i32 e.ch)).setCell ⟨b,11,none⟩ (.bool e.d)) (some ⟨r,0,none⟩) (putT 10 T x e):=by
 have hnew:=h.new;have hset:=(((h.bb.set 8 e.ac).set 9 e.an).set 10 (.int .i32 e.ch)).set 11 (.bool e.d);rw [ptL_en] at hset;have hbe:=below_put4 h.bel (Nat.le_of_lt hnew) 8 e.ac e.an (.int .i32 e.ch) (.bool e.d);have hsame:∀ c,c≠b→((((W.setCell ⟨b,8,none⟩ e.ac).setCell ⟨b,9,none⟩ e.an).setCell ⟨b,10,none⟩ (.int .i32 e.ch)).setCell ⟨b,11,none⟩ (.bool e.d)).heap[c]? = W.heap[c]? := fun c hc=>by
  rw [Below.heap_setCell _ _ _ _ hc,Below.heap_setCell _ _ _ _ hc,Below.heap_setCell _ _ _ _ hc,Below.heap_setCell _ _ _ _ hc]
 obtain ⟨plug,hh,hp⟩:=h.hole;refine ⟨hbe,?_⟩;rw [←hp];refine hh _ _ (fun c _ hcb=>hsame c hcb) (by simp) ⟨b,ps,rfl,by simpa using h.bb.lt,hset,fun d hd=>?_⟩;have hlt:=h.bel.size;exact ((h.kids d hd).same fun c hc=>hsame c (by omega)).mono (by simpa using hlt)
theorem PutS.start {w W:World} {e:En} {T:Pt} {x:Nat} {ps:Nat→Option Addr} (hk:∀ d,d<8→IsP w.heap.size (w.alloc (.cells ⟨enL e⟩ 351)) (ps d) (T.nx d))
  (hb:Below (w.heap.size+1) (w.alloc (.cells ⟨enL e⟩ 351)) W) (hN:Blk W (w.heap.size+1) (ptL ps T.en) 353):PutS w e (w.heap.size+1) T x 0 (w.heap.size+1) T ps W:=by
 have hb0:Below w.heap.size w (w.alloc (.cells ⟨enL e⟩ 351)):=bA;have hbw:=hb.mono (Nat.le_succ w.heap.size);exact ⟨hb0.trans hbw,(Blk.start w _ _).below hb (by omega),Nat.lt_succ_self _,hN,fun d hd=>(hk d hd).below hbw,fun T'=>T',fun _ _ _ _ h=>h,rfl⟩
def RetM (T:Pt) (w:World) (e:Ending) (w':World):Prop:=∃ q,e=.returned (.pointer q)∧IsM w' q T∧Below w.heap.size w w'
theorem put_any {p:Option Addr} {T:Pt} (e:En) (x:Nat) (w:World) (h:IsM w p T) (hx:x<1073741824):
  Calls Tryz.prog 305 #[.pointer p,.int .i64 (x:Int),.agg #[e.ac,e.an,.int .i32 e.ch,.bool e.d]] w (RetM (putT 10 T x e) w):=by
 obtain ⟨ps0,hps0,hk0⟩:=kid_of (IsP.below ((Below.refl w.heap.size w).alloc (Nat.le_refl _) (.cells ⟨enL e⟩ 351)) h);have HK0:=Lh (And.intro (fun W1 (hb:Below (w.alloc (.cells #[e.ac,e.an,.int .i32 e.ch,.bool e.d] 351)).heap.size (w.alloc (.cells #[e.ac,e.an,.int .i32 e.ch,.bool e.d] 351)) W1)=>renew_at hps0 hb) hk0);clear h hps0 hk0
 go_enter Tryz.func305,Tryz.ntmps305
 go_wp2_with fail;refine (HK0.out.1 _ (Below.refl _ _)).mono ?_;rintro e' W0 ⟨rfl,hb,hs,hN⟩
 have hsz:(w.alloc (.cells #[e.ac,e.an,.int .i32 e.ch,.bool e.d] 351)).heap.size=w.heap.size+1:=by simp
 rw [hsz] at hb hN;have HS0:=Lh (PutS.start (x:=x) HK0.out.2 hb hN);clear hb hN HK0 hsz hs;go_wp2_with fail
 go_loopg [8,14] 10 (fun g tb ti wr=>∃ k:Nat,k≤10∧g=10-k∧ti=.int .i64 (k:Int)∧∃ b U ps,tb=.pointer (some ⟨b,0,none⟩)∧PutS w e (w.heap.size+1) T x k b U ps wr)
 case atStart=>exact ⟨0,by omega,rfl,rfl,_,T,ps0,rfl,HS0.out⟩
 case round=>
  obtain ⟨k,hk,rfl,rfl,b,U,ps,rfl,hS⟩:=hrel;clear HS0;by_cases hlt:k<10
  ·have hd:x / 8 ^ (9-k) % 8<8:=Nat.mod_lt _ (by decide)
   have HD:=Lh (digitM_any x k);have HS:=Lh hS;obtain ⟨D,hD⟩:∃ D,D=x / 8 ^ (9-k) % 8:=⟨_,rfl⟩
   rw [←hD] at HD hd;have HDe:=Lh hD;clear hD;obtain ⟨ps',hk1,hk2⟩:=kid_of (hS.kids D hd);have HK:=Lh (And.intro hk1 hk2);clear hk1 hk2 hS;go_wp2_with (go_at_call 309; refine (HD.out _ hx hlt).mono ?_; rintro e' W0 ⟨rfl,rfl⟩)
   have hcell:=(HS.out.next bdq).bb.cell _ (ptL_ptr ps U.en hd);refine rgH (fun _=>True) (trivial) fun hH=>?_
   refine ta 0 hH ?_;refine ta 1 hH ?_;refine ta 2 hH ?_;refine ta 3 hH ?_;refine ta 4 hH ?_;refine ta 5 hH ?_;refine tk 6 (.pointer (some ⟨b,D,none⟩)) hH (fun w hSw=>?_) ?_
   ·(go_simp; intro hh; omega)
   try simp only [LAY]
   refine ta 9 hH ?_;refine ta 10 hH ?_;refine rd1 7 (by kernel_rfl) rfl fun K hK=>?_
   go_simp
   go_wp2_with fail
   refine hK.out _ _ (trivial) ?_;clear hK K hH;intro hH
   try simp only [LAY]
   refine rc 8 (renew_at HK.out.1 bdq) ?_
   rintro e' W1 ⟨rfl,hb,hs,hN⟩
   refine rp (trivial) ?_;clear hH hcell;intro hH
   have hcell:=(HS.out.next (bdq.trans hb)).bb.cell _ (ptL_ptr ps U.en hd);have hfree:=(HS.out.next (bdq.trans hb)).bb.free D;have HS2:=Lh (HS.out.step hlt HDe.out HK.out.2 (bdq.trans hb) hs hN);have hnew:=(((HS.out.next (bdq.trans hb)).bb).set D (.pointer (some ⟨W0.heap.size,0,none⟩))).cell D (by rw [ptL_set _ _ _ hd,ptL_ptr _ _ hd,if_pos rfl]);clear HS HK hb hs hN;refine tk 11 (.pointer (some ⟨b,D,none⟩)) hH (fun w hSw=>?_) ?_
   ·(go_simp; intro hh; omega)
   try simp only [LAY]
   refine rd1 12 (by kernel_rfl) rfl fun K hK=>?_
   go_simp
   go_wp2_with fail
   refine hK.out _ _ (trivial) ?_;clear hK K hH hcell hfree;intro hH
   try simp only [LAY]
   refine dnH ?_;have hd':((D:Nat):Int)<8:=by omega
   generalize (W1.setCell ⟨b,D,none⟩ (.pointer (some ⟨W0.heap.size,0,none⟩)))=W2 at *
   clear hH;go_wp2_with fail
   go_roundg (10-(k+1))
   case measure=>omega
   case rel=>exact ⟨k+1,by omega,rfl,by go_num,W0.heap.size,U.nx D,ps',rfl,HS2.out⟩
  ·obtain rfl:k=10:=by omega
   have HS:=Lh hS;have e0 := hS.be.c4;have k0:=hS.bb.live 8 (by simp [ptL]);have k1:=hS.bb.live 9 (by simp [ptL]);have k2:=hS.bb.live 10 (by simp [ptL]);have k3:=hS.bb.live 11 (by simp [ptL]);obtain ⟨k0,f0⟩:=k0;obtain ⟨k1,f1⟩:=k1;obtain ⟨k2,f2⟩:=k2;obtain ⟨k3,f3⟩:=k3;clear hS;go_wp2_with fail
   go_ret
   exact ⟨_,rfl,HS.out.done.2,HS.out.done.1⟩
theorem IsP.set {n:Nat} {W:World} {b:Nat} {vs:List Value} {t:TypeId} (hB:Blk W b vs t) (ht:t≠353) (i:Nat) (u:Value):∀ {T:Pt} {p:Option Addr},IsP n W p T→IsP n (W.setCell ⟨b,i,none⟩ u) p T
 | .nil,_,h=>h
 | .part _ _,_,⟨c,ps,hp,hn,hC,hc⟩=>⟨c,ps,hp,hn,hC.other _ (fun e=>by
   have e':c=b:=e;subst e';unfold Blk at hB hC
   rw [hB] at hC
   cases hC
   exact ht rfl) _,fun d hd=>IsP.set hB ht i u (hc d hd)⟩
def putM (T:Pt) (c s:Int) (e:En):Pt:=if mayB c s=true then putT 10 T (placeI c s) e else T
def cnt (T:Pt):Int:=((els T).length:Nat)
theorem cnt_put (T:Pt) {c s:Int} (e:En) (h:mayB c s=true):cnt (putT 10 T (placeI c s) e)=cnt T+if (getT 10 T (placeI c s)).isSome=true then 0 else 1:=by
 unfold cnt
 rw [els_insL T e (place_lt h),insL_length (els_rising T),getT_getL T (place_lt h)];split <;> omega
structure PutB (w:World) (p:Option Addr) (n c s:Int) (e:En) (T:Pt) (W:World):Prop where
 bel:Below w.heap.size w W
 bm:Blk W w.heap.size [.pointer p,n] 33
 ba:Blk W (w.heap.size+1) [c,s] 71
 be:Blk W (w.heap.size+1+1) (enL e) 351
 br:∃ v0 v1,Blk W (w.heap.size+1+1+1) [v0,v1] 33
 tr:IsP w.heap.size W p T
theorem PutB.next {w:World} {p:Option Addr} {n c s:Int} {e:En} {T:Pt} {W W':World} (h:PutB w p n c s e T W) (hb:Below W.heap.size W W'):PutB w p n c s e T W':=
 ⟨h.bel.trans (hb.mono h.bel.size),h.bm.next hb,h.ba.next hb,h.be.next hb,let ⟨v0,v1,hv⟩:=h.br; ⟨v0,v1,hv.next hb⟩,h.tr.below (hb.mono h.bel.size)⟩
theorem PutB.put {w:World} {p:Option Addr} {n c s:Int} {e:En} {T:Pt} {W:World} (h:PutB w p n c s e T W) (x0 x1:Value):
  PutB w p n c s e T ((W.setCell ⟨w.heap.size+1+1+1,0,none⟩ x0).setCell ⟨w.heap.size+1+1+1,1,none⟩ x1)∧Blk ((W.setCell ⟨w.heap.size+1+1+1,0,none⟩ x0).setCell ⟨w.heap.size+1+1+1,1,none⟩ x1) (w.heap.size+1+1+1) [x0,x1] 33:=by
 obtain ⟨v0,v1,hv⟩:=h.br;have h1:=(hv.set 0 x0).set 1 x1;have n0:w.heap.size≠w.heap.size+1+1+1:=by omega
 have n1:w.heap.size+1≠w.heap.size+1+1+1:=by omega
 have n2:w.heap.size+1+1≠w.heap.size+1+1+1:=by omega
 refine ⟨⟨(h.bel.setCell (p:=⟨w.heap.size+1+1+1,0,none⟩) (by show w.heap.size≤w.heap.size+1+1+1; omega) _).setCell (p:=⟨w.heap.size+1+1+1,1,none⟩) (by show w.heap.size≤w.heap.size+1+1+1; omega) _,
  (h.bm.other _ n0 _).other _ n0 _,(h.ba.other _ n1 _).other _ n1 _,(h.be.other _ n2 _).other _ n2 _,⟨x0,x1,h1⟩,?_⟩,h1⟩
 exact (h.tr.set hv (by decide) 0 x0).set (hv.set 0 x0) (by decide) 1 x1
theorem PutB.s {w:World} {p:Option Addr} {n c s:Int} {e:En} {T:Pt} {W:World} (h:PutB w p n c s e T W):
  W.cell? ⟨w.heap.size,0,none⟩=some (.pointer p)∧W.cell? ⟨w.heap.size+1,0,none⟩=some (.int .i64 c)∧W.cell? ⟨w.heap.size+1,1,none⟩=some (.int .i64 s) ∧
  W.cell? ⟨w.heap.size+1+1,0,none⟩=some (.int .i64 e.ac)∧W.cell? ⟨w.heap.size+1+1,1,none⟩=some (.int .i64 e.an)∧W.cell? ⟨w.heap.size+1+1,2,none⟩=some (.int .i32 e.ch)∧W.cell? ⟨w.heap.size+1+1,3,none⟩=some (.bool e.d)∧PutB w p n c s e T W:=
 ⟨h.bm.cell 0 rfl,h.ba.d2 (h.be.d4 h)⟩
theorem PutB.start {w:World} {p:Option Addr} {n c s:Int} {e:En} {T:Pt} (h:IsM w p T):PutB w p n c s e T ((((w.alloc (.cells #[.pointer p,n] 33)).alloc (.cells #[c,s] 71)).alloc (.cells #[e.ac,e.an,.int .i32 e.ch,.bool e.d] 351)).alloc (.cells #[.pointer none,.int .i64 0] 33)):=by
 have hb:Below w.heap.size w ((((w.alloc (.cells #[.pointer p,n] 33)).alloc (.cells #[c,s] 71)).alloc (.cells #[e.ac,e.an,.int .i32 e.ch,.bool e.d] 351)).alloc (.cells #[.pointer none,.int .i64 0] 33)):=(((bA).alloc (by simp) _).alloc (by simp; omega) _).alloc (by simp; omega) _;exact ⟨hb,(((Blk.start w _ _).alloc _).alloc _).alloc _,((Blk.startAt (by simp)).alloc _).alloc _,(Blk.startAt (by simp)).alloc _,⟨_,_,Blk.startAt (by simp)⟩,h.below hb⟩
theorem Put_any {p:Option Addr} {T:Pt} (c s:Int) (e:En) (w:World) (hT:IsM w p T) (hn:(els T).length≤1000000):
  Calls Tryz.prog 280 #[.agg #[.pointer p,.int .i64 (cnt T)],.agg #[c,s],.agg #[e.ac,e.an,.int .i32 e.ch,.bool e.d]] w
   fun r w'=>∃ q,r=.returned (.tuple #[.agg #[.pointer q,.int .i64 (cnt (putM T c s e))],.bool (mayB c s)])∧IsM w' q (putM T c s e)∧Below w.heap.size w w':=by
 have hn1:0≤cnt T∧cnt T≤1000000:=by unfold cnt; omega
 have H0:=Lh (PutB.start (n:=cnt T) (c:=c) (s:=s) (e:=e) hT);clear hn hT;by_cases h:mayB c s=true
 ·have hg:putM T c s e=putT 10 T (placeI c s) e:=if_pos h
  have hgm:getM T c s=getT 10 T (placeI c s):=if_pos h;have hcnt:=cnt_put T e h;rw [←hgm] at hcnt;rw [hg,h];clear hg hgm;generalize cnt (putT 10 T (placeI c s) e)=n' at *
  generalize cnt T=n at *
  obtain ⟨hn1,hn2⟩:=hn1
  go_enter Tryz.func280,Tryz.ntmps280
  go_wp2_with fail;refine (mayBe_any _ _ _).mono ?_;rintro e' w1 ⟨rfl,hb⟩; rw [h]
  have HS1:=Lh (H0.out.next hb);clear H0 hb;have m0 := HS1.out.bm.c2;have i0 := HS1.out.ba.c2;go_wp2_with fail;refine (get_any n c s _ HS1.out.tr.is).mono ?_;rintro e' w2 ⟨rfl,hb⟩
  have HS2:=Lh (HS1.out.next hb);clear HS1 hb m0 i0;generalize (getM T c s).getD .zero=ev at *
  unfold enV
  cases hsome:(getM T c s).isSome with
  | true=>
   rw [hsome] at hcnt;rw [if_pos rfl,Int.add_zero] at hcnt;have HC:=Lh hcnt;clear hcnt;have HS:=Lh (HS2.out.next ((Below.refl w2.heap.size w2).alloc (Nat.le_refl _) (.cells #[ev.ac,ev.an,.int .i32 ev.ch,.bool ev.d] 351)));clear HS2;go_wp2_with fail
   refine rgH (fun W=>Ce W w.heap.size 0 (.pointer p)∧Cc2 W (w.heap.size+1) c s (Cc4 W (w.heap.size+1+1) e.ac e.an (.int .i32 e.ch) (.bool e.d) (PutB w p n c s e T W))) ((HS.out.next bdq).s) fun hH=>?_
   clear HS;refine ta 0 hH ?_;refine ta 1 hH ?_;refine ta 2 hH ?_;refine ta 4 hH ?_;refine ta 6 hH ?_;refine rc 3 (place_any c s _ h) ?_
   rintro e' u1 ⟨rfl,hb⟩
   refine rp ((hH.2.2.2.2.2.2.2.next hb).s) ?_;clear hH hb;intro hH
   refine rc 5 (put_any e _ _ hH.2.2.2.2.2.2.2.tr.is (place_lt h)) ?_
   rintro e' u2 ⟨q,rfl,hq,hb⟩
   refine rp ((hH.2.2.2.2.2.2.2.next hb).s) ?_;clear hH hb;intro hH
   have HQ:=Lh (hH.2.2.2.2.2.2.2.br);obtain ⟨v0,v1,hv⟩:=HQ.out;have z0:=(hv.live 0 (by simp)).1;have z1:=(hv.live 1 (by simp)).1;have y0 := hv.f2;have hq2:=(hq.set hv (by decide) 0 (.pointer q)).set (hv.set 0 _) (by decide) 1 (.int .i64 (n));have HQ2:=Lh hq2;have HB:=Lh ((hv.set 0 (.pointer q)).set 1 (.int .i64 (n)));clear hq2 hq hv HQ;refine ta 7 hH ?_;refine rd1 8 (by kernel_rfl) rfl fun K hK=>?_
   go_simp
   go_wp2_with fail
   refine hK.out _ _ ((hH.2.2.2.2.2.2.2.put _ _).1.s) ?_;clear hK K hH z0 z1 y0;intro hH
   try simp only [LAY]
   refine ta 9 hH ?_;refine dnH ?_;have HF:=Lh hH.2.2.2.2.2.2.2;clear hH;obtain ⟨r0,r1⟩:=HB.out.c2;have HR:=Lh (And.intro r0 r1);clear r0 r1;go_wp2_with fail
   exact bodyPost_ret (v:=.tuple #[.agg #[.pointer q,.int .i64 (n)],.bool true]) (by have r0:=HR.out.1; have r1:=HR.out.2; simp [results, Tryz.results280, go_sem, r0, r1]) rfl ⟨q,by rw [HC.out],HQ2.out.is,HF.out.bel⟩
  | false=>
   rw [hsome] at hcnt;rw [if_neg (by decide)] at hcnt;have HC:=Lh hcnt;clear hcnt;have HS:=Lh (HS2.out.next ((Below.refl w2.heap.size w2).alloc (Nat.le_refl _) (.cells #[ev.ac,ev.an,.int .i32 ev.ch,.bool ev.d] 351)));have s1:IntKind.i64.wrap (n+1)=n+1:=IntWalk.i64_in _ (by omega);clear HS2;go_wp2_with fail
   clear s1;generalize n+1=m at *
   refine rgH (fun W=>Ce W w.heap.size 0 (.pointer p)∧Cc2 W (w.heap.size+1) c s (Cc4 W (w.heap.size+1+1) e.ac e.an (.int .i32 e.ch) (.bool e.d) (PutB w p n c s e T W))) ((HS.out.next bdq).s) fun hH=>?_
   clear HS;refine ta 0 hH ?_;refine ta 1 hH ?_;refine ta 2 hH ?_;refine ta 4 hH ?_;refine ta 6 hH ?_;refine rc 3 (place_any c s _ h) ?_
   rintro e' u1 ⟨rfl,hb⟩
   refine rp ((hH.2.2.2.2.2.2.2.next hb).s) ?_;clear hH hb;intro hH
   refine rc 5 (put_any e _ _ hH.2.2.2.2.2.2.2.tr.is (place_lt h)) ?_
   rintro e' u2 ⟨q,rfl,hq,hb⟩
   refine rp ((hH.2.2.2.2.2.2.2.next hb).s) ?_;clear hH hb;intro hH
   have HQ:=Lh (hH.2.2.2.2.2.2.2.br);obtain ⟨v0,v1,hv⟩:=HQ.out;have z0:=(hv.live 0 (by simp)).1;have z1:=(hv.live 1 (by simp)).1;have y0 := hv.f2;have hq2:=(hq.set hv (by decide) 0 (.pointer q)).set (hv.set 0 _) (by decide) 1 (.int .i64 (m));have HQ2:=Lh hq2;have HB:=Lh ((hv.set 0 (.pointer q)).set 1 (.int .i64 (m)));clear hq2 hq hv HQ;refine ta 7 hH ?_;refine rd1 8 (by kernel_rfl) rfl fun K hK=>?_
   go_simp
   go_wp2_with fail
   refine hK.out _ _ ((hH.2.2.2.2.2.2.2.put _ _).1.s) ?_;clear hK K hH z0 z1 y0;intro hH
   try simp only [LAY]
   refine ta 9 hH ?_;refine dnH ?_;have HF:=Lh hH.2.2.2.2.2.2.2;clear hH;obtain ⟨r0,r1⟩:=HB.out.c2;have HR:=Lh (And.intro r0 r1);clear r0 r1;go_wp2_with fail
   exact bodyPost_ret (v:=.tuple #[.agg #[.pointer q,m],.bool true]) (by have r0:=HR.out.1; have r1:=HR.out.2; simp [results, Tryz.results280, go_sem, r0, r1]) rfl ⟨q,by rw [HC.out],HQ2.out.is,HF.out.bel⟩
 ·have h':mayB c s=false:=by simpa using h
  have hg:putM T c s e=T:=if_neg h;rw [hg,h'];clear hg;generalize cnt T=n at *
  go_enter Tryz.func280,Tryz.ntmps280
  go_wp2_with fail;refine (mayBe_any _ _ _).mono ?_;rintro e' w1 ⟨rfl,hb⟩; rw [h']
  have HS1:=Lh (H0.out.next hb);clear H0 hb;have m0 := HS1.out.bm.c2;obtain ⟨v0,v1,hv⟩:=HS1.out.br;obtain ⟨z0,z1⟩:=hv.c2;have y0 := hv.f2;have HB:=Lh ((hv.set 0 (.pointer p)).set 1 n);have HP:=Lh (HS1.out.put (.pointer p) n).1;clear hv HS1;go_wp2_with fail
  exact bodyPost_ret (v:=.tuple #[.agg #[.pointer p,n],.bool false]) (by have r0:=HB.out.cell 0 rfl; have r1:=HB.out.cell 1 rfl; simp [results, Tryz.results280, go_sem, r0, r1]) rfl ⟨p,rfl,HP.out.tr.is,HP.out.bel⟩
theorem kid_none {n:Nat} {W:World} {p:Option Addr} {T:Pt} (h:IsP n W p T):(p=none↔T.isNil=true):=by
 rcases h.cases with ⟨rfl,rfl⟩ | ⟨b,ps,rfl,hbn,hB,hnn,hc⟩
 ·exact ⟨fun _=>rfl,fun _=>rfl⟩
 ·rw [hnn]; exact ⟨fun h=>(by cases h),fun h=>(by cases h)⟩
theorem last_any {n b:Nat} {ps:Nat→Option Addr} {T:Pt} (w:World) (hB:Blk w b (ptL ps T.en) 353) (hc:∀ d,d<8→IsP n w (ps d) (T.nx d)):
  Calls Tryz.prog 236 #[.pointer (some ⟨b,0,none⟩)] w fun e w'=>e=.returned (.int .i64 ((lastD T.nx 7:Nat):Int))∧w'=w:=by
 have HC:=Lh hc;have HB:=Lh hB;clear hc hB
 go_enter Tryz.func236,Tryz.ntmps236
 go_wp2
 go_loopg [3] 7 (fun g td wr=>∃ d:Nat,d≤7∧g=d∧td=.int .i64 (d:Int)∧lastD T.nx d=lastD T.nx 7∧wr=w)
 case atStart=>exact ⟨7,by omega,rfl,rfl,rfl,rfl⟩
 case round=>
  obtain ⟨d,hd,rfl,rfl,hl,rfl⟩:=hrel;have HL:=Lh hl;clear hl
  match gk,hd,HL with
  | 0,_,HL=>
   go_wp2
   go_ret
   exact ⟨by rw [←HL.out]; rfl,rfl⟩
  | d+1,hd,HL=>
   have hcell:=HB.out.cell _ (ptL_ptr ps T.en (show d+1<8 by omega));have hk:=kid_none (HC.out (d+1) (by omega));have HK:=Lh hk;clear hk
   cases hp:ps (d+1) with
   | none=>
    rw [hp] at hcell;have hn:=HK.out.1 hp;have HN:=Lh hn;clear hn
    go_wp2
    go_roundg d
    case measure=>omega
    case rel=>exact ⟨d,by omega,rfl,by go_num,by rw [←HL.out]; simp only [lastD]; rw [if_pos HN.out],rfl⟩
   | some a=>
    rw [hp] at hcell;have hn:¬ (T.nx (d+1)).isNil=true:=fun e=>by have:=HK.out.2 e; rw [hp] at this; cases this
    have HN:=Lh hn;clear hn
    go_wp2
    go_ret
    exact ⟨by rw [←HL.out]; simp only [lastD]; rw [if_neg HN.out]; rfl,rfl⟩
def lastC (T:Pt):Int:=if T.isNil=true then 0 else nmC (lastP 10 0 T)
def lastS (T:Pt):Int:=if T.isNil=true then 0 else nmS (lastP 10 0 T)
theorem full_kid {i:Nat} {T:Pt} (hf:Full (i+1) T) (hn:T.isNil=false):Full i (T.nx (lastD T.nx 7))∧(T.nx (lastD T.nx 7)).isNil=false:=by
 have hex:∃ d,d≤7∧(T.nx d).isNil=false:=by
  rcases hf.2 with rfl | ⟨d,hd,hh⟩
  ·cases hn
  ·exact ⟨d,by omega,hh⟩
 have hle:=lastD_le T.nx 7;exact ⟨hf.1 _ (by omega),(lastD_spec T.nx 7 hex).1⟩
structure LastB (w:World) (p:Option Addr) (n:Int) (T:Pt) (W:World):Prop where
 bel:Below w.heap.size w W
 bm:Blk W w.heap.size [.pointer p,n] 33
 br:Blk W (w.heap.size+1) [.int .i64 0,.int .i64 0] 71
theorem LastB.next {w:World} {p:Option Addr} {n:Int} {T:Pt} {W W':World} (h:LastB w p n T W) (hb:Below W.heap.size W W'):LastB w p n T W':=
 ⟨h.bel.trans (hb.mono h.bel.size),h.bm.next hb,h.br.next hb⟩
theorem LastB.start {w:World} {p:Option Addr} {n:Int} {T:Pt}:LastB w p n T ((w.alloc (.cells #[.pointer p,n] 33)).alloc (.cells #[.int .i64 0,.int .i64 0] 71)):=
 ⟨(bA).alloc (by simp) _,(Blk.start w _ _).alloc _,Blk.startAt (by simp)⟩
theorem Last_any {p:Option Addr} {T:Pt} (n:Int) (w:World) (h:IsM w p T) (hf:Full 10 T):
  Calls Tryz.prog 208 #[.agg #[.pointer p,n]] w (Rt (.agg #[.int .i64 (lastC T),.int .i64 (lastS T)]) w):=by
 have H0:=Lh (LastB.start (w:=w) (p:=p) (n:=n) (T:=T))
 cases hn:T.isNil with
 | true=>
  obtain rfl:=Pt.isNil_true hn;obtain rfl:p=none:=h;have y0 := H0.out.br.c2;have z0 := H0.out.br.f2;have HR:=Lh ((H0.out.br.set 0 (.int .i64 0)).set 1 (.int .i64 0));have HE:=Lh ((H0.out.bel.setCell (p:=⟨w.heap.size+1,0,none⟩) (by show w.heap.size≤w.heap.size+1; omega) (.int .i64 0)).setCell (p:=⟨w.heap.size+1,1,none⟩) (by show w.heap.size≤w.heap.size+1; omega) (.int .i64 0));clear y0 z0
  go_enter Tryz.func208,Tryz.ntmps208
  go_wp2
  exact bodyPost_ret (v:=.agg #[.int .i64 0,.int .i64 0]) (by simp [results, Tryz.results208, go_sem]) rfl ⟨rfl,H0.out.bel⟩
 | false=>
  have HF:=Lh hf;have HT:=Lh h;clear hf h
  go_enter Tryz.func208,Tryz.ntmps208
  rcases HT.out.cases with ⟨_,rfl⟩ | ⟨b,ps,rfl,hbn,hB,hnn,hc⟩
  ·cases hn
  clear hB hc hnn hbn
  go_wp2
  go_loopg [3,4,11] 10 (fun g tp ta ti wr=>∃ k:Nat,k≤10∧g=10-k∧ti=.int .i64 (k:Int)∧∃ (x:Nat) (q:Option Addr) (U:Pt),ta=.int .i64 (x:Int)∧tp=.pointer q∧x<8 ^ k∧IsP w.heap.size w q U∧Full (10-k) U∧U.isNil=false∧lastP (10-k) x U=lastP 10 0 T∧LastB w (some ⟨b,0,none⟩) n T wr)
  case atStart=>exact ⟨0,by omega,rfl,rfl,0,_,T,rfl,rfl,by decide,HT.out,HF.out,hn,rfl,H0.out⟩
  case round=>
   obtain ⟨k,hk,rfl,rfl,x,q,U,rfl,rfl,hx,hU,hf,hnU,hl,hB⟩:=hrel;rcases hU.cases with ⟨_,rfl⟩ | ⟨b',ps',rfl,hbn',hB',hnn',hc'⟩
   ·cases hnU
   clear H0 HT HF;by_cases hlt:k<10
   ·have hp:(8:Nat) ^ k≤8 ^ 9:=Nat.pow_le_pow_right (by decide) (by omega)
    have hxb:x<134217728:=by
     have:(8:Nat) ^ 9=134217728:=by decide
     omega
    have hD:=lastD_le U.nx 7;have hstep:10-k=(10-(k+1))+1:=by omega
    rw [hstep] at hf hl;have hkid:=full_kid hf hnn';have hcell:=(hB'.next hB.bel).cell _ (ptL_ptr ps' U.en (show lastD U.nx 7<8 by omega));have hx8:x * 8+lastD U.nx 7<8 ^ (k+1):=by rw [Nat.pow_succ]; omega
    have HG:=Lh (And.intro hkid (And.intro (hc' _ (show lastD U.nx 7<8 by omega)) (And.intro hx8 (show lastP (10-(k+1)) (x * 8+lastD U.nx 7) (U.nx (lastD U.nx 7))=lastP 10 0 T from hl))));have HL:=Lh (last_any (wr) (hB'.next hB.bel) (fun d hd=>(hc' d hd).below hB.bel));have HB:=Lh hB;clear hf hl hkid hx8 hc' hB hB' hnn' hnU hU hp;generalize lastD U.nx 7=D at *
    have s1:IntKind.i64.wrap ((x:Int) * 8)=(x:Int) * 8:=IntWalk.i64_in _ (by omega);have s2:=or8 ((x:Int) * 8) (D:Int) (by omega) (by omega) (by omega) (by omega) (by omega);have hd8:(D:Int)<8:=by omega
    go_wp2_with (go_at_call 236; refine HL.out.mono ?_; rintro e w1 ⟨rfl,rfl⟩)
    go_quiet (fail)
    go_wp2
    go_roundg (10-(k+1))
    case measure=>omega
    case rel=>exact ⟨k+1,by omega,rfl,by go_num,x * 8+D,_,_,by go_num,rfl,HG.out.2.2.1,HG.out.2.1,HG.out.1.1,HG.out.1.2,HG.out.2.2.2,HB.out.next (below_drewN (Below.refl _ _) _)⟩
   ·obtain rfl:k=10:=by omega
    have hx2:x<1073741824:=by
     have:(8:Nat) ^ 10=1073741824:=by decide
     omega
    have HB:=Lh hB;have hlp:x=lastP 10 0 T:=hl;have HP:=Lh hlp;clear hl hB hf hU hc' hB' hx hnU hnn' hlp;go_wp2_with fail;refine (named_any x _ hx2).mono ?_;rintro e w1 ⟨rfl,hb⟩
    have hB1:=HB.out.next hb;have y0 := hB1.br.c2;have z0 := hB1.br.f2;have HR:=Lh ((hB1.br.set 0 (.int .i64 (nmC x))).set 1 (.int .i64 (nmS x)));have HE:=Lh ((hB1.bel.setCell (p:=⟨w.heap.size+1,0,none⟩) (by show w.heap.size≤w.heap.size+1; omega) (.int .i64 (nmC x))).setCell (p:=⟨w.heap.size+1,1,none⟩) (by show w.heap.size≤w.heap.size+1; omega) (.int .i64 (nmS x)));have e0:lastC T=nmC x:=by unfold lastC; rw [hn,←HP.out]; rfl
    have e1:lastS T=nmS x:=by unfold lastS; rw [hn,←HP.out]; rfl
    have HV:=Lh (And.intro e0 e1);clear e0 e1 hB1 hb HB HP;go_wp2_with fail
    exact bodyPost_ret (v:=.agg #[.int .i64 (nmC x),.int .i64 (nmS x)]) (by have r0:=HR.out.cell 0 rfl; have r1:=HR.out.cell 1 rfl; simp [results, Tryz.results208, go_sem, r0, r1]) rfl ⟨by rw [HV.out.1,HV.out.2],HE.out⟩
end Go.Proofs.YtemicfjmidohfaaGreatDoor
namespace Go.Proofs.YtemicfjmidohfaaGreatDoor
open Go Go.Proofs Go.RowKit Go.Shelf
attribute [local go_sem] Oper.semAt_some
theorem grownBy_drew (w:World):w.grownBy w.drew none:=⟨rfl,rfl,rfl,Nat.le_refl _,fun _ _ _=>rfl⟩
theorem takeIn {F:Fence} {n:Nat} {P:Program} {md:Region.Mode} {ops:Array Oper} {Q:Exit→Act→World→Prop} {i:Nat} {oi:Oper} {v:Value} {fuel:Nat} {listed:Array Bool} {a:Act} {w:World} (hro:F.round=none) (hi:ops.toList[i]? = some oi)
  (hs:Region.noSelect ops=true) (hf:Region.free md ops listed i=true) (hr:(Region.ready md ops listed).contains i=true)
  (hQ:∀ c a w,Q (.panic c) (a.put oi.dst v) w→Q (.panic c) a w) (hy:YieldsFenced P ops oi v a)
  (h:wpAnyIn F n P md ops Q fuel (listed.setIfInBounds i true) (a.put oi.dst v) w):wpAnyIn F n P md ops Q (fuel+1) listed a w:=
 wpAnyIn_take hro (by simpa using hi) hs hf hr hQ hy h
theorem consIn {F:Fence} {n:Nat} {P:Program} {md:Region.Mode} {ops:Array Oper} {Q:Exit→Act→World→Prop} {fuel:Nat} {listed:Array Bool} {a:Act} {w:World} {i:Nat} {o:Oper} {rs:List Nat} (ho:ops.toList[i]? = some o)
  (h:∀ K':Act→World→Prop,(∀ a w,wpAnyIn F n P md ops Q fuel (listed.setIfInBounds i true) a w→K' a w)→if Region.wanted o (yielded ops a.tmps)=true then Oper.wpIn F n P o a w K' Q else (∀ f,o.about P w a.eval=some f→F.fn f)∧K' (a.put o.dst undef) w)
  (hs:AllReadyIn F n P md ops Q fuel listed a w rs):AllReadyIn F n P md ops Q fuel listed a w (i::rs):=
 AllReadyIn.cons (by simpa using ho) h hs
abbrev encsM (x:Nat×En):Array Value := #[.agg #[.int .i64 (nmC x.1),.int .i64 (nmS x.1)],.agg #[x.2.ac,x.2.an,.int .i32 x.2.ch,.bool x.2.d]]
theorem named_in (F:Fence) (n:Nat) (h32:F.fn 237) (hro:F.round=none) (x:Nat) (w:World) (hx:x<1073741824):
  CallsIn F n Tryz.prog 237 #[.int .i64 (x:Int)] w fun e w'=>e=.returned (.agg #[.int .i64 (nmC x),.int .i64 (nmS x)])∧w'=w.alloc (.cells #[.int .i64 (nmC x),.int .i64 (nmS x)] 71):=by
 have s1:IntKind.i64.wrap ((x:Int) / 1024+1)=(x:Int) / 1024+1:=IntWalk.i64_in _ (by omega);have s2:=and1023 (x:Int) (by omega) (by omega);have s3:IntKind.i64.wrap ((x:Int) % 1024+1)=(x:Int) % 1024+1:=IntWalk.i64_in _ (by omega);have e1:nmC x=(x:Int) / 1024+1:=by unfold nmC; omega
 have e2:nmS x=(x:Int) % 1024+1:=by unfold nmS; omega
 rw [e1,e2];clear e1 e2;refine callsIn_of_wp Tryz.func237 rfl h32 ?_ hro;simp only [Tryz.ntmps237,List.size_toArray,List.length_cons,List.length_nil,Nat.reduceAdd,Nat.reduceSub,Array.replicate_succ,Array.replicate_zero,List.push_toArray,List.append_toArray,List.nil_append,List.cons_append]
 gi_wp2
 exact bodyPost_ret (by simp [results,Tryz.results237,go_sem]) rfl ⟨rfl,rfl⟩
def dOf:Value→Nat
 | .int _ d=>d.toNat
 | _=>0
def EachR (n₀:Nat) (J Jx:List (Nat×En)→World→Prop) (pre l:List (Nat×En)) (W:World) (e:Ending) (W':World):Prop:=
 (e=.returned (.bool true)∧J (pre++l) W'∧Below n₀ W W')∨(e=.returned (.bool false)∧∃ q,q <+: l∧Jx (pre++q) W')
theorem eachM_in (F:Fence) (hd:F.depth=none) (h26:F.fn 307) (h32:F.fn 237) (hro:F.round=none) (l n₀ N:Nat) (Px:Nat×En→Prop) (J Jx:List (Nat×En)→World→Prop)
  (hJa:∀ pre W W',J pre W→W.grownBy W' none→J pre W')
  (hY:∀ m pre x W,Px x→J pre W→pre.length<N→YieldAt F m Tryz.prog l (encsM x) W fun e W'=>
   (e=.returned (.bool true)∧J (pre++[x]) W'∧Below n₀ W W')∨(e=.returned (.bool false)∧Jx (pre++[x]) W')):
  ∀ (m:Nat) (T:Pt) (i n:Nat) (p:Option Addr) (k:Nat) (pre:List (Nat×En)) (W:World),i+m=10→IsP n₀ W p T→n₀≤W.heap.size→(k+1) * 8 ^ m≤1073741824→J pre W→pre.length+(elsT m k T).length≤N→(∀ x∈elsT m k T,Px x) →
   CallsIn F n Tryz.prog 307 #[.pointer p,.int .i64 (k:Int),.int .i64 (i:Int),.func (.yield l) #[] #[]] W (EachR n₀ J Jx pre (elsT m k T) W):=by
 intro m
 have hdd:∀ k:Nat,(F.depth.isSome=true→1≤k):=fun k h=>by rw [hd] at h; cases h
 induction m with
 | zero=>
  intro T i n p k pre W hi hT hn₀ hk hJ hN hP
  obtain rfl:i=10:=by omega
  rcases hT.cases with ⟨rfl,rfl⟩ | ⟨b,ps,rfl,hb,hB,hnn,-⟩
  ·refine callsIn_of_wp Tryz.func307 rfl h26 ?_ hro
   simp only [Tryz.ntmps307,List.size_toArray,List.length_cons,List.length_nil,Nat.reduceAdd,Nat.reduceSub,Array.replicate_succ,Array.replicate_zero,List.push_toArray,List.append_toArray,List.nil_append,List.cons_append]
   gi_wp2
   go_ret
   exact .inl ⟨rfl,by simpa [elsT] using hJ,Below.refl _ _⟩
  ·obtain ⟨f,ev,rfl⟩:=Pt.isNil_false hnn
   have hB:Blk W b (ptL ps ev) 353:=hB;have hkx:k<1073741824:=by omega
   obtain ⟨o,ho⟩:∃ o,o=Obj.cells #[.int .i64 (nmC k),.int .i64 (nmS k)] 71:=⟨_,rfl⟩
   have hbW:Below n₀ W (W.alloc o).drew:=((Below.refl n₀ W).alloc hn₀ _).drew;have hJ1:J pre (W.alloc o).drew:=hJa _ _ _ (hJa _ _ _ hJ (World.grownBy_alloc _ o none)) (grownBy_drew _);have hy:=YieldAt.mono (hY (n - 1) pre (k,ev) _ (hP _ (by simp [elsT])) hJ1 (by simp only [elsT,List.length_cons,List.length_nil] at hN; omega)) (R':=fun e W2=>∃ r,e=.returned (.bool r)∧((r=true∧J (pre++[(k,ev)]) W2∧Below n₀ W W2)∨(r=false∧Jx (pre++[(k,ev)]) W2)))
    (fun e W2 h=>h.elim (fun ⟨he,hj,hb2⟩=>⟨true,he,.inl ⟨rfl,hj,hbW.trans hb2⟩⟩) (fun ⟨he,hx⟩=>⟨false,he,.inr ⟨rfl,hx⟩⟩))
   obtain ⟨fn,tmps,assign,body,hy,hR⟩:=hy;have HN:=Lh (named_in F (n - 1) h32 hro k);have k0:=hB.cell 8 rfl;have k1:=hB.cell 9 rfl;have k2:=hB.cell 10 rfl;have k3:=hB.cell 11 rfl;have hlt:=hB.lt;have hne:b≠W.heap.size:=by omega
   have HO:=Lh ho;clear hJ1 hbW hJ hY hN hB hnn hk hT ho hP;refine callsIn_of_wp Tryz.func307 rfl h26 ?_ hro;simp only [Tryz.ntmps307,List.size_toArray,List.length_cons,List.length_nil,Nat.reduceAdd,Nat.reduceSub,Array.replicate_succ,Array.replicate_zero,List.push_toArray,List.append_toArray,List.nil_append,List.cons_append]
   gi_wp2
   refine wpIn_region_any (by kernel_rfl) ?_
   try (change wpAnyIn _ _ _ _ _ _ _ _ _ (World.drew _))
   refine takeIn (i:=0) (v:=.func (.yield l) #[] #[]) hro rfl (by kernel_rfl) (by kernel_rfl) (by kernel_rfl) (fun _ _ _ h=>h) ⟨Or.inl ⟨by rfl,fun w=>?_⟩,fun _=>rfl⟩ ?_
   ·(go_simp)
   try simp only [LAY]
   refine takeIn (i:=1) (v:=.int .i64 (k:Int)) hro rfl (by kernel_rfl) (by kernel_rfl) (by kernel_rfl) (fun _ _ _ h=>h) ⟨Or.inl ⟨by rfl,fun w=>?_⟩,fun _=>rfl⟩ ?_
   ·(go_simp)
   try simp only [LAY]
   refine takeIn (i:=3) (v:=.pointer (some ⟨b,0,none⟩)) hro rfl (by kernel_rfl) (by kernel_rfl) (by kernel_rfl) (fun _ _ _ h=>h) ⟨Or.inl ⟨by rfl,fun w=>?_⟩,fun _=>rfl⟩ ?_
   ·(go_simp)
   try simp only [LAY]
   refine takeIn (i:=4) (v:=.pointer (some ⟨b,0,none⟩)) hro rfl (by kernel_rfl) (by kernel_rfl) (by kernel_rfl) (fun _ _ _ h=>h) ⟨Or.inl ⟨by rfl,fun w=>?_⟩,fun _=>rfl⟩ ?_
   ·(go_simp)
   try simp only [LAY]
   refine takeIn (i:=5) (v:=.pointer (some ⟨b,8,none⟩)) hro rfl (by kernel_rfl) (by kernel_rfl) (by kernel_rfl) (fun _ _ _ h=>h) ⟨Or.inl ⟨by rfl,fun w=>?_⟩,fun _=>rfl⟩ ?_
   ·(go_simp)
   try simp only [LAY]
   refine wpAnyIn_ready (rs:=[2,6]) (by kernel_rfl) (by simp) ?_;refine consIn rfl (fun K hK=>?_) (consIn rfl (fun K hK=>?_) AllReadyIn.nil)
   ·go_simp
    gi_wp2_with ((try refine ⟨hdd _,?_⟩); gi_at_call 237; refine (HN.out _ hkx).mono ?_; rintro e W9 ⟨rfl,hW9⟩; rw [←HO.out] at hW9; subst hW9)
    try simp only [LAY]
    refine wpAnyIn_ready (rs:=[6]) (by kernel_rfl) (by simp) ?_;refine consIn rfl (fun K hK=>?_) AllReadyIn.nil;go_simp
    refine hK _ _ ?_;clear hK K
    try simp only [LAY]
    refine wpAnyIn_ready (rs:=[7]) (by kernel_rfl) (by simp) ?_;refine consIn rfl (fun K hK=>?_) AllReadyIn.nil;go_simp
    gi_wp2_with ((try refine ⟨hdd _,?_⟩); refine hR.mono ?_; rintro e W2 ⟨r,rfl,hres⟩)
    try simp only [LAY]
    refine takeIn (i:=8) (v:=.bool r) hro rfl (by kernel_rfl) (by kernel_rfl) (by kernel_rfl) (fun _ _ _ h=>h) ⟨Or.inl ⟨by rfl,fun w=>?_⟩,fun _=>rfl⟩ ?_
    ·(go_simp)
    try simp only [LAY]
    refine wpAnyIn_done (by kernel_rfl) ?_ _
    gi_wp2
    go_ret
    rcases hres with ⟨rfl,hj,hb2⟩ | ⟨rfl,hx⟩
    ·exact .inl ⟨rfl,hj,hb2⟩
    ·exact .inr ⟨rfl,[(k,ev)],List.prefix_refl _,hx⟩
   ·go_simp
    refine hK _ _ ?_;clear hK K
    try simp only [LAY]
    refine wpAnyIn_ready (rs:=[2]) (by kernel_rfl) (by simp) ?_;refine consIn rfl (fun K hK=>?_) AllReadyIn.nil;go_simp
    gi_wp2_with ((try refine ⟨hdd _,?_⟩); gi_at_call 237; refine (HN.out _ hkx).mono ?_; rintro e W9 ⟨rfl,hW9⟩; rw [←HO.out] at hW9; subst hW9)
    try simp only [LAY]
    refine wpAnyIn_ready (rs:=[7]) (by kernel_rfl) (by simp) ?_;refine consIn rfl (fun K hK=>?_) AllReadyIn.nil;go_simp
    gi_wp2_with ((try refine ⟨hdd _,?_⟩); refine hR.mono ?_; rintro e W2 ⟨r,rfl,hres⟩)
    try simp only [LAY]
    refine takeIn (i:=8) (v:=.bool r) hro rfl (by kernel_rfl) (by kernel_rfl) (by kernel_rfl) (fun _ _ _ h=>h) ⟨Or.inl ⟨by rfl,fun w=>?_⟩,fun _=>rfl⟩ ?_
    ·(go_simp)
    try simp only [LAY]
    refine wpAnyIn_done (by kernel_rfl) ?_ _
    gi_wp2
    go_ret
    rcases hres with ⟨rfl,hj,hb2⟩ | ⟨rfl,hx⟩
    ·exact .inl ⟨rfl,hj,hb2⟩
    ·exact .inr ⟨rfl,[(k,ev)],List.prefix_refl _,hx⟩
 | succ m ih=>
  intro T i n p k pre W hi hT hn₀ hk hJ hN hP
  rcases hT.cases with ⟨rfl,rfl⟩ | ⟨b,ps,rfl,hb,hB,hnn,hc⟩
  ·refine callsIn_of_wp Tryz.func307 rfl h26 ?_ hro
   simp only [Tryz.ntmps307,List.size_toArray,List.length_cons,List.length_nil,Nat.reduceAdd,Nat.reduceSub,Array.replicate_succ,Array.replicate_zero,List.push_toArray,List.append_toArray,List.nil_append,List.cons_append]
   gi_wp2
   go_ret
   exact .inl ⟨rfl,by simpa [elsT] using hJ,Below.refl _ _⟩
  ·have hP8:0<8 ^ m:=Nat.pow_pos (by decide)
   have hk8:(k * 8+8) * 8 ^ m≤1073741824:=by
    have e2:(k+1) * 8 ^ (m+1)=(k * 8+8) * 8 ^ m:=by rw [Nat.pow_succ,Nat.mul_comm (8 ^ m) 8,←Nat.mul_assoc,Nat.add_mul,Nat.one_mul]
    omega
   have hkb:k * 8+8≤1073741824:=Nat.le_trans (Nat.le_mul_of_pos_right _ hP8) hk8;obtain ⟨els,hels⟩:∃ els:Nat→List (Nat×En),els=fun d=>(List.range d).flatMap fun j=>elsT m (k * 8+j) (T.nx j):=⟨_,rfl⟩
   have hall:elsT (m+1) k T=els 8:=by rw [hels,elsT_succ]
   have hnext:∀ d,els (d+1)=els d++elsT m (k * 8+d) (T.nx d):=fun d=>by rw [hels]; simp [List.range_succ]
   have hpre:∀ d,d≤8→els d <+: els 8:=fun d hd=>by
    rw [hels];refine ⟨(List.range' d (8-d)).flatMap fun j=>elsT m (k * 8+j) (T.nx j),?_⟩;simp only []
    rw [←List.flatMap_append]
    congr 1
    rw [List.range_eq_range',List.range_eq_range'];have:=List.range'_append (s:=0) (m:=d) (n:=8-d) (step:=1);rw [show d+(8-d)=8 by omega] at this
    simpa using this
   have h0:els 0=[]:=by rw [hels]; rfl
   rw [hall] at hN hP ⊢;have IH:=Lh (fun (d:Nat) (hd8:d<8) (W1:World) (hb1:Below n₀ W W1) (hj:J (pre++els d) W1)=>show CallsIn F (n - 1) Tryz.prog 307 #[.pointer (ps d),.int .i64 ((k:Int) * 8+d),.int .i64 ((i:Int)+1),.func (.yield l) #[] #[]] W1 (EachR n₀ J Jx (pre++els d) (elsT m (k * 8+d) (T.nx d)) W1) by
    have h1:(k * 8+d+1) * 8 ^ m≤1073741824:=Nat.le_trans (Nat.mul_le_mul_right _ (by omega)) hk8;have hl1:(els (d+1)).length≤(els 8).length:=(hpre (d+1) (by omega)).length_le;rw [hnext,List.length_append] at hl1;have:=ih (T.nx d) (i+1) (n - 1) (ps d) (k * 8+d) (pre++els d) W1 (by omega) ((hc d hd8).below hb1) (Nat.le_trans hn₀ hb1.size) h1 hj (by rw [List.length_append]; omega) (fun x hx=>hP x ((hpre (d+1) (by omega)).subset (by rw [hnext]; exact List.mem_append_right _ hx)))
    rwa [show (((k * 8+d:Nat)):Int)=(k:Int) * 8+d by omega,show (((i+1:Nat)):Int)=(i:Int)+1 by omega] at this)
   have HE:=Lh (And.intro hnext (And.intro hpre h0));have HB:=Lh hB;have hib:i<10:=by omega
   have hi10:((i:Int)==10)=false:=by simp; omega
   have hJ0:J (pre++els 0) W:=by rw [h0]; simpa using hJ
   clear hk8 hP8 hP hall hnext hpre h0 hN hk hc hT hnn hB hJ hJa hY ih hels hn₀ hi;refine callsIn_of_wp Tryz.func307 rfl h26 ?_ hro;simp only [Tryz.ntmps307,List.size_toArray,List.length_cons,List.length_nil,Nat.reduceAdd,Nat.reduceSub,Array.replicate_succ,Array.replicate_zero,List.push_toArray,List.append_toArray,List.nil_append,List.cons_append]
   gi_wp2
   gi_loopw [22] (fun v W1=>∃ d:Nat,d≤8∧v=.int .i64 (d:Int)∧J (pre++els d) W1∧Below n₀ W W1) (fun v W1=>8-dOf v)
   case atStart=>exact ⟨0,by omega,rfl,hJ0,Below.refl _ _⟩
   case round=>
    obtain ⟨d,hd8,rfl,hj,hb1⟩:=hrel;clear hJ0;by_cases hlt:d<8
    ·have hcell:=(HB.out.below hb1 hb).cell _ (ptL_ptr ps T.en hlt)
     have s1:IntKind.i64.wrap ((k:Int) * 8)=(k:Int) * 8:=IntWalk.i64_in _ (by omega);have s2:=or8 ((k:Int) * 8) (d:Int) (by omega) (by omega) (by omega) (by omega) (by omega);have s3:IntKind.i64.wrap ((i:Int)+1)=(i:Int)+1:=IntWalk.i64_in _ (by omega);have ihd:=(IH.out d hlt wr hb1 hj)
     clear hj
     gi_wp2_with ((try refine ⟨hdd _,?_⟩); gi_at_call 307; refine ihd.mono ?_; clear ihd; rintro e W2 (⟨rfl,hj2,hb2⟩ | ⟨rfl,q,hq,hx⟩))
     ·go_roundw
      case rel=>exact ⟨d+1,by omega,by go_num,by rw [HE.out.1,←List.append_assoc]; exact hj2,hb1.trans hb2⟩
      case measure=>simp [dOf]; omega
     ·go_ret
      refine .inr ⟨rfl,els d++q,?_,by rw [←List.append_assoc]; exact hx⟩;refine List.IsPrefix.trans ?_ (HE.out.2.1 (d+1) (by omega));rw [HE.out.1];exact (List.prefix_append_right_inj _).2 hq
    ·obtain rfl:d=8:=by omega
     gi_wp2
     go_ret
     exact .inl ⟨rfl,hj,hb1⟩
theorem all1M_in (F:Fence) (hd:F.depth=none) (n:Nat) (h25:F.fn 306) (h26:F.fn 307) (h32:F.fn 237) (hro:F.round=none) (l Bt n₀:Nat) (p0:Option Addr) (T:Pt) (J Jx:List (Nat×En)→World→Prop)
  (hJa:∀ pre W W',J pre W→W.grownBy W' none→J pre W')
  (hY:∀ pre x W,x∈els T→J pre W→pre.length<(els T).length→YieldAt F (n - 1) Tryz.prog l (encsM x) W fun e W'=>
   (e=.returned (.bool true)∧J (pre++[x]) W'∧Below n₀ W W')∨(e=.returned (.bool false)∧Jx (pre++[x]) W'))
  (W:World) (hBt:W.cell? ⟨Bt,0,none⟩=some (.pointer p0)) (hT:IsP n₀ W p0 T) (hn₀:n₀≤W.heap.size) (h0:J [] W):
  CallsIn F n Tryz.prog 306 #[.func (.yield l) #[] #[],.pointer (some ⟨Bt,0,none⟩)] W fun e W'=>(∃ v,e=.returned v) ∧
   (J (els T) W'∨(∃ pre,pre <+: els T∧Jx pre W')):=by
 have hdd:∀ k:Nat,(F.depth.isSome=true→1≤k):=fun k h=>by rw [hd] at h; cases h
 have hp:=eachM_in F hd h26 h32 hro l n₀ (els T).length (fun x=>x∈els T) J Jx hJa (fun m pre x W hx hj hl=>YieldAt.anyDepth hd m (hY pre x W hx hj hl)) 10 T 0 (n - 1) p0 0 [] W rfl hT hn₀ (by decide) h0 (by simp [els]) (fun x hx=>hx);refine callsIn_of_wp Tryz.func306 rfl h25 ?_ hro;simp only [Tryz.ntmps306,List.size_toArray,List.length_cons,List.length_nil,Nat.reduceAdd,Nat.reduceSub,Array.replicate_succ,Array.replicate_zero,List.push_toArray,List.append_toArray,List.nil_append,List.cons_append]
 gi_wp2_with ((try refine ⟨hdd _,?_⟩); gi_at_call 307; refine hp.mono ?_; clear hp; rintro e W1 (⟨rfl,hJ1,_⟩ | ⟨rfl,q,hq,hx⟩))
 ·go_end0
  exact ⟨⟨_,rfl⟩,.inl (by simpa [els] using hJ1)⟩
 ·go_end0
  exact ⟨⟨_,rfl⟩,.inr ⟨q,hq,by simpa using hx⟩⟩
theorem allM_any (p0:Option Addr) (n:Int) (w:World):
  Calls Tryz.prog 281 #[.agg #[.pointer p0,n]] w fun e w'=>e=.returned (.func (.func 306) #[] #[.pointer (some ⟨w.heap.size,0,none⟩)])∧w'=w.alloc (.cells #[.pointer p0,n] 33):=by
 go_enter Tryz.func281,Tryz.ntmps281
 go_wp2
 go_ret
 exact ⟨rfl,rfl⟩
abbrev ElT (T:Pt):={x:Nat×En // x∈els T}
abbrev raw {T:Pt} (l:List (ElT T)):List (Nat×En):=l.map Subtype.val
theorem allM_stops (n:Nat) (Bt n₀:Nat) (p0:Option Addr) (T:Pt) (w:World) (hBt:Bt<w.heap.size) (hn₀:n₀≤w.heap.size)
  (hc:w.cell? ⟨Bt,0,none⟩=some (.pointer p0)) (hT:IsP n₀ w p0 T):
  SeqStopsK Fence.wide n Tryz.prog 306 #[.pointer (some ⟨Bt,0,none⟩)] (fun x:ElT T=>encsM x.1) (Below n₀) (fun ys=>raw ys=els T) (fun pre=>raw pre <+: els T) (els T).length w:=fun l J Jx W hW hJ _ hY h0=>
 (all1M_in Fence.wide rfl n trivial trivial trivial rfl l Bt n₀ p0 T (fun a W=>∃ a':List (ElT T),raw a'=a∧J a' W) (fun a W=>∃ a':List (ElT T),raw a'=a∧Jx a' W)
  (fun pre W' W'' ⟨a',ha,h⟩ hg=>⟨a',ha,hJ a' W' W'' none h hg (fun r e=>by cases e)⟩)
  (fun pre x W' hx ⟨a',ha,h⟩ hl=>YieldAt.mono (hY a' ⟨x,hx⟩ W' h (by subst ha; simpa using hl)) fun e W2 h2=>by
   rcases h2 with ⟨he,hj,hb⟩ | ⟨he,hj⟩
   ·exact .inl ⟨he,⟨a'++[⟨x,hx⟩],by simp [raw,←ha],hj⟩,hb⟩
   ·exact .inr ⟨he,⟨a'++[⟨x,hx⟩],by simp [raw,←ha],hj⟩⟩)
  W ((hW.cell (p:=⟨Bt,0,none⟩) hBt).trans hc) (hT.below (hW.mono hn₀)) (Nat.le_trans hn₀ hW.size) ⟨[],rfl,h0⟩).mono fun e W' h=>by
   rcases h with ⟨hv,⟨a',ha,hj⟩ | ⟨pre,hp,a',ha,hj⟩⟩
   ·exact ⟨hv,.inl ⟨a',ha,hj⟩⟩
   ·exact ⟨hv,.inr ⟨a',by subst ha; exact hp,hj⟩⟩
end Go.Proofs.YtemicfjmidohfaaGreatDoor
namespace Go.Proofs.YtemicfjmidohfaaGreatDoor
open Go Go.Proofs Go.RowKit
end Go.Proofs.YtemicfjmidohfaaGreatDoor
