import Derived.Test.YtkmcoineknbgcaaGreatDoorEv9
import Derived.Test.YtkmcoineknbgcaaGreatDoorRs8
import Derived.Test.YtkmcoineknbgcaaGreatDoorSli
import Derived.Test.YtkmcoineknbgcaaGreatDoorPend
set_option maxRecDepth 100000
set_option maxHeartbeats 12800000
namespace Go.Proofs.YtkmcoineknbgcaaGreatDoor
open Go Go.Proofs Go.RowKit
theorem ta_cc (v:Value) (w:World):(Instr.typeAssert (.iface 58 v) 20 58 true).run Tryz.prog w=.ok (.tuple #[v,.bool true]) w:=by kernel_rfl
theorem ta_ll (v:Value) (w:World):(Instr.typeAssert (.iface 65 v) 20 65 true).run Tryz.prog w=.ok (.tuple #[v,.bool true]) w:=by kernel_rfl
theorem ta_lc (v:Value) (w:World):(Instr.typeAssert (.iface 65 v) 20 58 true).run Tryz.prog w=.ok (.tuple #[.agg #[.int .i64 0,.int .i64 0,.int .i64 0,.int .i64 0,.int .i32 0,.bool false],.bool false]) w:=by kernel_rfl
attribute [local go_sem] ta_cc ta_ll ta_lc
def kdB (d:Bool):ByteArray:=if d then ⟨#[100,101,108,101,116,101]⟩ else ⟨#[105,110,115,101,114,116]⟩
theorem below_one (w:World) (l:Array Value) (t:TypeId):Below w.heap.size w (w.alloc (.cells l t)):=bA
theorem kind_chg (y:Chg) (w:World):Calls Tryz.prog 13 #[(Th.chg y).val] w fun e w'=>e=.returned (.string (kdB y.d))∧Below w.heap.size w w':=by
 have hB:=fun l=>Lh (below_one w l 58)
 show Calls _ _ #[.iface 58 (.agg #[.int .i64 y.q,.int .i64 y.a,.int .i64 y.c,.int .i64 y.s,.int .i32 y.ch,.bool y.d])] _ _
 cases hd:y.d
 ·go_enter Tryz.func13,Tryz.ntmps13
  go_wp2_with fail
  go_ret
  exact ⟨rfl,(hB _).out⟩
 ·go_enter Tryz.func13,Tryz.ntmps13
  go_wp2_with fail
  go_ret
  exact ⟨rfl,(hB _).out⟩
theorem kind_lag (f t:Int) (h0:1≤f) (h1:f≤t) (w:World):Calls Tryz.prog 13 #[(Th.lag f t).val] w fun e w'=>e=.returned (.string ⟨#[108,97,103]⟩)∧Below w.heap.size w w':=by
 have hB:=fun l l'=>Lh (show Below w.heap.size w ((w.alloc (.cells l 58)).alloc (.cells l' 65)) from (below_one w l _).alloc (by simp) _)
 have hB':=fun l=>Lh (below_one w l 65)
 show Calls _ _ #[.iface 65 (.agg #[.int .i64 f,.int .i64 t])] _ _
 go_enter Tryz.func13,Tryz.ntmps13
 go_wp2_with fail
 go_ret
 first | exact ⟨rfl,(hB _ _).out⟩ | exact ⟨rfl,(hB' _).out⟩
theorem isev_of (x:Value) (s:ByteArray) (w:World) (hl:(s.toList==[110,111,110,101])=false) (h:Calls Tryz.prog 13 #[x] w fun e w'=>e=.returned (.string s)∧Below w.heap.size w w'):
  Calls Tryz.prog 23 #[x] w fun e w'=>e=.returned (.bool true)∧Below w.heap.size w w':=by
 have H:=Lh h;clear h
 go_enter Tryz.func23,Tryz.ntmps23
 go_wp2_with (go_at_call 13; refine H.out.mono ?_; rintro e w1 ⟨rfl,hb⟩)
 go_ret
 exact ⟨rfl,hb⟩
def Th.Ok:Th→Prop
 | .chg _=>True
 | .lag f t=>1≤f∧f≤t
def Th.fst:Th→Int
 | .chg c=>c.q
 | .lag f _=>f
def Th.lst:Th→Int
 | .chg c=>c.q
 | .lag _ t=>t
theorem isev_any (x:Th) (h:x.Ok) (w:World):Calls Tryz.prog 23 #[x.val] w fun e w'=>e=.returned (.bool true)∧Below w.heap.size w w':=by
 cases x with
 | chg y=>exact isev_of _ _ w (by cases y.d <;> kernel_rfl) (kind_chg y w)
 | lag f t=>exact isev_of _ _ w (by kernel_rfl) (kind_lag f t h.1 h.2 w)
theorem span_any (x:Th) (w:World):Calls Tryz.prog 24 #[x.val] w fun e w'=>e=.returned (.tuple #[.int .i64 x.fst,.int .i64 x.lst])∧Below w.heap.size w w':=by
 cases x with
 | chg y=>
  have hB:=fun l=>Lh (below_one w l 58)
  show Calls _ _ #[.iface 58 (.agg #[.int .i64 y.q,.int .i64 y.a,.int .i64 y.c,.int .i64 y.s,.int .i32 y.ch,.bool y.d])] _ _
  go_enter Tryz.func24,Tryz.ntmps24
  go_wp2_with fail
  go_region
  go_wp2_with fail
  go_ret2
  exact ⟨rfl,(hB _).out.drew⟩
 | lag f t=>
  have hB:=fun l l'=>Lh (show Below w.heap.size w ((w.alloc (.cells l 58)).alloc (.cells l' 65)) from (below_one w l _).alloc (by simp) _)
  show Calls _ _ #[.iface 65 (.agg #[.int .i64 f,.int .i64 t])] _ _
  go_enter Tryz.func24,Tryz.ntmps24
  go_wp2_with fail
  go_region
  go_wp2_with fail
  go_ret2
  exact ⟨rfl,(hB _ _).out.drew⟩
theorem IsT9.cell {W:World} {a:Option Addr} {n cap:Nat} {L:List Th} (h:IsT9 W (.slice a n cap) L) (j:Nat) (hj:j<L.length):∃ g,a=some ⟨g,0,none⟩∧g<W.heap.size∧W.cell? ⟨g,j,none⟩=some L[j].val:=by
 obtain ⟨g,h1,h2,h3⟩:=Sl.cell thL_len h j hj;refine ⟨g,h1,h2,?_⟩;have:=h3 0 (by omega);rw [Nat.mul_one,Nat.add_zero] at this;exact this
theorem efollow_any:EFollowOk:=by
 intro L q r v w hF h0 h1 hl hT
 obtain ⟨a,cap,rfl,hc1,hc2⟩:=hT.form;have HF:=Lh hF;have HT:=Lh hT;have hlw:L.length≤1000:=hl;clear hF hT
 go_enter Tryz.func10,Tryz.ntmps10
 go_wp2_with fail
 go_loopg [0,12] L.length (fun g qv iv wr=>∃ j:Nat,j≤L.length∧g=L.length-j∧iv=.int .i64 (j:Int)∧∃ q':Int,qv=.int .i64 q'∧Hid (Fo9 q' (L.drop j) r)∧0≤q'∧q'≤1000000+(j:Int)∧Below w.heap.size w wr)
 case atStart=>exact ⟨0,Nat.zero_le _,rfl,rfl,q,rfl,HF,h0,by omega,Below.refl _ _⟩
 case round=>
  obtain ⟨j,hj,rfl,rfl,q',rfl,HF2,hq0,hq1,hb⟩:=hrel;clear HF;by_cases hlt:j<L.length
  ·obtain ⟨g,rfl,hg,hcell⟩:=HT.out.cell j hlt
   have hcell2:=(hb.cell (p:=⟨g,j,none⟩) hg).trans hcell;have hd:=HF2.out;rw [List.drop_eq_getElem_cons hlt] at hd;generalize L[j]=x at *
   have hx:x.Ok∧x.fst=q'+1∧0≤x.lst∧x.lst≤1000000+(j:Int)+1∧Fo9 x.lst (L.drop (j+1)) r:=by
    cases x with
    | chg c=>exact ⟨trivial,hd.1,by show 0≤c.q; have:=hd.1; omega,by show c.q≤_; have:=hd.1; omega,hd.2⟩
    | lag f t=>exact ⟨⟨by have:=hd.1; omega,hd.2.1⟩,hd.1,by show 0≤t; have:=hd.1; have:=hd.2.1; omega,by show t≤_; have:=hd.2.2.1; omega,hd.2.2.2⟩
   obtain ⟨hok,hf,hl0,hl1,hrest⟩:=hx;have HX:=Lh hrest;have HI:=Lh (fun W=>isev_any x hok W);have HS:=Lh (fun W=>span_any x W);rw [hf] at HS;generalize x.lst=z at *
   generalize x.val=xv at *
   have wq:IntKind.i64.wrap (q'+1)=q'+1:=IntWalk.i64_in _ (by omega);have hne:¬ (q'=9223372036854775807):=by omega
   have HB:=Lh hb;clear hd hcell hok hf hrest HF2 hb;go_wp2_with (go_at_call 23; refine (HI.out _).mono ?_; rintro e w1 ⟨rfl,hb1⟩; refine Hid.out ?_)
   have HB1:=Lh (HB.out.trans (hb1.mono HB.out.size));clear HB hb1 hcell2;refine Lh ?_;go_wp2_with (go_at_call 24; refine (HS.out _).mono ?_; rintro e w2 ⟨rfl,hb2⟩; refine Hid.out ?_)
   have HB2:=Lh (HB1.out.trans (hb2.mono HB1.out.size));clear HB1 hb2;refine Lh ?_;go_wp2_with fail
   go_roundg (L.length-(j+1))
   case measure=>omega
   case rel=>exact ⟨j+1,by omega,rfl,by go_num,_,rfl,HX,hl0,by omega,HB2.out⟩
  ·obtain rfl:j=L.length:=by omega
   have hd:=HF2.out;rw [List.drop_length] at hd;have hqr:q'=r:=hd;have HB:=Lh hb;clear hd HF2 hb;subst hqr;go_wp2_with fail
   go_ret2
   exact ⟨rfl,HB.out⟩
def chgV (y:Chg):Value:=.agg #[.int .i64 y.q,.int .i64 y.a,.int .i64 y.c,.int .i64 y.s,.int .i32 y.ch,.bool y.d]
theorem check_ins (y:Chg) (a:Option Addr) (n cap:Nat) (k:Nat) (hk:y.a=(k:Int)) (hkn:k≤n) (hd:y.d=false) (w:World):
  Calls Tryz.prog 25 #[.slice a n cap,chgV y] w fun e w'=>e=.returned (.int .i64 0)∧Below w.heap.size w w':=by
 have hB:=fun l=>Lh (below_one w l 58)
 have h1:¬ ((k:Int)<0):=by omega
 have h2:¬ ((n:Int)<(k:Int)):=by omega
 show Calls _ _ #[_,.agg #[.int .i64 y.q,.int .i64 y.a,.int .i64 y.c,.int .i64 y.s,.int .i32 y.ch,.bool y.d]] _ _
 rw [hk,hd];clear hk hd
 go_enter Tryz.func25,Tryz.ntmps25
 go_wp2_with fail
 go_region
 go_wp2_with fail
 go_ret
 exact ⟨rfl,(hB _).out.drew⟩
theorem check_del (y:Chg) {g cap:Nat} {cur:List Value} {R:List Int} (k:Nat) (hk:y.a=(k:Int)) (hkn:k<R.length) (hd:y.d=true) (hc:R[k]? = some y.ch) (w:World) (hb:Blk w g cur 21) (h7:cur.take R.length=R.map (Value.int .i32)):
  Calls Tryz.prog 25 #[.slice (some ⟨g,0,none⟩) R.length cap,chgV y] w fun e w'=>e=.returned (.int .i64 0)∧Below w.heap.size w w':=by
 have hB:=fun l=>Lh (below_one w l 58)
 have h1:¬ ((k:Int)<0):=by omega
 have h2:¬ ((R.length:Int)<(k:Int)):=by omega
 have h3:¬ ((k:Int)=(R.length:Int)):=by omega
 show Calls _ _ #[_,.agg #[.int .i64 y.q,.int .i64 y.a,.int .i64 y.c,.int .i64 y.s,.int .i32 y.ch,.bool y.d]] _ _
 rw [hk,hd];clear hk hd
 go_enter Tryz.func25,Tryz.ntmps25
 go_wp2_with fail
 have hkc:cur[k]? = some (.int .i32 y.ch):=by
  have h:=congrArg (fun l:List Value=>l[k]?) h7;simp only [List.getElem?_take_of_lt hkn,List.getElem?_map,hc] at h
  exact h
 have hgl:=hb.lt;have hx:=(Blk.alloc hb (.cells #[.int .i64 y.q,.int .i64 (k:Int),.int .i64 y.c,.int .i64 y.s,.int .i32 y.ch,.bool true] 58)).drew.cell k hkc;clear hc h7 hb
 go_region
 go_wp2_with fail
 go_ret
 exact ⟨rfl,(hB _).out.drew⟩
theorem RO.next {B:Nat} {W W':World} {v:Value} {R:List Int} (h:RO B W v R) (hb:Below W.heap.size W W'):RO B W' v R:=ownsRow_next h hb
theorem do_ins (y:Chg) {B:Nat} {w:World} {v:Value} {R:List Int} (h:RO B w v R) (k:Nat) (hk:y.a=(k:Int)) (hkn:k≤R.length) (hl:R.length≤5000) (hd:y.d=false) (hB:B≤w.heap.size):
  Calls Tryz.prog 26 #[v,chgV y] w fun e w'=>(∃ v',e=.returned v'∧RO B w' v' (R.take k++y.ch::R.drop k))∧Below B w w':=by
 have hlt:∀ g,v.ownBlock=some g→g<w.heap.size:=fun g hg=>(World.ownsRow.lt h g hg).2
 show Calls _ _ #[_,.agg #[.int .i64 y.q,.int .i64 y.a,.int .i64 y.c,.int .i64 y.s,.int .i32 y.ch,.bool y.d]] _ _
 rw [hk,hd];have hb1:Below w.heap.size w ((w.alloc (.cells #[.int .i64 y.q,.int .i64 (k:Int),.int .i64 y.c,.int .i64 y.s,.int .i32 y.ch,.bool false] 58)).alloc (.cells #[.int .i32 y.ch] 21)):=(below_one w _ _).alloc (by simp) _;have hv:=Blk.start (w.alloc (.cells #[.int .i64 y.q,.int .i64 (k:Int),.int .i64 y.c,.int .i64 y.s,.int .i32 y.ch,.bool false] 58)) [.int .i32 y.ch] 21;rw [show (w.alloc (.cells #[.int .i64 y.q,.int .i64 (k:Int),.int .i64 y.c,.int .i64 y.s,.int .i32 y.ch,.bool false] 58)).heap.size=w.heap.size+1 by simp] at hv;have HS:=Lh (sins_any (h.next hb1) k hkn hl y.ch (w.heap.size+1) hv (fun g hg=>by have:=hlt g hg; omega) (by simp; omega));have HB:=Lh (hb1.mono hB);clear h hk hd hlt hb1 hv
 go_enter Tryz.func26,Tryz.ntmps26
 go_wp2_with (go_at_call 45; refine HS.out.mono ?_; rintro e w1 ⟨⟨v',rfl,h1⟩,h2⟩; refine Hid.out ?_)
 have HF:=Lh (And.intro h1 (HB.out.trans (h2 (Below.refl _ _))));clear h1 h2 HB HS;refine Lh ?_;go_wp2_with fail
 go_ret
 exact ⟨⟨_,rfl,HF.out.1⟩,HF.out.2⟩
theorem do_del (y:Chg) {B:Nat} {w:World} {v:Value} {R:List Int} (h:RO B w v R) (k:Nat) (hk:y.a=(k:Int)) (hkn:k<R.length) (hl:R.length≤5000) (hd:y.d=true) (hB:B≤w.heap.size):
  Calls Tryz.prog 26 #[v,chgV y] w fun e w'=>(∃ v',e=.returned v'∧RO B w' v' (R.eraseIdx k))∧Below B w w':=by
 show Calls _ _ #[_,.agg #[.int .i64 y.q,.int .i64 y.a,.int .i64 y.c,.int .i64 y.s,.int .i32 y.ch,.bool y.d]] _ _
 rw [hk,hd];have hb1:Below w.heap.size w (w.alloc (.cells #[.int .i64 y.q,.int .i64 (k:Int),.int .i64 y.c,.int .i64 y.s,.int .i32 y.ch,.bool true] 58)):=below_one w _ _;have HS:=Lh (sdel_any (h.next hb1) k hkn);have HB:=Lh (hb1.mono hB);have wk:IntKind.i64.wrap ((k:Int)+1)=(k:Int)+1:=IntWalk.i64_in _ (by omega);clear h hk hd hb1
 go_enter Tryz.func26,Tryz.ntmps26
 go_wp2_with (go_at_call 44; refine HS.out.mono ?_; rintro e w1 ⟨⟨v',rfl,h1⟩,h2⟩; refine Hid.out ?_)
 have HF:=Lh (And.intro h1 (HB.out.trans (h2 (Below.refl _ _))));clear h1 h2 HB HS;refine Lh ?_;go_wp2_with fail
 go_ret
 exact ⟨⟨_,rfl,HF.out.1⟩,HF.out.2⟩
theorem check_one {y:Chg} {R R':List Int} (hc:doC R y=some R') {B:Nat} {w:World} {v:Value} (h:RO B w v R) (hl:R.length≤5000):
  Calls Tryz.prog 25 #[v,chgV y] w fun e w'=>e=.returned (.int .i64 0)∧Below w.heap.size w w':=by
 unfold doC at hc
 split at hc
 ·cases hc
 rename_i h0
 have hk:y.a=((y.a.toNat:Nat):Int):=by omega
 split at hc
 ·rename_i hd
  split at hc
  ·rename_i hx
   have hlt:y.a.toNat<R.length:=(List.getElem?_eq_some_iff.1 hx).1;obtain ⟨_,rfl⟩ | ⟨g,cap,cur,rfl,hg,hb,h4,h5,h6,h7⟩:=h.form
   ·cases hlt
   ·exact check_del y _ hk hlt hd hx w hb h7
  ·cases hc
 ·rename_i hd
  split at hc
  ·rename_i hx
   obtain ⟨rfl,rfl⟩ | ⟨g,cap,cur,rfl,hg,hb,h4,h5,h6,h7⟩:=h.form
   ·exact check_ins y none 0 0 _ hk hx (by simpa using hd) w
   ·exact check_ins y _ _ _ _ hk hx (by simpa using hd) w
  ·cases hc
theorem do_one {y:Chg} {R R':List Int} (hc:doC R y=some R') {B:Nat} {w:World} {v:Value} (h:RO B w v R) (hl:R.length≤5000) (hB:B≤w.heap.size):
  Calls Tryz.prog 26 #[v,chgV y] w fun e w'=>(∃ v',e=.returned v'∧RO B w' v' R')∧Below B w w':=by
 unfold doC at hc
 split at hc
 ·cases hc
 rename_i h0
 have hk:y.a=((y.a.toNat:Nat):Int):=by omega
 split at hc
 ·rename_i hd
  split at hc
  ·rename_i hx
   cases hc
   exact do_del y h _ hk (List.getElem?_eq_some_iff.1 hx).1 hl hd hB
  ·cases hc
 ·rename_i hd
  split at hc
  ·rename_i hx
   cases hc
   exact do_ins y h _ hk hx hl (by simpa using hd) hB
  ·cases hc
theorem doC_len {y:Chg} {R R':List Int} (hc:doC R y=some R'):R'.length≤R.length+1:=by
 unfold doC at hc
 split at hc
 ·cases hc
 split at hc
 ·split at hc
  ·cases hc; have:=List.length_eraseIdx_le R y.a.toNat; omega
  ·cases hc
 ·split at hc
  ·cases hc; simp; omega
  ·cases hc
theorem runes_ro (T:List Int) (hT:∀ r∈T,ChrB r) (hl:T.length≤20000) (W:World):
  ∃ v W',(convert 9 79 (.string (Bw9 T))).run Tryz.prog W=.ok v W'∧RO W.heap.size W' v T∧Below W.heap.size W W':=by
 obtain ⟨s,hs⟩:∃ s:ByteArray,s=Bw9 T:=⟨_,rfl⟩
 have hsz:T.length≤s.size:=by rw [hs]; show T.length≤(T.flatMap Lib.encodeRune).toArray.size; simpa using flat_le T
 have hR:Conv.runesFrom s s.size 0 #[]=(T.map (Value.int .i32)).toArray:=by
  have h:=runes_back T hT [] s.size #[] hsz;rw [List.nil_append] at h;rw [hs] at *
  simpa [Bw9] using h
 have hn:(Conv.runesFrom s s.size 0 #[]).size=T.length:=by rw [hR]; simp
 have hc:=run_runes_of_string (P:=Tryz.prog) W 9 79 21 s Tryz.underlying9 Tryz.underlying79 Tryz.underlying21 (by rw [hn]; omega);rw [hn,hR] at hc;rw [←hs];refine ⟨_,_,hc,?_,bD.alloc (Nat.le_refl _) _⟩;have hge:=grownCap_ge W T.length 0 21;have hle:=grownCap_le_maxLen W T.length 0 21 (by unfold maxLen; omega);generalize grownCap W T.length 0 21=cp at *
 unfold maxLen at hle
 rw [show ((T.map (Value.int .i32)).toArray++Array.replicate (cp-T.length) (Value.int .i32 0):Array Value)=⟨(T.map (Value.int .i32))++List.replicate (cp-T.length) (.int .i32 0)⟩ from by apply Array.ext'; simp];exact RO.of (Nat.le_refl _) (Blk.start W.drew ((T.map (Value.int .i32))++List.replicate (cp-T.length) (.int .i32 0)) 21) hge (by omega) (by simp; omega) (by rw [List.take_left' (by simp)])
theorem str_ro {T:List Int} (hT:∀ r∈T,ChrB r) {B:Nat} {v:Value} (W:World) (h:RO B W v T):(convert 79 9 v).run Tryz.prog W=.ok (.string (Bw9 T)) W:=by
 have hs:IsRn W v T:=by
  refine Sl.of (b:=B) (show World.ownsRow _ _ _ _ _ _ _ from ?_);rw [rn_flat];exact h
 obtain ⟨a,cap,rfl,_⟩:=hs.form;have:=str_head hT W hs (Nat.le_refl _);rw [List.take_length] at this;exact this
theorem replay_any:EReplayOk:=by
 intro R R' L v w hdo hR hR' hl1 hl2 hT
 obtain ⟨a,cap,rfl,hc1,hc2⟩:=hT.form;rw [List.length_map] at hT hc1 ⊢;obtain ⟨v0,w0,hcv,hro,hb0⟩:=runes_ro R hR (by omega) w;have HD:=Lh hdo;have HT:=Lh hT;have HC:=Lh hR';have HRO:=Lh (And.intro hro hb0);clear hdo hR hR' hT hro hb0
 go_enter Tryz.func11,Tryz.ntmps11
 go_wp2_with fail
 go_loopg [6,16] L.length (fun g cv iv wr=>∃ j:Nat,j≤L.length∧g=L.length-j∧iv=.int .i64 (j:Int)∧∃ Rj:List Int,Hid (doL Rj (L.drop j)=some R')∧Rj.length≤1000+j∧RO w.heap.size wr cv Rj∧Below w.heap.size w wr)
 case atStart=>exact ⟨0,Nat.zero_le _,rfl,rfl,R,HD,by omega,HRO.out.1,HRO.out.2⟩
 case round=>
  obtain ⟨j,hj,rfl,rfl,Rj,HD2,hlj,hro,hb⟩:=hrel;clear HD HRO hcv;by_cases hlt:j<L.length
  ·have hlt':j<(L.map Th.chg).length:=by rw [List.length_map]; exact hlt
   obtain ⟨g,rfl,hg,hcell⟩:=IsT9.cell (n:=(L.map Th.chg).length) (by rw [List.length_map]; exact HT.out) j hlt';rw [List.getElem_map] at hcell;have hcell2:=(hb.cell (p:=⟨g,j,none⟩) hg).trans hcell;have hd:=HD2.out;rw [List.drop_eq_getElem_cons hlt,doL_cons] at hd;generalize L[j]=y at *
   obtain ⟨Rn,hone,hrest⟩:∃ Rn,doC Rj y=some Rn∧doL Rn (L.drop (j+1))=some R':=by
    cases h:doC Rj y with
    | none=>rw [h] at hd; cases hd
    | some Rn=>rw [h] at hd; exact ⟨Rn,rfl,hd⟩
   have hln:=doC_len hone;have HX:=Lh (And.intro hrest (show Rn.length≤1000+(j+1) by omega));have HI:=Lh (fun W=>isev_any (.chg y) trivial W);have HK:=Lh (fun V W (h:RO w.heap.size W V Rj)=>check_one hone h (by omega));have HO:=Lh (fun V W (h:RO w.heap.size W V Rj) (hB:w.heap.size≤W.heap.size)=>do_one hone h (by omega) hB);have HB:=Lh (And.intro hro hb);clear hd hcell hone hrest HD2 hro hb hln
   change wr.cell? ⟨g,j,none⟩=some (.iface 58 (.agg #[.int .i64 y.q,.int .i64 y.a,.int .i64 y.c,.int .i64 y.s,.int .i32 y.ch,.bool y.d])) at hcell2
   go_wp2_with (go_at_call 23; refine (HI.out _).mono ?_; rintro e w1 ⟨rfl,hb1⟩; refine Hid.out ?_)
   have HB1:=Lh (And.intro (HB.out.1.next hb1) (HB.out.2.trans (hb1.mono HB.out.2.size)));clear HB hb1 hcell2;refine Lh ?_;have hba:=below_one w1 #[.int .i64 y.q,.int .i64 y.a,.int .i64 y.c,.int .i64 y.s,.int .i32 y.ch,.bool y.d] 58;have HB2:=Lh (And.intro (HB1.out.1.next hba) (HB1.out.2.trans (hba.mono HB1.out.2.size)));have BK:=Lh (Blk.start w1 [.int .i64 y.q,.int .i64 y.a,.int .i64 y.c,.int .i64 y.s,.int .i32 y.ch,.bool y.d] 58);clear hba;go_wp2_with (go_at_call 25; refine (HK.out _ _ HB2.out.1).mono ?_; rintro e w2 ⟨rfl,hb2⟩; refine Hid.out ?_)
   have HB3:=Lh (And.intro (HB2.out.1.next hb2) (HB2.out.2.trans (hb2.mono HB2.out.2.size)));have BK2:=BK.out.next hb2;obtain ⟨z0,z1,z2,z3,z4,z5⟩:=BK2.c6;clear HB1 HB2 BK BK2 hb2 HK;refine Lh ?_;go_wp2_with (go_at_call 26; refine (HO.out _ _ HB3.out.1 HB3.out.2.size).mono ?_; rintro e w3 ⟨⟨v',rfl,h1⟩,h2⟩; refine Hid.out ?_)
   have HB4:=Lh (And.intro h1 (HB3.out.2.trans h2));clear HB3 HO h1 h2 z0 z1 z2 z3 z4 z5;refine Lh ?_;go_wp2_with fail
   go_roundg (L.length-(j+1))
   case measure=>omega
   case rel=>exact ⟨j+1,by omega,rfl,by go_num,Rn,Lh HX.out.1,HX.out.2,HB4.out.1,HB4.out.2⟩
  ·obtain rfl:j=L.length:=by omega
   have hd:=HD2.out;rw [List.drop_length] at hd
   cases hd
   have hs:=str_ro HC.out _ hro;have HB:=Lh hb;clear HD2 hb hro;go_wp2_with fail
   go_ret2
   exact ⟨rfl,HB.out⟩
theorem eall_ok:EAll where
 fo:=efollow_any
 re:=replay_any
 ki w:=kind_lag 2 4 (by omega) (by omega) w
end Go.Proofs.YtkmcoineknbgcaaGreatDoor
