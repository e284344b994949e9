import Derived.Laws.BitsLemmas
import Derived.Test.YtemicfjmidohfaaGreatDoorLStr
set_option maxRecDepth 100000
set_option maxHeartbeats 12800000
namespace Go.Proofs.YtemicfjmidohfaaGreatDoor
open Go Go.Proofs Go.RowKit
def firstE:List Int→Int
 | []=>0
 | x::l=>if x=0 then firstE l else x
def Errs (w:World) (b:Nat) (l:List Int):Prop:=∀ i (hi:i<l.length),w.cell? ⟨b,i,none⟩=some (.int .i64 l[i])
theorem firstE_drop {l:List Int} {k:Nat} (h:k<l.length):firstE (l.drop k)=if l[k]=0 then firstE (l.drop (k+1)) else l[k]:=by
 rw [List.drop_eq_getElem_cons h]; rfl
theorem ret_int {a b:Int} (h:a=b):Ending.returned a=.returned b:=by rw [h]
theorem first_any (b cap:Nat) (l:List Int) (w:World) (hcap:l.length≤cap) (hmax:cap≤9223372036854775807) (h:Errs w b l):
  Calls Tryz.prog 210 #[.slice (some ⟨b,0,none⟩) l.length cap] w
   fun e w'=>e=.returned (.int .i64 (firstE l))∧w=w':=by
 have HL:=Lh h;clear h
 go_enter Tryz.func210,Tryz.ntmps210
 go_wp2
 go_loopg [7] l.length (fun g i wr=>w=wr∧∃ k:Nat,k≤l.length∧g=l.length-k∧i=.int .i64 k∧firstE (l.drop k)=firstE l)
 case atStart=>exact ⟨rfl,0,Nat.zero_le _,rfl,rfl,rfl⟩
 case round=>
  obtain ⟨rfl,k,hk,rfl,rfl,hf⟩:=hrel;by_cases hlt:k<l.length
  ·have hc:=HL.out k hlt
   rw [firstE_drop hlt] at hf;by_cases h0:l[k]=0
   ·rw [if_pos h0] at hf
    rw [h0] at hc;have HF:=Lh hf;clear hf h0
    go_wp2
    go_roundg (l.length-(k+1))
    case measure=>omega
    case rel=>exact ⟨rfl,k+1,by omega,rfl,by go_num,HF.out⟩
   ·rw [if_neg h0] at hf
    have HF:=Lh hf;have hb:(l[k]==0)=false:=by simpa using h0
    clear hf;generalize l[k]=y at *
    go_wp2
    go_ret
    exact ⟨ret_int HF.out,rfl⟩
  ·have e:l.drop k=[]:=List.drop_eq_nil_of_le (by omega)
   rw [e] at hf;have HF:=Lh hf;clear hf e
   go_wp2
   go_ret
   exact ⟨ret_int HF.out,rfl⟩
def kindE (k a n ch:Int):Int:=if k=0 then 0 else if k=1∧noneB a n=true∧ch=0 then 0 else 1
def idE (c s:Int):Int:=if mayB c s=true then 0 else 2
def ancE (a n:Int):Int:=if noneB a n=true then 0 else idE a n
def ordE (c a:Int):Int:=if c≤a then 3 else 0
def runeB (ch:Int):Bool:=decide ((0≤ch∧ch<55296)∨(57343<ch∧ch≤1114111))
def chrE (k ch:Int):Int:=if k=0∧(ch<32∨runeB ch=false) then 1 else 0
def chkE (k c s a n ch:Int):Int:=firstE [kindE k a n ch,idE c s,ancE a n,ordE c a,chrE k ch]
theorem idcheck_any (c s:Int) (w:World):
  Calls Tryz.prog 189 #[.agg #[c,s]] w
   fun e w'=>e=.returned (.int .i64 (idE c s))∧Below w.heap.size w w':=by
 rcases h:mayB c s with _ | _
 ·have:=check_no c s w h
  simpa [idE,h] using this
 ·have:=check_yes c s w h
  simpa [idE,h] using this
theorem kind_any (k c s a n ch:Int) (w:World):
  Calls Tryz.prog 211 #[.agg #[k,c,s,a,n,.int .i32 ch]] w
   fun e w'=>e=.returned (.int .i64 (kindE k a n ch))∧Below w.heap.size w w':=by
 by_cases h0:k=0
 ·subst h0;have e:kindE 0 a n ch=0:=by simp [kindE]
  rw [e];clear e;go_enter Tryz.func211,Tryz.ntmps211;go_wp2;go_ret;exact ⟨rfl,bA⟩
 ·have b0:(k==0)=false:=by simpa using h0
  by_cases h1:k=1
  ·subst h1;have HS:=Lh (Blk.start w [.int .i64 1,c,s,a,n,.int .i32 ch] 73);rcases hn:noneB a n with _ | _
   ·have e:kindE 1 a n ch=1:=by simp [kindE,hn]
    rw [e];clear e b0 h0;go_enter Tryz.func211,Tryz.ntmps211;go_wp2_with (go_at_call 188; refine (none_any _ _ _).mono ?_; rintro e w1 ⟨rfl,hb1⟩);go_ret;exact ⟨rfl,(bA).trans (hb1.mono (by simp))⟩
   ·by_cases hch:ch=0;subst hch;have e:kindE 1 a n 0=0:=by simp [kindE,hn]
    rw [e];clear e b0 h0;rotate_left;have e:kindE 1 a n ch=1:=by simp [kindE,hn,hch]
    have bch:(ch==0)=false:=by simpa using hch
    rw [e];clear e b0 h0 hch;rotate_left
    all_goals
     go_enter Tryz.func211,Tryz.ntmps211;go_wp2_with fail;refine (none_any _ _ _).mono ?_;rintro e w1 ⟨rfl,hb1⟩;have c5:=(HS.out.next hb1).cell 5 rfl;go_wp2;go_ret;exact ⟨rfl,(bA).trans (hb1.mono (by simp))⟩
  ·have b1:(k==1)=false:=by simpa using h1
   have e:kindE k a n ch=1:=by simp [kindE,h0,h1]
   rw [e];clear e;go_enter Tryz.func211,Tryz.ntmps211;go_wp2;go_ret;exact ⟨rfl,bA⟩
theorem anchor_any (k c s a n ch:Int) (w:World):
  Calls Tryz.prog 212 #[.agg #[k,c,s,a,n,.int .i32 ch]] w
   fun e w'=>e=.returned (.int .i64 (ancE a n))∧Below w.heap.size w w':=by
 have HS:=Lh (Blk.start w [k,c,s,a,n,.int .i32 ch] 73);rcases hn:noneB a n with _ | _
 ·have e:ancE a n=idE a n:=by simp [ancE,hn]
  rw [e]; clear e
  go_enter Tryz.func212,Tryz.ntmps212
  go_wp2_with fail;refine (none_any _ _ _).mono ?_;rintro e w1 ⟨rfl,hb1⟩
  have c3:=(HS.out.next hb1).cell 3 rfl;have c4:=(HS.out.next hb1).cell 4 rfl;go_wp2_with (go_at_call 189; refine (idcheck_any _ _ _).mono ?_; rintro e w2 ⟨rfl,hb2⟩)
  go_ret
  exact ⟨rfl,((bA).trans (hb1.mono (by simp))).trans (hb2.mono (by have:=hb1.size; simp at this; omega))⟩
 ·have e:ancE a n=0:=by simp [ancE,hn]
  rw [e]; clear e
  go_enter Tryz.func212,Tryz.ntmps212
  go_wp2_with (go_at_call 188; refine (none_any _ _ _).mono ?_; rintro e w1 ⟨rfl,hb1⟩)
  go_ret
  exact ⟨rfl,(bA).trans (hb1.mono (by simp))⟩
theorem order_any (k c s a n ch:Int) (w:World):
  Calls Tryz.prog 213 #[.agg #[k,c,s,a,n,.int .i32 ch]] w
   fun e w'=>e=.returned (.int .i64 (ordE c a))∧Below w.heap.size w w':=by
 by_cases h:c≤a;have e:ordE c a=3:=by simp [ordE,h]
 rotate_left;have e:ordE c a=0:=by simp [ordE,h]
 rotate_left
 all_goals
  rw [e];clear e;go_enter Tryz.func213,Tryz.ntmps213;go_wp2;go_ret;exact ⟨rfl,bA⟩
theorem rune_cases (ch:Int):(ch<0)∨(0≤ch∧ch<55296)∨(55296≤ch∧ch≤57343)∨(57343<ch∧ch≤1114111)∨1114111<ch:=by omega
theorem rune_any (ch:Int) (w:World):
  Calls Tryz.prog 238 #[.int .i32 ch] w
   fun e w'=>e=.returned (.bool (runeB ch))∧w=w':=by
 rcases rune_cases ch with h | ⟨h1,h2⟩ | ⟨h1,h2⟩ | ⟨h1,h2⟩ | h
 all_goals
  go_enter Tryz.func238,Tryz.ntmps238
  go_wp2
  go_ret
  exact ⟨ret_bool (by simp [runeB]; omega),rfl⟩
theorem char_any (k c s a n ch:Int) (w:World):
  Calls Tryz.prog 214 #[.agg #[k,c,s,a,n,.int .i32 ch]] w
   fun e w'=>e=.returned (.int .i64 (chrE k ch))∧Below w.heap.size w w':=by
 by_cases h0:k=0
 ·subst h0;by_cases hl:ch<32
  ·have e:chrE 0 ch=1:=by simp [chrE,hl]
   rw [e];clear e;go_enter Tryz.func214,Tryz.ntmps214;go_wp2;go_ret;exact ⟨rfl,bA⟩
  ·rcases hr:runeB ch with _ | _;have e:chrE 0 ch=1:=by simp [chrE,hr]
   rotate_left;have e:chrE 0 ch=0:=by simp [chrE,hr,hl]
   rotate_left
   all_goals
    rw [e];clear e;go_enter Tryz.func214,Tryz.ntmps214;go_wp2_with (go_at_call 238; refine (rune_any _ _).mono ?_; rintro e w1 ⟨rfl,rfl⟩);go_ret;exact ⟨rfl,bA⟩
 ·have b0:(k==0)=false:=by simpa using h0
  have e:chrE k ch=0:=by simp [chrE,h0]
  rw [e];clear e;go_enter Tryz.func214,Tryz.ntmps214;go_wp2;go_ret;exact ⟨rfl,bA⟩
def OpIn (B b:Nat) (t:TypeId) (k c s a n ch:Int) (w W:World):Prop:=Blk W b [k,c,s,a,n,.int .i32 ch] t∧Below B w W∧B≤W.heap.size
theorem OpIn.next {B b:Nat} {t:TypeId} {k c s a n ch:Int} {w W W':World} (h:OpIn B b t k c s a n ch w W) (hb:Below W.heap.size W W'):OpIn B b t k c s a n ch w W':=
 ⟨h.1.next hb,h.2.1.trans (hb.mono h.2.2),Nat.le_trans h.2.2 hb.size⟩
theorem OpIn.start (t:TypeId) (k c s a n ch:Int) (w:World):OpIn w.heap.size w.heap.size t k c s a n ch w (w.alloc (.cells #[k,c,s,a,n,.int .i32 ch] t)):=
 ⟨Blk.start _ _ _,bA,by simp⟩
def OpS (B b:Nat) (t:TypeId) (k c s a n ch:Int) (w W:World):Prop:=
 W.cell? ⟨b,0,none⟩=some (.int .i64 k)∧W.cell? ⟨b,1,none⟩=some (.int .i64 c)∧W.cell? ⟨b,2,none⟩=some (.int .i64 s)∧W.cell? ⟨b,3,none⟩=some (.int .i64 a)∧W.cell? ⟨b,4,none⟩=some (.int .i64 n)∧W.cell? ⟨b,5,none⟩=some (.int .i32 ch)∧OpIn B b t k c s a n ch w W
theorem OpIn.s {B b:Nat} {t:TypeId} {k c s a n ch:Int} {w W:World} (h:OpIn B b t k c s a n ch w W):OpS B b t k c s a n ch w W:=
 (h.1.d6 h)
theorem errs_five {W:World} {b:Nat} {t:TypeId} {e0 e1 e2 e3 e4:Int} (h:Blk W b [e0,e1,e2,e3,e4] t):Errs W b [e0,e1,e2,e3,e4]:=by
 intro i hi
 have hi':i<5:=hi
 match i,hi' with
 | 0,_=>exact h.cell 0 rfl
 | 1,_=>exact h.cell 1 rfl
 | 2,_=>exact h.cell 2 rfl
 | 3,_=>exact h.cell 3 rfl
 | 4,_=>exact h.cell 4 rfl
theorem first_five (b:Nat) (t:TypeId) (e0 e1 e2 e3 e4:Int) (w:World) (h:Blk w b [e0,e1,e2,e3,e4] t):
  Calls Tryz.prog 210 #[.slice (some ⟨b,0,none⟩) 5 5] w
   fun e w'=>e=.returned (.int .i64 (firstE [e0,e1,e2,e3,e4]))∧w=w':=
 first_any b 5 [e0,e1,e2,e3,e4] w (Nat.le_refl 5) (by omega) (errs_five h)
theorem opcheck_any (k c s a n ch:Int) (w:World):
  Calls Tryz.prog 179 #[.agg #[k,c,s,a,n,.int .i32 ch]] w
   fun e w'=>e=.returned (.int .i64 (chkE k c s a n ch))∧Below w.heap.size w w':=by
 have H0:=Lh (OpIn.start 73 k c s a n ch w)
 go_enter Tryz.func179,Tryz.ntmps179
 go_wp2_with fail
 refine rgH (fun W=>Cc6 W w.heap.size k c s a n (.int .i32 ch) (OpIn w.heap.size w.heap.size 73 k c s a n ch w W)) ((H0.out.next bdq).s) fun hH=>?_
 clear H0;refine ta 0 hH ?_;refine ta 2 hH ?_;refine ta 3 hH ?_;refine ta 5 hH ?_;refine ta 7 hH ?_;refine ta 9 hH ?_;refine rc 1 (kind_any k c s a n ch _) ?_
 rintro e' u1 ⟨rfl,hb⟩
 refine rp ((hH.2.2.2.2.2.2.next hb).s) ?_;clear hH hb;intro hH
 refine rc 4 (idcheck_any c s _) ?_
 rintro e' u2 ⟨rfl,hb⟩
 refine rp ((hH.2.2.2.2.2.2.next hb).s) ?_;clear hH hb;intro hH
 refine rc 6 (anchor_any k c s a n ch _) ?_
 rintro e' u3 ⟨rfl,hb⟩
 refine rp ((hH.2.2.2.2.2.2.next hb).s) ?_;clear hH hb;intro hH
 refine rc 8 (order_any k c s a n ch _) ?_
 rintro e' u4 ⟨rfl,hb⟩
 refine rp ((hH.2.2.2.2.2.2.next hb).s) ?_;clear hH hb;intro hH
 refine rc 10 (char_any k c s a n ch _) ?_
 rintro e' u5 ⟨rfl,hb⟩
 refine rp ((hH.2.2.2.2.2.2.next hb).s) ?_;clear hH hb;intro hH
 refine rd1 11 (by kernel_rfl) rfl fun K hK=>?_
 go_simp
 go_wp2_with fail
 refine hK.out _ _ ((hH.2.2.2.2.2.2.next (bA)).s) ?_;clear hK K hH;intro hH
 try simp only [LAY]
 refine rc 12 (first_five _ 52 (kindE k a n ch) (idE c s) (ancE a n) (ordE c a) (chrE k ch) _ (Blk.start _ _ _)) ?_
 rintro e' u6 ⟨rfl,rfl⟩
 refine rp (hH) ?_;clear hH;intro hH
 refine ta 13 hH ?_;refine dnH ?_;have HB:=Lh hH.2.2.2.2.2.2.2.1;clear hH;go_wp2_with fail
 go_ret
 exact ⟨rfl,HB.out⟩
theorem chk_kind {k c s a n ch:Int} (h:kindE k a n ch=1):chkE k c s a n ch=1:=by simp [chkE,firstE,h]
theorem chk_id {k c s a n ch:Int} (h:kindE k a n ch=0) (h1:mayB c s=false):chkE k c s a n ch=2:=by simp [chkE,firstE,h,idE,h1]
theorem chk_anc {k c s a n ch:Int} (h:kindE k a n ch=0) (h1:mayB c s=true) (h2:noneB a n=false) (h3:mayB a n=false):chkE k c s a n ch=2:=by simp [chkE,firstE,h,idE,h1,ancE,h2,h3]
theorem chk_ord {k c s a n ch:Int} (h:kindE k a n ch=0) (h1:mayB c s=true) (h2:noneB a n=false) (h3:mayB a n=true) (h4:c≤a):chkE k c s a n ch=3:=by simp [chkE,firstE,h,idE,h1,ancE,h2,h3,ordE,h4]
theorem may_pos {c s:Int} (h:mayB c s=true):1≤c:=by simp [mayB] at h; omega
theorem none_yes {a n:Int} (h:noneB a n=true):a=0∧n=0:=by simpa [noneB] using h
theorem kind_zero {k a n ch:Int} (h:kindE k a n ch=0):k=0∨(k=1∧a=0∧n=0∧ch=0):=by
 unfold kindE at h
 split at h
 ·exact .inl (by assumption)
 ·split at h
  ·rename_i h2
   obtain ⟨h2,h3,h4⟩:=h2;obtain ⟨h5,h6⟩:=none_yes h3;exact .inr ⟨h2,h5,h6,h4⟩
  ·cases h
theorem kind_two (k a n ch:Int):kindE k a n ch=1∨kindE k a n ch=0:=by
 unfold kindE
 split
 ·exact .inr rfl
 ·split
  ·exact .inr rfl
  ·exact .inl rfl
def hxU (d:Nat):UInt8:=if d<10 then UInt8.ofNat (48+d) else UInt8.ofNat (87+d)
def hexD (u:Nat):List UInt8:=if u<16 then [hxU u] else hexD (u / 16)++[hxU (u % 16)]
theorem hexD_one {u:Nat} (h:u<16):hexD u=[hxU u]:=by rw [hexD,if_pos h]
theorem hexD_more {u:Nat} (h:¬ u<16):hexD u=hexD (u / 16)++[hxU (u % 16)]:=by rw [hexD,if_neg h]
theorem hexD_pos (u:Nat):0<(hexD u).length:=by
 by_cases h:u<16
 ·rw [hexD_one h]; simp
 ·rw [hexD_more h]; simp
theorem hexD_few (k:Nat):∀ u,u<16 ^ (k+1)→(hexD u).length≤k+1:=by
 induction k with
 | zero=>
  intro u h
  rw [hexD_one (by simpa using h)];simp
 | succ k ih=>
  intro u h
  by_cases h1:u<16
  ·rw [hexD_one h1]; simp
  ·rw [hexD_more h1]
   have:=ih (u / 16) (by rw [Nat.pow_succ] at h; omega);simp only [List.length_append,List.length_singleton]
   omega
theorem hexD_six {u:Nat} (h:u≤1114111):(hexD u).length≤6:=hexD_few 5 u (by omega)
def Tabs (w:World):Prop:=Tab w∧w.cell? ⟨5,15,none⟩=some (.int .u8 4)
theorem Tabs.next {w w':World} (h:Tabs w) (hb:Below w.heap.size w w'):Tabs w':=
 ⟨h.1.next hb,by rw [hb.cell (p:=⟨5,15,none⟩) (World.block_lt_of_cell? _ _ h.2)]; exact h.2⟩
theorem Tabs.alloc {w:World} (h:Tabs w) (o:Obj):Tabs (w.alloc o):=h.next (bA)
theorem and_tz:bits .and .u64 16 18446744073709551600=16:=by decide
theorem wrap_tz:IntKind.u64.wrap (-16)=18446744073709551600:=by decide
theorem wrap_mul:IntKind.u64.wrap 4573923408821661840=4573923408821661840:=by decide
theorem and_pow:bits .and .i64 16 15=0:=by decide
theorem tz64 (w:World) (h:Tabs w):
  Calls Tryz.prog 283 #[.int .u64 16] w fun e w'=>e=.returned (.int .i64 4)∧w=w':=by
 have hc:=h.2;have ha:=and_tz;have hw:=wrap_tz;have hm:=wrap_mul;clear h
 go_enter Tryz.func283,Tryz.ntmps283
 go_wp2
 go_ret
 exact ⟨rfl,rfl⟩
theorem tz (w:World) (h:Tabs w):
  Calls Tryz.prog 266 #[.int .u64 16] w fun e w'=>e=.returned (.int .i64 4)∧w=w':=by
 have HT:=Lh h;clear h
 go_enter Tryz.func266,Tryz.ntmps266
 go_wp2_with (go_at_call 283; refine (tz64 _ HT.out).mono ?_; rintro e w' ⟨rfl,rfl⟩)
 go_ret
 exact ⟨rfl,rfl⟩
theorem isPow (w:World):
  Calls Tryz.prog 265 #[.int .i64 16] w fun e w'=>e=.returned (.bool true)∧w=w':=by
 have ha:=and_pow
 go_enter Tryz.func265,Tryz.ntmps265
 go_wp2
 go_ret
 exact ⟨rfl,rfl⟩
theorem wraps_u64 (n:Int) (h₀:0≤n) (h₁:n<2 ^ 62):IntKind.u64.wrap n=n:=IntWalk.u64_in _ (by omega)
theorem and15 (x:Int) (h₀:0≤x) (h₁:x<4611686018427387904):bits .and .u64 x 15=x % 16:=bits_mask .u64 62 (by decide) wraps_u64 4 (by decide) x h₀ h₁
theorem tab_at (d:Nat) (hd:d<16) (h:d<(⟨#[48,49,50,51,52,53,54,55,56,57,97,98,99,100,101,102,103,104,105,106,107,108,109,110,111,112,113,114,115,116,117,118,119,120,121,122]⟩:ByteArray).size):(⟨#[48,49,50,51,52,53,54,55,56,57,97,98,99,100,101,102,103,104,105,106,107,108,109,110,111,112,113,114,115,116,117,118,119,120,121,122]⟩:ByteArray)[d]'h=hxU d:=by
 have:∀ d:Fin 16,(⟨#[48,49,50,51,52,53,54,55,56,57,97,98,99,100,101,102,103,104,105,106,107,108,109,110,111,112,113,114,115,116,117,118,119,120,121,122]⟩:ByteArray)[d.val]'(Nat.lt_trans d.isLt (by decide))=hxU d.val:=by decide
 exact this ⟨d,hd⟩
theorem slice_tailH (W:World) (b q n:Nat) (h:q+(n+1)=65):
  (Instr.sliceAt 380 (.pointer (some ⟨b,0,none⟩)) (some (.int .i64 (q:Int))) none none).run Tryz.prog W=.ok (.slice (some ⟨b,q,none⟩) (n+1) (n+1)) W:=by
 have hal:Tryz.prog.arrayLen 380=65:=by kernel_rfl
 have hel:Tryz.prog.elem 380=5:=by kernel_rfl
 rw [run_sliceAt_array_l (P:=Tryz.prog) W 380 ⟨b,0,none⟩ (by rw [hal,hel]; exact Tryz.underlying380) .i64 (q:Int) (by omega) (by rw [hal]; omega)];rw [hal,hel];have hne:¬ 65=q:=by omega
 have hn:65-q=n+1:=by omega
 simp [go_sem,slicedAt,hne,hn]
structure FbIs (w wr:World) (u m q:Nat) (suf:List UInt8):Prop where
 bel:Below w.heap.size w wr
 dig:hexD u=hexD m++suf
 le:m≤u
 pl:q+1+suf.length=65
 blk:∃ vs:List Value,vs.length=65∧Blk wr w.heap.size vs 380∧∀ j (h:j<suf.length),vs[q+1+j]? = some (.int .u8 suf[j].toNat)
theorem FbIs.len {w wr:World} {u m q:Nat} {suf:List UInt8} (h:FbIs w wr u m q suf) (hu:u≤1114111):suf.length+1≤6:=by
 have h1:=hexD_six hu;have h2:=hexD_pos m;rw [h.dig] at h1;simp at h1
 omega
theorem fb_put {vs:List Value} {q:Nat} {suf:List UInt8} (b:UInt8) (hl:vs.length=65) (hp:q+1+suf.length=65) (h:∀ j (h:j<suf.length),vs[q+1+j]? = some (.int .u8 suf[j].toNat)):
  ∀ j (h:j<(b::suf).length),(vs.set q (.int .u8 b.toNat))[q+j]? = some (.int .u8 (b::suf)[j].toNat):=by
 intro j hj
 cases j with
 | zero=>
  have:q<vs.length:=by omega
  simp [this]
 | succ j=>
  have:=h j (by simpa using hj);rw [List.getElem?_set_ne (by omega)];simp only [List.getElem_cons_succ]
  rw [←this]
  congr 1
  omega
theorem FbIs.step {w wr:World} {u m q:Nat} {suf:List UInt8} (h:FbIs w wr u m (q+1) suf) (hm:¬ m<16):FbIs w (wr.setCell ⟨w.heap.size,q+1,none⟩ (.int .u8 (hxU (m % 16)).toNat)) u (m / 16) q (hxU (m % 16)::suf):=by
 obtain ⟨vs,hl,hB,hj⟩:=h.blk;have hp:=h.pl;refine ⟨h.bel.setCell (p:=⟨w.heap.size,q+1,none⟩) (Nat.le_refl _) _,by rw [h.dig,hexD_more hm]; simp,Nat.le_trans (Nat.div_le_self _ _) h.le,by simp; omega,_,by simpa using hl,hB.set (q+1) _,fb_put _ hl hp hj⟩
theorem FbIs.conv {w wr:World} {u m q:Nat} {suf:List UInt8} (h:FbIs w wr u m q suf) (hm:m<16):
  (convert 258 9 (.slice (some ⟨w.heap.size,q,none⟩) (suf.length+1) (suf.length+1))).run Tryz.prog (wr.setCell ⟨w.heap.size,q,none⟩ (.int .u8 (hxU m).toNat))=.ok (.string ⟨(hexD u).toArray⟩) (wr.setCell ⟨w.heap.size,q,none⟩ (.int .u8 (hxU m).toNat)):=by
 obtain ⟨vs,hl,hB,hj⟩:=h.blk;have hp:=h.pl;have hd:hexD u=hxU m::suf:=by rw [h.dig,hexD_one hm]; rfl
 have he:suf.length+1=(hexD u).length:=by rw [hd]; simp
 rw [he];refine run_convert_bytes_back (P:=Tryz.prog) _ 258 9 5 ⟨w.heap.size,q,none⟩ _ (hexD u) Tryz.underlying258 Tryz.underlying5 Tryz.underlying9 (fun j hj'=>?_);have:=(hB.set q (.int .u8 (hxU m).toNat)).cell (q+j) (fb_put _ hl hp hj j (by rw [hd] at hj'; exact hj'));simp only [hd]
 rw [Lib.add_plain];exact this
theorem bits_any (u:Nat) (hu:u≤1114111) (w:World) (ht:Tabs w):
  Calls Tryz.prog 242 #[.slice none 0 0,.int .u64 u,.int .i64 16,.bool false,.bool false] w
   fun e w'=>e=.returned (.tuple #[.slice none 0 0,.string ⟨(hexD u).toArray⟩])∧Below w.heap.size w w':=by
 have HT:=Lh ht;clear ht
 go_enter Tryz.func242,Tryz.ntmps242
 go_wp2_with (first | (go_at_call 265; refine (isPow _).mono ?_; rintro e w' ⟨rfl,rfl⟩) | (go_at_call 266; refine (tz _ (HT.out.alloc _)).mono ?_; rintro e w' ⟨rfl,rfl⟩))
 go_loopg [1,13] u (fun g uv iv wr=>∃ (m q:Nat) (suf:List UInt8),uv=.int .u64 (m:Int)∧iv=.int .i64 ((q+1:Nat):Int)∧g=m∧FbIs w wr u m q suf)
 case atStart=>exact ⟨u,64,[],rfl,rfl,rfl,bA,by simp,Nat.le_refl _,rfl,_,rfl,Blk.start _ _ _,fun j h=>by simp at h⟩
 case round=>
  obtain ⟨m,q,suf,rfl,rfl,hg,hI⟩:=hrel;have hlen:=hI.len hu;have hpl:=hI.pl;have hmu:m≤u:=hI.le;obtain ⟨q,rfl⟩:∃ q',q=q'+1:=⟨q - 1,by omega⟩
  obtain ⟨vs,hvl,hB,hj⟩:=hI.blk;obtain ⟨lv,fv⟩:=hB.live (q+1) (by omega);have s1:IntKind.i64.wrap (((q+1+1:Nat):Int) - 1)=((q+1:Nat):Int):=by rw [IntWalk.i64_in _ (by omega)]; omega
  have hbel:=Lh hI.bel;have HI:=Lh hI;have HG:=Lh hg;clear hI hB hj hg;by_cases hm:16≤m
  ·have s2:=and15 (m:Int) (by omega) (by omega)
   have htab:=tab_at (m % 16) (by omega)
   go_wp2
   go_roundg (m / 16)
   case measure=>have:=HG.out; omega
   case rel=>exact ⟨m / 16,q,hxU (m % 16)::suf,by go_num,by go_num,rfl,HI.out.step (by omega)⟩
  ·have htab:=tab_at m (by omega)
   have hsl:=fun W=>slice_tailH W w.heap.size (q+1) suf.length (by omega)
   have hcv:=HI.out.conv (by omega);have hcast:((q+1:Nat):Int)=(q:Int)+1:=by omega
   simp only [hcast] at hsl
   clear hcast
   go_wp2
   go_ret2
   exact ⟨rfl,hbel.out.setCell (p:=⟨w.heap.size,q+1,none⟩) (Nat.le_refl _) _⟩
theorem formatHex (u:Nat) (hu:u≤1114111) (w:World) (ht:Tabs w):
  Calls Tryz.prog 215 #[u,.int .i64 16] w
   fun e w'=>e=.returned (.string ⟨(hexD u).toArray⟩)∧Below w.heap.size w w':=by
 have HT:=Lh ht;have s1:IntKind.u64.wrap (u:Int)=(u:Int):=IntWalk.u64_in _ (by omega);have s2:((u:Int)<0)=False:=by simp <;> omega
 clear ht
 go_enter Tryz.func215,Tryz.ntmps215
 go_wp2_with (go_at_call 242; refine (bits_any u hu _ HT.out).mono ?_; rintro e w' ⟨rfl,hb⟩)
 go_ret
 exact ⟨rfl,hb⟩
theorem fmtHex (u:Nat) (hu:u≤1114111) (w:World) (ht:Tabs w):
  Calls Tryz.prog 180 #[u,.int .i64 16] w
   fun e w'=>e=.returned (.string ⟨(hexD u).toArray⟩)∧Below w.heap.size w w':=by
 have HT:=Lh ht;clear ht
 go_enter Tryz.func180,Tryz.ntmps180
 go_wp2_with (go_at_call 215; refine (formatHex u hu _ HT.out).mono ?_; rintro e w' ⟨rfl,hb⟩)
 go_ret
 exact ⟨rfl,hb⟩
def ancT (a n:Int):ByteArray:=if noneB a n=true then ⟨#[45]⟩ else txtB a n
def hexB (ch:Int):ByteArray:=⟨(hexD ch.toNat).toArray⟩
def ins1 (c s:Int):ByteArray:=⟨#[43]⟩++txtB c s
def ins2 (c s:Int):ByteArray:=ins1 c s++⟨#[32]⟩
def ins3 (c s a n:Int):ByteArray:=ins2 c s++ancT a n
def ins4 (c s a n:Int):ByteArray:=ins3 c s a n++⟨#[32]⟩
def insX (c s a n ch:Int):ByteArray:=ins4 c s a n++hexB ch
def delT (c s:Int):ByteArray:=⟨#[45]⟩++txtB c s
def opT (k c s a n ch:Int):ByteArray:=if chkE k c s a n ch=0 then (if k=1 then delT c s else insX c s a n ch) else ⟨#[63]⟩
theorem may_all {c s:Int} (h:mayB c s=true):1≤c∧c≤1048576∧1≤s∧s≤1000:=by simpa [mayB] using h
theorem txt_small {c s:Int} (h:mayB c s=true):(txtB c s).size≤43:=by
 obtain ⟨h1,h2,h3,h4⟩:=may_all h;have e1:=dotB_size (c:=c) (by omega) (by omega);have e2:=digB_size (c:=s) (by omega) (by omega);unfold txtB
 rw [ByteArray.size_append]; omega
theorem one_size (b:UInt8):(⟨#[b]⟩:ByteArray).size=1:=rfl
theorem anc_small {a n:Int} (h:noneB a n=true∨mayB a n=true):(ancT a n).size≤43:=by
 unfold ancT
 by_cases hn:noneB a n=true
 ·rw [if_pos hn,one_size]; omega
 ·rw [if_neg hn]; exact txt_small (h.resolve_left hn)
theorem hex_small {ch:Int} (h:ch≤1114111):(hexB ch).size≤6:=by
 have:=hexD_six (u:=ch.toNat) (by omega)
 show (hexD ch.toNat).toArray.size≤6
 simpa using this
theorem ins1_small {c s:Int} (h:mayB c s=true):(ins1 c s).size≤44:=by
 have:=txt_small h;unfold ins1
 rw [ByteArray.size_append,one_size]; omega
theorem ins2_small {c s:Int} (h:mayB c s=true):(ins2 c s).size≤45:=by
 have:=ins1_small h;unfold ins2
 rw [ByteArray.size_append,one_size]; omega
theorem ins3_small {c s a n:Int} (h:mayB c s=true) (h':noneB a n=true∨mayB a n=true):(ins3 c s a n).size≤88:=by
 have:=ins2_small h;have:=anc_small h';unfold ins3
 rw [ByteArray.size_append]; omega
theorem ins4_small {c s a n:Int} (h:mayB c s=true) (h':noneB a n=true∨mayB a n=true):(ins4 c s a n).size≤89:=by
 have:=ins3_small h h';unfold ins4
 rw [ByteArray.size_append,one_size]; omega
theorem add_ins1 {c s:Int} (h:mayB c s=true) (W:World):(Op.stringOp .add ⟨#[43]⟩ (txtB c s)).run Tryz.prog W=.ok (.string (ins1 c s)) W:=by
 have:=txt_small h;exact run_string_add_sum W _ _ (by rw [one_size]; omega)
theorem add_del {c s:Int} (h:mayB c s=true) (W:World):(Op.stringOp .add ⟨#[45]⟩ (txtB c s)).run Tryz.prog W=.ok (.string (delT c s)) W:=by
 have:=txt_small h;exact run_string_add_sum W _ _ (by rw [one_size]; omega)
theorem add_ins2 {c s:Int} (h:mayB c s=true) (W:World):(Op.stringOp .add (ins1 c s) ⟨#[32]⟩).run Tryz.prog W=.ok (.string (ins2 c s)) W:=by
 have:=ins1_small h;exact run_string_add_sum W _ _ (by rw [one_size]; omega)
theorem add_ins3 {c s a n:Int} (h:mayB c s=true) (h':noneB a n=true∨mayB a n=true) (W:World):(Op.stringOp .add (ins2 c s) (ancT a n)).run Tryz.prog W=.ok (.string (ins3 c s a n)) W:=by
 have:=ins2_small h;have:=anc_small h';exact run_string_add_sum W _ _ (by omega)
theorem add_ins4 {c s a n:Int} (h:mayB c s=true) (h':noneB a n=true∨mayB a n=true) (W:World):(Op.stringOp .add (ins3 c s a n) ⟨#[32]⟩).run Tryz.prog W=.ok (.string (ins4 c s a n)) W:=by
 have:=ins3_small h h';exact run_string_add_sum W _ _ (by rw [one_size]; omega)
theorem add_insT {c s a n ch:Int} (h:mayB c s=true) (h':noneB a n=true∨mayB a n=true) (hc:ch≤1114111) (W:World):(Op.stringOp .add (ins4 c s a n) (hexB ch)).run Tryz.prog W=.ok (.string (insX c s a n ch)) W:=by
 have:=ins4_small h h';have:=hex_small hc;exact run_string_add_sum W _ _ (by omega)
theorem ancStr_any (a n:Int) (w:World) (h:noneB a n=true∨mayB a n=true) (ht:Tabs w):
  Calls Tryz.prog 132 #[.agg #[a,n]] w
   fun e w'=>e=.returned (.string (ancT a n))∧Below w.heap.size w w':=by
 by_cases hn:noneB a n=true
 ·unfold ancT
  rw [if_pos hn];obtain ⟨rfl,rfl⟩:=none_yes hn;exact string_none w
 ·unfold ancT
  rw [if_neg hn];exact string_yes a n w (h.resolve_left hn) ht.1
theorem fmtHexB (ch:Int) (h0:0≤ch) (h1:ch≤1114111) (w:World) (ht:Tabs w):
  Calls Tryz.prog 180 #[ch,.int .i64 16] w
   fun e w'=>e=.returned (.string (hexB ch))∧Below w.heap.size w w':=by
 have h:=fmtHex ch.toNat (by omega) w ht;rw [Int.toNat_of_nonneg h0] at h;exact h
structure OkIns (c s a n ch:Int):Prop where
 may:mayB c s=true
 anc:noneB a n=true∨mayB a n=true
 lt:a<c
 lo:32≤ch
 hi:ch≤1114111
 rn:runeB ch=true
theorem firstE_zero {l:List Int} (h:firstE l=0):∀ x∈l,x=0:=by
 induction l with
 | nil=>intro x hx; cases hx
 | cons y l ih=>
  intro x hx
  unfold firstE at h
  by_cases hy:y=0
  ·rw [if_pos hy] at h
   rcases List.mem_cons.1 hx with rfl | hx
   ·exact hy
   ·exact ih h x hx
  ·rw [if_neg hy] at h; exact absurd h hy
theorem chk_ok {k c s a n ch:Int} (h:chkE k c s a n ch=0):(k=0∧OkIns c s a n ch)∨(k=1∧a=0∧n=0∧ch=0∧mayB c s=true):=by
 have hz:=firstE_zero h;have h1:=hz (kindE k a n ch) (by simp);have h2:=hz (idE c s) (by simp);have h3:=hz (ancE a n) (by simp);have h4:=hz (ordE c a) (by simp);have h5:=hz (chrE k ch) (by simp);have m1:mayB c s=true:=by
  unfold idE at h2
  split at h2
  ·assumption
  ·cases h2
 rcases kind_zero h1 with rfl | ⟨rfl,rfl,rfl,rfl⟩
 ·have m2:noneB a n=true∨mayB a n=true:=by
   unfold ancE idE at h3
   split at h3
   ·exact .inl (by assumption)
   ·split at h3
    ·exact .inr (by assumption)
    ·cases h3
  have m3:a<c:=by
   unfold ordE at h4
   split at h4
   ·cases h4
   ·omega
  have m4:¬ (ch<32∨runeB ch=false):=by
   intro e
   unfold chrE at h5
   rw [if_pos ⟨rfl,e⟩] at h5
   cases h5
  have m5:runeB ch=true:=by
   rcases hr:runeB ch with _ | _
   ·exact absurd (.inr hr) m4
   ·rfl
  refine .inl ⟨rfl,m1,m2,m3,by omega,?_,m5⟩;simp [runeB] at m5
  omega
 ·exact .inr ⟨rfl,rfl,rfl,rfl,m1⟩
theorem chk_del {c s:Int} (h:mayB c s=true):chkE 1 c s 0 0 0=0:=by
 have:=may_pos h;have h2:noneB 0 0=true:=by decide
 have h3:¬ c≤0:=by omega
 simp [chkE,firstE,kindE,idE,h,ancE,h2,ordE,h3,chrE]
theorem chk_ins {c s a n ch:Int} (h:OkIns c s a n ch):chkE 0 c s a n ch=0:=by
 have h3:¬ c≤a:=by have:=h.lt; omega
 have h4:¬ ch<32:=by have:=h.lo; omega
 have h5:=h.rn;have h6:ancE a n=0:=by
  unfold ancE idE
  by_cases hn:noneB a n=true
  ·rw [if_pos hn]
  ·rw [if_neg hn,if_pos (h.anc.resolve_left hn)]
 simp [chkE,firstE,kindE,idE,h.may,h6,ordE,h3,chrE,h4,h5]
def OpTab (B b:Nat) (t:TypeId) (k c s a n ch:Int) (w W:World):Prop:=OpIn B b t k c s a n ch w W∧Tabs W
theorem OpTab.next {B b:Nat} {t:TypeId} {k c s a n ch:Int} {w W W':World} (h:OpTab B b t k c s a n ch w W) (hb:Below W.heap.size W W'):OpTab B b t k c s a n ch w W':=⟨h.1.next hb,h.2.next hb⟩
theorem OpTab.start (t:TypeId) (k c s a n ch:Int) (w:World) (ht:Tabs w):OpTab w.heap.size w.heap.size t k c s a n ch w (w.alloc (.cells #[k,c,s,a,n,.int .i32 ch] t)):=⟨OpIn.start t k c s a n ch w,ht.alloc _⟩
theorem OpTab.s {B b:Nat} {t:TypeId} {k c s a n ch:Int} {w W:World} (h:OpTab B b t k c s a n ch w W):
  W.cell? ⟨b,0,none⟩=some (.int .i64 k)∧W.cell? ⟨b,1,none⟩=some (.int .i64 c)∧W.cell? ⟨b,2,none⟩=some (.int .i64 s)∧W.cell? ⟨b,3,none⟩=some (.int .i64 a)∧W.cell? ⟨b,4,none⟩=some (.int .i64 n)∧W.cell? ⟨b,5,none⟩=some (.int .i32 ch)∧OpTab B b t k c s a n ch w W:=
 let x:=h.1.s; ⟨x.1,x.2.1,x.2.2.1,x.2.2.2.1,x.2.2.2.2.1,x.2.2.2.2.2.1,h⟩
theorem opT_wrong {k c s a n ch:Int} (h:¬ chkE k c s a n ch=0):opT k c s a n ch=⟨#[63]⟩:=by unfold opT; rw [if_neg h]
theorem opT_del {c s:Int} (h:mayB c s=true):opT 1 c s 0 0 0=delT c s:=by unfold opT; rw [if_pos (chk_del h),if_pos rfl]
theorem opT_ins {c s a n ch:Int} (h:OkIns c s a n ch):opT 0 c s a n ch=insX c s a n ch:=by unfold opT; rw [if_pos (chk_ins h),if_neg (by decide)]
theorem opstr_wrong (k c s a n ch:Int) (w:World) (h:¬ chkE k c s a n ch=0):
  Calls Tryz.prog 120 #[.agg #[k,c,s,a,n,.int .i32 ch]] w
   fun e w'=>e=.returned (.string ⟨#[63]⟩)∧Below w.heap.size w w':=by
 have HC:=Lh (fun W=>opcheck_any k c s a n ch W);have hb0:(chkE k c s a n ch != 0)=true:=by simpa using h
 generalize chkE k c s a n ch=e0 at *
 clear h
 go_enter Tryz.func120,Tryz.ntmps120
 go_wp2_with (go_at_call 179; refine (HC.out _).mono ?_; rintro e w1 ⟨rfl,hb1⟩)
 go_ret
 exact ⟨rfl,(bA).trans (hb1.mono (by simp))⟩
theorem opstr_del (c s:Int) (w:World) (h:mayB c s=true) (ht:Tabs w):
  Calls Tryz.prog 120 #[.agg #[.int .i64 1,c,s,.int .i64 0,.int .i64 0,.int .i32 0]] w
   fun e w'=>e=.returned (.string (delT c s))∧Below w.heap.size w w':=by
 have hk:=opcheck_any 1 c s 0 0 0 (w.alloc (.cells #[.int .i64 1,c,s,.int .i64 0,.int .i64 0,.int .i32 0] 73));rw [chk_del h] at hk;have HK:=Lh hk;have hadd:=fun W=>add_del h W
 have H0:=Lh (OpTab.start 73 1 c s 0 0 0 w ht);have HM:=Lh h;clear hk ht h
 go_enter Tryz.func120,Tryz.ntmps120
 go_wp2_with fail;refine HK.out.mono ?_;rintro e w1 ⟨rfl,hb1⟩
 have H1:=Lh (H0.out.next hb1);obtain ⟨c0,c1,c2,-⟩:=(H0.out.next hb1).s;clear H0 hb1 HK;go_wp2_with (go_at_call 132; refine (string_yes c s _ HM.out H1.out.2.1).mono ?_; rintro e w2 ⟨rfl,hb2⟩)
 go_ret
 exact ⟨rfl,(H1.out.next hb2).1.2.1⟩
theorem opstr_ins (c s a n ch:Int) (w:World) (h:OkIns c s a n ch) (ht:Tabs w):
  Calls Tryz.prog 120 #[.agg #[.int .i64 0,c,s,a,n,.int .i32 ch]] w
   fun e w'=>e=.returned (.string (insX c s a n ch))∧Below w.heap.size w w':=by
 have hk:=opcheck_any 0 c s a n ch (w.alloc (.cells #[.int .i64 0,c,s,a,n,.int .i32 ch] 73));rw [chk_ins h] at hk;have HK:=Lh hk;have hadd1:=fun W=>add_ins1 h.may W
 have hadd2:=fun W=>add_ins2 h.may W
 have hadd3:=fun W=>add_ins3 h.may h.anc W
 have hadd4:=fun W=>add_ins4 h.may h.anc W
 have hadd5:=fun W=>add_insT h.may h.anc h.hi W
 have hlo:=h.lo;have hhi:=h.hi;have s1:IntKind.i64.wrap ch=ch:=IntWalk.i64_in _ (by omega);have H0:=Lh (OpTab.start 73 0 c s a n ch w ht);have HM:=Lh h;clear hk ht h
 go_enter Tryz.func120,Tryz.ntmps120
 go_wp2_with fail;refine HK.out.mono ?_;rintro e w1 ⟨rfl,hb1⟩
 have H1:=Lh (H0.out.next hb1);obtain ⟨c0,-⟩:=(H0.out.next hb1).s;clear H0 hb1 HK;go_wp2_with fail
 refine rgH (fun W=>Cc6 W w.heap.size (.int .i64 0) c s a n (.int .i32 ch) (OpTab w.heap.size w.heap.size 73 0 c s a n ch w W)) ((H1.out.next bdq).s) fun hH=>?_
 clear H1 c0;refine ta 0 hH ?_;refine ta 1 hH ?_;refine ta 5 hH ?_;refine ta 6 hH ?_;refine ta 10 hH ?_;refine ta 11 hH ?_;refine ta 12 hH ?_;refine rc 2 (string_yes c s _ HM.out.may hH.2.2.2.2.2.2.2.1) ?_
 rintro e' u1 ⟨rfl,hb⟩
 refine rp ((hH.2.2.2.2.2.2.next hb).s) ?_;clear hH hb;intro hH
 refine ta 3 hH ?_;refine ta 4 hH ?_;refine rc 7 (ancStr_any a n _ HM.out.anc hH.2.2.2.2.2.2.2) ?_
 rintro e' u2 ⟨rfl,hb⟩
 refine rp ((hH.2.2.2.2.2.2.next hb).s) ?_;clear hH hb;intro hH
 refine ta 8 hH ?_;refine ta 9 hH ?_;refine rc 13 (fmtHexB ch (by omega) (by omega) _ hH.2.2.2.2.2.2.2) ?_
 rintro e' u3 ⟨rfl,hb⟩
 refine rp ((hH.2.2.2.2.2.2.next hb).s) ?_;clear hH hb;intro hH
 refine ta 14 hH ?_;refine ta 15 hH ?_;refine dnH ?_;have HB:=Lh hH.2.2.2.2.2.2.1.2.1;clear hH;go_wp2_with fail
 go_ret
 exact ⟨rfl,HB.out⟩
theorem opstr_any (k c s a n ch:Int) (w:World) (ht:Tabs w):
  Calls Tryz.prog 120 #[.agg #[k,c,s,a,n,.int .i32 ch]] w
   fun e w'=>e=.returned (.string (opT k c s a n ch))∧Below w.heap.size w w':=by
 by_cases h:chkE k c s a n ch=0
 ·rcases chk_ok h with ⟨rfl,hk⟩ | ⟨rfl,rfl,rfl,rfl,hm⟩
  ·rw [opT_ins hk]; exact opstr_ins c s a n ch w hk ht
  ·rw [opT_del hm]; exact opstr_del c s w hm ht
 ·rw [opT_wrong h]; exact opstr_wrong k c s a n ch w h
theorem ok_example:OkIns 2 1 1 3 97:=⟨by decide,.inr (by decide),by decide,by decide,by decide,by decide⟩
theorem digB_one {c:Int} (h:0≤c) (h1:c<10):digB c=⟨#[UInt8.ofNat (48+c.toNat)]⟩:=by
 unfold digB
 rw [Lib.decDigits_one (by omega)]
theorem txt_21:txtB 2 1=⟨#[50,46,49]⟩:=by
 unfold txtB dotB
 rw [digB_one (by omega) (by omega),digB_one (by omega) (by omega)];rfl
theorem txt_13:txtB 1 3=⟨#[49,46,51]⟩:=by
 unfold txtB dotB
 rw [digB_one (by omega) (by omega),digB_one (by omega) (by omega)];rfl
theorem hex_97:hexB 97=⟨#[54,49]⟩:=by
 unfold hexB
 rw [show (97:Int).toNat=97 from rfl,hexD_more (by omega),hexD_one (by omega)];rfl
theorem txt_example:insX 2 1 1 3 97=⟨#[43,50,46,49,32,49,46,51,32,54,49]⟩:=by
 have hn:noneB 1 3=false:=by decide
 unfold insX ins4 ins3 ins2 ins1 ancT
 rw [if_neg (by rw [hn]; decide),txt_21,txt_13,hex_97];rfl
theorem awake5_any (w:World) (ht:Tabs w):
  Calls Tryz.prog 261 #[] w (Rt (.bool true) w):=by
 have hk:=fun W=>opcheck_any 0 2 1 1 3 97 W
 rw [chk_ins ok_example] at hk;have hs:=fun W h=>opstr_ins 2 1 1 3 97 W ok_example h
 rw [txt_example] at hs;have HK:=Lh hk;have HSt:=Lh hs;have H0:=Lh (OpTab.start 73 0 2 1 1 3 97 w ht);clear ht hk hs
 go_enter Tryz.func261,Tryz.ntmps261
 go_wp2_with fail;refine (awake_any _ H0.out.2.1).mono ?_;rintro e w1 ⟨rfl,hb1⟩
 have H1:=Lh (H0.out.next hb1);obtain ⟨c0,c1,c2,c3,c4,c5,-⟩:=(H0.out.next hb1).s;clear H0 hb1;go_wp2_with fail;refine (HK.out _).mono ?_;rintro e w2 ⟨rfl,hb2⟩
 have H2:=Lh (H1.out.next hb2);clear c0 c1 c2 c3 c4 c5;obtain ⟨c0,c1,c2,c3,c4,c5,-⟩:=(H1.out.next hb2).s;clear H1 hb2;go_wp2_with (go_at_call 120; refine (HSt.out _ H2.out.2).mono ?_; rintro e w3 ⟨rfl,hb3⟩)
 go_ret
 exact ⟨rfl,(H2.out.next hb3).1.2.1⟩
end Go.Proofs.YtemicfjmidohfaaGreatDoor
