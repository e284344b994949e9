import Derived.Test.YtjilpbmehipagaaRd14
import Derived.Test.YtjilpbmehipagaaVw13
set_option maxRecDepth 100000
set_option maxHeartbeats 12800000
namespace Go.Proofs.Ytjilpbmehipagaa
open Go Go.Proofs Go.RowKit
def aheadP (L:List Ac) (i k:Int):Prop:=mayAc L=true∧0≤i∧0≤k∧k<L.length∧Ord L i.toNat k.toNat
def goodK (L:List Ac) (k:Int):Prop:=codeL L=0∧0≤k∧k<L.length∧(acA L k.toNat).k=0
def wrK (L:List Ac) (k j:Nat):Prop:=j<L.length∧(acA L j).k=1∧(acA L j).l=(acA L k).l
def seenP (L:List Ac) (k i:Int):Prop:=(¬ goodK L k→i = -1)∧(goodK L k→(i = -1∧∀ j,wrK L k.toNat j→¬ Ord L j k.toNat)∨∃ j:Nat,i=j∧wrK L k.toNat j∧Ord L j k.toNat∧∀ x,wrK L k.toNat x→Ord L x k.toNat→x≤j)
def LocOk (L:List Ac):Prop:=∀ x∈L,-9223372036854775808≤x.l∧x.l≤9223372036854775807
def RFirstOk:Prop:=∀ (L:List Ac) (v:Value) (w:World),L.length≤300→LocOk L→IsAc w v L→Calls Try.prog 12 #[v] w fun e w'=>∃ a b,e=.returned (.tuple #[.int .i64 a,.int .i64 b,.int .i64 (codeL L)])∧Below w.heap.size w w'
def RAheadOk:Prop:=∀ (L:List Ac) (v:Value) (i k:Int) (w:World),L.length≤300→LocOk L → -9223372036854775808≤i→i≤9223372036854775807 → -9223372036854775808≤k→k≤9223372036854775807→IsAc w v L→Calls Try.prog 11 #[v,.int .i64 i,.int .i64 k] w fun e w'=>e=.returned (.bool (cb (aheadP L i k)))∧Below w.heap.size w w'
def RSeenOk:Prop:=∀ (L:List Ac) (v:Value) (k:Int) (w:World),L.length≤300→LocOk L → -9223372036854775808≤k→k≤9223372036854775807→IsAc w v L→Calls Try.prog 7 #[v,.int .i64 k] w fun e w'=>∃ i,e=.returned (.int .i64 i)∧seenP L k i∧Below w.heap.size w w'
structure RAll:Prop where
 first:RFirstOk
 ahead:RAheadOk
 seen:RSeenOk
def Awake14Ok:Prop:=∀ w:World,Calls Try.prog 5 #[] w fun e w'=>e=.returned (.bool true)∧Below w.heap.size w w'
theorem race_sym {L:List Ac} {i k:Nat}:raceP L i k→raceP L k i:=fun ⟨⟨a,b,c,d⟩,e,f⟩=>⟨⟨b,a,c.symm,d.symm⟩,f,e⟩
theorem code_zero {L:List Ac} (h:codeL L=0):mayAc L=true∧¬ anyR L:=by
 cases em:mayAc L
 ·rw [code_form em] at h; cases h
 ·exact ⟨rfl,fun hr=>by rw [code_race em hr] at h; cases h⟩
theorem no_race {L:List Ac} (h:codeL L=0) {i k:Nat} (hi:i<L.length) (hk:k<L.length) (hne:i≠k) (a:(acA L i).k<2) (b:(acA L k).k<2) (c:(acA L i).l=(acA L k).l) (d:(acA L i).k=1∨(acA L k).k=1):Ord L i k∨Ord L k i:=by
 refine Classical.byContradiction fun hn=>(code_zero h).2 ?_
 have hr:raceP L i k:=⟨⟨a,b,c,d⟩,fun o=>hn (.inl o),fun o=>hn (.inr o)⟩
 rcases Nat.lt_or_gt_of_ne hne with hlt | hlt
 ·exact ⟨i,k,hlt,hk,hr⟩
 ·exact ⟨k,i,hlt,hi,race_sym hr⟩
theorem sees_other {L:List Ac} {k j x:Nat} (hg:goodK L (k:Int)) (hj:wrK L k j) (hmax:∀ x,wrK L k x→Ord L x k→x≤j) (hx:wrK L k x) (hne:x≠j):Ord L x j∨Ord L k x:=by
 have hk:k<L.length:=by have:=hg.2.2.1; omega
 have h0:(acA L k).k=0:=by have:=hg.2.2.2; rwa [Int.toNat_natCast] at this
 rcases no_race hg.1 hx.1 hj.1 hne (by rw [hx.2.1]; decide) (by rw [hj.2.1]; decide) (hx.2.2.trans hj.2.2.symm) (.inl hx.2.1) with h | h
 ·exact .inl h
 ·have hkx:x≠k:=fun e=>by rw [e] at hx; rw [hx.2.1] at h0; cases h0
  rcases no_race hg.1 hx.1 hk hkx (by rw [hx.2.1]; decide) (by rw [h0]; decide) hx.2.2 (.inl hx.2.1) with h2 | h2
  ·have:=hmax x hx h2; have:=h.lt; omega
  ·exact .inr h2
theorem rsees_main (HR:RAll) (hAw:Awake14Ok) (L:List Ac) (hLO:LocOk L) (v:Value) (k:Int) (hk0 : -9223372036854775808≤k) (hk1:k≤9223372036854775807) (w:World) (h:IsAc w v L):
  Calls Try.prog 3 #[v,.int .i64 k] w fun e w'=>e=.returned (.bool true)∧Below w.heap.size w w':=by
 have hAc:=h;obtain ⟨ad,cap,rfl,h1,h2,-⟩:=h;have HAW:=Lh (fun W (hb:Below w.heap.size w W)=>onto hb (hAw W));obtain ⟨n,hn⟩:∃ n,n=L.length:=⟨_,rfl⟩
 have HN:=Lh hn.symm;rw [←hn] at hAc h1 ⊢
 go_enter Try.func3,Try.ntmps3
 by_cases hl:(70:Int)<(n:Int)
 ·go_wp2_with (go_at_call 5; refine (HAW.out _ (Below.refl _ _)).mono ?_; rintro e w1 ⟨rfl,hb⟩)
  go_ret
  exact ⟨rfl,hb⟩
 have hl2:n≤70:=by omega
 have HOF:=Lh (of14_any L _ w (hn▸hAc) (by omega));have HSE:=Lh (fun W (hb:Below w.heap.size w W)=>HR.seen L (.slice ad n cap) k W (by omega) hLO hk0 hk1 (hAc.next hb));have HAc:=Lh hAc;rw [←hn] at HOF;clear hn hAc
 go_upto_region 4 with (go_at_call 6; refine HOF.out.mono ?_; rintro e w1 ⟨u,rfl,hu,hb⟩)
 have HU:=Lh (IsAc.of_sl hu);have HS1:=Lh (HSE.out w1 hb);have HB:=Lh hb;clear hu hb HOF HSE
 go_upto_region 5 with (go_at_call 7; refine HS1.out.mono ?_; rintro e w2 ⟨i,rfl,hi,hb⟩)
 have HI:=Lh hi;have HB2:=Lh (HB.out.trans (hb.mono HB.out.size));have HU2:=Lh (HU.out.next hb);have HF:=Lh (first14_any L u w2 HU2.out (by have:=HN.out; omega));clear hi hb HS1 HB HU
 go_upto_region 6 with (go_at_call 8; refine HF.out.mono ?_; rintro e w3 ⟨fa,fb,rfl,hb⟩)
 have HU3:=Lh (HU2.out.next hb);have HB3:=Lh (HB2.out.trans (hb.mono HB2.out.size));clear hb HF HB2 HU2;have HBD:=Lh (fun (h:¬ goodK L k)=>HI.out.1 h);by_cases c1:codeL L=0
 rotate_left
 ·obtain rfl:=HBD.out (fun h=>c1 h.1)
  have c1':(codeL L != 0)=true:=by simpa using c1
  generalize codeL L=z at *
  go_wp2_with (go_at_call 5; refine (HAW.out _ HB3.out).mono ?_; rintro e w4 ⟨rfl,hb⟩)
  go_ret
  exact ⟨rfl,hb⟩
 have HC1:=Lh c1;rw [c1];clear c1;by_cases c2:k<0
 ·obtain rfl:=HBD.out (fun h=>absurd h.2.1 (by omega))
  go_wp2_with (go_at_call 5; refine (HAW.out _ HB3.out).mono ?_; rintro e w4 ⟨rfl,hb⟩)
  go_ret
  exact ⟨rfl,hb⟩
 by_cases c3:(n:Int)≤k
 ·obtain rfl:=HBD.out (fun h=>absurd h.2.2.1 (by have:=HN.out; omega))
  go_wp2_with (go_at_call 5; refine (HAW.out _ HB3.out).mono ?_; rintro e w4 ⟨rfl,hb⟩)
  go_ret
  exact ⟨rfl,hb⟩
 obtain ⟨q,rfl⟩:∃ q:Nat,k=(q:Int):=⟨k.toNat,by omega⟩
 have hqn:q<n:=by omega
 obtain ⟨b,off,had,hbw,hc⟩:=HAc.out.at HN.out (by omega);subst had;have HC:=Lh (fun j hj W (hb:Below w.heap.size w W)=>show W.cell? ⟨b,off+j * 3,none⟩=some (.int .i64 (acA L j).t)∧W.cell? ⟨b,off+j * 3+1,none⟩=some (.int .i64 (acA L j).k)∧W.cell? ⟨b,off+j * 3+2,none⟩=some (.int .i64 (acA L j).l) from ⟨(hb.cell (p:=⟨b,off+j * 3,none⟩) hbw).trans (hc j hj).1,(hb.cell (p:=⟨b,off+j * 3+1,none⟩) hbw).trans (hc j hj).2.1,(hb.cell (p:=⟨b,off+j * 3+2,none⟩) hbw).trans (hc j hj).2.2⟩);clear hc;have q1:=(HC.out q hqn _ HB3.out).2.1;by_cases c4:(acA L q).k=0
 rotate_left
 ·obtain rfl:=HBD.out (fun h=>c4 (by have:=h.2.2.2; rwa [Int.toNat_natCast] at this))
  have c4':((acA L q).k != 0)=true:=by simpa using c4
  generalize (acA L q).k=z at *
  go_wp2_with (go_at_call 5; refine (HAW.out _ HB3.out).mono ?_; rintro e w4 ⟨rfl,hb⟩)
  go_ret
  exact ⟨rfl,hb⟩
 have HG:=Lh (show goodK L (q:Int) from ⟨HC1.out,by omega,by have:=HN.out; omega,by rw [Int.toNat_natCast]; exact c4⟩);have hii:=HI.out.2 HG.out;rw [Int.toNat_natCast] at hii;have HII:=Lh hii;have HOR:=Lh (order14_any L u w3 HU3.out (by have:=HN.out; omega));rw [HN.out] at HOR;rw [c4] at q1;clear hii HI HBD
 go_upto_region 9 with (go_at_call 9; refine HOR.out.mono ?_; rintro e w5 ⟨rfl,hM,hb⟩)
 have HM:=Lh hM;have HB5:=Lh (HB3.out.trans (hb.mono HB3.out.size));clear hM hb HOR q1 HB3 HU3;generalize w3.heap.size=gO at *
 have HQ:=Lh (fun W (hb:Below w5.heap.size w5 W)=>HC.out q hqn W (HB5.out.trans (hb.mono HB5.out.size)));have HMM:=Lh (fun W (hb:Below w5.heap.size w5 W)=>HM.out.next hb);rcases HII.out with ⟨rfl,hno⟩ | ⟨j,rfl,hj,ho,hmax⟩
 ·have HAW5:=Lh (fun W (hb:Below w5.heap.size w5 W)=>onto hb (hAw W))
  go_wp2_with fail
  go_loopg [57] n (fun g t57 wr=>∃ x:Nat,x≤n∧g=n-x∧t57=.int .i64 (x:Int)∧Below w5.heap.size w5 wr)
  case atStart=>exact ⟨0,Nat.zero_le _,rfl,rfl,Below.refl _ _⟩
  case round=>
   obtain ⟨x,hx,rfl,rfl,hb⟩:=hrel;by_cases hlt:x<n
   ·have hcx:=HC.out x hlt wr (HB5.out.trans (hb.mono HB5.out.size))
    obtain ⟨c0,c1,c2⟩:=hcx;have hA:Below wr.heap.size wr (wr.alloc (.cells #[.int .i64 (acA L x).t,.int .i64 (acA L x).k,.int .i64 (acA L x).l] 31)):=bA;have hB:Blk (wr.alloc (.cells #[.int .i64 (acA L x).t,.int .i64 (acA L x).k,.int .i64 (acA L x).l] 31)) wr.heap.size [.int .i64 (acA L x).t,.int .i64 (acA L x).k,.int .i64 (acA L x).l] 31:=Blk.start wr _ _;have hb1:=hb.trans (hA.mono hb.size);have HB1:=Lh hb1;clear hb
    go_upto_region 12 with fail
    generalize wr.alloc (.cells #[.int .i64 (acA L x).t,.int .i64 (acA L x).k,.int .i64 (acA L x).l] 31)=W1 at *
    have x1:=hB.cell 1 rfl;have x2:=hB.cell 2 rfl;have q2:=(HQ.out W1 hb1).2.2;have HM1:=Lh (HMM.out W1 hb1);clear hA hB hb1 c0 c1 c2;have HWR:=Lh (fun (h1:(acA L x).k=1) (h2:(acA L x).l=(acA L q).l)=>show wrK L q x from ⟨by have:=HN.out; omega,h1,h2⟩);by_cases d1:(acA L x).k=1
    rotate_left
    ·have d1':((acA L x).k != 1)=true:=by simpa using d1
     generalize (acA L x).k=z at *
     go_quiet (fail)
     go_wp2_with fail
     go_roundg (n-(x+1))
     case measure=>omega
     case rel=>exact ⟨x+1,by omega,rfl,by go_num,bDN HB1.out⟩
    by_cases d2:(acA L x).l=(acA L q).l
    rotate_left
    ·have d2':((acA L x).l != (acA L q).l)=true:=by simpa using d2
     rw [d1] at x1;generalize (acA L x).l=z at *
     generalize (acA L q).l=z2 at *
     go_quiet (fail)
     go_wp2_with fail
     go_roundg (n-(x+1))
     case measure=>omega
     case rel=>exact ⟨x+1,by omega,rfl,by go_num,bDN HB1.out⟩
    have HW:=Lh (HWR.out d1 d2);rw [d1] at x1;rw [d2] at x2;clear HWR d1 d2;generalize (acA L q).l=z2 at *
    have t0:=HM1.out.top.cell hlt;have t1:=(HM1.out.row x hlt).cell hqn;rw [cb_neg (hno x HW.out)] at t1;clear HM1 HW
    go_quiet (fail)
    go_wp2_with fail
    go_roundg (n-(x+1))
    case measure=>omega
    case rel=>exact ⟨x+1,by omega,rfl,by go_num,bDN HB1.out⟩
   ·obtain rfl:n=x:=by omega
    have HB1:=Lh hb;clear hb;go_wp2_with fail
    refine rgH (fun W=>Below w5.heap.size w5 W) (bDN (n:=1) HB1.out) fun hH=>?_
    refine rd1 0 (by kernel_rfl) rfl fun K hK=>?_
    go_simp
    refine (HAW5.out _ hH).mono ?_
    rintro e W2 ⟨rfl,hb⟩
    go_wp2_with fail
    refine hK.out _ _ hb (fun hH2=>?_);clear hK K hH hb;have hH:=hH2;clear hH2
    try simp only [LAY]
    refine tq 1 (.bool true) hH ?_;refine tq 2 (.int .i64 (-1)) hH ?_;refine tq 3 (.bool true) hH ?_;refine tq 4 (.bool true) hH ?_;refine sk 5 hH ?_
    try simp only [LAY]
    refine sk 6 hH ?_
    try simp only [LAY]
    refine sk 7 hH ?_
    try simp only [LAY]
    refine sk 8 hH ?_
    try simp only [LAY]
    refine sk 9 hH ?_
    try simp only [LAY]
    refine sk 10 hH ?_
    try simp only [LAY]
    refine sk 11 hH ?_
    try simp only [LAY]
    refine sk 12 hH ?_
    try simp only [LAY]
    refine sk 13 hH ?_
    try simp only [LAY]
    refine sk 14 hH ?_
    try simp only [LAY]
    refine sk 15 hH ?_
    try simp only [LAY]
    refine sk 16 hH ?_
    try simp only [LAY]
    refine sk 17 hH ?_
    try simp only [LAY]
    refine sk 18 hH ?_
    try simp only [LAY]
    refine sk 19 hH ?_
    try simp only [LAY]
    refine sk 20 hH ?_
    try simp only [LAY]
    refine sk 21 hH ?_
    try simp only [LAY]
    refine sk 22 hH ?_
    try simp only [LAY]
    refine sk 23 hH ?_
    try simp only [LAY]
    refine sk 24 hH ?_
    try simp only [LAY]
    refine sk 25 hH ?_
    try simp only [LAY]
    refine sk 26 hH ?_
    try simp only [LAY]
    refine sk 27 hH ?_
    try simp only [LAY]
    refine sk 28 hH ?_
    try simp only [LAY]
    refine sk 29 hH ?_
    try simp only [LAY]
    refine sk 30 hH ?_
    try simp only [LAY]
    refine sk 31 hH ?_
    try simp only [LAY]
    refine sk 32 hH ?_
    try simp only [LAY]
    refine sk 33 hH ?_
    try simp only [LAY]
    refine sk 34 hH ?_
    try simp only [LAY]
    refine sk 35 hH ?_
    try simp only [LAY]
    refine sk 36 hH ?_
    try simp only [LAY]
    refine sk 37 hH ?_
    try simp only [LAY]
    refine sk 38 hH ?_
    try simp only [LAY]
    refine tq 39 (.bool true) hH ?_;refine tq 40 (.bool true) hH ?_;refine tq 41 (.bool true) hH ?_;refine dnH ?_;go_wp2_with fail
    go_ret
    exact ⟨rfl,HB5.out.trans (hH.mono HB5.out.size)⟩
 ·have hjn:j<n:=by have h1:=hj.1; have h2:=HN.out; rw [h2] at h1; exact h1
  have HAW5:=Lh (fun W (hb:Below w5.heap.size w5 W)=>onto hb (hAw W));go_wp2_with fail
  go_loopg [57] n (fun g t57 wr=>∃ x:Nat,x≤n∧g=n-x∧t57=.int .i64 (x:Int)∧Below w5.heap.size w5 wr)
  case atStart=>exact ⟨0,Nat.zero_le _,rfl,rfl,Below.refl _ _⟩
  case round=>
   obtain ⟨x,hx,rfl,rfl,hb⟩:=hrel;by_cases hlt:x<n
   ·have hcx:=HC.out x hlt wr (HB5.out.trans (hb.mono HB5.out.size))
    obtain ⟨c0,c1,c2⟩:=hcx;have hA:Below wr.heap.size wr (wr.alloc (.cells #[.int .i64 (acA L x).t,.int .i64 (acA L x).k,.int .i64 (acA L x).l] 31)):=bA;have hB:Blk (wr.alloc (.cells #[.int .i64 (acA L x).t,.int .i64 (acA L x).k,.int .i64 (acA L x).l] 31)) wr.heap.size [.int .i64 (acA L x).t,.int .i64 (acA L x).k,.int .i64 (acA L x).l] 31:=Blk.start wr _ _;have hb1:=hb.trans (hA.mono hb.size);have HB1:=Lh hb1;clear hb
    go_upto_region 12 with fail
    generalize wr.alloc (.cells #[.int .i64 (acA L x).t,.int .i64 (acA L x).k,.int .i64 (acA L x).l] 31)=W1 at *
    have x1:=hB.cell 1 rfl;have x2:=hB.cell 2 rfl;have q2:=(HQ.out W1 hb1).2.2;have HM1:=Lh (HMM.out W1 hb1);clear hA hB hb1 c0 c1 c2;have HWR:=Lh (fun (h1:(acA L x).k=1) (h2:(acA L x).l=(acA L q).l)=>show wrK L q x from ⟨by have:=HN.out; omega,h1,h2⟩);by_cases d1:(acA L x).k=1
    rotate_left
    ·have d1':((acA L x).k != 1)=true:=by simpa using d1
     generalize (acA L x).k=z at *
     go_quiet (fail)
     go_wp2_with fail
     go_roundg (n-(x+1))
     case measure=>omega
     case rel=>exact ⟨x+1,by omega,rfl,by go_num,bDN HB1.out⟩
    by_cases d2:(acA L x).l=(acA L q).l
    rotate_left
    ·have d2':((acA L x).l != (acA L q).l)=true:=by simpa using d2
     rw [d1] at x1;generalize (acA L x).l=z at *
     generalize (acA L q).l=z2 at *
     go_quiet (fail)
     go_wp2_with fail
     go_roundg (n-(x+1))
     case measure=>omega
     case rel=>exact ⟨x+1,by omega,rfl,by go_num,bDN HB1.out⟩
    have HW:=Lh (HWR.out d1 d2);rw [d1] at x1;rw [d2] at x2;clear HWR d1 d2;generalize (acA L q).l=z2 at *
    by_cases dj:x=j
    ·subst dj
     go_quiet (fail)
     go_wp2_with fail
     go_roundg (n-(x+1))
     case measure=>omega
     case rel=>exact ⟨x+1,by omega,rfl,by go_num,bDN HB1.out⟩
    ·have dj':((x:Int)==(j:Int))=false:=by simp; omega
     have t0:=HM1.out.top.cell hlt;have t1:=(HM1.out.row x hlt).cell hjn;have t2:=HM1.out.top.cell hqn;have t3:=(HM1.out.row q hqn).cell hlt;have hor:=sees_other HG.out hj hmax HW.out dj;clear HM1 HW;by_cases d3:Ord L x j
     ·rw [cb_pos d3] at t1
      clear t2 t3 d3 hor
      go_quiet (fail)
      go_wp2_with fail
      go_roundg (n-(x+1))
      case measure=>omega
      case rel=>exact ⟨x+1,by omega,rfl,by go_num,bDN HB1.out⟩
     ·rw [cb_neg d3] at t1
      rw [cb_pos (hor.resolve_left d3)] at t3;clear d3 hor
      go_quiet (fail)
      go_wp2_with fail
      go_roundg (n-(x+1))
      case measure=>omega
      case rel=>exact ⟨x+1,by omega,rfl,by go_num,bDN HB1.out⟩
   ·obtain rfl:n=x:=by omega
    have HB1:=Lh hb;clear hb;have jc:=HC.out j hjn _ (HB5.out.trans (HB1.out.mono HB5.out.size));go_wp2_with fail
    have HK:=Lh (fun W (hb:Below w5.heap.size w5 W)=>show Ce W b (off+j * 3+1) (.int .i64 1)∧Ce W b (off+j * 3+2) (.int .i64 (acA L q).l)∧Ce W b (off+q * 3+2) (.int .i64 (acA L q).l)∧Ce W gO j (.slice (some ⟨gO+1+j,0,none⟩) n n)∧Ce W (gO+1+j) q (.bool true)∧Below w5.heap.size w5 W from ⟨by have h:=(HC.out j hjn W (HB5.out.trans (hb.mono HB5.out.size))).2.1; rwa [hj.2.1] at h,by have h:=(HC.out j hjn W (HB5.out.trans (hb.mono HB5.out.size))).2.2; rwa [hj.2.2] at h,(HQ.out W hb).2.2,(HMM.out W hb).top.cell hjn,by have h:=((HMM.out W hb).row j hjn).cell hqn; rwa [cb_pos ho] at h,hb⟩);clear jc;generalize (acA L q).l=z2 at *
    refine rgH (fun W=>Ce W b (off+j * 3+1) (.int .i64 1)∧Ce W b (off+j * 3+2) (.int .i64 z2)∧Ce W b (off+q * 3+2) (.int .i64 z2)∧Ce W gO j (.slice (some ⟨gO+1+j,0,none⟩) n n)∧Ce W (gO+1+j) q (.bool true)∧Below w5.heap.size w5 W) (HK.out _ (bDN (n:=1) HB1.out)) fun hH=>?_
    refine rd1 0 (by kernel_rfl) rfl fun K hK=>?_
    go_simp
    refine (HAW5.out _ hH.2.2.2.2.2).mono ?_
    rintro e W2 ⟨rfl,hb⟩
    go_wp2_with fail
    refine hK.out _ _ (HK.out _ hb) (fun hH2=>?_);clear hK K hH hb;have hH:=hH2;clear hH2
    try simp only [LAY]
    refine tq 1 (.bool true) hH ?_;refine tq 2 (.int .i64 (j:Int)) hH ?_;refine tq 3 (.bool false) hH ?_;refine tq 4 (.bool false) hH ?_;refine tq 5 (.int .i64 (j:Int)) hH ?_;refine tq 6 (.slice (some ⟨b,off,none⟩) n cap) hH ?_;refine tq 7 (.int .i64 (n:Int)) hH ?_;refine tq 8 (.bool true) hH ?_;refine tq 9 (.bool true) hH ?_;refine tq 10 (.slice (some ⟨b,off,none⟩) n cap) hH ?_;refine tq 11 (.int .i64 (j:Int)) hH ?_;refine tq 12 (.pointer (some ⟨b,off+j * 3,none⟩)) hH ?_;refine tq 13 (.pointer (some ⟨b,off+j * 3+1,none⟩)) hH ?_;refine tq 14 (.int .i64 1) hH ?_;refine tq 15 (.bool true) hH ?_;refine tq 16 (.bool true) hH ?_;refine tq 17 (.bool true) hH ?_;refine tq 18 (.slice (some ⟨b,off,none⟩) n cap) hH ?_;refine tq 19 (.int .i64 (j:Int)) hH ?_;refine tq 20 (.pointer (some ⟨b,off+j * 3,none⟩)) hH ?_;refine tq 21 (.pointer (some ⟨b,off+j * 3+2,none⟩)) hH ?_;refine tq 22 (.int .i64 z2) hH ?_;refine tq 23 (.slice (some ⟨b,off,none⟩) n cap) hH ?_;refine tq 24 (.int .i64 (q:Int)) hH ?_;refine tq 25 (.pointer (some ⟨b,off+q * 3,none⟩)) hH ?_;refine tq 26 (.pointer (some ⟨b,off+q * 3+2,none⟩)) hH ?_;refine tq 27 (.int .i64 z2) hH ?_;refine tq 28 (.bool true) hH ?_;refine tq 29 (.bool true) hH ?_;refine tq 30 (.bool true) hH ?_;refine tq 31 (.slice (some ⟨gO,0,none⟩) n n) hH ?_;refine tq 32 (.int .i64 (j:Int)) hH ?_;refine tq 33 (.pointer (some ⟨gO,j,none⟩)) hH ?_;refine tq 34 (.slice (some ⟨gO+1+j,0,none⟩) n n) hH ?_;refine tq 35 (.int .i64 (q:Int)) hH ?_;refine tq 36 (.pointer (some ⟨gO+1+j,q,none⟩)) hH ?_;refine tq 37 (.bool true) hH ?_;refine tq 38 (.bool true) hH ?_;refine tq 39 (.bool true) hH ?_;refine tq 40 (.bool true) hH ?_;refine tq 41 (.bool true) hH ?_;refine dnH ?_;go_wp2_with fail
    go_ret
    exact ⟨rfl,HB5.out.trans (hH.2.2.2.2.2.mono HB5.out.size)⟩
end Go.Proofs.Ytjilpbmehipagaa
