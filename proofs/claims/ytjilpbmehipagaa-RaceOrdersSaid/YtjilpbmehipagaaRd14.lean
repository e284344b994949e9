import Derived.Test.YtjilpbmehipagaaOw14
set_option maxRecDepth 100000
set_option maxHeartbeats 12800000
namespace Go.Proofs.Ytjilpbmehipagaa
open Go Go.Proofs Go.RowKit
def raceP (L:List Ac) (i k:Nat):Prop:=((acA L i).k<2∧(acA L k).k<2∧(acA L i).l=(acA L k).l∧((acA L i).k=1∨(acA L k).k=1))∧¬ Ord L i k∧¬ Ord L k i
def anyR (L:List Ac):Prop:=∃ i k,i<k∧k<L.length∧raceP L i k
noncomputable def codeL (L:List Ac):Int:=if mayAc L=false then 1 else if cb (anyR L)=true then 13 else 0
theorem code_form {L:List Ac} (h:mayAc L=false):codeL L=1:=if_pos h
theorem code_race {L:List Ac} (h:mayAc L=true) (h2:anyR L):codeL L=13:=by unfold codeL; rw [if_neg (by simp [h]),if_pos (cb_pos h2)]
theorem code_ok {L:List Ac} (h:mayAc L=true) (h2:¬ anyR L):codeL L=0:=by unfold codeL; rw [if_neg (by simp [h]),if_neg (by simp [cb_neg h2])]
theorem race14_any (L:List Ac) (v:Value) (g n i k:Nat) (w:World) (h:IsAc w v L) (hn:L.length=n) (hl:n≤1000) (hM:Mat w g n (Ord L)) (hi:i<n) (hk:k<n):
  Calls Try.prog 14 #[v,.slice (some ⟨g,0,none⟩) n n,.int .i64 (i:Int),.int .i64 (k:Int)] w fun e w'=>e=.returned (.bool (cb (raceP L i k)))∧Below w.heap.size w w':=by
 have hAc:=h;obtain ⟨ad,cap,rfl,h1,h2,-⟩:=h;rw [hn] at hAc h1 ⊢;obtain ⟨b,off,had,hbw,hc⟩:=hAc.at hn (by omega);subst had;have x1:=(hc i hi).2.1;have x2:=(hc i hi).2.2;have y1:=(hc k hk).2.1;have y2:=(hc k hk).2.2;have t0:=hM.top.cell hi;have t1:=(hM.row i hi).cell hk;have t2:=hM.top.cell hk;have t3:=(hM.row k hk).cell hi;have HD:=Lh (show (raceP L i k↔((acA L i).k<2∧(acA L k).k<2∧(acA L i).l=(acA L k).l∧((acA L i).k=1∨(acA L k).k=1))∧¬ Ord L i k∧¬ Ord L k i) from Iff.rfl);clear hAc hc hM;generalize acA L i=ai at *
 generalize acA L k=ak at *
 obtain ⟨it,ik,il⟩:=ai;obtain ⟨kt,kk,kl⟩:=ak;simp only at x1 x2 y1 y2 HD
 go_enter Try.func14,Try.ntmps14
 go_upto_region 1 with fail
 by_cases c1:ik<2
 rotate_left
 ·have HE:=Lh (cb_neg (fun h=>c1 (HD.out.1 h).1.1))
  go_quiet (fail)
  go_wp2_with fail
  go_ret
  exact ⟨by rw [HE.out]; rfl,bDN (Below.refl _ _)⟩
 by_cases c2:kk<2
 rotate_left
 ·have HE:=Lh (cb_neg (fun h=>c2 (HD.out.1 h).1.2.1))
  go_quiet (fail)
  go_wp2_with fail
  go_ret
  exact ⟨by rw [HE.out]; rfl,bDN (Below.refl _ _)⟩
 by_cases c3:il=kl
 rotate_left
 ·have HE:=Lh (cb_neg (fun h=>c3 (HD.out.1 h).1.2.2.1))
  have c3':(il==kl)=false:=by simpa using c3
  go_quiet (fail)
  go_wp2_with fail
  go_ret
  exact ⟨by rw [HE.out]; rfl,bDN (Below.refl _ _)⟩
 subst c3;by_cases c4:ik=1∨kk=1
 rotate_left
 ·have HE:=Lh (cb_neg (fun h=>c4 (HD.out.1 h).1.2.2.2))
  have c4':(ik==1)=false:=by simp; omega
  have c5':(kk==1)=false:=by simp; omega
  clear c4
  go_quiet (fail)
  go_wp2_with fail
  go_ret
  exact ⟨by rw [HE.out]; rfl,bDN (Below.refl _ _)⟩
 have HF:=Lh (show cb (raceP L i k)=(!cb (Ord L i k) && !cb (Ord L k i)) by
  by_cases o1:Ord L i k
  ·rw [cb_pos o1,cb_neg (fun h=>(HD.out.1 h).2.1 o1)]; rfl
  ·by_cases o2:Ord L k i
   ·rw [cb_neg o1,cb_pos o2,cb_neg (fun h=>(HD.out.1 h).2.2 o2)]; rfl
   ·rw [cb_neg o1,cb_neg o2,cb_pos (HD.out.2 ⟨⟨c1,c2,rfl,c4⟩,o1,o2⟩)]; rfl)
 clear HD;generalize cb (Ord L i k)=z1 at *
 generalize cb (Ord L k i)=z2 at *
 by_cases c5:ik=1
 ·subst c5
  clear c4
  cases z1 <;> cases z2
  all_goals
   go_quiet (fail)
   go_wp2_with fail
   go_ret
   exact ⟨by rw [HF.out]; rfl,bDN (Below.refl _ _)⟩
 ·have c5':(ik==1)=false:=by simpa using c5
  have c6:kk=1:=by omega
  subst c6;clear c4
  cases z1 <;> cases z2
  all_goals
   go_quiet (fail)
   go_wp2_with fail
   go_ret
   exact ⟨by rw [HF.out]; rfl,bDN (Below.refl _ _)⟩
theorem first14_any (L:List Ac) (v:Value) (w:World) (h:IsAc w v L) (hl:L.length≤1000):
  Calls Try.prog 8 #[v] w fun e w'=>∃ a b,e=.returned (.tuple #[.int .i64 a,.int .i64 b,.int .i64 (codeL L)])∧Below w.heap.size w w':=by
 have hAc:=h;obtain ⟨ad,cap,rfl,h1,h2,-⟩:=h;have HAc:=Lh (fun W (hb:Below w.heap.size w W)=>hAc.next hb);have HMY:=Lh (may14_any L _ w hAc);obtain ⟨n,hn⟩:∃ n,n=L.length:=⟨_,rfl⟩
 have HN:=Lh hn.symm;have HOR:=Lh (fun W hb=>order14_any L _ W (HAc.out W hb) hl);rw [←hn] at HAc h1 hl HMY HOR ⊢;clear hn hAc
 go_enter Try.func8,Try.ntmps8
 cases em:mayAc L
 ·rw [em] at HMY
  have HC:=Lh (code_form em);go_wp2_with (go_at_call 10; refine HMY.out.mono ?_; rintro e w1 ⟨rfl,hb⟩)
  refine bodyPost_ret (v:=.tuple #[.int .i64 (-1),.int .i64 (-1),.int .i64 1]) (by simp [results,Try.results8,go_sem]) rfl ⟨_,_,by rw [HC.out],hb⟩
 ·rw [em] at HMY
  go_upto_region 3 with (go_at_call 10; refine HMY.out.mono ?_; rintro e w1 ⟨rfl,hb⟩)
  have HO:=Lh (HOR.out w1 hb);have HB:=Lh hb;clear HOR HMY hb
  go_upto_region 4 with (go_at_call 9; refine HO.out.mono ?_; rintro e w2 ⟨rfl,hM,hb⟩)
  have HM:=Lh hM;have HB2:=Lh (HB.out.trans (hb.mono HB.out.size));clear hM hb HO HB;generalize w1.heap.size=gO at *
  go_wp2_with fail
  go_loopg [6] n (fun g t6 wr=>∃ k:Nat,k≤n∧g=n-k∧t6=.int .i64 (k:Int)∧Hid (∀ i j,i<j→j<k→¬ raceP L i j)∧Below w2.heap.size w2 wr)
  case atStart=>exact ⟨0,Nat.zero_le _,rfl,rfl,Lh (fun i j _ h=>absurd h (Nat.not_lt_zero _)),Below.refl _ _⟩
  case round=>
   obtain ⟨k,hk,rfl,rfl,HT,hb⟩:=hrel;by_cases hkn:k<n
   ·have HB:=Lh hb
    clear hb;go_wp2_with fail
    go_loopg [7] k (fun g t7 wr=>∃ i:Nat,i≤k∧g=k-i∧t7=.int .i64 (i:Int)∧Hid (∀ j,j<i→¬ raceP L j k)∧Below w2.heap.size w2 wr)
    case atStart=>exact ⟨0,Nat.zero_le _,rfl,rfl,Lh (fun i h=>absurd h (Nat.not_lt_zero _)),HB.out⟩
    case round=>
     obtain ⟨i,hi,rfl,rfl,HU,hb⟩:=hrel;clear HB;by_cases hik:i<k
     ·have HR:=Lh (race14_any L _ gO n i k _ (HAc.out _ (HB2.out.trans (hb.mono HB2.out.size))) HN.out hl (HM.out.next hb) (by omega) hkn)
      have HB:=Lh hb;clear hb;by_cases hr:raceP L i k
      ·rw [cb_pos hr] at HR
       have HC:=Lh (code_race em ⟨i,k,hik,HN.out▸hkn,hr⟩);clear hr;go_wp2_with (go_at_call 14; refine HR.out.mono ?_; rintro e w5 ⟨rfl,hb⟩)
       refine bodyPost_ret (v:=.tuple #[.int .i64 (i:Int),.int .i64 (k:Int),.int .i64 13]) (by simp [results,Try.results8,go_sem]) rfl ⟨_,_,by rw [HC.out],HB2.out.trans ((HB.out.trans (hb.mono HB.out.size)).mono HB2.out.size)⟩
      ·rw [cb_neg hr] at HR
       have HX:=Lh (show ∀ j,j<i+1→¬ raceP L j k from fun j hj=>by
        by_cases e:j=i
        ·subst e; exact hr
        ·exact HU.out j (by omega))
       clear hr;go_wp2_with (go_at_call 14; refine HR.out.mono ?_; rintro e w5 ⟨rfl,hb⟩)
       go_roundg (k-(i+1))
       case measure=>omega
       case rel=>exact ⟨i+1,by omega,rfl,by go_num,HX,HB.out.trans (hb.mono HB.out.size)⟩
     ·obtain rfl:k=i:=by omega
      have HX:=Lh (show ∀ i j,i<j→j<k+1→¬ raceP L i j from fun i j h1 h2=>by
       by_cases e:j=k
       ·subst e; exact HU.out i h1
       ·exact HT.out i j h1 (by omega))
      go_wp2_with fail
      go_roundg (n-(k+1))
      case measure=>omega
      case rel=>exact ⟨k+1,by omega,rfl,by go_num,HX,hb⟩
   ·obtain rfl:n=k:=by omega
    have HC:=Lh (code_ok em (fun ⟨i,j,h1,h2,h3⟩=>HT.out i j h1 (HN.out▸h2) h3));go_wp2_with fail
    refine bodyPost_ret (v:=.tuple #[.int .i64 (-1),.int .i64 (-1),.int .i64 0]) (by simp [results,Try.results8,go_sem]) rfl ⟨_,_,by rw [HC.out],HB2.out.trans (hb.mono HB2.out.size)⟩
end Go.Proofs.Ytjilpbmehipagaa
