import Derived.Test.YtjilpbmehipagaaOr14
import Derived.Test.YtjilpbmehipagaaVl13
set_option maxRecDepth 100000
set_option maxHeartbeats 12800000
namespace Go.Proofs.Ytjilpbmehipagaa
open Go Go.Proofs Go.RowKit
theorem Mat.drewN {W:World} {g n q:Nat} {F:Nat→Nat→Prop} (h:Mat W g n F):Mat (W.drewN q) g n F:=⟨h.top,h.row⟩
theorem IsAc.at {W:World} {ad:Option Addr} {n cap:Nat} {L:List Ac} (hn:L.length=n) (h:IsAc W (.slice ad n cap) L) (hA:0<n):∃ b off,ad=some ⟨b,off,none⟩∧b<W.heap.size∧∀ i,i<n→W.cell? ⟨b,off+i * 3,none⟩=some (.int .i64 (acA L i).t)∧W.cell? ⟨b,off+i * 3+1,none⟩=some (.int .i64 (acA L i).k)∧W.cell? ⟨b,off+i * 3+2,none⟩=some (.int .i64 (acA L i).l):=by
 subst hn;obtain ⟨ad',cap',e,h1,h2,h3⟩:=h;simp only [Value.slice.injEq,true_and] at e
 obtain ⟨rfl,rfl⟩:=e;obtain ⟨b,off,e2,hb,hc⟩:=h3 (List.length_pos_iff.1 hA);exact ⟨b,off,e2,hb,fun i hi=>by have:=hc i hi; rwa [acA_eq hi] at this⟩
theorem order14_any (L:List Ac) (v:Value) (w:World) (h:IsAc w v L) (hl:L.length≤1000):
  Calls Try.prog 9 #[v] w fun e w'=>e=.returned (.slice (some ⟨w.heap.size,0,none⟩) L.length L.length)∧Mat w' w.heap.size L.length (Ord L)∧Below w.heap.size w w':=by
 have hAc:=h;obtain ⟨ad,cap,rfl,h1,h2,-⟩:=h;have HAc:=Lh hAc;clear hAc;obtain ⟨n,hn⟩:∃ n,n=L.length:=⟨_,rfl⟩
 have HN:=Lh hn.symm;rw [←hn] at HAc h1 hl ⊢;clear hn;have hmk1:∀ W:World,(Instr.makeSlice 32 (.int .i64 (n:Int)) (.int .i64 (n:Int))).run Try.prog W=.ok (.slice (some ⟨W.heap.size,0,none⟩) n n) (W.alloc (.cells (madeCells #[.slice none 0 0] n) 34)):=fun W=>run_make_row' _ _ (.slice none 0 0) 24 Try.underlying32 (by kernel_rfl) rfl _ _ n (by omega) (by omega) W
 have hmk2:∀ W:World,(Instr.makeSlice 34 (.int .i64 (n:Int)) (.int .i64 (n:Int))).run Try.prog W=.ok (.slice (some ⟨W.heap.size,0,none⟩) n n) (W.alloc (.cells (madeCells #[.bool false] n) 4)):=fun W=>run_make_row' _ _ (.bool false) 1 Try.underlying34 (by kernel_rfl) rfl _ _ n (by omega) (by omega) W
 have HMK:=Lh hmk2;clear hmk2;have H0:=Lh (show Below w.heap.size w (w.alloc (.cells (madeCells #[.slice none 0 0] n) 34))∧_∧_ from ⟨bA,World.rowIs_made w (.slice none 0 0) n 34,show (w.alloc (.cells (madeCells #[.slice none 0 0] n) 34)).heap.size=w.heap.size+1 by simp⟩)
 go_enter Try.func9,Try.ntmps9
 go_upto_region 3 with fail
 generalize w.alloc (.cells (madeCells #[.slice none 0 0] n) 34)=w0 at *
 go_wp2_with fail
 go_loopg [5] n (fun g t5 wr=>∃ k:Nat,k≤n∧g=n-k∧t5=.int .i64 (k:Int)∧Below w.heap.size w wr∧wr.rowIs w.heap.size 34 n (fun i=>if i<k then .slice (some ⟨w.heap.size+1+i,0,none⟩) n n else .slice none 0 0)∧wr.heap.size=w.heap.size+1+k∧∀ i,i<k→wr.rowIs (w.heap.size+1+i) 4 n (fun c=>.bool false))
 case atStart=>exact ⟨0,Nat.zero_le _,rfl,rfl,H0.out.1,H0.out.2.1,H0.out.2.2,fun i hi=>by omega⟩
 case round=>
  obtain ⟨k,hk,rfl,rfl,hb,hr,hs,hrows⟩:=hrel;clear H0;by_cases hlt:k<n
  ·have hmk:=HMK.out wr
   have hA:Below wr.heap.size wr (wr.alloc (.cells (madeCells #[.bool false] n) 4)):=bA;have hn':=World.rowIs_made wr (.bool false) n 4;have hs1:(wr.alloc (.cells (madeCells #[.bool false] n) 4)).heap.size=wr.heap.size+1:=by simp
   generalize wr.alloc (.cells (madeCells #[.bool false] n) 4)=W1 at *
   have hb':=hb.trans (hA.mono hb.size);have hr':=rowIs_next hr hA;have hc:=hr'.cell hlt;have hf:=hr'.frozen k;rw [if_neg (Nat.lt_irrefl k)] at hc;have HS:=Lh (show Below w.heap.size w (W1.setCell ⟨w.heap.size,k,none⟩ (.slice (some ⟨wr.heap.size,0,none⟩) n n))∧(W1.setCell ⟨w.heap.size,k,none⟩ (.slice (some ⟨wr.heap.size,0,none⟩) n n)).rowIs w.heap.size 34 n (fun i=>if i<k+1 then .slice (some ⟨w.heap.size+1+i,0,none⟩) n n else .slice none 0 0)∧(W1.setCell ⟨w.heap.size,k,none⟩ (.slice (some ⟨wr.heap.size,0,none⟩) n n)).heap.size=w.heap.size+1+(k+1)∧∀ i,i<k+1→(W1.setCell ⟨w.heap.size,k,none⟩ (.slice (some ⟨wr.heap.size,0,none⟩) n n)).rowIs (w.heap.size+1+i) 4 n (fun c=>.bool false) from
    ⟨hb'.setCell (p:=⟨w.heap.size,k,none⟩) (Nat.le_refl _) _,(hr'.set k _).congr fun i _=>by
     by_cases e:i=k
     ·subst e; rw [if_pos rfl,if_pos (by omega),hs]
     ·rw [if_neg e]
      by_cases e2:i<k
      ·rw [if_pos e2,if_pos (by omega)]
      ·rw [if_neg e2,if_neg (by omega)],by simp [hs,hs1]; omega,fun i hi=>by
     by_cases e:i=k
     ·subst e; rw [←hs]; exact hn'.setOther (by show wr.heap.size≠w.heap.size; omega) _
     ·exact (rowIs_next (hrows i (by omega)) hA).setOther (by show w.heap.size+1+i≠w.heap.size; omega) _⟩)
   have hne:w.heap.size<wr.heap.size:=by omega
   clear hA hb' hr' hn' hb hr hs hrows hs1;go_wp2_with fail
   go_roundg (n-(k+1))
   case measure=>omega
   case rel=>exact ⟨k+1,by omega,rfl,by go_num,HS.out⟩
  ·obtain rfl:n=k:=by omega
   have HM:=Lh (show Mat wr w.heap.size n (FO L 0) from ⟨hr.congr fun i hi=>if_pos hi,fun i hi=>(hrows i hi).congr fun c _=>by rw [cb_neg (fun h:FO L 0 i c=>absurd h.1 (Nat.not_lt_zero _))]⟩);have HB:=Lh hb;clear hb hr hs hrows;clear HMK hmk1;go_wp2_with fail
   go_loopg [6] n (fun g t6 wr=>∃ k:Nat,k≤n∧g=n-k∧t6=.int .i64 (k:Int)∧Below w.heap.size w wr∧Mat wr w.heap.size n (FO L k))
   case atStart=>exact ⟨0,Nat.zero_le _,rfl,rfl,HB.out,HM.out⟩
   case round=>
    obtain ⟨k,hk,rfl,rfl,hb,hM⟩:=hrel;clear HM HB;by_cases hkn:k<n
    ·have hi1:IntKind.i64.wrap ((k:Int) - 1)=(k:Int) - 1:=IntWalk.i64_in _ (by omega)
     obtain ⟨b,off,had,hbw,hc⟩:=HAc.out.at HN.out (by omega);subst had;have HC:=Lh hc;have HM:=Lh (hM.congr fun x c=>fm_top);have HB:=Lh hb;clear hb hM hc;go_wp2_with fail
     go_loopg [7] k (fun g t7 wr=>∃ m:Nat,m≤k∧g=m∧t7=.int .i64 ((m:Int) - 1)∧Below w.heap.size w wr∧Mat wr w.heap.size n (FM L k m))
     case atStart=>exact ⟨k,Nat.le_refl _,rfl,rfl,HB.out,HM.out⟩
     case round=>
      obtain ⟨m,hm,hg,rfl,hb,hM⟩:=hrel;have hg2:=hg.symm;subst hg2;clear HM HB;rcases Nat.eq_zero_or_pos m with rfl | hm0
      ·have HM:=Lh (hM.congr fun x c=>fo_next (HN.out▸hkn))
       have HB:=Lh hb;clear hb hM;go_wp2_with fail
       go_roundg (n-(k+1))
       case measure=>omega
       case rel=>exact ⟨k+1,by omega,rfl,by go_num,HB.out,HM.out⟩
      ·obtain ⟨i,rfl⟩:∃ i,m=i+1:=⟨m - 1,by omega⟩
       have hie:(((i+1:Nat):Int) - 1)=(i:Int):=by omega
       rw [hie];clear hie;have hik:i<n:=by omega
       have x0:=(hb.cell (p:=⟨b,off+i * 3,none⟩) hbw).trans (HC.out i hik).1;have x1:=(hb.cell (p:=⟨b,off+i * 3+1,none⟩) hbw).trans (HC.out i hik).2.1;have x2:=(hb.cell (p:=⟨b,off+i * 3+2,none⟩) hbw).trans (HC.out i hik).2.2;have y0:=(hb.cell (p:=⟨b,off+k * 3,none⟩) hbw).trans (HC.out k hkn).1;have y1:=(hb.cell (p:=⟨b,off+k * 3+1,none⟩) hbw).trans (HC.out k hkn).2.1;have y2:=(hb.cell (p:=⟨b,off+k * 3+2,none⟩) hbw).trans (HC.out k hkn).2.2;have HD:=Lh (show (dirP L i k↔((acA L i).t=(acA L k).t∨(acA L i).k=3∧(acA L k).k=2∧(acA L i).l=(acA L k).l)) from Iff.rfl);generalize acA L i=ai at *
       generalize acA L k=ak at *
       obtain ⟨it,ik,il⟩:=ai;obtain ⟨kt,kk,kl⟩:=ak;simp only at x0 x1 x2 y0 y1 y2 HD
       have HM:=Lh hM;have HB:=Lh hb;clear hb hM
       go_upto_region 13 with fail
       go_cut [8] from 35 to 74 (fun t8 wx=>t8=.bool (cb (dirP L i k))∧Below w.heap.size w wx∧Mat wx w.heap.size n (FM L k (i+1)))
       case first=>
        by_cases h1:it=kt
        ·have HE:=Lh (cb_pos (HD.out.2 (.inl h1)))
         subst h1
         go_quiet (fail)
         go_wp2_with fail
         go_meet
         exact ⟨by rw [HE.out],bDN HB.out,HM.out.drewN⟩
        ·have h1':(it==kt)=false:=by simpa using h1
         by_cases h2:ik=3
         ·subst h2
          by_cases h3:kk=2
          ·subst h3
           by_cases h4:il=kl
           ·have HE:=Lh (cb_pos (HD.out.2 (.inr ⟨rfl,rfl,h4⟩)))
            subst h4
            go_quiet (fail)
            go_wp2_with fail
            go_meet
            exact ⟨by rw [HE.out],bDN HB.out,HM.out.drewN⟩
           ·have HE:=Lh (cb_neg (fun h=>(HD.out.1 h).elim h1 fun h=>h4 h.2.2))
            have h4':(il==kl)=false:=by simpa using h4
            go_quiet (fail)
            go_wp2_with fail
            go_meet
            exact ⟨by rw [HE.out],bDN HB.out,HM.out.drewN⟩
          ·have HE:=Lh (cb_neg (fun h=>(HD.out.1 h).elim h1 fun h=>h3 h.2.1))
           have h3':(kk==2)=false:=by simpa using h3
           go_quiet (fail)
           go_wp2_with fail
           go_meet
           exact ⟨by rw [HE.out],bDN HB.out,HM.out.drewN⟩
         ·have HE:=Lh (cb_neg (fun h=>(HD.out.1 h).elim h1 fun h=>h2 h.1))
          have h2':(ik==3)=false:=by simpa using h2
          go_quiet (fail)
          go_wp2_with fail
          go_meet
          exact ⟨by rw [HE.out],bDN HB.out,HM.out.drewN⟩
       case rest=>
        obtain ⟨rfl,hb,hM⟩:=hcut;clear x0 x1 x2 y0 y1 y2 HD HM HB;by_cases hd:dirP L i k
        ·rw [cb_pos hd]
         have HD:=Lh hd;have t0:=hM.top.cell hik;have r0:=(hM.row i hik).cell hkn;have f0:=(hM.row i hik).frozen k;have HM:=Lh ((hM.set (x:=i) (k:=k)).congr fun x c=>fi_start);have HB:=Lh (hb.setCell (p:=⟨w.heap.size+1+i,k,none⟩) (by show w.heap.size≤w.heap.size+1+i; omega) (.bool true));generalize cb (FM L k (i+1) i k)=z at *
         clear hd hM hb;go_wp2_with fail
         clear t0 r0 f0
         go_loopg [9] i (fun g t9 wr=>∃ y:Nat,y≤i∧g=i-y∧t9=.int .i64 (y:Int)∧Below w.heap.size w wr∧Mat wr w.heap.size n (FI L k i y))
         case atStart=>exact ⟨0,Nat.zero_le _,rfl,rfl,HB.out,HM.out⟩
         case round=>
          obtain ⟨y,hy,rfl,rfl,hb,hM⟩:=hrel;clear HM HB;by_cases hyi:y<i
          ·have hyn:y<n:=by omega
           have t0:=hM.top.cell hyn;have r0:=(hM.row y hyn).cell hik;rw [cb_congr (fi_at (L:=L) (k:=k) (m:=i) (y:=y) (by omega))] at r0;by_cases ho:Ord L y i
           ·rw [cb_pos ho] at r0
            have r1:=(hM.row y hyn).cell hkn;have f1:=(hM.row y hyn).frozen k;have HM:=Lh ((hM.set (x:=y) (k:=k)).congr fun x c=>fi_yes ho);have HB:=Lh (hb.setCell (p:=⟨w.heap.size+1+y,k,none⟩) (by show w.heap.size≤w.heap.size+1+y; omega) (.bool true));generalize cb (FI L k i y y k)=z at *
            clear ho hM hb;go_wp2_with fail
            go_roundg (i-(y+1))
            case measure=>omega
            case rel=>exact ⟨y+1,by omega,rfl,by go_num,HB.out,HM.out⟩
           ·rw [cb_neg ho] at r0
            have HM:=Lh (hM.congr fun x c=>fi_no ho);have HB:=Lh hb;clear ho hM hb;go_wp2_with fail
            go_roundg (i-(y+1))
            case measure=>omega
            case rel=>exact ⟨y+1,by omega,rfl,by go_num,HB.out,HM.out⟩
          ·obtain rfl:i=y:=by omega
           have HM:=Lh (hM.congr fun x c=>fi_end (by omega) HD.out);have HB:=Lh hb;clear hM hb;go_wp2_with fail
           go_roundg i
           case measure=>omega
           case rel=>exact ⟨i,by omega,rfl,by go_num,HB.out,HM.out⟩
        ·rw [cb_neg hd]
         have HM:=Lh (hM.congr fun x c=>fm_no hd);have HB:=Lh hb;clear hd hM hb;go_wp2_with fail
         go_roundg i
         case measure=>omega
         case rel=>exact ⟨i,by omega,rfl,by go_num,HB.out,HM.out⟩
    ·obtain rfl:n=k:=by omega
     have HM:=Lh (hM.congr (G:=Ord L) fun x c=>⟨fun h=>h.2,fun h=>⟨HN.out▸h.len,h⟩⟩);have HB:=Lh hb;clear hb hM;go_wp2_with fail
     go_ret
     exact ⟨rfl,HM.out,HB.out⟩
end Go.Proofs.Ytjilpbmehipagaa
