import Derived.Test.YtjilpbmehipagaaLBase
import Derived.Deep.CutRange
import Derived.Deep.MidRow
set_option maxRecDepth 100000
set_option maxHeartbeats 12800000
namespace Go.Proofs.Ytjilpbmehipagaa
open Go Go.Proofs Go.RowKit
structure Ac where
 t:Int
 k:Int
 l:Int
def acL (x:Ac):List Value:=[.int .i64 x.t,.int .i64 x.k,.int .i64 x.l]
theorem acL_len (x:Ac):(acL x).length=3:=rfl
theorem ac_one (x:Ac):∀ u∈acL x,u.oneCell'=true:=by intro u hu; simp [acL] at hu; rcases hu with rfl | rfl | rfl <;> rfl
def IsAc (W:World) (v:Value) (L:List Ac):Prop:=∃ ad cap,v=.slice ad L.length cap∧L.length≤cap∧cap≤9223372036854775807 ∧
 (L≠[]→∃ b off,ad=some ⟨b,off,none⟩∧b<W.heap.size∧∀ j (hj:j<L.length),W.cell? ⟨b,off+j * 3,none⟩=some (.int .i64 L[j].t)∧W.cell? ⟨b,off+j * 3+1,none⟩=some (.int .i64 L[j].k)∧W.cell? ⟨b,off+j * 3+2,none⟩=some (.int .i64 L[j].l))
theorem IsAc.next {W W':World} {v:Value} {L:List Ac} (h:IsAc W v L) (hb:Below W.heap.size W W'):IsAc W' v L:=by
 obtain ⟨ad,cap,e,h1,h2,h3⟩:=h;refine ⟨ad,cap,e,h1,h2,fun hA=>?_⟩;obtain ⟨b,off,e2,h4,h5⟩:=h3 hA;exact ⟨b,off,e2,Nat.lt_of_lt_of_le h4 hb.size,fun j hj=>⟨(hb.cell (p:=⟨b,off+j * 3,none⟩) h4).trans (h5 j hj).1,(hb.cell (p:=⟨b,off+j * 3+1,none⟩) h4).trans (h5 j hj).2.1,(hb.cell (p:=⟨b,off+j * 3+2,none⟩) h4).trans (h5 j hj).2.2⟩⟩
theorem IsAc.of_sl {W:World} {v:Value} {L:List Ac} {t:TypeId} (h:Sl t 3 acL W v L):IsAc W v L:=by
 obtain ⟨ad,cap,rfl,h1,h2⟩:=h.form;refine ⟨ad,cap,rfl,h1,h2,fun hA=>?_⟩;have hpos:0<L.length:=List.length_pos_iff.2 hA;obtain ⟨g,e,hg,_⟩:=Sl.cell acL_len h 0 hpos;refine ⟨g,0,e,hg,fun j hj=>?_⟩;obtain ⟨g',e',_,hc⟩:=Sl.cell acL_len h j hj;rw [e] at e';simp only [Option.some.injEq,Addr.mk.injEq] at e'
 obtain ⟨rfl,-,-⟩:=e';simp only [Nat.zero_add]
 exact ⟨hc 0 (by omega),hc 1 (by omega),hc 2 (by omega)⟩
def mayA1 (x:Ac):Bool:=decide (0≤x.t∧x.t≤15∧0≤x.k∧x.k≤3)
def mayAc (L:List Ac):Bool:=L.all mayA1
def zAc:Value:=.agg #[.int .i64 0,.int .i64 0,.int .i64 0]
theorem infoAc:(Try.prog.info? 43).map (fun i=>(i.zero,i.size,i.bytes))=some (some zAc,3,24):=by kernel_rfl
theorem info_parts14 {P:Program} {e:TypeId} {z:Value} {s b:Nat} (h:(P.info? e).map (fun i=>(i.zero,i.size,i.bytes))=some (some z,s,b)):∃ i,P.info? e=some i∧i.zero=some z∧i.size=s∧i.bytes=b:=by
 obtain ⟨i,hi,he⟩:=Option.map_eq_some_iff.1 h;simp only [Prod.mk.injEq] at he
 exact ⟨i,hi,he.1,he.2.1,he.2.2⟩
theorem of14_any (L:List Ac) (v:Value) (w:World) (h:IsAc w v L) (hl:L.length≤1000):
  Calls Try.prog 6 #[v] w fun e w'=>∃ u,e=.returned u∧Sl 43 3 acL w' u L∧Below w.heap.size w w':=by
 obtain ⟨ad,cap,rfl,h1,h2,h3⟩:=h;have HL:=Lh h3;clear h3
 go_enter Try.func6,Try.ntmps6
 go_wp2_with fail
 go_loopg [3,8] L.length (fun g t3 t8 wr=>∃ k:Nat,k≤L.length∧g=L.length-k∧t8=.int .i64 (k:Int)∧wr.ownsRow w.heap.size 43 3 t3 k ((L.take k).flatMap acL)∧Below w.heap.size w wr)
 case atStart=>exact ⟨0,Nat.zero_le _,rfl,rfl,by simpa using World.ownsRow_nil _ _ _ _,Below.refl _ _⟩
 case round=>
  obtain ⟨k,hk,rfl,rfl,ho,hb⟩:=hrel;by_cases hlt:k<L.length
  ·obtain ⟨b,off,rfl,hbw,hc⟩:=HL.out (fun e=>by rw [e] at hlt; cases hlt)
   have c0:=(hb.cell (p:=⟨b,off+k * 3,none⟩) hbw).trans (hc k hlt).1;have c1:=(hb.cell (p:=⟨b,off+k * 3+1,none⟩) hbw).trans (hc k hlt).2.1;have c2:=(hb.cell (p:=⟨b,off+k * 3+2,none⟩) hbw).trans (hc k hlt).2.2;have HTK:=Lh (show (L.take (k+1)).flatMap acL=(L.take k).flatMap acL++acL L[k] by rw [List.take_succ_eq_append_getElem hlt,List.flatMap_append,List.flatMap_singleton]);generalize L[k]=x at *
   have HO:=Lh ho;have HB:=Lh hb;obtain ⟨i0,hi0,hz0,hz1,hz2⟩:=info_parts14 infoAc;have hsz:=hb.size;clear hc hb ho;have HA2:=Lh (fun o1 o2=>show Below wr.heap.size wr ((wr.alloc o1).alloc o2) from (bA).alloc (by simp) _);have HC2:=Lh (fun o1=>show ∀ (j:Nat) u,(acL x)[j]? = some u→((wr.alloc o1).alloc (.cells ⟨acL x⟩ 43)).cell? ((⟨wr.heap.size+1,0,none⟩:Addr).add j)=some u by
    intro j u hu
    rw [Addr.add_mid,Nat.zero_add];exact (Blk.startAt (W:=wr.alloc o1) (vs:=acL x) (b:=wr.heap.size+1) (by simp)).cell j hu)
   go_wp2_with (at_builtin; refine wpList_append_own _ rfl _ _ 24 rfl w.heap.size 43 i0 zAc 3 24 Try.underlying24 hi0 hz0 hz1 hz2 rfl (by decide) _ _ _ rfl (ownsRow_next HO.out (HA2.out _ _)) ⟨wr.heap.size+1,0,none⟩ 1 1 (acL x) rfl rfl (HC2.out _) (ac_one x) (by unfold maxLen; omega) (by omega) (by simp; omega) ?_; intro v4 W4 ho4 hg4 _; refine Hid.out ?_)
   have hb2:=(HA2.out (.cells ⟨acL x⟩ 31) (.cells ⟨acL x⟩ 43))
   have hg5:World.grownBy ((wr.alloc (.cells ⟨acL x⟩ 31)).alloc (.cells ⟨acL x⟩ 43)) W4 _:=hg4;have HB4:=Lh (HB.out.trans ((hb2.mono hsz).trans (Below.of_grown hg5 (Nat.le_trans hsz hb2.size) (own_ge HO.out))));rw [←HTK.out] at ho4;have HO4:=Lh ho4;clear ho4 hg4 hg5 hb2 HA2 HC2 HTK HO HB;refine Lh ?_;go_wp2_with fail
   go_roundg (L.length-(k+1))
   case measure=>omega
   case rel=>exact ⟨k+1,by omega,rfl,by go_num,HO4.out,HB4.out⟩
  ·obtain rfl:k=L.length:=by omega
   have HO:=Lh ho;have HB:=Lh hb;clear ho hb;go_wp2_with fail
   go_ret
   rw [List.take_length] at HO;exact ⟨_,rfl,Sl.of HO.out,HB.out⟩
theorem may14_any (L:List Ac) (v:Value) (w:World) (h:IsAc w v L):
  Calls Try.prog 10 #[v] w fun e w'=>e=.returned (.bool (mayAc L))∧Below w.heap.size w w':=by
 obtain ⟨ad,cap,rfl,h1,h2,h3⟩:=h;have HL:=Lh h3;clear h3;have hl:L.length≤9223372036854775807:=by omega
 go_enter Try.func10,Try.ntmps10
 go_wp2_with fail
 go_loopg [3] L.length (fun g t3 wr=>∃ k:Nat,k≤L.length∧g=L.length-k∧t3=.int .i64 (k:Int)∧Hid (∀ x∈L.take k,mayA1 x=true)∧Below w.heap.size w wr)
 case atStart=>exact ⟨0,Nat.zero_le _,rfl,rfl,Lh (fun x hx=>by cases hx),Below.refl _ _⟩
 case round=>
  obtain ⟨k,hk,rfl,rfl,HT,hb⟩:=hrel;by_cases hlt:k<L.length
  ·obtain ⟨b,off,rfl,hbw,hc⟩:=HL.out (fun e=>by rw [e] at hlt; cases hlt)
   have c0:=(hb.cell (p:=⟨b,off+k * 3,none⟩) hbw).trans (hc k hlt).1;have c1:=(hb.cell (p:=⟨b,off+k * 3+1,none⟩) hbw).trans (hc k hlt).2.1;have HTK:=Lh (show L.take (k+1)=L.take k++[L[k]] from List.take_succ_eq_append_getElem hlt);have HM:=Lh (show ¬ mayA1 L[k]=true→mayAc L=false from fun h=>by
    rw [←Bool.not_eq_true,mayAc,List.all_eq_true]; exact fun hh=>h (hh _ (List.getElem_mem hlt)))
   generalize L[k]=x at *
   obtain ⟨xt,xk,xl⟩:=x;simp only at c0 c1
   have HB:=Lh hb;clear hc hb;by_cases hx:mayA1 ⟨xt,xk,xl⟩=true
   ·obtain ⟨x1,x2,x3,x4⟩:0≤xt∧xt≤15∧0≤xk∧xk≤3:=by simpa [mayA1] using hx
    have HX:=Lh hx;clear hx HM;go_wp2_with fail
    go_roundg (L.length-(k+1))
    case measure=>omega
    case rel=>exact ⟨k+1,by omega,rfl,by go_num,Lh (by
     intro y hy
     rw [HTK.out,List.mem_append] at hy;rcases hy with hy | hy
     ·exact HT.out y hy
     ·rw [List.mem_singleton] at hy; subst hy; exact HX.out),HB.out⟩
   ·have HN:=Lh (HM.out hx)
    have hd:xt<0∨(0≤xt∧15<xt)∨((0≤xt∧xt≤15)∧xk<0)∨((0≤xt∧xt≤15)∧0≤xk∧3<xk):=by simp [mayA1] at hx; omega
    clear hx HM HT HTK;rcases hd with h1 | ⟨h1,h2⟩ | ⟨⟨h1,h2⟩,h3⟩ | ⟨⟨h1,h2⟩,h3,h4⟩
    all_goals
     go_wp2_with fail
     go_ret
     exact ⟨by rw [HN.out]; rfl,HB.out⟩
  ·obtain rfl:k=L.length:=by omega
   have hall:mayAc L=true:=by
    have h:=HT.out;rw [List.take_length] at h;rw [mayAc,List.all_eq_true]; exact h
   have HN:=Lh hall;clear hall HT;go_wp2_with fail
   go_ret
   exact ⟨by rw [HN.out]; rfl,hb⟩
end Go.Proofs.Ytjilpbmehipagaa
