import Derived.Test.YtgpfbgmdahmpkaaLBase
import Derived.Deep.CutRange
set_option maxRecDepth 100000
set_option maxHeartbeats 12800000
namespace Go.Proofs.Ytgpfbgmdahmpkaa
open Go Go.Proofs Go.RowKit
abbrev arL (M:List Int):List Value:=M.map (Value.int .i64)
def IsL (W:World) (v:Value) (A:List Int):Prop:=∃ ad cap,v=.slice ad A.length cap∧A.length≤cap∧cap≤9223372036854775807 ∧
 (A≠[]→∃ b off,ad=some ⟨b,off,none⟩∧b<W.heap.size∧∀ j (hj:j<A.length),W.cell? ⟨b,off+j,none⟩=some (.int .i64 A[j]))
theorem IsL.next {W W':World} {v:Value} {A:List Int} (h:IsL W v A) (hb:Below W.heap.size W W'):IsL W' v A:=by
 obtain ⟨ad,cap,e,h1,h2,h3⟩:=h;refine ⟨ad,cap,e,h1,h2,fun hA=>?_⟩;obtain ⟨b,off,e2,h4,h5⟩:=h3 hA;exact ⟨b,off,e2,Nat.lt_of_lt_of_le h4 hb.size,fun j hj=>(hb.cell (p:=⟨b,off+j,none⟩) h4).trans (h5 j hj)⟩
def MayA (A:List Int):Prop:=A.length≤16∧∀ x∈A,0≤x∧x≤1099511627776
def mayL (A:List Int):Bool:=decide (A.length≤16)&&A.all fun x=>decide (0≤x)&&decide (x≤1099511627776)
theorem may_iff {A:List Int}:mayL A=true↔MayA A:=by simp [mayL,MayA,List.all_eq_true]
def leqL (M N:List Int):Bool:=(List.range 16).all fun j=>decide (M.getD j 0≤N.getD j 0)
theorem leq_iff {M N:List Int}:leqL M N=true↔∀ j,j<16→M.getD j 0≤N.getD j 0:=by simp only [leqL,List.all_eq_true,List.mem_range,decide_eq_true_eq]
theorem ar_cell {W:World} {b:Nat} {M:List Int} {t:TypeId} (h:Blk W b (arL M) t) (k:Nat) (hk:k<M.length):W.cell? ⟨b,k,none⟩=some (.int .i64 (M.getD k 0)):=by
 refine h.cell k ?_;rw [List.getElem?_map,List.getElem?_eq_getElem hk,List.getD_eq_getElem?_getD,List.getElem?_eq_getElem hk];rfl
theorem may13_any (A:List Int) (v:Value) (w:World) (h:IsL w v A):
  Calls Try.prog 5 #[v] w fun e w'=>e=.returned (.bool (mayL A))∧Below w.heap.size w w':=by
 obtain ⟨ad,cap,rfl,h1,h2,h3⟩:=h;have HL:=Lh h3;have hl:A.length≤9223372036854775807:=by omega
 clear h3
 go_enter Try.func5,Try.ntmps5
 go_wp2_with fail
 go_loopg [7] A.length (fun g ti wr=>∃ k:Nat,k≤A.length∧g=A.length-k∧ti=.int .i64 (k:Int)∧Hid (∀ x∈A.take k,0≤x∧x≤1099511627776)∧Below w.heap.size w wr)
 case atStart=>exact ⟨0,Nat.zero_le _,rfl,rfl,Lh (fun x hx=>by cases hx),Below.refl _ _⟩
 case round=>
  obtain ⟨k,hk,rfl,rfl,HT,hb⟩:=hrel;by_cases hlt:k<A.length
  ·obtain ⟨b,off,rfl,hbw,hc⟩:=HL.out (fun e=>by rw [e] at hlt; cases hlt)
   have hcell:=(hb.cell (p:=⟨b,off+k,none⟩) hbw).trans (hc k hlt);have HTK:=Lh (show A.take (k+1)=A.take k++[A[k]] from List.take_succ_eq_append_getElem hlt);have HM:=Lh (List.getElem_mem hlt);generalize A[k]=x at *
   have HB:=Lh hb;clear hc hb;by_cases hx:x<0
   ·have hno:mayL A=false:=by rw [←Bool.not_eq_true,may_iff]; intro hm; have:=hm.2 x HM.out; omega
    have HN:=Lh hno;clear hno;go_wp2_with fail
    go_ret
    exact ⟨by rw [HN.out]; rfl,HB.out⟩
   ·by_cases hx2:1099511627776<x
    ·have hno:mayL A=false:=by rw [←Bool.not_eq_true,may_iff]; intro hm; have:=hm.2 x HM.out; omega
     have HN:=Lh hno;clear hno;go_wp2_with fail
     go_ret
     exact ⟨by rw [HN.out]; rfl,HB.out⟩
    ·go_wp2_with fail
     go_roundg (A.length-(k+1))
     case measure=>omega
     case rel=>exact ⟨k+1,by omega,rfl,by go_num,Lh (by
      intro y hy
      rw [HTK.out,List.mem_append] at hy;rcases hy with hy | hy
      ·exact HT.out y hy
      ·rw [List.mem_singleton] at hy; subst hy; omega),HB.out⟩
  ·obtain rfl:k=A.length:=by omega
   have hall:mayL A=decide ((A.length:Int)≤16):=by
    have h:=HT.out;rw [List.take_length] at h;by_cases hl:A.length≤16
    ·rw [may_iff.2 ⟨hl,h⟩,decide_eq_true (by omega)]
    ·rw [decide_eq_false (by omega),←Bool.not_eq_true,may_iff]
     exact fun hm=>hl hm.1
   have HN:=Lh hall;clear hall HT;go_wp2_with fail
   go_ret
   exact ⟨by rw [HN.out]; rfl,hb⟩
theorem rf13Leq_any (M N:List Int) (hM:M.length=16) (hN:N.length=16) (w:World):
  Calls Try.prog 14 #[.agg ⟨arL M⟩,.agg ⟨arL N⟩] w fun e w'=>e=.returned (.bool (leqL M N))∧Below w.heap.size w w':=by
 have hb0:Below w.heap.size w ((w.alloc (.cells ⟨arL M⟩ 27)).alloc (.cells ⟨arL N⟩ 27)):=(bA).alloc (by simp) _;have H0:=Lh (And.intro hb0 (And.intro ((Blk.start w (arL M) 27).alloc (.cells ⟨arL N⟩ 27)) (Blk.startAt (W:=w.alloc (.cells ⟨arL M⟩ 27)) (b:=w.heap.size+1) (vs:=arL N) (t:=27) (by simp))));clear hb0
 go_enter Try.func14,Try.ntmps14
 go_wp2_with fail
 go_loopg [5] 16 (fun g ti wr=>∃ k:Nat,k≤16∧g=16-k∧ti=.int .i64 (k:Int)∧Hid (∀ j,j<k→M.getD j 0≤N.getD j 0)∧Below w.heap.size w wr∧Blk wr w.heap.size (arL M) 27∧Blk wr (w.heap.size+1) (arL N) 27)
 case atStart=>exact ⟨0,Nat.zero_le _,rfl,rfl,Lh (fun j hj=>by omega),H0.out⟩
 case round=>
  obtain ⟨k,hk,rfl,rfl,HT,hb,hBM,hBN⟩:=hrel;clear H0;by_cases hlt:k<16
  ·have hm:=ar_cell hBM k (by omega)
   have hn:=ar_cell hBN k (by omega);have HB:=Lh (And.intro hb (And.intro hBM hBN));have HX:=Lh (fun (h:N.getD k 0<M.getD k 0)=>show leqL M N=false by rw [←Bool.not_eq_true,leq_iff]; intro h2; have:=h2 k hlt; omega);have HY:=Lh (fun (h:¬ N.getD k 0<M.getD k 0)=>show ∀ j,j<k+1→M.getD j 0≤N.getD j 0 by
    intro j hj
    by_cases e:j=k
    ·subst e; omega
    ·exact HT.out j (by omega))
   generalize M.getD k 0=x at *
   generalize N.getD k 0=y at *
   clear hb hBM hBN;by_cases hc:y<x
   ·have HN:=Lh (HX.out hc)
    clear HX HY;go_wp2_with fail
    go_region
    go_wp2_with fail
    go_ret
    exact ⟨by rw [HN.out]; rfl,HB.out.1.drew⟩
   ·have HN:=Lh (HY.out hc)
    clear HX HY;go_wp2_with fail
    go_region
    go_wp2_with fail
    go_roundg (16-(k+1))
    case measure=>omega
    case rel=>exact ⟨k+1,by omega,rfl,by go_num,HN,HB.out.1.drew,HB.out.2.1.drew,HB.out.2.2.drew⟩
  ·obtain rfl:k=16:=by omega
   have HN:=Lh (show leqL M N=true from leq_iff.2 HT.out);clear HT;go_wp2_with fail
   go_ret
   exact ⟨by rw [HN.out]; rfl,hb⟩
structure D13 (w:World) (o p:Nat) (Z M:List Value) (W:World):Prop where
 bel:Below w.heap.size w W
 go:w.heap.size≤o
 gp:w.heap.size≤p
 bz:Blk W o Z 27
 bm:Blk W p M 27
theorem D13.next {w:World} {o p:Nat} {Z M:List Value} {W W':World} (h:D13 w o p Z M W) (hb:Below W.heap.size W W'):D13 w o p Z M W':=⟨h.bel.trans (hb.mono h.bel.size),h.go,h.gp,h.bz.next hb,h.bm.next hb⟩
theorem D13.set {w:World} {o p:Nat} {Z M:List Value} {W:World} (h:D13 w o p Z M W) (ho:o≠p) (k:Nat) (x:Value):D13 w o p Z (M.set k x) (W.setCell ⟨p,k,none⟩ x):=
 ⟨h.bel.setCell (p:=⟨p,k,none⟩) h.gp x,h.go,h.gp,h.bz.other _ (by simp; omega) _,h.bm.set k x⟩
def pad (A:List Int):List Int:=A++List.replicate (16-A.length) 0
theorem pad_len {A:List Int} (h:A.length≤16):(pad A).length=16:=by simp [pad]; omega
theorem pad_step {A:List Int} {k:Nat} (hk:k<A.length) (hl:A.length≤16):(A.take k++List.replicate (16-k) 0).set k A[k]=A.take (k+1)++List.replicate (16-(k+1)) 0:=by
 rw [List.take_succ_eq_append_getElem hk,show 16-k=(16-(k+1))+1 by omega,List.replicate_succ,List.set_append_right _ _ (by simp; omega),show k-(A.take k).length=0 by simp; omega,List.set_cons_zero,List.append_assoc];rfl
end Go.Proofs.Ytgpfbgmdahmpkaa
