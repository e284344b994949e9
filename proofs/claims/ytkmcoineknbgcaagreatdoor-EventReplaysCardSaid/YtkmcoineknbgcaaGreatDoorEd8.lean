import Derived.Test.YtkmcoineknbgcaaGreatDoorVd8
import Derived.Test.YtkmcoineknbgcaaGreatDoorRn8
namespace Go.Proofs.YtkmcoineknbgcaaGreatDoor
open Go Go.Proofs Go.RowKit
theorem alv_append (A B:List El):alv (A++B)=alv A++alv B:=by unfold alv; rw [List.filter_append,List.map_append]
theorem alv_len (A:List El):(alv A).length=(A.map El.al).sum:=by
 unfold alv
 rw [List.length_map]
 induction A with
 | nil=>rfl
 | cons x A ih=>
  cases h:x.d with
  | true=>simp [h,El.al,ih]
  | false=>simp [h,El.al,ih]; omega
def ChO (m:List Oq):Prop:=∀ x∈m,x.k=0→ChrB x.ch
theorem chk_chr {o:Oq} (h:chkE o.k o.c o.s o.a o.n o.ch=0) (hk:o.k=0):ChrB o.ch:=by
 have F:∀ (l:List Int),firstE l=0→∀ x∈l,x=0:=by
  intro l
  induction l with
  | nil=>intro _ x hx; cases hx
  | cons y l ih=>
   intro h x hx
   unfold firstE at h
   split at h
   ·rename_i hy
    rcases List.mem_cons.1 hx with e | hx
    ·rw [e,hy]
    ·exact ih h x hx
   ·rename_i hy; exact absurd h hy
 have h5:chrE o.k o.ch=0:=F _ h _ (by simp);unfold chrE at h5
 split at h5
 ·cases h5
 ·rename_i hn
  have:runeB o.ch=true:=by
   cases hr:runeB o.ch with
   | true=>rfl
   | false=>exact absurd ⟨hk,.inr hr⟩ hn
  simp [runeB] at this
  unfold ChrB; omega
theorem ch_snoc {m:List Oq} {o:Oq} (h:ChO m) (hw:wrongE m o=0):ChO (m++[o]):=fun x hx hk=>by
 rcases List.mem_append.1 hx with hx | hx
 ·exact h x hx hk
 ·simp at hx; subst hx; exact chk_chr (wrong_zero hw).1 hk
theorem cas_ch:∀ (f:Nat) (m l:List Oq) (a:List Chg),ChO m→ChO (casG f m l a).1
 | 0,_,_,_,h=>h
 | f+1,m,l,a,h=>by
  rcases Int.lt_or_le (nxI m l) 0 with hn | hn
  ·rw [cas_no hn]; exact h
  ·obtain ⟨i,e,hi⟩:=nx_lt hn
   by_cases hw:wrongE m l[i]=0
   ·rw [cas_in e hi hw]; exact cas_ch f _ _ _ (ch_snoc h hw)
   ·rw [cas_out e hi hw]; exact cas_ch f _ _ _ h
theorem ch_rem {m l:List Oq} (h:ChO m) (o:Oq):ChO (remT m l o).1:=by
 unfold remT
 split
 ·exact h
 ·split
  ·rename_i hw; exact cas_ch _ _ _ _ (ch_snoc h hw)
  ·exact h
theorem ch_row {m:List Oq} (g:Gd m) (h:ChO m):∀ r∈alv (docR m),ChrB r:=by
 intro r hr
 unfold alv docR at hr
 obtain ⟨x,hx,rfl⟩:=List.mem_map.1 hr;obtain ⟨y,hy,rfl⟩:=List.mem_map.1 (List.mem_filter.1 hx).1;exact h y ((g.mem y).1 hy).1 ((g.mem y).1 hy).2
end Go.Proofs.YtkmcoineknbgcaaGreatDoor
