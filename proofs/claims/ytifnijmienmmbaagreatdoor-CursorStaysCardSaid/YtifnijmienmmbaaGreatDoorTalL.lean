import Derived.Test.YtifnijmienmmbaaGreatDoorTally
namespace Go.Proofs.YtifnijmienmmbaaGreatDoor
open Go Go.Proofs Go.RowKit
theorem sq_bd {p q:Int} (h:mayB p q=true):1≤p∧p≤1048576∧1≤q∧q≤1000 ∧ -1000000≤sqR p q∧sqR p q≤1099511627776∧2≤sqI p q∧sqI p q≤2097152000:=by
 obtain ⟨h1,h2,h3,h4⟩:=may_bd h;have haa:p * p≤1048576 * 1048576:=Int.mul_le_mul h2 h2 (by omega) (by omega);have hbb:q * q≤1000 * 1000:=Int.mul_le_mul h4 h4 (by omega) (by omega);have hab:p * q≤1048576 * 1000:=Int.mul_le_mul h2 h4 (by omega) (by omega);have paa:=Int.mul_pos (show 0<p by omega) (show 0<p by omega);have pbb:=Int.mul_pos (show 0<q by omega) (show 0<q by omega);have pab:=Int.mul_pos (show 0<p by omega) (show 0<q by omega);have e:q * p=p * q:=Int.mul_comm _ _;unfold sqR sqI
 rw [e];omega
theorem small_of {n:Int} (h1 : -4503599627370496≤n) (h2:n≤4503599627370496):Small n:=by
 unfold Small
 have:(2:Nat) ^ 53=9007199254740992:=by decide
 omega
theorem sums_of {p q:Int} (h:mayB p q=true):Sums p q (sqR p q) (sqI p q):=by
 obtain ⟨h1,h2,h3,h4,h5,h6,h7,h8⟩:=sq_bd h;exact ⟨small_of (by omega) (by omega),small_of (by omega) (by omega),small_of (by omega) (by omega),small_of (by omega) (by omega)⟩
theorem sums_zero:Sums 0 0 0 0:=⟨small_of (by omega) (by omega),small_of (by omega) (by omega),small_of (by omega) (by omega),small_of (by omega) (by omega)⟩
theorem put_first {p q:Int} (w:World) (h:mayB p q=true):
  Calls Tryz.prog 54 #[.agg #[.int .i64 0,.complex .f64 0 0,.complex .f64 0 0],.agg #[p,q]] w
   fun e w'=>e=.returned (.tuple #[.agg #[.int .i64 1,.complex .f64 (fl p) (fl q),.complex .f64 (fl (sqR p q)) (fl (sqI p q))],.int .i64 0])∧Below w.heap.size w w':=by
 have hp:=put_ok (N:=0) (a:=0) (b:=0) (c:=0) (d:=0) w h (by omega) (by omega) sums_zero (sums_of h) (by simpa using sums_of h);rw [fl_zero] at hp
 simpa using hp
def sm (f:Int×Int→Int) (l:List (Int×Int)):Int:=(l.map f).sum
theorem sm_nil (f:Int×Int→Int):sm f []=0:=rfl
theorem sm_append (f:Int×Int→Int) (l m:List (Int×Int)):sm f (l++m)=sm f l+sm f m:=by
 unfold sm; rw [List.map_append,List.sum_append_int]
theorem sm_one (f:Int×Int→Int) (x:Int×Int):sm f [x]=f x:=by unfold sm; simp
theorem sm_reverse (f:Int×Int→Int) (l:List (Int×Int)):sm f l.reverse=sm f l:=by
 induction l with
 | nil=>rfl
 | cons x l ih=>rw [List.reverse_cons,sm_append,ih,sm_one]; unfold sm; simp; omega
theorem sm_bd (f:Int×Int→Int) (B:Int) (l:List (Int×Int)) (h:∀ x∈l,-B≤f x∧f x≤B) : -(l.length * B)≤sm f l∧sm f l≤l.length * B:=by
 induction l with
 | nil=>simp [sm]
 | cons x l ih=>
  have h1:=h x (List.mem_cons_self ..);have h2:=ih fun y hy=>h y (List.mem_cons_of_mem _ hy)
  have e:sm f (x::l)=f x+sm f l:=by unfold sm; simp
  have e2:((x::l).length:Int) * B=l.length * B+B:=by
   rw [List.length_cons,Int.natCast_add,Int.add_mul]; simp
  rw [e,e2]; omega
def nL (l:List (Int×Int)):Int:=l.length
def cL (l:List (Int×Int)):Int:=sm (fun x=>x.1) l
def sL (l:List (Int×Int)):Int:=sm (fun x=>x.2) l
def rL (l:List (Int×Int)):Int:=sm (fun x=>sqR x.1 x.2) l
def iL (l:List (Int×Int)):Int:=sm (fun x=>sqI x.1 x.2) l
def Mays (l:List (Int×Int)):Prop:=∀ x∈l,mayB x.1 x.2=true
theorem sums_L {l:List (Int×Int)} (h:Mays l) (hl:l.length≤4096):Sums (cL l) (sL l) (rL l) (iL l):=by
 have k1:=sm_bd (fun x=>x.1) 1048576 l fun x hx=>by have:=sq_bd (h x hx); constructor <;> omega
 have k2:=sm_bd (fun x=>x.2) 1048576 l fun x hx=>by have:=sq_bd (h x hx); constructor <;> omega
 have k3:=sm_bd (fun x=>sqR x.1 x.2) 1099511627776 l fun x hx=>by have:=sq_bd (h x hx); constructor <;> omega
 have k4:=sm_bd (fun x=>sqI x.1 x.2) 1099511627776 l fun x hx=>by have:=sq_bd (h x hx); constructor <;> omega
 unfold cL sL rL iL
 exact ⟨small_of (by omega) (by omega),small_of (by omega) (by omega),small_of (by omega) (by omega),small_of (by omega) (by omega)⟩
theorem nL_snoc (l:List (Int×Int)) (x:Int×Int):nL (l++[x])=nL l+1:=by unfold nL; simp
theorem cL_snoc (l:List (Int×Int)) (x:Int×Int):cL (l++[x])=cL l+x.1:=by unfold cL; rw [sm_append,sm_one]
theorem sL_snoc (l:List (Int×Int)) (x:Int×Int):sL (l++[x])=sL l+x.2:=by unfold sL; rw [sm_append,sm_one]
theorem rL_snoc (l:List (Int×Int)) (x:Int×Int):rL (l++[x])=rL l+sqR x.1 x.2:=by unfold rL; rw [sm_append,sm_one]
theorem iL_snoc (l:List (Int×Int)) (x:Int×Int):iL (l++[x])=iL l+sqI x.1 x.2:=by unfold iL; rw [sm_append,sm_one]
theorem Mays.snoc {l:List (Int×Int)} {x:Int×Int} (h:Mays l) (hx:mayB x.1 x.2=true):Mays (l++[x]):=fun y hy=>by
 rcases List.mem_append.1 hy with hy | hy
 ·exact h y hy
 ·simp at hy; subst hy; exact hx
def tc (l:List (Int×Int)):List Value:=[.int .i64 (nL l),.complex .f64 (fl (cL l)) (fl (sL l)),.complex .f64 (fl (rL l)) (fl (iL l))]
theorem tc_nil:tc []=[.int .i64 0,.complex .f64 0 0,.complex .f64 0 0]:=by
 unfold tc nL cL sL rL iL; simp only [sm_nil,fl_zero]; rfl
theorem put_L {l:List (Int×Int)} {x:Int×Int} (w:World) (h:Mays l) (hx:mayB x.1 x.2=true) (hl:l.length≤4095):
  Calls Tryz.prog 54 #[.agg #[.int .i64 (nL l),.complex .f64 (fl (cL l)) (fl (sL l)),.complex .f64 (fl (rL l)) (fl (iL l))],.agg #[x.1,x.2]] w
   fun e w'=>e=.returned (.tuple #[.agg #[.int .i64 (nL (l++[x])),.complex .f64 (fl (cL (l++[x]))) (fl (sL (l++[x]))),.complex .f64 (fl (rL (l++[x]))) (fl (iL (l++[x])))],.int .i64 0])∧Below w.heap.size w w':=by
 have hs:=sums_L h (by omega);have hs':=sums_L (h.snoc hx) (by simp; omega);rw [nL_snoc,cL_snoc,sL_snoc,rL_snoc,iL_snoc];rw [cL_snoc,sL_snoc,rL_snoc,iL_snoc] at hs';exact put_ok w hx (by unfold nL; omega) (by unfold nL; omega) hs (sums_of hx) hs'
end Go.Proofs.YtifnijmienmmbaaGreatDoor
