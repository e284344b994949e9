import Derived.Laws.ComplexArith
namespace Go.Proofs.YtemicfjmidohfaaGreatDoor
open Go Ieee
def fl (n:Int):Nat:=floatOfInt .f64 n
def Rep (d:Datum) (n:Int):Prop:=∃ k:Nat,d=.number (decide (n<0)) (n.natAbs <<< k) (-(k:Int))
theorem fl_eq (n:Int):fl n=double.nearest (decide (n<0)) n.natAbs 0:=rfl
theorem leastPlace_eq:double.leastPlace = -1074:=by decide
theorem binade_eq:double.binade=2 ^ 52:=rfl
theorem infRung_eq:double.infRung=2047 * 2 ^ 52:=by decide
theorem signWeight_eq:double.signWeight=2 ^ 63:=rfl
theorem log2_le {m:Nat} (h0:m≠0) (h:m<2 ^ 53):m.log2≤52:=by
 have:=(Nat.log2_lt h0).2 h;omega
theorem kept_lo {m:Nat} (h0:m≠0) (h:m<2 ^ 53):2 ^ 52≤m <<< (52-m.log2):=by
 have hl:=log2_le h0 h;have h1:2 ^ m.log2≤m:=Nat.log2_self_le h0;rw [Nat.shiftLeft_eq]
 calc 2 ^ 52=2 ^ m.log2 * 2 ^ (52-m.log2):=by rw [←Nat.pow_add]; congr 1; omega
  _≤m * 2 ^ (52-m.log2):=Nat.mul_le_mul_right _ h1
theorem kept_hi {m:Nat} (h0:m≠0) (h:m<2 ^ 53):m <<< (52-m.log2)<2 ^ 53:=by
 have hl:=log2_le h0 h;have h1:m<2 ^ (m.log2+1):=Nat.lt_log2_self;rw [Nat.shiftLeft_eq]
 calc m * 2 ^ (52-m.log2)<2 ^ (m.log2+1) * 2 ^ (52-m.log2):=Nat.mul_lt_mul_of_pos_right h1 (Nat.two_pow_pos _)
  _=2 ^ 53:=by rw [←Nat.pow_add]; congr 1; omega
theorem cut_zero (neg:Bool) (n:Nat):Toward.even.cut neg n 0=n:=by
 simp [Toward.cut,Nat.mod_one]
theorem cut_exact (neg:Bool) (a j:Nat) (h0:a≠0):Toward.even.cut neg (a * 2 ^ j) j=a:=by
 have hp:0<2 ^ j:=Nat.two_pow_pos _;have hne:a * 2 ^ j≠0:=by
  intro h; rcases Nat.mul_eq_zero.1 h with h | h <;> omega
 have hlog:j≤(a * 2 ^ j).log2:=by
  rw [Nat.le_log2 hne];exact Nat.le_mul_of_pos_left _ (Nat.pos_of_ne_zero h0)
 have hmin:min j ((a * 2 ^ j).log2+2)=j:=by omega
 have hg:1 <<< j=2 ^ j:=by rw [Nat.shiftLeft_eq,Nat.one_mul]
 simp only [Toward.cut,hmin,hg,Nat.mul_mod_left,Nat.mul_div_cancel _ hp]
 have h1:decide (2 ^ j<2 * 0)=false:=by simp
 have h2:(2 ^ j==2 * 0)=false:=by simp
 rw [h1,h2]; simp
theorem log2_shift {m:Nat} (h0:m≠0) (k:Nat):(m <<< k).log2=m.log2+k:=by
 have hp:=Nat.two_pow_pos k;have hne:m * 2 ^ k≠0:=by
  intro e; rcases Nat.mul_eq_zero.1 e with e | e <;> omega
 rw [Nat.shiftLeft_eq,Nat.log2_eq_iff hne];have h1:2 ^ m.log2≤m:=Nat.log2_self_le h0;have h2:m<2 ^ (m.log2+1):=Nat.lt_log2_self;refine ⟨by rw [Nat.pow_add]; exact Nat.mul_le_mul_right _ h1,?_⟩;rw [show m.log2+k+1=m.log2+1+k by omega,Nat.pow_add 2 (m.log2+1) k];exact Nat.mul_lt_mul_of_pos_right h2 hp
theorem nearest_shift (neg:Bool) {m:Nat} (h0:m≠0) (h:m<2 ^ 53) (k:Nat):
  double.nearest neg (m <<< k) (-(k:Int))=double.word neg ((m.log2+1022) * 2 ^ 52+m <<< (52-m.log2)):=by
 have hl:=log2_le h0 h;have hk:=kept_hi h0 h;have hne:m <<< k≠0:=by
  rw [Nat.shiftLeft_eq]; intro e; rcases Nat.mul_eq_zero.1 e with e | e
  ·exact h0 e
  ·have:=Nat.two_pow_pos k; omega
 unfold Format.nearest
 rw [if_neg hne,log2_shift h0,leastPlace_eq,binade_eq,infRung_eq];have hf:(double.fractionBits:Int)=52:=rfl;have hmax:max (-(k:Int)+((m.log2+k:Nat):Int)-(double.fractionBits:Int)) (-1074)=(m.log2:Int) - 52:=by rw [hf]; omega
 simp only [hmax]
 have hcut:Toward.even.cut neg (m <<< k <<< (-(k:Int)-((m.log2:Int) - 52)).toNat) (((m.log2:Int) - 52) - -(k:Int)).toNat=m <<< (52-m.log2):=by
  by_cases hc:k≤52-m.log2
  ·have e1:(-(k:Int)-((m.log2:Int) - 52)).toNat=52-m.log2-k:=by omega
   have e2:(((m.log2:Int) - 52) - -(k:Int)).toNat=0:=by omega
   rw [e1,e2,cut_zero,Nat.shiftLeft_eq,Nat.shiftLeft_eq,Nat.shiftLeft_eq,Nat.mul_assoc,←Nat.pow_add]
   congr 2; omega
  ·have e1:(-(k:Int)-((m.log2:Int) - 52)).toNat=0:=by omega
   have e2:(((m.log2:Int) - 52) - -(k:Int)).toNat=k-(52-m.log2):=by omega
   rw [e1,e2,Nat.shiftLeft_zero];have e3:m <<< k=m <<< (52-m.log2) * 2 ^ (k-(52-m.log2)):=by
    rw [Nat.shiftLeft_eq,Nat.shiftLeft_eq,Nat.mul_assoc,←Nat.pow_add]
    congr 2; omega
   rw [e3]
   apply cut_exact
   have:=kept_lo h0 h;have:=Nat.two_pow_pos 52;omega
 rw [hcut];have hn:((m.log2:Int) - 52 - -1074).toNat=m.log2+1022:=by omega
 rw [hn]
 congr 1
 have:(m.log2+1022) * 2 ^ 52≤1074 * 2 ^ 52:=Nat.mul_le_mul_right _ (by omega);omega
theorem read_word (neg:Bool) {e k:Nat} (he:e≤1074) (h1:2 ^ 52≤k) (h2:k<2 ^ 53):
  double.read (double.word neg (e * 2 ^ 52+k))=.number neg k (-1074+(e:Int)):=by
 have hlt:e * 2 ^ 52+k<2 ^ 63:=by
  have:e * 2 ^ 52≤1074 * 2 ^ 52:=Nat.mul_le_mul_right _ he;omega
 have hinf:e * 2 ^ 52+k<2047 * 2 ^ 52:=by
  have:e * 2 ^ 52≤1074 * 2 ^ 52:=Nat.mul_le_mul_right _ he;omega
 have hmod:(e * 2 ^ 52+k) % 2 ^ 52=k - 2 ^ 52:=by omega
 have hdiv:(e * 2 ^ 52+k) / 2 ^ 52=e+1:=by omega
 have hw:double.word neg (e * 2 ^ 52+k) / 2 ^ 63 % 2=if neg then 1 else 0:=by
  unfold Format.word; rw [signWeight_eq]; cases neg <;> simp <;> omega
 have hr:double.word neg (e * 2 ^ 52+k) % 2 ^ 63=e * 2 ^ 52+k:=by
  unfold Format.word; rw [signWeight_eq]; cases neg <;> simp <;> omega
 unfold Format.read
 rw [signWeight_eq,binade_eq,infRung_eq,leastPlace_eq,hw,hr]
 dsimp only
 rw [hmod,hdiv];have hneg:((if neg then 1 else 0)==1)=neg:=by cases neg <;> rfl
 simp only [hneg]
 rw [if_neg (by omega),if_pos hinf];have ek:2 ^ 52+(k - 2 ^ 52)=k:=by omega
 have ee:(e+1 - 1:Nat)=e:=rfl;rw [ek,ee]
theorem read_fl {n:Int} (h:n.natAbs<2 ^ 53):Rep (double.read (fl n)) n:=by
 by_cases h0:n=0
 ·subst h0
  obtain ⟨q,hq⟩:∃ q:Nat,q=1074:=⟨_,rfl⟩
  refine ⟨q,?_⟩;have h0:fl 0=0:=rfl;rw [h0];simp [Format.read,signWeight_eq,binade_eq,leastPlace_eq,hq]
 ·have hm:n.natAbs≠0:=by omega
  have hl:=log2_le hm h;have hs:=nearest_shift (decide (n<0)) hm h 0;simp only [Nat.shiftLeft_zero,Int.natCast_zero,Int.neg_zero] at hs
  have hr:=read_word (decide (n<0)) (e:=n.natAbs.log2+1022) (by omega) (kept_lo hm h) (kept_hi hm h);rw [fl_eq,hs,hr];have ep:(-1074+((n.natAbs.log2+1022:Nat):Int)) = -((52-n.natAbs.log2:Nat):Int):=by omega
  rw [ep];exact ⟨52-n.natAbs.log2,rfl⟩
theorem write_rep {d:Datum} {n:Int} (hd:Rep d n) (h:n.natAbs<2 ^ 53):double.write d=fl n:=by
 obtain ⟨k,rfl⟩:=hd;by_cases h0:n=0
 ·subst h0
  simp [Format.write,fl_eq,Format.nearest]
 ·have hm:n.natAbs≠0:=by omega
  have h1:=nearest_shift (decide (n<0)) hm h k;have h2:=nearest_shift (decide (n<0)) hm h 0;simp only [Nat.shiftLeft_zero,Int.natCast_zero,Int.neg_zero] at h2
  rw [fl_eq,h2];exact h1
theorem signed_rep (n:Int) (k up:Nat):signed (decide (n<0)) (n.natAbs <<< k) up=n * 2 ^ (k+up):=by
 have e:(n.natAbs <<< k) <<< up=n.natAbs * 2 ^ (k+up):=by
  rw [Nat.shiftLeft_eq,Nat.shiftLeft_eq,Nat.mul_assoc,←Nat.pow_add]
 unfold signed
 rw [e];have hc:((n.natAbs * 2 ^ (k+up):Nat):Int)=(n.natAbs:Int) * 2 ^ (k+up):=by
  rw [Int.natCast_mul]; congr 1
 rw [hc];by_cases h:n<0
 ·simp only [h,decide_true,if_true]
  rw [show (n.natAbs:Int) = -n by omega,Int.neg_mul,Int.neg_neg]
 ·simp only [h,decide_false,Bool.false_eq_true,if_false]
  rw [show (n.natAbs:Int)=n by omega]
theorem sum_rep {d e:Datum} {m n:Int} (hd:Rep d m) (he:Rep e n):∃ r,d.sum e=some r∧Rep r (m+n):=by
 obtain ⟨k,rfl⟩:=hd;obtain ⟨j,rfl⟩:=he;refine ⟨_,rfl,max k j,?_⟩;have hb:min (-(k:Int)) (-(j:Int)) = -((max k j:Nat):Int):=by omega
 have e1:(-(k:Int) - -((max k j:Nat):Int)).toNat=max k j-k:=by omega
 have e2:(-(j:Int) - -((max k j:Nat):Int)).toNat=max k j-j:=by omega
 simp only [hb,e1,e2,signed_rep]
 have s1:k+(max k j-k)=max k j:=by omega
 have s2:j+(max k j-j)=max k j:=by omega
 rw [s1,s2,←Int.add_mul];have hp:(0:Int)<2 ^ (max k j):=Int.pow_pos (by omega)
 congr 1
 ·by_cases h:m+n=0
  ·rw [h]; simp; omega
  ·have:(m+n) * 2 ^ (max k j)≠0:=by
    intro e; rcases Int.mul_eq_zero.1 e with e | e <;> omega
   rw [if_neg this]
   congr 1
   apply propext
   constructor
   ·intro hlt
    rcases Int.lt_or_le (m+n) 0 with h' | h'
    ·exact h'
    ·have:=Int.mul_nonneg h' (Int.le_of_lt hp); omega
   ·intro hlt; exact Int.mul_neg_of_neg_of_pos hlt hp
 ·rw [Int.natAbs_mul,Nat.shiftLeft_eq,Int.natAbs_pow]; rfl
theorem opposite_rep {d:Datum} {n:Int} (hd:Rep d n) (h:n≠0):Rep d.opposite (-n):=by
 obtain ⟨k,rfl⟩:=hd;refine ⟨k,?_⟩;simp only [Datum.opposite,Int.natAbs_neg]
 congr 1
 rw [←decide_not]; congr 1; apply propext; omega
theorem sub_zero_rep {d e:Datum} {m:Int} (hd:Rep d m) (he:Rep e 0):∃ r,d.sum e.opposite=some r∧Rep r m:=by
 obtain ⟨k,rfl⟩:=hd;obtain ⟨j,rfl⟩:=he;refine ⟨_,rfl,max k j,?_⟩;have hb:min (-(k:Int)) (-(j:Int)) = -((max k j:Nat):Int):=by omega
 have e1:(-(k:Int) - -((max k j:Nat):Int)).toNat=max k j-k:=by omega
 simp only [hb,e1,signed_rep]
 have s1:k+(max k j-k)=max k j:=by omega
 have s2:∀ (b:Bool) (u:Nat),signed b ((0:Int).natAbs <<< j) u=0:=by intro b u; simp [signed]
 rw [s1,s2,Int.add_zero];have hp:(0:Int)<2 ^ (max k j):=Int.pow_pos (by omega)
 congr 1
 ·by_cases h:m=0
  ·subst h; simp
  ·have:m * 2 ^ (max k j)≠0:=by
    intro e; rcases Int.mul_eq_zero.1 e with e | e <;> omega
   rw [if_neg this]
   congr 1
   apply propext
   constructor
   ·intro hlt
    rcases Int.lt_or_le m 0 with h' | h'
    ·exact h'
    ·have:=Int.mul_nonneg h' (Int.le_of_lt hp); omega
   ·intro hlt; exact Int.mul_neg_of_neg_of_pos hlt hp
 ·rw [Int.natAbs_mul,Nat.shiftLeft_eq,Int.natAbs_pow]; rfl
theorem product_rep {d e:Datum} {m n:Int} (hd:Rep d m) (he:Rep e n) (h1:0<m) (h2:0<n):∃ r,d.product e=some r∧Rep r (m * n):=by
 obtain ⟨k,rfl⟩:=hd;obtain ⟨j,rfl⟩:=he;refine ⟨_,rfl,k+j,?_⟩;have hp:=Int.mul_pos h1 h2;have es:(decide (m<0) ^^ decide (n<0))=decide (m * n<0):=by
  rw [decide_eq_false (by omega:¬ m<0),decide_eq_false (by omega:¬ n<0),decide_eq_false (by omega:¬ m * n<0)]; rfl
 have em:m.natAbs <<< k * n.natAbs <<< j=(m * n).natAbs <<< (k+j):=by
  rw [Int.natAbs_mul,Nat.shiftLeft_eq,Nat.shiftLeft_eq,Nat.shiftLeft_eq,Nat.pow_add,Nat.mul_mul_mul_comm]
 have ep : -(k:Int) + -(j:Int) = -((k+j:Nat):Int):=by omega
 rw [es,em,ep]
theorem order_rep {d e:Datum} {m n:Int} (hd:Rep d m) (he:Rep e n):d.order e=some (compare m n):=by
 obtain ⟨k,rfl⟩:=hd;obtain ⟨j,rfl⟩:=he;have hb:min (-(k:Int)) (-(j:Int)) = -((max k j:Nat):Int):=by omega
 have e1:(-(k:Int) - -((max k j:Nat):Int)).toNat=max k j-k:=by omega
 have e2:(-(j:Int) - -((max k j:Nat):Int)).toNat=max k j-j:=by omega
 simp only [Datum.order,hb,e1,e2,signed_rep]
 have s1:k+(max k j-k)=max k j:=by omega
 have s2:j+(max k j-j)=max k j:=by omega
 rw [s1,s2];have hp:(0:Int)<2 ^ (max k j):=Int.pow_pos (by omega)
 congr 1
 simp only [compare,compareOfLessAndEq]
 have l1:m * 2 ^ (max k j)<n * 2 ^ (max k j)↔m<n:=⟨fun h=>Int.lt_of_mul_lt_mul_right h (Int.le_of_lt hp),fun h=>Int.mul_lt_mul_of_pos_right h hp⟩
 have l2:m * 2 ^ (max k j)=n * 2 ^ (max k j)↔m=n:=⟨fun h=>Int.eq_of_mul_eq_mul_right (Int.ne_of_gt hp) h,fun h=>by rw [h]⟩
 simp only [l1,l2]
def Small (n:Int):Prop:=n.natAbs<2 ^ 53
theorem fl_add {m n:Int} (hm:Small m) (hn:Small n) (h:Small (m+n)):floatBits .add .f64 (fl m) (fl n)=some (fl (m+n)):=by
 obtain ⟨r,hr,hrep⟩:=sum_rep (read_fl hm) (read_fl hn)
 show Option.map _ (Datum.sum _ _)=_
 rw [show FloatKind.f64.format=double from rfl,hr];exact congrArg some (write_rep hrep h)
theorem fl_sub {m n:Int} (hm:Small m) (hn:Small n) (h:Small (m-n)):floatBits .sub .f64 (fl m) (fl n)=some (fl (m-n)):=by
 show Option.map _ (Datum.sum _ _)=_
 rw [show FloatKind.f64.format=double from rfl];by_cases h0:n=0
 ·subst h0
  obtain ⟨r,hr,hrep⟩:=sub_zero_rep (read_fl hm) (read_fl hn);rw [hr,Int.sub_zero];exact congrArg some (write_rep hrep hm)
 ·obtain ⟨r,hr,hrep⟩:=sum_rep (read_fl hm) (opposite_rep (read_fl hn) h0)
  rw [hr];rw [←Int.sub_eq_add_neg] at hrep;exact congrArg some (write_rep hrep h)
theorem fl_mul {m n:Int} (hm:Small m) (hn:Small n) (h1:0<m) (h2:0<n) (h:Small (m * n)):floatBits .mul .f64 (fl m) (fl n)=some (fl (m * n)):=by
 obtain ⟨r,hr,hrep⟩:=product_rep (read_fl hm) (read_fl hn) h1 h2
 show Option.map _ (Datum.product _ _)=_
 rw [show FloatKind.f64.format=double from rfl,hr];exact congrArg some (write_rep hrep h)
theorem fl_order {m n:Int} (hm:Small m) (hn:Small n):double.order (fl m) (fl n)=some (compare m n):=order_rep (read_fl hm) (read_fl hn)
theorem fl_eqB {m n:Int} (hm:Small m) (hn:Small n):(double.order (fl m) (fl n)==some Ordering.eq)=decide (m=n):=by
 rw [fl_order hm hn];simp only [compare,compareOfLessAndEq]
 by_cases h:m=n
 ·subst h; simp
 ·by_cases h':m<n <;> simp [h,h']
theorem fl_sum {a b c d:Int} (ha:Small a) (hb:Small b) (hc:Small c) (hd:Small d) (h1:Small (a+c)) (h2:Small (b+d)):
  cSumBits .add .f64 (fl a) (fl b) (fl c) (fl d)=some (fl (a+c),fl (b+d)):=by
 unfold cSumBits
 rw [fl_add ha hc h1,fl_add hb hd h2]; rfl
theorem fl_square {a b:Int} (ha:0<a) (hb:0<b) (ha':a≤1048576) (hb':b≤1000):
  cMulBits (fl a) (fl b) (fl a) (fl b)=some (fl (a * a-b * b),fl (a * b+b * a)):=by
 have haa:a * a≤1048576 * 1048576:=Int.mul_le_mul ha' ha' (by omega) (by omega);have hbb:b * b≤1000 * 1000:=Int.mul_le_mul hb' hb' (by omega) (by omega);have hab:a * b≤1048576 * 1000:=Int.mul_le_mul ha' hb' (by omega) (by omega);have hba:b * a≤1000 * 1048576:=Int.mul_le_mul hb' ha' (by omega) (by omega);have paa:=Int.mul_pos ha ha;have pbb:=Int.mul_pos hb hb;have pab:=Int.mul_pos ha hb;have pba:=Int.mul_pos hb ha;unfold cMulBits
 rw [fl_mul (by unfold Small; omega) (by unfold Small; omega) ha ha (by unfold Small; omega),
  fl_mul (by unfold Small; omega) (by unfold Small; omega) hb hb (by unfold Small; omega),
  fl_mul (by unfold Small; omega) (by unfold Small; omega) ha hb (by unfold Small; omega),
  fl_mul (by unfold Small; omega) (by unfold Small; omega) hb ha (by unfold Small; omega)]
 simp only [Option.bind_some]
 rw [fl_sub (by unfold Small; omega) (by unfold Small; omega) (by unfold Small; omega),
  fl_add (by unfold Small; omega) (by unfold Small; omega) (by unfold Small; omega)]
 rfl
end Go.Proofs.YtemicfjmidohfaaGreatDoor
