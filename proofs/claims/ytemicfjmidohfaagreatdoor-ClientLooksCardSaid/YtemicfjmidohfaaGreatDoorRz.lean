import Derived.Test.YtemicfjmidohfaaGreatDoorLBase
import Derived.Deep.CutRange
import Derived.Deep.MidRow
import Derived.Deep.OwnRows
import Derived.Test.YtemicfjmidohfaaGreatDoorVz
set_option maxRecDepth 100000
set_option maxHeartbeats 12800000
namespace Go.Proofs.YtemicfjmidohfaaGreatDoor
open Go Go.Proofs Go.RowKit
structure Ac where
 t:Int
 k:Int
 l:Int
def acL (x:Ac):List Value:=[.int .i64 x.t,.int .i64 x.k,.int .i64 x.l]
theorem acL_len (x:Ac):(acL x).length=3:=rfl
theorem ac_one (x:Ac):∀ u∈acL x,u.oneCell'=true:=by intro u hu; simp [acL] at hu; rcases hu with rfl | rfl | rfl <;> rfl
def IsAc (W:World) (v:Value) (L:List Ac):Prop:=∃ ad cap,v=.slice ad L.length cap∧L.length≤cap∧cap≤9223372036854775807 ∧
 (L≠[]→∃ b off,ad=some ⟨b,off,none⟩∧b<W.heap.size∧∀ j (hj:j<L.length),W.cell? ⟨b,off+j * 3,none⟩=some (.int .i64 L[j].t)∧W.cell? ⟨b,off+j * 3+1,none⟩=some (.int .i64 L[j].k)∧W.cell? ⟨b,off+j * 3+2,none⟩=some (.int .i64 L[j].l))
theorem IsAc.next {W W':World} {v:Value} {L:List Ac} (h:IsAc W v L) (hb:Below W.heap.size W W'):IsAc W' v L:=by
 obtain ⟨ad,cap,e,h1,h2,h3⟩:=h;refine ⟨ad,cap,e,h1,h2,fun hA=>?_⟩;obtain ⟨b,off,e2,h4,h5⟩:=h3 hA;exact ⟨b,off,e2,Nat.lt_of_lt_of_le h4 hb.size,fun j hj=>⟨(hb.cell (p:=⟨b,off+j * 3,none⟩) h4).trans (h5 j hj).1,(hb.cell (p:=⟨b,off+j * 3+1,none⟩) h4).trans (h5 j hj).2.1,(hb.cell (p:=⟨b,off+j * 3+2,none⟩) h4).trans (h5 j hj).2.2⟩⟩
theorem IsAc.of_sl {W:World} {v:Value} {L:List Ac} {t:TypeId} (h:Sl t 3 acL W v L):IsAc W v L:=by
 obtain ⟨ad,cap,rfl,h1,h2⟩:=h.form;refine ⟨ad,cap,rfl,h1,h2,fun hA=>?_⟩;have hpos:0<L.length:=List.length_pos_iff.2 hA;obtain ⟨g,e,hg,_⟩:=Sl.cell acL_len h 0 hpos;refine ⟨g,0,e,hg,fun j hj=>?_⟩;obtain ⟨g',e',_,hc⟩:=Sl.cell acL_len h j hj;rw [e] at e';simp only [Option.some.injEq,Addr.mk.injEq] at e'
 obtain ⟨rfl,-,-⟩:=e';simp only [Nat.zero_add]
 exact ⟨hc 0 (by omega),hc 1 (by omega),hc 2 (by omega)⟩
def mayA1 (x:Ac):Bool:=decide (0≤x.t∧x.t≤15∧0≤x.k∧x.k≤3)
def mayAc (L:List Ac):Bool:=L.all mayA1
def zAc:Value:=.agg #[.int .i64 0,.int .i64 0,.int .i64 0]
theorem infoAc:(Tryz.prog.info? 137).map (fun i=>(i.zero,i.size,i.bytes))=some (some zAc,3,24):=by kernel_rfl
theorem info_parts14 {P:Program} {e:TypeId} {z:Value} {s b:Nat} (h:(P.info? e).map (fun i=>(i.zero,i.size,i.bytes))=some (some z,s,b)):∃ i,P.info? e=some i∧i.zero=some z∧i.size=s∧i.bytes=b:=by
 obtain ⟨i,hi,he⟩:=Option.map_eq_some_iff.1 h;simp only [Prod.mk.injEq] at he
 exact ⟨i,hi,he.1,he.2.1,he.2.2⟩
theorem of14_any (L:List Ac) (v:Value) (w:World) (h:IsAc w v L) (hl:L.length≤1000):
  Calls Tryz.prog 34 #[v] w fun e w'=>∃ u,e=.returned u∧Sl 137 3 acL w' u L∧Below w.heap.size w w':=by
 obtain ⟨ad,cap,rfl,h1,h2,h3⟩:=h;have HL:=Lh h3;clear h3
 go_enter Tryz.func34,Tryz.ntmps34
 go_wp2_with fail
 go_loopg [3,8] L.length (fun g t3 t8 wr=>∃ k:Nat,k≤L.length∧g=L.length-k∧t8=.int .i64 (k:Int)∧wr.ownsRow w.heap.size 137 3 t3 k ((L.take k).flatMap acL)∧Below w.heap.size w wr)
 case atStart=>exact ⟨0,Nat.zero_le _,rfl,rfl,by simpa using World.ownsRow_nil _ _ _ _,Below.refl _ _⟩
 case round=>
  obtain ⟨k,hk,rfl,rfl,ho,hb⟩:=hrel;by_cases hlt:k<L.length
  ·obtain ⟨b,off,rfl,hbw,hc⟩:=HL.out (fun e=>by rw [e] at hlt; cases hlt)
   have c0:=(hb.cell (p:=⟨b,off+k * 3,none⟩) hbw).trans (hc k hlt).1;have c1:=(hb.cell (p:=⟨b,off+k * 3+1,none⟩) hbw).trans (hc k hlt).2.1;have c2:=(hb.cell (p:=⟨b,off+k * 3+2,none⟩) hbw).trans (hc k hlt).2.2;have HTK:=Lh (show (L.take (k+1)).flatMap acL=(L.take k).flatMap acL++acL L[k] by rw [List.take_succ_eq_append_getElem hlt,List.flatMap_append,List.flatMap_singleton]);generalize L[k]=x at *
   have HO:=Lh ho;have HB:=Lh hb;obtain ⟨i0,hi0,hz0,hz1,hz2⟩:=info_parts14 infoAc;have hsz:=hb.size;clear hc hb ho;have HA2:=Lh (fun o1 o2=>show Below wr.heap.size wr ((wr.alloc o1).alloc o2) from (bA).alloc (by simp) _);have HC2:=Lh (fun o1=>show ∀ (j:Nat) u,(acL x)[j]? = some u→((wr.alloc o1).alloc (.cells ⟨acL x⟩ 137)).cell? ((⟨wr.heap.size+1,0,none⟩:Addr).add j)=some u by
    intro j u hu
    rw [Addr.add_mid,Nat.zero_add];exact (Blk.startAt (W:=wr.alloc o1) (vs:=acL x) (b:=wr.heap.size+1) (by simp)).cell j hu)
   go_wp2_with (at_builtin; refine wpList_append_own _ rfl _ _ 63 rfl w.heap.size 137 i0 zAc 3 24 Tryz.underlying63 hi0 hz0 hz1 hz2 rfl (by decide) _ _ _ rfl (ownsRow_next HO.out (HA2.out _ _)) ⟨wr.heap.size+1,0,none⟩ 1 1 (acL x) rfl rfl (HC2.out _) (ac_one x) (by unfold maxLen; omega) (by omega) (by simp; omega) ?_; intro v4 W4 ho4 hg4 _; refine Hid.out ?_)
   have hb2:=(HA2.out (.cells ⟨acL x⟩ 179) (.cells ⟨acL x⟩ 137))
   have hg5:World.grownBy ((wr.alloc (.cells ⟨acL x⟩ 179)).alloc (.cells ⟨acL x⟩ 137)) W4 _:=hg4;have HB4:=Lh (HB.out.trans ((hb2.mono hsz).trans (Below.of_grown hg5 (Nat.le_trans hsz hb2.size) (own_ge HO.out))));rw [←HTK.out] at ho4;have HO4:=Lh ho4;clear ho4 hg4 hg5 hb2 HA2 HC2 HTK HO HB;refine Lh ?_;go_wp2_with fail
   go_roundg (L.length-(k+1))
   case measure=>omega
   case rel=>exact ⟨k+1,by omega,rfl,by go_num,HO4.out,HB4.out⟩
  ·obtain rfl:k=L.length:=by omega
   have HO:=Lh ho;have HB:=Lh hb;clear ho hb;go_wp2_with fail
   go_ret
   rw [List.take_length] at HO;exact ⟨_,rfl,Sl.of HO.out,HB.out⟩
end Go.Proofs.YtemicfjmidohfaaGreatDoor
namespace Go.Proofs.YtemicfjmidohfaaGreatDoor
open Go Go.Proofs Go.RowKit
noncomputable def cb (p:Prop):Bool := @decide p (Classical.propDecidable p)
theorem cb_pos {p:Prop} (h:p):cb p=true:=by unfold cb; exact @decide_eq_true p (Classical.propDecidable p) h
theorem cb_neg {p:Prop} (h:¬ p):cb p=false:=by unfold cb; exact @decide_eq_false p (Classical.propDecidable p) h
theorem cb_iff {p:Prop}:cb p=true↔p:=⟨fun h=>Classical.byContradiction fun hn=>(by rw [cb_neg hn] at h; cases h),cb_pos⟩
theorem cb_congr {p q:Prop} (h:p↔q):cb p=cb q:=by rw [propext h]
def acA (L:List Ac) (i:Nat):Ac:=L.getD i ⟨0,0,0⟩
theorem acA_eq {L:List Ac} {i:Nat} (h:i<L.length):L[i]=acA L i:=by unfold acA; rw [List.getD_eq_getElem?_getD,List.getElem?_eq_getElem h]; rfl
def dirP (L:List Ac) (i k:Nat):Prop:=(acA L i).t=(acA L k).t∨(acA L i).k=3∧(acA L k).k=2∧(acA L i).l=(acA L k).l
inductive Ord (L:List Ac):Nat→Nat→Prop
 | one {i k:Nat}:i<k→k<L.length→dirP L i k→Ord L i k
 | step {x i k:Nat}:Ord L x i→i<k→k<L.length→dirP L i k→Ord L x k
theorem Ord.lt {L:List Ac} {i k:Nat} (h:Ord L i k):i<k:=by
 induction h with
 | one a _ _=>exact a
 | step _ a _ _ ih=>omega
theorem Ord.len {L:List Ac} {i k:Nat} (h:Ord L i k):k<L.length:=by cases h <;> assumption
theorem Ord.trans {L:List Ac} {i j k:Nat} (h:Ord L i j) (h2:Ord L j k):Ord L i k:=by
 induction h2 with
 | one a b c=>exact .step h a b c
 | step _ a b c ih=>exact .step ih a b c
def Cd (L:List Ac) (k m x:Nat):Prop:=∃ j,m≤j∧j<k∧dirP L j k∧(x=j∨Ord L x j)
theorem cd_top {L:List Ac} {k x:Nat}:¬ Cd L k k x:=fun ⟨j,a,b,_⟩=>by omega
theorem cd_no {L:List Ac} {k m x:Nat} (h:¬ dirP L m k):Cd L k (m+1) x↔Cd L k m x:=
 ⟨fun ⟨j,a,b,c⟩=>⟨j,by omega,b,c⟩,fun ⟨j,a,b,c,d⟩=>⟨j,by rcases Nat.lt_or_eq_of_le a with a | rfl; exact a; exact absurd c h,b,c,d⟩⟩
theorem cd_yes {L:List Ac} {k m x:Nat} (hm:m<k) (h:dirP L m k):(Cd L k (m+1) x∨x=m∨Ord L x m)↔Cd L k m x:=by
 constructor
 ·rintro (⟨j,a,b,c⟩ | h2)
  ·exact ⟨j,by omega,b,c⟩
  ·exact ⟨m,Nat.le_refl _,hm,h,h2⟩
 ·rintro ⟨j,a,b,c,d⟩
  rcases Nat.lt_or_eq_of_le a with a | rfl
  ·exact .inl ⟨j,a,b,c,d⟩
  ·exact .inr d
theorem cd_zero {L:List Ac} {k x:Nat} (hk:k<L.length):Cd L k 0 x↔Ord L x k:=by
 constructor
 ·rintro ⟨j,_,b,c,rfl | d⟩
  ·exact .one b hk c
  ·exact .step d b hk c
 ·intro h
  cases h with
  | one a b c=>exact ⟨x,Nat.zero_le _,a,c,.inl rfl⟩
  | step d a b c=>exact ⟨_,Nat.zero_le _,a,c,.inr d⟩
def FO (L:List Ac) (k x c:Nat):Prop:=c<k∧Ord L x c
def FM (L:List Ac) (k m x c:Nat):Prop:=FO L k x c∨c=k∧Cd L k m x
def FI (L:List Ac) (k m y x c:Nat):Prop:=FM L k (m+1) x c∨c=k∧(x=m∨x<y∧Ord L x m)
theorem fm_top {L:List Ac} {k x c:Nat}:FO L k x c↔FM L k k x c:=⟨.inl,fun h=>h.elim id fun h=>absurd h.2 cd_top⟩
theorem fm_no {L:List Ac} {k m x c:Nat} (h:¬ dirP L m k):FM L k (m+1) x c↔FM L k m x c:=by unfold FM; rw [cd_no h]
theorem fi_start {L:List Ac} {k m x c:Nat}:(FM L k (m+1) x c∨x=m∧c=k)↔FI L k m 0 x c:=by
 unfold FI
 constructor
 ·rintro (h | ⟨a,b⟩)
  ·exact .inl h
  ·exact .inr ⟨b,.inl a⟩
 ·rintro (h | ⟨a,b | ⟨b,_⟩⟩)
  ·exact .inl h
  ·exact .inr ⟨b,a⟩
  ·omega
theorem fi_at {L:List Ac} {k m y:Nat} (hm:m<k):FI L k m y y m↔Ord L y m:=by
 unfold FI FM FO
 constructor
 ·rintro ((h | h) | h)
  ·exact h.2
  ·omega
  ·omega
 ·intro h; exact .inl (.inl ⟨hm,h⟩)
theorem fi_yes {L:List Ac} {k m y x c:Nat} (h:Ord L y m):(FI L k m y x c∨x=y∧c=k)↔FI L k m (y+1) x c:=by
 unfold FI
 constructor
 ·rintro ((h2 | ⟨a,b | ⟨b,d⟩⟩) | ⟨rfl,b⟩)
  ·exact .inl h2
  ·exact .inr ⟨a,.inl b⟩
  ·exact .inr ⟨a,.inr ⟨by omega,d⟩⟩
  ·exact .inr ⟨b,.inr ⟨by omega,h⟩⟩
 ·rintro (h2 | ⟨a,b | ⟨b,d⟩⟩)
  ·exact .inl (.inl h2)
  ·exact .inl (.inr ⟨a,.inl b⟩)
  ·by_cases e:x=y
   ·exact .inr ⟨e,a⟩
   ·exact .inl (.inr ⟨a,.inr ⟨by omega,d⟩⟩)
theorem fi_no {L:List Ac} {k m y x c:Nat} (h:¬ Ord L y m):FI L k m y x c↔FI L k m (y+1) x c:=by
 unfold FI
 constructor
 ·rintro (h2 | ⟨a,b | ⟨b,d⟩⟩)
  ·exact .inl h2
  ·exact .inr ⟨a,.inl b⟩
  ·exact .inr ⟨a,.inr ⟨by omega,d⟩⟩
 ·rintro (h2 | ⟨a,b | ⟨b,d⟩⟩)
  ·exact .inl h2
  ·exact .inr ⟨a,.inl b⟩
  ·by_cases e:x=y
   ·subst e; exact absurd d h
   ·exact .inr ⟨a,.inr ⟨by omega,d⟩⟩
theorem fi_end {L:List Ac} {k m x c:Nat} (hm:m<k) (h:dirP L m k):FI L k m m x c↔FM L k m x c:=by
 unfold FI FM
 rw [←cd_yes hm h]
 constructor
 ·rintro ((h2 | ⟨a,b⟩) | ⟨a,b | ⟨b,d⟩⟩)
  ·exact .inl h2
  ·exact .inr ⟨a,.inl b⟩
  ·exact .inr ⟨a,.inr (.inl b)⟩
  ·exact .inr ⟨a,.inr (.inr d)⟩
 ·rintro (h2 | ⟨a,b | b | b⟩)
  ·exact .inl (.inl h2)
  ·exact .inl (.inr ⟨a,b⟩)
  ·exact .inr ⟨a,.inl b⟩
  ·exact .inr ⟨a,.inr ⟨b.lt,b⟩⟩
theorem fo_next {L:List Ac} {k x c:Nat} (hk:k<L.length):FM L k 0 x c↔FO L (k+1) x c:=by
 unfold FM FO
 rw [cd_zero hk]
 constructor
 ·rintro (⟨a,b⟩ | ⟨rfl,b⟩)
  ·exact ⟨by omega,b⟩
  ·exact ⟨by omega,b⟩
 ·rintro ⟨a,b⟩
  by_cases e:c=k
  ·subst e; exact .inr ⟨rfl,b⟩
  ·exact .inl ⟨by omega,b⟩
theorem rowIs_next {W W':World} {b n:Nat} {t:TypeId} {f:Nat→Value} (h:W.rowIs b t n f) (hb:Below W.heap.size W W'):W'.rowIs b t n f:=h.of_block (hb.block b h.lt)
theorem made_rep (z:Value) (n:Nat):madeCells #[z] n=⟨List.replicate n z⟩:=by
 apply Array.ext
 ·simp [size_madeCells]
 ·intro i h1 h2; simp [madeCells,Nat.mod_one]
end Go.Proofs.YtemicfjmidohfaaGreatDoor
namespace Go.Proofs.YtemicfjmidohfaaGreatDoor
open Go Go.Proofs Go.RowKit
theorem IsAc.at {W:World} {ad:Option Addr} {n cap:Nat} {L:List Ac} (hn:L.length=n) (h:IsAc W (.slice ad n cap) L) (hA:0<n):∃ b off,ad=some ⟨b,off,none⟩∧b<W.heap.size∧∀ i,i<n→W.cell? ⟨b,off+i * 3,none⟩=some (.int .i64 (acA L i).t)∧W.cell? ⟨b,off+i * 3+1,none⟩=some (.int .i64 (acA L i).k)∧W.cell? ⟨b,off+i * 3+2,none⟩=some (.int .i64 (acA L i).l):=by
 subst hn;obtain ⟨ad',cap',e,h1,h2,h3⟩:=h;simp only [Value.slice.injEq,true_and] at e
 obtain ⟨rfl,rfl⟩:=e;obtain ⟨b,off,e2,hb,hc⟩:=h3 (List.length_pos_iff.1 hA);exact ⟨b,off,e2,hb,fun i hi=>by have:=hc i hi; rwa [acA_eq hi] at this⟩
end Go.Proofs.YtemicfjmidohfaaGreatDoor
namespace Go.Proofs.YtemicfjmidohfaaGreatDoor
open Go Go.Proofs Go.RowKit
def raceP (L:List Ac) (i k:Nat):Prop:=((acA L i).k<2∧(acA L k).k<2∧(acA L i).l=(acA L k).l∧((acA L i).k=1∨(acA L k).k=1))∧¬ Ord L i k∧¬ Ord L k i
def anyR (L:List Ac):Prop:=∃ i k,i<k∧k<L.length∧raceP L i k
noncomputable def codeL (L:List Ac):Int:=if mayAc L=false then 1 else if cb (anyR L)=true then 13 else 0
theorem code_form {L:List Ac} (h:mayAc L=false):codeL L=1:=if_pos h
theorem code_race {L:List Ac} (h:mayAc L=true) (h2:anyR L):codeL L=13:=by unfold codeL; rw [if_neg (by simp [h]),if_pos (cb_pos h2)]
theorem code_ok {L:List Ac} (h:mayAc L=true) (h2:¬ anyR L):codeL L=0:=by unfold codeL; rw [if_neg (by simp [h]),if_neg (by simp [cb_neg h2])]
end Go.Proofs.YtemicfjmidohfaaGreatDoor
namespace Go.Proofs.YtemicfjmidohfaaGreatDoor
open Go Go.Proofs Go.RowKit
def aheadP (L:List Ac) (i k:Int):Prop:=mayAc L=true∧0≤i∧0≤k∧k<L.length∧Ord L i.toNat k.toNat
def goodK (L:List Ac) (k:Int):Prop:=codeL L=0∧0≤k∧k<L.length∧(acA L k.toNat).k=0
def wrK (L:List Ac) (k j:Nat):Prop:=j<L.length∧(acA L j).k=1∧(acA L j).l=(acA L k).l
def seenP (L:List Ac) (k i:Int):Prop:=(¬ goodK L k→i = -1)∧(goodK L k→(i = -1∧∀ j,wrK L k.toNat j→¬ Ord L j k.toNat)∨∃ j:Nat,i=j∧wrK L k.toNat j∧Ord L j k.toNat∧∀ x,wrK L k.toNat x→Ord L x k.toNat→x≤j)
def LocOk (L:List Ac):Prop:=∀ x∈L,-9223372036854775808≤x.l∧x.l≤9223372036854775807
def RFirstOk:Prop:=∀ (L:List Ac) (v:Value) (w:World),L.length≤300→LocOk L→IsAc w v L→Calls Tryz.prog 86 #[v] w fun e w'=>∃ a b,e=.returned (.tuple #[a,b,.int .i64 (codeL L)])∧Below w.heap.size w w'
structure RAll:Prop where
 first:RFirstOk
def Awake14Ok:Prop:=∀ w:World,Calls Tryz.prog 32 #[] w (Rt (.bool true) w)
theorem race_sym {L:List Ac} {i k:Nat}:raceP L i k→raceP L k i:=fun ⟨⟨a,b,c,d⟩,e,f⟩=>⟨⟨b,a,c.symm,d.symm⟩,f,e⟩
theorem code_zero {L:List Ac} (h:codeL L=0):mayAc L=true∧¬ anyR L:=by
 cases em:mayAc L
 ·rw [code_form em] at h; cases h
 ·exact ⟨rfl,fun hr=>by rw [code_race em hr] at h; cases h⟩
theorem no_race {L:List Ac} (h:codeL L=0) {i k:Nat} (hi:i<L.length) (hk:k<L.length) (hne:i≠k) (a:(acA L i).k<2) (b:(acA L k).k<2) (c:(acA L i).l=(acA L k).l) (d:(acA L i).k=1∨(acA L k).k=1):Ord L i k∨Ord L k i:=by
 refine Classical.byContradiction fun hn=>(code_zero h).2 ?_
 have hr:raceP L i k:=⟨⟨a,b,c,d⟩,fun o=>hn (.inl o),fun o=>hn (.inr o)⟩
 rcases Nat.lt_or_gt_of_ne hne with hlt | hlt
 ·exact ⟨i,k,hlt,hk,hr⟩
 ·exact ⟨k,i,hlt,hi,race_sym hr⟩
theorem sees_other {L:List Ac} {k j x:Nat} (hg:goodK L (k:Int)) (hj:wrK L k j) (hmax:∀ x,wrK L k x→Ord L x k→x≤j) (hx:wrK L k x) (hne:x≠j):Ord L x j∨Ord L k x:=by
 have hk:k<L.length:=by have:=hg.2.2.1; omega
 have h0:(acA L k).k=0:=by have:=hg.2.2.2; rwa [Int.toNat_natCast] at this
 rcases no_race hg.1 hx.1 hj.1 hne (by rw [hx.2.1]; decide) (by rw [hj.2.1]; decide) (hx.2.2.trans hj.2.2.symm) (.inl hx.2.1) with h | h
 ·exact .inl h
 ·have hkx:x≠k:=fun e=>by rw [e] at hx; rw [hx.2.1] at h0; cases h0
  rcases no_race hg.1 hx.1 hk hkx (by rw [hx.2.1]; decide) (by rw [h0]; decide) hx.2.2 (.inl hx.2.1) with h2 | h2
  ·have:=hmax x hx h2; have:=h.lt; omega
  ·exact .inr h2
end Go.Proofs.YtemicfjmidohfaaGreatDoor
set_option maxRecDepth 100000
set_option maxHeartbeats 12800000
namespace Go.Proofs.YtemicfjmidohfaaGreatDoor
open Go Go.Proofs Go.RowKit
theorem isac_blk {W:World} {b:Nat} {L:List Ac} {t:TypeId} (h:Blk W b (L.flatMap acL) t) (hl:L.length≤100):IsAc W (.slice (some ⟨b,0,none⟩) L.length L.length) L:=by
 refine ⟨_,_,rfl,Nat.le_refl _,by omega,fun _=>⟨b,0,rfl,h.lt,fun j hj=>?_⟩⟩;have hc:∀ r,r<3→(L.flatMap acL)[j * 3+r]? = (acL L[j])[r]? := fun r hr=>flat_at acL_len L j r hj hr
 simp only [Nat.zero_add]
 exact ⟨h.cell _ (hc 0 (by omega)),h.cell _ (hc 1 (by omega)),h.cell _ (hc 2 (by omega))⟩
theorem isac_one (W:World) (L:List Ac) (t:TypeId) (hl:L.length≤100):IsAc (W.alloc (.cells ⟨L.flatMap acL⟩ t)) (.slice (some ⟨W.heap.size,0,none⟩) L.length L.length) L∧Below W.heap.size W (W.alloc (.cells ⟨L.flatMap acL⟩ t)):=
 ⟨isac_blk (Blk.start W _ _) hl,bA⟩
theorem code_ex1:codeL [⟨0,1,0⟩,⟨1,0,0⟩]=13:=by
 refine code_race (by decide) ⟨0,1,by decide,by decide,⟨by decide,by decide,by decide,by decide⟩,fun h=>?_,fun h=>absurd h.lt (by decide)⟩
 cases h with
 | one _ _ h=>revert h; unfold dirP; decide
 | step h1 h2 _ _=>have:=h1.lt; omega
theorem code_ex2:codeL [⟨0,1,0⟩,⟨0,3,5⟩,⟨1,2,5⟩,⟨1,0,0⟩]=0:=by
 refine code_ok (by decide) ?_
 rintro ⟨i,k,hik,hk,⟨a,b,_⟩,e,_⟩
 have hk4:k<4:=hk;have h03:Ord [⟨0,1,0⟩,⟨0,3,5⟩,⟨1,2,5⟩,⟨1,0,0⟩] 0 3:=
  .step (.step (.one (i:=0) (k:=1) (by decide) (by decide) (.inl (by decide))) (k:=2) (by decide) (by decide) (.inr (by decide))) (by decide) (by decide) (.inl (by decide))
 have hk':k=1∨k=2∨k=3:=by omega
 rcases hk' with rfl | rfl | rfl
 ·revert b; decide
 ·revert b; decide
 ·have hi':i=0∨i=1∨i=2:=by omega
  rcases hi' with rfl | rfl | rfl
  ·exact e h03
  ·revert a; decide
  ·revert a; decide
theorem awake14_of (HR:RAll) (h13:Awake13Ok):Awake14Ok:=by
 intro w
 have H1:=Lh (HR.first [⟨0,1,0⟩,⟨1,0,0⟩] _ _ (by decide) (by unfold LocOk; decide) (isac_one w [⟨0,1,0⟩,⟨1,0,0⟩] 179 (by decide)).1);rw [code_ex1] at H1;have HB:=Lh (isac_one w [⟨0,1,0⟩,⟨1,0,0⟩] 179 (by decide)).2;have H2:=Lh (fun W=>HR.first [⟨0,1,0⟩,⟨0,3,5⟩,⟨1,2,5⟩,⟨1,0,0⟩] _ _ (by decide) (by unfold LocOk; decide) (isac_one W [⟨0,1,0⟩,⟨0,3,5⟩,⟨1,2,5⟩,⟨1,0,0⟩] 179 (by decide)).1);rw [code_ex2] at H2;have HB2:=Lh (fun W=>(isac_one W [⟨0,1,0⟩,⟨0,3,5⟩,⟨1,2,5⟩,⟨1,0,0⟩] 179 (by decide)).2);have H13:=Lh h13;clear HR h13
 go_enter Tryz.func32,Tryz.ntmps32
 go_upto_region 2 with (go_at_call 86; refine H1.out.mono ?_; rintro e w1 ⟨a1,b1,rfl,hb⟩)
 have HC1:=Lh (HB.out.trans (hb.mono HB.out.size));have HC2:=Lh (HC1.out.trans ((HB2.out w1).mono HC1.out.size));have H2W:=Lh (H2.out w1);clear hb H1 HB H2 HB2
 go_upto_region 3 with (go_at_call 86; refine H2W.out.mono ?_; rintro e w2 ⟨a2,b2,rfl,hb⟩)
 have HC3:=Lh (HC2.out.trans (hb.mono HC2.out.size));clear hb HC2 H2W;go_wp2_with (go_at_call 87; refine (H13.out w2).mono ?_; rintro e w3 ⟨rfl,hb⟩)
 go_ret
 exact ⟨rfl,HC3.out.trans (hb.mono HC3.out.size)⟩
end Go.Proofs.YtemicfjmidohfaaGreatDoor
namespace Go.Proofs.YtemicfjmidohfaaGreatDoor
open Go Go.Proofs Go.RowKit
def Know (L:List Ac) (k i:Nat):Prop:=i=k∨Ord L i k
def Kn (L:List Ac) (k:Nat) (t:Int) (i:Nat):Prop:=∃ j,j<k∧(acA L j).t=t∧Know L j i
def Sg (L:List Ac) (k:Nat) (l:Int) (i:Nat):Prop:=∃ j,j<k∧(acA L j).k=3∧(acA L j).l=l∧Know L j i
theorem know_iff {L:List Ac} {k i:Nat} (hk:k<L.length):Know L k i↔i=k∨Kn L k (acA L k).t i∨(acA L k).k=2∧Sg L k (acA L k).l i:=by
 have hO:Ord L i k↔∃ j,j<k∧dirP L j k∧Know L j i:=by
  rw [←cd_zero hk];exact ⟨fun ⟨j,_,a,b,c⟩=>⟨j,a,b,c⟩,fun ⟨j,a,b,c⟩=>⟨j,Nat.zero_le _,a,b,c⟩⟩
 unfold Know
 rw [hO]
 constructor
 ·rintro (h | ⟨j,a,b | ⟨b1,b2,b3⟩,c⟩)
  ·exact .inl h
  ·exact .inr (.inl ⟨j,a,b,c⟩)
  ·exact .inr (.inr ⟨b2,j,a,b1,b3,c⟩)
 ·rintro (h | ⟨j,a,b,c⟩ | ⟨b2,j,a,b1,b3,c⟩)
  ·exact .inl h
  ·exact .inr ⟨j,a,.inl b,c⟩
  ·exact .inr ⟨j,a,.inr ⟨b1,b2,b3⟩,c⟩
theorem kn_next {L:List Ac} {k i:Nat} {t:Int}:Kn L (k+1) t i↔Kn L k t i∨(acA L k).t=t∧Know L k i:=by
 constructor
 ·rintro ⟨j,a,b,c⟩
  by_cases e:j=k
  ·subst e; exact .inr ⟨b,c⟩
  ·exact .inl ⟨j,by omega,b,c⟩
 ·rintro (⟨j,a,b,c⟩ | ⟨b,c⟩)
  ·exact ⟨j,by omega,b,c⟩
  ·exact ⟨k,by omega,b,c⟩
theorem sg_next {L:List Ac} {k i:Nat} {l:Int}:Sg L (k+1) l i↔Sg L k l i∨((acA L k).k=3∧(acA L k).l=l)∧Know L k i:=by
 constructor
 ·rintro ⟨j,a,b,b2,c⟩
  by_cases e:j=k
  ·subst e; exact .inr ⟨⟨b,b2⟩,c⟩
  ·exact .inl ⟨j,by omega,b,b2,c⟩
 ·rintro (⟨j,a,b,b2,c⟩ | ⟨⟨b,b2⟩,c⟩)
  ·exact ⟨j,by omega,b,b2,c⟩
  ·exact ⟨k,by omega,b,b2,c⟩
theorem kn_own {L:List Ac} {k i:Nat} (hk:k<L.length):Kn L (k+1) (acA L k).t i↔Know L k i:=by
 rw [kn_next,know_iff hk]
 constructor
 ·rintro (h | ⟨_,h⟩)
  ·exact .inr (.inl h)
  ·exact h
 ·exact fun h=>.inr ⟨rfl,h⟩
def Dc (L:List Ac) (P:Nat→Prop):Prop:=∀ i j,P j→i<j→(acA L i).t=(acA L j).t→P i
theorem know_lt {L:List Ac} {k i:Nat} (h:Know L k i):i≤k:=h.elim (fun e=>Nat.le_of_eq e) (fun o=>Nat.le_of_lt o.lt)
theorem know_dc {L:List Ac} {k:Nat} (hk:k<L.length):Dc L (Know L k):=fun i j h hij ht=>by
 rcases h with rfl | h
 ·exact .inr (.one hij hk (.inl ht))
 ·exact .inr (.trans (.one hij (Nat.lt_trans h.lt h.len) (.inl ht)) h)
theorem kn_dc {L:List Ac} {k:Nat} {t:Int} (hk:k≤L.length):Dc L (Kn L k t):=fun i j ⟨x,a,b,c⟩ hij ht=>⟨x,a,b,know_dc (by omega) i j c hij ht⟩
theorem sg_dc {L:List Ac} {k:Nat} {l:Int} (hk:k≤L.length):Dc L (Sg L k l):=fun i j ⟨x,a,b,b2,c⟩ hij ht=>⟨x,a,b,b2,know_dc (by omega) i j c hij ht⟩
noncomputable def cntA (L:List Ac) (P:Nat→Prop) (u:Int):Nat:=(List.range L.length).countP fun i=>cb ((acA L i).t=u∧P i)
theorem cnt_congr {L:List Ac} {P Q:Nat→Prop} {u:Int} (h:∀ i,i<L.length→(acA L i).t=u→(P i↔Q i)):cntA L P u=cntA L Q u:=by
 unfold cntA
 refine List.countP_congr fun i hi=>?_
 rw [cb_iff,cb_iff];have hi:=List.mem_range.1 hi;exact ⟨fun ⟨a,b⟩=>⟨a,(h i hi a).1 b⟩,fun ⟨a,b⟩=>⟨a,(h i hi a).2 b⟩⟩
theorem cnt_mono {L:List Ac} {P Q:Nat→Prop} {u:Int} (h:∀ i,i<L.length→(acA L i).t=u→P i→Q i):cntA L P u≤cntA L Q u:=by
 unfold cntA
 refine List.countP_mono_left fun i hi hp=>?_
 rw [cb_iff] at hp ⊢;exact ⟨hp.1,h i (List.mem_range.1 hi) hp.1 hp.2⟩
theorem cnt_le {L:List Ac} {P:Nat→Prop} {u:Int}:cntA L P u≤L.length:=by
 unfold cntA; exact Nat.le_trans List.countP_le_length (by simp)
theorem cnt_add {L:List Ac} {P:Nat→Prop} {u:Int} {k:Nat} (hk:k<L.length) (hu:(acA L k).t=u) (hn:¬ P k):cntA L (fun i=>P i∨i=k) u=cntA L P u+1:=by
 unfold cntA
 have hs:List.range L.length=List.range' 0 k++k::List.range' (k+1) (L.length-(k+1)):=by
  rw [List.range_eq_range',show L.length=k+((L.length-(k+1))+1) by omega,←List.range'_append_1,Nat.zero_add,List.range'_succ]
  congr 3; omega
 rw [hs,List.countP_append,List.countP_append,List.countP_cons,List.countP_cons];have e1:∀ l:List Nat,k∉l→l.countP (fun i=>cb ((acA L i).t=u∧(P i∨i=k)))=l.countP (fun i=>cb ((acA L i).t=u∧P i)):=fun l hl=>by
  refine List.countP_congr fun i hi=>?_
  rw [cb_iff,cb_iff];exact ⟨fun ⟨a,b⟩=>⟨a,b.resolve_right fun e=>hl (e▸hi)⟩,fun ⟨a,b⟩=>⟨a,.inl b⟩⟩
 rw [e1 _ (by rw [List.mem_range'_1]; omega),e1 _ (by rw [List.mem_range'_1]; omega),cb_pos ⟨hu,Or.inr rfl⟩,cb_neg (fun h=>hn h.2)]
 simp; omega
theorem cnt_lt {L:List Ac} {P Q:Nat→Prop} {u:Int} (h:∀ i,i<L.length→(acA L i).t=u→P i→Q i) {k:Nat} (hk:k<L.length) (hu:(acA L k).t=u) (hq:Q k) (hn:¬ P k):cntA L P u+1≤cntA L Q u:=by
 rw [←cnt_add hk hu hn];exact cnt_mono fun i hi ht hp=>hp.elim (h i hi ht) (fun e=>e▸hq)
theorem dc_or {L:List Ac} {P Q:Nat→Prop} (hP:Dc L P) (hQ:Dc L Q) (u:Int):(∀ i,i<L.length→(acA L i).t=u→P i→Q i)∨(∀ i,i<L.length→(acA L i).t=u→Q i→P i):=by
 refine Classical.byContradiction fun hn=>?_
 obtain ⟨h1,h2⟩:=not_or.1 hn;have f:∀ A B:Nat→Prop,(¬ ∀ i,i<L.length→(acA L i).t=u→A i→B i)→∃ i,(acA L i).t=u∧A i∧¬ B i:=fun A B h=>Classical.byContradiction fun hh=>h fun i _ ht ha=>Classical.byContradiction fun hb=>hh ⟨i,ht,ha,hb⟩
 obtain ⟨i,a,b,c⟩:=f _ _ h1;obtain ⟨j,d,e,g⟩:=f _ _ h2;rcases Nat.lt_trichotomy i j with h | h | h
 ·exact c (hQ i j e h (a.trans d.symm))
 ·subst h; exact c e
 ·exact g (hP j i b h (d.trans a.symm))
theorem cnt_join {L:List Ac} {P Q:Nat→Prop} (hP:Dc L P) (hQ:Dc L Q) (u:Int):(cntA L (fun i=>P i∨Q i) u:Int)=if (cntA L P u:Int)<cntA L Q u then (cntA L Q u:Int) else cntA L P u:=by
 rcases dc_or hP hQ u with h | h
 ·have e:cntA L (fun i=>P i∨Q i) u=cntA L Q u:=cnt_congr fun i hi ht=>⟨fun hh=>hh.elim (h i hi ht) id,.inr⟩
  have:=cnt_mono h;rw [e]; split <;> omega
 ·have e:cntA L (fun i=>P i∨Q i) u=cntA L P u:=cnt_congr fun i hi ht=>⟨fun hh=>hh.elim id (h i hi ht),.inl⟩
  have:=cnt_mono h;rw [e]; split <;> omega
theorem cnt_tick {L:List Ac} {P:Nat→Prop} {k:Nat} (hk:k<L.length) (hn:¬ P k) (u:Int):cntA L (fun i=>P i∨i=k) u=if (acA L k).t=u then cntA L P u+1 else cntA L P u:=by
 split
 ·rename_i hu
  exact cnt_add hk hu hn
 ·rename_i hu
  exact cnt_congr fun i _ ht=>⟨fun h=>h.elim id fun e=>absurd (e▸ht) hu,.inl⟩
theorem cnt_ord {L:List Ac} {i k:Nat} (hik:i<k) (hk:k<L.length):Ord L i k↔cntA L (Know L i) (acA L i).t≤cntA L (Know L k) (acA L i).t:=by
 constructor
 ·intro h
  exact cnt_mono fun j _ _ hj=>hj.elim (fun e=>e▸.inr h) (fun o=>.inr (o.trans h))
 ·intro h
  refine Classical.byContradiction fun hn=>?_
  have hni:¬ Know L k i:=fun hh=>hh.elim (by omega) hn
  have:=cnt_lt (L:=L) (P:=Know L k) (Q:=Know L i) (u:=(acA L i).t) (fun j hj ht hp=>by
   rcases Nat.lt_trichotomy j i with e | e | e
   ·exact .inr (.one e (by omega) (.inl ht))
   ·exact absurd (e▸hp) hni
   ·exact absurd (know_dc hk i j hp e ht.symm) hni) (k:=i) (by omega) rfl (.inl rfl) hni
  omega
noncomputable def vecP (L:List Ac) (P:Nat→Prop):List Int:=(List.range 16).map fun u:Nat=>(cntA L P (u:Int):Int)
theorem vec_len {L:List Ac} {P:Nat→Prop}:(vecP L P).length=16:=by simp [vecP]
theorem vec_at {L:List Ac} {P:Nat→Prop} {u:Nat} (h:u<16):(vecP L P).getD u 0=cntA L P (u:Int):=by
 unfold vecP
 rw [List.getD_eq_getElem?_getD,List.getElem?_map,List.getElem?_range h]; rfl
theorem vec_congr {L:List Ac} {P Q:Nat→Prop} (h:∀ i,P i↔Q i):vecP L P=vecP L Q:=by rw [show P=Q from funext fun i=>propext (h i)]
theorem vec_in {L:List Ac} {P:Nat→Prop} (hl:L.length≤1000):∀ x∈vecP L P,0≤x∧x≤1000:=by
 intro x hx
 obtain ⟨u,_,rfl⟩:=List.mem_map.1 hx;have:=cnt_le (L:=L) (P:=P) (u:=(u:Int));omega
theorem vec_none {L:List Ac} {P:Nat→Prop} (h:∀ i,¬ P i):vecP L P=List.replicate 16 0:=by
 refine ext16 vec_len (by simp) fun j hj=>?_
 rw [vec_at hj];have:cntA L P (j:Int)=0:=by
  unfold cntA
  rw [List.countP_eq_zero];intro i _
  rw [cb_iff];exact fun hh=>h i hh.2
 rw [this];rw [List.getD_eq_getElem?_getD,List.getElem?_replicate,if_pos hj]; rfl
theorem vec_join {L:List Ac} {P Q:Nat→Prop} (hP:Dc L P) (hQ:Dc L Q):joinL (vecP L P) (vecP L Q)=vecP L fun i=>P i∨Q i:=by
 refine ext16 (join_len vec_len vec_len) vec_len fun j hj=>?_
 rw [join_at vec_len vec_len hj,vec_at hj,vec_at hj,vec_at hj,cnt_join hP hQ]
theorem vec_tick {L:List Ac} {P:Nat→Prop} {k:Nat} (hk:k<L.length) (hn:¬ P k) (h0:0≤(acA L k).t) (h1:(acA L k).t<16):tickL (vecP L P) (acA L k).t=vecP L fun i=>P i∨i=k:=by
 refine ext16 (tick_len vec_len _) vec_len fun j hj=>?_
 rw [tick_at vec_len h0 h1 j hj,vec_at hj,vec_at hj,cnt_tick hk hn];by_cases e:j=(acA L k).t.toNat
 ·rw [if_pos e,if_pos (by omega)]; simp
 ·rw [if_neg e,if_neg (by omega)]
theorem vec_ord {L:List Ac} {i k:Nat} (hik:i<k) (hk:k<L.length) (h0:0≤(acA L i).t) (h1:(acA L i).t<16):Ord L i k↔(vecP L (Know L i)).getD (acA L i).t.toNat 0≤(vecP L (Know L k)).getD (acA L i).t.toNat 0:=by
 rw [vec_at (by omega),vec_at (by omega),cnt_ord hik hk,show (((acA L i).t.toNat:Nat):Int)=(acA L i).t by omega];omega
end Go.Proofs.YtemicfjmidohfaaGreatDoor
