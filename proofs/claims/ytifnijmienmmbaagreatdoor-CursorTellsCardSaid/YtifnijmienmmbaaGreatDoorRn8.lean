import Derived.Test.YtifnijmienmmbaaGreatDoorLText
import Derived.Laws.Cover4
import Derived.Lib.DecodeN
set_option maxHeartbeats 12800000
namespace Go.Proofs.YtifnijmienmmbaaGreatDoor
open Go Go.Proofs Go.RowKit
def ChrB (r:Int):Prop:=(0≤r∧r<55296)∨(57344≤r∧r≤1114111)
theorem get_at (p e q:List UInt8) (k:Nat) (hk:k<e.length):(⟨(p++e++q).toArray⟩:ByteArray).get! (p.length+k)=e[k]:=by
 show (p++e++q).toArray[p.length+k]! = e[k]
 rw [List.getElem!_toArray,List.getElem!_eq_getElem?_getD,List.append_assoc,List.getElem?_append_right (by omega),Nat.add_sub_cancel_left,List.getElem?_append_left hk,List.getElem?_eq_getElem hk];rfl
theorem enc_nat {x:Int} (h0:0≤x) (h1:x<256):(x.toNat.toUInt8).toNat=x.toNat:=by
 rw [Nat.toUInt8_eq,UInt8.toNat_ofNat'];omega
theorem dec_enc {r:Int} (h:ChrB r) (p q:List UInt8):Utf8.decode ⟨(p++Lib.encodeRune r++q).toArray⟩ p.length=(r.toNat,(Lib.encodeRune r).length):=by
 have hsz:(⟨(p++Lib.encodeRune r++q).toArray⟩:ByteArray).size-p.length=(Lib.encodeRune r).length+q.length:=by
  show (p++Lib.encodeRune r++q).toArray.size-p.length=_
  simp
 have g:=fun k hk=>get_at p (Lib.encodeRune r) q k hk
 rw [Lib.decode_at,hsz];unfold ChrB at h
 rcases Int.lt_or_le r 128 with h1 | h1
 ·have e:Lib.encodeRune r=[r.toNat.toUInt8]:=by unfold Lib.encodeRune; rw [Lib.encodeRuneZ_one (by omega) (by omega)]; rfl
  have g0:=g 0 (by rw [e]; simp);simp only [e,List.getElem_cons_zero,Nat.add_zero] at g0 ⊢
  rw [g0,enc_nat (by omega) (by omega)];unfold Lib.decodeN
  rw [if_pos (by omega)];rfl
 ·rcases Int.lt_or_le r 2048 with h2 | h2
  ·have e:Lib.encodeRune r=[(192+r / 64).toNat.toUInt8,(128+r % 64).toNat.toUInt8]:=by unfold Lib.encodeRune; rw [Lib.encodeRuneZ_two (by omega) (by omega)]; rfl
   have g0:=g 0 (by rw [e]; simp);have g1:=g 1 (by rw [e]; simp);simp only [e,List.getElem_cons_zero,List.getElem_cons_succ,Nat.add_zero,List.length_cons,List.length_nil] at g0 g1 ⊢
   rw [g0,g1,enc_nat (by omega) (by omega),enc_nat (by omega) (by omega)];unfold Lib.decodeN
   rw [if_neg (by omega),if_pos (by omega),if_pos (by omega)];exact Prod.ext (by show _=r.toNat; omega) rfl
  ·rcases Int.lt_or_le r 65536 with h3 | h3
   ·have e:Lib.encodeRune r=[(224+r / 4096).toNat.toUInt8,(128+r / 64 % 64).toNat.toUInt8,(128+r % 64).toNat.toUInt8]:=by unfold Lib.encodeRune; rw [Lib.encodeRuneZ_three (by omega)]; rfl
    have g0:=g 0 (by rw [e]; simp);have g1:=g 1 (by rw [e]; simp);have g2:=g 2 (by rw [e]; simp);simp only [e,List.getElem_cons_zero,List.getElem_cons_succ,Nat.add_zero,List.length_cons,List.length_nil] at g0 g1 g2 ⊢
    rw [g0,g1,g2,enc_nat (by omega) (by omega),enc_nat (by omega) (by omega),enc_nat (by omega) (by omega)];unfold Lib.decodeN
    rw [if_neg (by omega),if_neg (by omega),if_pos (by omega),if_pos (by omega)];exact Prod.ext (by show _=r.toNat; omega) rfl
   ·have e:Lib.encodeRune r=[(240+r / 262144).toNat.toUInt8,(128+r / 4096 % 64).toNat.toUInt8,(128+r / 64 % 64).toNat.toUInt8,(128+r % 64).toNat.toUInt8]:=by unfold Lib.encodeRune; rw [Lib.encodeRuneZ_four (by omega) (by omega)]; rfl
    have g0:=g 0 (by rw [e]; simp);have g1:=g 1 (by rw [e]; simp);have g2:=g 2 (by rw [e]; simp);have g3:=g 3 (by rw [e]; simp);simp only [e,List.getElem_cons_zero,List.getElem_cons_succ,Nat.add_zero,List.length_cons,List.length_nil] at g0 g1 g2 g3 ⊢
    rw [g0,g1,g2,g3,enc_nat (by omega) (by omega),enc_nat (by omega) (by omega),enc_nat (by omega) (by omega),enc_nat (by omega) (by omega)];unfold Lib.decodeN
    rw [if_neg (by omega),if_neg (by omega),if_neg (by omega),if_pos (by omega),if_pos (by omega)];exact Prod.ext (by show _=r.toNat; omega) rfl
theorem enc_len (r:Int):1≤(Lib.encodeRune r).length∧(Lib.encodeRune r).length≤4:=by
 have:=Lib.encodeRuneZ_length r;unfold Lib.encodeRune; rw [List.length_map]; exact this
theorem runes_back:∀ (rs:List Int),(∀ r∈rs,ChrB r)→∀ (p:List UInt8) (bound:Nat) (acc:Array Value),rs.length≤bound →
  Conv.runesFrom ⟨(p++rs.flatMap Lib.encodeRune).toArray⟩ bound p.length acc=acc++(rs.map (Value.int .i32)).toArray
 | [],_,p,bound,acc,_=>by
  cases bound with
  | zero=>simp [Conv.runesFrom]
  | succ b=>
   unfold Conv.runesFrom
   rw [if_neg (by show ¬ p.length<(p++[]).toArray.size; simp)];simp
 | r::rs,hv,p,bound,acc,hb=>by
  match bound,hb with
  | b+1,hb=>
   have hr:=hv r (List.mem_cons_self ..);have hl:=enc_len r;have hd:=dec_enc hr p (rs.flatMap Lib.encodeRune);have e:p++(r::rs).flatMap Lib.encodeRune=p++Lib.encodeRune r++rs.flatMap Lib.encodeRune:=by rw [List.flatMap_cons,List.append_assoc]
   have ih:=runes_back rs (fun x hx=>hv x (List.mem_cons_of_mem _ hx)) (p++Lib.encodeRune r) b (acc.push (.int .i32 r)) (by simpa using hb);rw [e];unfold Conv.runesFrom
   rw [if_pos (by show p.length<(p++Lib.encodeRune r++rs.flatMap Lib.encodeRune).toArray.size; simp; omega),hd];have hr0:Int.ofNat r.toNat=r:=by unfold ChrB at hr; show (r.toNat:Int)=r; omega
   show Conv.runesFrom _ b (p.length+(Lib.encodeRune r).length) (acc.push (.int .i32 (Int.ofNat r.toNat)))=_
   rw [hr0,←List.length_append,ih];simp
theorem enc_eq {r:Int} (h:ChrB r):Utf8.encode r=⟨(Lib.encodeRune r).toArray⟩:=by
 unfold ChrB at h
 have hv:Utf8.valid r=true:=by simp only [Utf8.valid,Bool.or_eq_true,Bool.and_eq_true,decide_eq_true_eq]; omega
 unfold Utf8.encode
 simp only [hv,if_true]
 rcases Int.lt_or_le r 128 with h1 | h1
 ·rw [if_pos (by omega)]
  unfold Lib.encodeRune; rw [Lib.encodeRuneZ_one (by omega) (by omega)]; rfl
 ·rcases Int.lt_or_le r 2048 with h2 | h2
  ·rw [if_neg (by omega),if_pos (by omega)]
   unfold Lib.encodeRune; rw [Lib.encodeRuneZ_two (by omega) (by omega)]
   simp only [List.map_cons,List.map_nil,Nat.toUInt8_eq]
   rw [show (192+r / 64).toNat=192+r.toNat / 64 by omega,show (128+r % 64).toNat=128+r.toNat % 64 by omega]
  ·rcases Int.lt_or_le r 65536 with h3 | h3
   ·rw [if_neg (by omega),if_neg (by omega),if_pos (by omega)]
    unfold Lib.encodeRune; rw [Lib.encodeRuneZ_three (by omega)]
    simp only [List.map_cons,List.map_nil,Nat.toUInt8_eq]
    rw [show (224+r / 4096).toNat=224+r.toNat / 4096 by omega,show (128+r / 64 % 64).toNat=128+r.toNat / 64 % 64 by omega,show (128+r % 64).toNat=128+r.toNat % 64 by omega]
   ·rw [if_neg (by omega),if_neg (by omega),if_neg (by omega)]
    unfold Lib.encodeRune; rw [Lib.encodeRuneZ_four (by omega) (by omega)]
    simp only [List.map_cons,List.map_nil,Nat.toUInt8_eq]
    rw [show (240+r / 262144).toNat=240+r.toNat / 262144 by omega,show (128+r / 4096 % 64).toNat=128+r.toNat / 4096 % 64 by omega,show (128+r / 64 % 64).toNat=128+r.toNat / 64 % 64 by omega,show (128+r % 64).toNat=128+r.toNat % 64 by omega]
theorem bytes_of {rs:List Int} (h:∀ r∈rs,ChrB r):runesBytes rs=⟨(rs.flatMap Lib.encodeRune).toArray⟩:=by
 have H:∀ (rs:List Int),(∀ r∈rs,ChrB r)→∀ (p:List UInt8),rs.foldl (fun r n=>r++Utf8.encode n) (⟨p.toArray⟩:ByteArray)=⟨(p++rs.flatMap Lib.encodeRune).toArray⟩:=by
  intro rs
  induction rs with
  | nil=>intro _ p; simp
  | cons r rs ih=>
   intro hv p
   rw [List.foldl_cons,enc_eq (hv r (List.mem_cons_self ..))];have e:(⟨p.toArray⟩:ByteArray)++⟨(Lib.encodeRune r).toArray⟩=⟨(p++Lib.encodeRune r).toArray⟩:=by
    apply ByteArray.ext
    simp [ByteArray.data_append]
   rw [e,ih (fun x hx=>hv x (List.mem_cons_of_mem _ hx)),List.flatMap_cons,List.append_assoc]
 exact H rs h []
def alv (L:List El):List Int:=(L.filter fun x => !x.d).map fun x=>x.ch
theorem txt_alv (L:List El):txtL L=(alv L).flatMap Lib.encodeRune:=by
 unfold txtL alv
 induction L with
 | nil=>rfl
 | cons x L ih=>
  rw [List.flatMap_cons,ih]
  cases h:x.d with
  | true=>simp [chL,h]
  | false=>simp [chL,h]
end Go.Proofs.YtifnijmienmmbaaGreatDoor
