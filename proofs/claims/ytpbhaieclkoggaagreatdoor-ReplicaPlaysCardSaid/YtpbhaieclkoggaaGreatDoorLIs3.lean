import Derived.Deep.DeepCutAuto
import Derived.Test.YtpbhaieclkoggaaGreatDoorLRef
import Derived.Test.YtpbhaieclkoggaaGreatDoorLText
set_option maxHeartbeats 12800000
namespace Go.Proofs.YtpbhaieclkoggaaGreatDoor
open Go Go.Proofs Go.RowKit
theorem str_app (a b:List UInt8):(⟨a.toArray⟩:ByteArray)++⟨b.toArray⟩=⟨(a++b).toArray⟩:=by
 apply ByteArray.ext
 simp [ByteArray.data_append]
theorem str_len (a:List UInt8):(⟨a.toArray⟩:ByteArray).size=a.length:=by show a.toArray.size=_; simp
def txtS (l:List El):ByteArray:=⟨(txtL l).toArray⟩
theorem txtS_size (l:List El):(txtS l).size≤4 * l.length:=by unfold txtS; rw [str_len]; exact txtL_le l
theorem txtS_take {l:List El} {k:Nat} (h:k<l.length):txtS (l.take (k+1))=txtS (l.take k)++⟨(chL l[k]).toArray⟩:=by
 unfold txtS; rw [List.take_succ_eq_append_getElem h,txtL_snoc,str_app]
theorem alive_take {l:List El} {k:Nat} (h:k<l.length):((l.take (k+1)).map El.al).sum=((l.take k).map El.al).sum+l[k].al:=by
 rw [List.take_succ_eq_append_getElem h]; simp only [List.map_append,List.sum_append,List.map_cons,List.map_nil,List.sum_cons,List.sum_nil,Nat.add_zero]
theorem alive_le (l:List El):(l.map El.al).sum≤l.length:=by
 induction l with
 | nil=>simp
 | cons x l ih=>have:=x.al_le; simp only [List.map_cons,List.sum_cons,List.length_cons]; omega
theorem refText_any (L:List El) (v0:Value) (w:World) (hL:IsE w v0 L) (hl:L.length≤20000):
  Calls Tryz.prog 72 #[v0] w fun e w'=>e=.returned (.string (txtS L))∧Below w.heap.size w w':=by
 have HL:=Lh hL;obtain ⟨a,cap,rfl,hc1,hc2⟩:=Sl.form hL;clear hL
 go_enter Tryz.func72,Tryz.ntmps72
 go_wp2_with fail
 go_loopg [3,4] L.length (fun g ts ti wr=>∃ k:Nat,k≤L.length∧g=L.length-k∧ti=.int .i64 (k:Int)∧ts=.string (txtS (L.take k))∧Below w.heap.size w wr)
 case atStart=>exact ⟨0,Nat.zero_le _,rfl,rfl,rfl,Below.refl _ _⟩
 case round=>
  obtain ⟨k,hk,rfl,rfl,rfl,hB⟩:=hrel;by_cases hlt:k<L.length
  ·obtain ⟨g,rfl,hg,hC⟩:=HL.out.at k hlt
   have HT:=Lh (txtS_take hlt);have hch:L[k].d=false→chL L[k]=Lib.encodeRune L[k].ch:=fun h=>by unfold chL; rw [if_neg (by simp [h])]
   have hcd:L[k].d=true→chL L[k]=[]:=fun h=>by unfold chL; rw [if_pos h]
   have hsz:=txtS_size (L.take k);have hle:=Lib.runeCells_le L[k].ch;rw [Lib.runeCells_length] at hle;generalize L[k]=x at *
   have hll:(L.take k).length≤20000:=by rw [List.length_take]; omega
   generalize txtS (L.take k)=s at *
   have x2:=(hC wr hB).2.2.1;have x3:=(hC wr hB).2.2.2;have HC:=Lh (fun (W:World) (hb:Below w.heap.size w W)=>hC W hb);have HE:=Lh (And.intro hch hcd);have HB:=Lh hB;clear hC hch hcd hB
   cases hd:x.d with
   | true=>
    rw [hd] at x3;go_wp2_with fail
    go_roundg (L.length-(k+1))
    case measure=>omega
    case rel=>exact ⟨k+1,by omega,rfl,by go_num,by rw [HT.out,HE.out.2 hd]; congr 1; exact (ByteArray.append_empty).symm,HB.out⟩
   | false=>
    rw [hd] at x3;go_wp2_with (go_at_call 105; refine (refChar_any _ _).mono ?_; rintro e' w1 ⟨rfl,hb⟩)
    go_roundg (L.length-(k+1))
    case measure=>omega
    case rel=>exact ⟨k+1,by omega,rfl,by go_num,by rw [HT.out,HE.out.1 hd],HB.out.trans (hb.mono HB.out.size)⟩
  ·obtain rfl:k=L.length:=by omega
   rw [List.take_length];go_wp2_with fail
   go_ret
   exact ⟨rfl,hB⟩
end Go.Proofs.YtpbhaieclkoggaaGreatDoor
