import Derived.Laws.Concat
import Derived.Laws.IdiomStrings
import Derived.Lib.AppendIntMem
import Derived.Lib.ItoaLen
import Derived.Lib.ItoaMem
import Derived.Lib.ItoaNum
import Derived.Lib.LaidTab
import Derived.Lib.RuneBytes
import Derived.WalkSmall
import Derived.Test.YtemicfjmidohfaaGreatDoorLTree
import Derived.Test.YtemicfjmidohfaaGreatDoorShelf
set_option maxRecDepth 100000
set_option maxHeartbeats 12800000
namespace Go.Proofs.YtemicfjmidohfaaGreatDoor
open Go Go.Proofs Go.RowKit
def Tab (w:World):Prop:=Lib.TabIs Tryz.prog w "internal/strconv.uint64pow10" .u64 Lib.pow10Tab
theorem gTab:Tryz.prog.globalNamed "internal/strconv.uint64pow10" = some 1:=by kernel_rfl
theorem Tab.lt {w:World} (h:Tab w):1<w.heap.size:=by
 have hc:=Lib.TabIs.cell h gTab 0 (by decide);exact World.block_lt_of_cell? _ _ hc
theorem Tab.below {B:Nat} {w w':World} (h:Tab w) (hb:Below B w w') (hB:w.heap.size≤B):Tab w':=
 var?_below hb gTab (Nat.lt_of_lt_of_le h.lt hB) h
theorem Tab.next {w w':World} (h:Tab w) (hb:Below w.heap.size w w'):Tab w':=h.below hb (Nat.le_refl _)
theorem Tab.alloc {w:World} (h:Tab w) (o:Obj):Tab (w.alloc o):=h.next (bA)
theorem itoa_pos {c:Int} (h:0≤c):Lib.itoa c=Lib.decDigits c.toNat:=by
 unfold Lib.itoa; rw [if_neg (by omega)]
theorem dec_len {c:Int} (h0:0≤c) (h1:c≤1048576):(Lib.decDigits c.toNat).length≤21:=by
 have:=Lib.itoa_length_le c (by omega) (by omega)
 rwa [itoa_pos h0] at this
def digB (c:Int):ByteArray:=⟨(Lib.decDigits c.toNat).toArray⟩
def dotB (c:Int):ByteArray:=digB c++⟨#[46]⟩
def txtB (c s:Int):ByteArray:=dotB c++digB s
theorem digB_size {c:Int} (h0:0≤c) (h1:c≤1048576):(digB c).size≤21:=by
 have:=dec_len h0 h1
 show (Lib.decDigits c.toNat).toArray.size≤21
 simpa using this
theorem dotB_size {c:Int} (h0:0≤c) (h1:c≤1048576):(dotB c).size≤22:=by
 have:=digB_size h0 h1;have e:(⟨#[46]⟩:ByteArray).size=1:=rfl;unfold dotB
 rw [ByteArray.size_append,e]; omega
theorem add_dot {c:Int} (h0:0≤c) (h1:c≤1048576) (W:World):(Op.stringOp .add (digB c) ⟨#[46]⟩).run Tryz.prog W=.ok (.string (dotB c)) W:=by
 have:=digB_size h0 h1;have e:(⟨#[46]⟩:ByteArray).size=1:=rfl;exact run_string_add_sum W _ _ (by rw [e]; omega)
theorem add_txt {c s:Int} (h0:0≤c) (h1:c≤1048576) (h2:0≤s) (h3:s≤1048576) (W:World):(Op.stringOp .add (dotB c) (digB s)).run Tryz.prog W=.ok (.string (txtB c s)) W:=by
 have:=dotB_size h0 h1;have:=digB_size h2 h3;exact run_string_add_sum W _ _ (by omega)
theorem format_any (c:Int) (h0:0≤c) (h1:c≤1048576) (w:World) (ht:Tab w):
  Calls Tryz.prog 180 #[c,.int .i64 10] w
   fun e w'=>e=.returned (.string (digB c))∧Below w.heap.size w w':=by
 refine (Tryz.strconv_FormatInt_10 c (by omega) (by omega) w ht).mono ?_
 rintro e w' ⟨rfl,k,os,rfl⟩
 exact ⟨by rw [itoa_pos h0]; rfl,Lib.below_grow _ _ (Nat.le_refl _) _ _⟩
theorem itoa_any (c:Int) (h0:0≤c) (h1:c≤1048576) (w:World) (ht:Tab w):
  Calls Tryz.prog 190 #[c] w
   fun e w'=>e=.returned (.string (digB c))∧Below w.heap.size w w':=by
 refine (Tryz.strconv_Itoa c (by omega) (by omega) w ht).mono ?_
 rintro e w' ⟨rfl,k,os,rfl⟩
 exact ⟨by rw [itoa_pos h0]; rfl,Lib.below_grow _ _ (Nat.le_refl _) _ _⟩
def Boxed (B b:Nat) (w W:World):Prop:=b<W.heap.size∧Tab W∧Below B w W∧B≤W.heap.size
def IsBox (B b:Nat) (c s:Int) (w W:World):Prop:=
 W.cell? ⟨b,0,none⟩=some (.int .i64 c)∧W.cell? ⟨b,1,none⟩=some (.int .i64 s)∧Boxed B b w W
theorem IsBox.belowIt {B b:Nat} {c s:Int} {w W:World} (h:IsBox B b c s w W):Below B w W:=h.2.2.2.2.1
theorem keep_box {B b:Nat} {c s:Int} {w W W':World} (hb:Below W.heap.size W W') (h:IsBox B b c s w W):IsBox B b c s w W':=by
 obtain ⟨h0,h1,h2,h3,h4,h5⟩:=h;exact ⟨by rw [hb.cell (p:=⟨b,0,none⟩) h2]; exact h0,by rw [hb.cell (p:=⟨b,1,none⟩) h2]; exact h1,Nat.lt_of_lt_of_le h2 hb.size,h3.next hb,h4.trans (hb.mono h5),Nat.le_trans h5 hb.size⟩
theorem keep_drew {B b:Nat} {c s:Int} {w W:World} (h:IsBox B b c s w W):IsBox B b c s w W.drew:=
 keep_box (bdq) h
theorem box_start (c s:Int) (w:World) (t:TypeId) (ht:Tab w):IsBox w.heap.size w.heap.size c s w (w.alloc (.cells #[c,s] t)):=
 ⟨by simp [go_sem],by simp [go_sem],by simp,ht.alloc _,bA,by simp⟩
theorem string_yes (c s:Int) (w:World) (h:mayB c s=true) (ht:Tab w):
  Calls Tryz.prog 132 #[.agg #[c,s]] w
   fun e w'=>e=.returned (.string (txtB c s))∧Below w.heap.size w w':=by
 have hm:1≤c∧c≤1048576∧1≤s∧s≤1000:=by simpa [mayB] using h
 obtain ⟨h1,h2,h3,h4⟩:=hm;have hn:noneB c s=false:=by unfold noneB; simp; omega
 have hadd1:=fun W=>add_dot (c:=c) (by omega) (by omega) W
 have hadd2:=fun W=>add_txt (c:=c) (s:=s) (by omega) (by omega) (by omega) (by omega) W
 have HS:=Lh (box_start c s w 71 ht);have HM:=Lh h;clear ht h
 go_enter Tryz.func132,Tryz.ntmps132
 go_wp2_with fail;refine (none_any _ _ _).mono ?_;rintro e w1 ⟨rfl,hb1⟩
 have hs1:=keep_box hb1 HS.out;clear HS hb1;obtain ⟨hc0,hc1,hB1⟩:=hs1;have HB1:=Lh hB1;clear hB1;go_wp2_with fail;refine (check_yes _ _ _ HM.out).mono ?_;rintro e w2 ⟨rfl,hb2⟩
 have hs2:=keep_drew (keep_box hb2 ⟨hc0,hc1,HB1.out⟩);clear HB1 hb2 hc0 hc1;go_wp2_with fail
 go_region_held3 (fun w'=>w'.cell? ⟨w.heap.size,0,none⟩=some (.int .i64 c)∧w'.cell? ⟨w.heap.size,1,none⟩=some (.int .i64 s)∧Boxed w.heap.size w.heap.size w w')
  (first | exact hs2 | (apply keep_box (c:=c) (s:=s); assumption; assumption))
  (first | (go_at_call 180; refine (format_any c ?_ ?_ _ ?_).mono ?_; (omega); (omega); (exact (by assumption:IsBox w.heap.size w.heap.size c s w _).2.2.2.1); rintro e w' ⟨rfl,hb⟩) | (go_at_call 190; refine (itoa_any s ?_ ?_ _ ?_).mono ?_; (omega); (omega); (exact (by assumption:IsBox w.heap.size w.heap.size c s w _).2.2.2.1); rintro e w' ⟨rfl,hb⟩))
 go_wp2
 go_ret
 refine ⟨rfl,IsBox.belowIt (b:=w.heap.size) (c:=c) (s:=s) ?_⟩
 assumption
theorem string_none (w:World):
  Calls Tryz.prog 132 #[.agg #[.int .i64 0,.int .i64 0]] w
   fun e w'=>e=.returned (.string ⟨#[45]⟩)∧Below w.heap.size w w':=by
 have hn:noneB 0 0=true:=by unfold noneB; simp
 go_enter Tryz.func132,Tryz.ntmps132
 go_wp2_with (go_at_call 188; refine (none_any _ _ _).mono ?_; rintro e w1 ⟨rfl,hb1⟩)
 go_ret
 exact ⟨rfl,(bA).trans (hb1.mono (by simp))⟩
theorem less_3241:lessB 3 2 4 1=true:=by decide
theorem less_3231:lessB 3 2 3 1=false:=by decide
theorem txt_32:txtB 3 2=⟨#[51,46,50]⟩:=by
 unfold txtB dotB digB
 rw [show (3:Int).toNat=3 from rfl,show (2:Int).toNat=2 from rfl,Lib.decDigits_one (by omega),Lib.decDigits_one (by omega)];rfl
theorem awake_any (w:World) (ht:Tab w):
  Calls Tryz.prog 232 #[] w (Rt (.bool true) w):=by
 have h1:=less_3241;have h2:=less_3231;have h3:=txt_32;have HS:=Lh (box_start 3 2 w 71 ht);clear ht
 go_enter Tryz.func232,Tryz.ntmps232
 go_wp2_with fail;refine (less_any _ _ _ _ _).mono ?_;rintro e w1 ⟨rfl,hb1⟩
 have hs1:=keep_box hb1 HS.out;clear HS hb1;obtain ⟨hc0,hc1,hB1⟩:=hs1;have HB1:=Lh hB1;clear hB1;go_wp2_with fail;refine (less_any _ _ _ _ _).mono ?_;rintro e w2 ⟨rfl,hb2⟩
 have hs2:=keep_box hb2 ⟨hc0,hc1,HB1.out⟩;clear HB1 hb2 hc0 hc1;obtain ⟨hc0,hc1,hB2⟩:=hs2;have HB2:=Lh hB2;clear hB2;go_wp2_with (go_at_call 132; refine (string_yes _ _ _ (by decide) HB2.out.2.1).mono ?_; rintro e w3 ⟨rfl,hb3⟩)
 go_ret
 refine ⟨rfl,IsBox.belowIt (b:=w.heap.size) (c:=3) (s:=2) (keep_box hb3 ⟨hc0,hc1,HB2.out⟩)⟩
theorem sizeBuilder:(Tryz.prog.info? 331).map (·.size)=some 2:=by kernel_rfl
theorem copyCheck_used (b:Nat) (w:World) (h0:w.cell? ⟨b,0,none⟩=some (.pointer (some ⟨b,0,none⟩))):
  Calls Tryz.prog 249 #[.pointer (some ⟨b,0,none⟩)] w fun e w'=>e=.returned (.tuple #[])∧w=w':=by
 obtain ⟨j,hj,_⟩:=Option.map_eq_some_iff.1 sizeBuilder
 go_enter Tryz.func249,Tryz.ntmps249
 go_wp2
 rw [Lib.run_neq_ptr_same w _ Tryz.underlying329 hj]
 go_wp2
 go_end0
 exact ⟨rfl,rfl⟩
theorem writeRune_any (B b:Nat) (bs:List Value) (r:Int) (hr0 : -2147483648≤r) (hr1:r≤2147483647) (w1:World) (h1:Lib.BuilderAtF 331 5 B b (.pointer (some ⟨b,0,none⟩)) bs w1) (hlen:bs.length+4≤140737488355328) (hBw:B≤w1.heap.size):
  Calls Tryz.prog 223 #[.pointer (some ⟨b,0,none⟩),.int .i32 r] w1 fun e w'=>e=.returned (.tuple #[.int .i64 (Lib.runeCells r).length,.nilIface])∧(Lib.BuilderAtF 331 5 B b (.pointer (some ⟨b,0,none⟩)) (bs++Lib.runeCells r) w'∧Below B w1 w'∧Lib.OthersKept 5 (some b) w1 w'):=by
 have hk4:=Lib.runeCells_le r;obtain ⟨hB,v,hbk,hown,hne⟩:=h1;obtain ⟨ao,cap,rfl⟩:∃ ao cap,v=.slice ao bs.length cap:=by
  rcases hown.2 with ⟨hv,h0⟩ | ⟨g,cap,cur,fz,hv,_⟩
  ·exact ⟨none,0,by rw [hv,h0]⟩
  ·exact ⟨_,_,hv⟩
 have c0:w1.cell? ⟨b,0,none⟩=some (.pointer (some ⟨b,0,none⟩)):=by rw [Lib.cell_of_heap hbk]; rfl
 have c1:w1.cell? ⟨b,1,none⟩=some (.slice ao bs.length cap):=by rw [Lib.cell_of_heap hbk]; rfl
 go_enter Tryz.func223,Tryz.ntmps223
 go_wp2_with (first
  | (go_at_call 249; refine (copyCheck_used b _ c0).mono ?_; rintro e w' ⟨rfl,rfl⟩)
  | (go_at_call 253; refine (Tryz.utf8_AppendRune_row B _ bs.length bs r hr0 hr1 _ hown hlen hBw).mono ?_))
 rintro e w2 ⟨v',rfl,hown',o,hgrow⟩
 have hlt:b<w1.heap.size:=by
  rcases Nat.lt_or_ge b w1.heap.size with h' | h'
  ·exact h'
  ·simp [Array.getElem?_eq_none h'] at hbk
 have hb2:w2.heap[b]? = some (.cells #[.pointer (some ⟨b,0,none⟩),.slice ao bs.length cap] 331 (0,0)):=by
  rw [hgrow.block b (by simp; omega) (fun e=>hne e.symm),Lib.alloc_old w1 _ b hlt];exact hbk
 have d0:w2.cell? ⟨b,0,none⟩=some (.pointer (some ⟨b,0,none⟩)):=by rw [Lib.cell_of_heap hb2]; rfl
 have d1:w2.cell? ⟨b,1,none⟩=some (.slice ao bs.length cap):=by rw [Lib.cell_of_heap hb2]; rfl
 have f1:w2.frozen? ⟨b,1,none⟩=false:=Lib.frozen_of_heap hb2 1;obtain ⟨g,cap',rfl⟩:∃ g cap',v'=.slice (some ⟨g,0,none⟩) (bs.length+(Lib.runeCells r).length) cap':=by
  rcases hown'.2 with ⟨_,h0⟩ | ⟨g,cap',cur,fz,hv,_⟩
  ·omega
  ·exact ⟨g,cap',hv⟩
 go_wp2
 go_ret2
 refine ⟨?_,?_,?_,(((Lib.OthersKept.refl _ _ w1).alloc _).grown hgrow (Lib.ownsRowF_kind (hown.alloc _))).setCell ⟨b,1,none⟩ rfl _⟩
 ·have e:((bs.length:Int)+((Lib.runeCells r).length:Int)-(bs.length:Int))=((Lib.runeCells r).length:Int):=by omega
  simp [e]
 ·exact Lib.BuilderAtF.put (T:=331) (e:=5) hB hb2 (bs':=bs++Lib.runeCells r) (by simpa using hown') (by decide)
 ·exact (((Below.refl B w1).alloc hBw _).grown hgrow (by simp; omega) (fun k hk=>(hown.lt k hk).1)).setCell (p:=⟨b,1,none⟩) hB _
end Go.Proofs.YtemicfjmidohfaaGreatDoor
