import Derived.Test.YtemicfjmidohfaaGreatDoorTb
set_option maxHeartbeats 12800000
namespace Go.Proofs.YtemicfjmidohfaaGreatDoor
open Go Go.Proofs Go.RowKit
theorem fl_3:fl 3=4613937818241073152:=by decide +kernel
theorem fl_2:fl 2=4611686018427387904:=by decide +kernel
theorem fl_5:fl (sqR 3 2)=4617315517961601024:=by decide +kernel
theorem fl_12:fl (sqI 3 2)=4622945017495814144:=by decide +kernel
theorem put_ex (w:World):
  Calls Tryz.prog 231 #[.agg #[.int .i64 0,.complex .f64 0 0,.complex .f64 0 0],.agg #[.int .i64 3,.int .i64 2]] w
   fun e w'=>e=.returned (.tuple #[.agg #[.int .i64 1,.complex .f64 4613937818241073152 4611686018427387904,.complex .f64 4617315517961601024 4622945017495814144],.int .i64 0])∧Below w.heap.size w w':=by
 have hp:=put_first (p:=3) (q:=2) w (by decide);rw [fl_3,fl_2,fl_5,fl_12] at hp;exact hp
theorem string_ex (w:World) (hp:Pows w) (ht:Tab w):
  Calls Tryz.prog 137 #[.agg #[.int .i64 1,.complex .f64 4613937818241073152 4611686018427387904,.complex .f64 4617315517961601024 4622945017495814144]] w
   fun e w'=>e=.returned (.string ⟨#[49,32,51,32,50,32,53,32,49,50]⟩)∧Below w.heap.size w w':=by
 have h:=string_any (N:=1) (A:=3) (B:=2) (C:=sqR 3 2) (D:=sqI 3 2) (by omega) (by omega) (small_of (by omega) (by omega)) (small_of (by omega) (by omega)) (small_of (by decide) (by decide)) (small_of (by decide) (by decide)) w hp ht;rw [fl_3,fl_2,fl_5,fl_12,show tT [1,3,2,sqR 3 2,sqI 3 2]=⟨#[49,32,51,32,50,32,53,32,49,50]⟩ by decide +kernel] at h;exact h
structure Libs (w:World):Prop where
 pows:Pows w
 tab:Tab w
theorem awakeB_any (w:World) (hl:Libs w):
  Calls Tryz.prog 195 #[] w (Rt (.bool true) w):=by
 have HL:=Lh hl;have hst:=st_complex;clear hl
 go_enter Tryz.func195,Tryz.ntmps195
 go_wp2_with fail;refine (put_ex _).mono ?_;rintro e w1 ⟨rfl,hb1⟩
 have HB1:=Lh hb1;clear hb1;go_wp2_with fail;refine (awake_any _ (HL.out.tab.next (HB1.out.alloc HB1.out.size _))).mono ?_;rintro e w2 ⟨rfl,hb2⟩
 have hB:=(HB1.out.alloc HB1.out.size _).trans (hb2.mono (by have:=HB1.out.size; simp; omega));have hT:=(Blk.start w1 [.int .i64 1,.complex .f64 4613937818241073152 4611686018427387904,.complex .f64 4617315517961601024 4622945017495814144] 41).next hb2;obtain ⟨t0,t1,t2,_⟩:=hT.has3;have HB:=Lh hB;clear hB hT hb2 HB1;go_wp2_with (go_at_call 137; refine (string_ex _ (HL.out.pows.next HB.out) (HL.out.tab.next HB.out)).mono ?_; rintro e w3 ⟨rfl,hb3⟩)
 go_ret
 exact ⟨rfl,HB.out.trans (hb3.mono HB.out.size)⟩
end Go.Proofs.YtemicfjmidohfaaGreatDoor
