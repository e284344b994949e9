import Derived.Test.YtpbhaieclkoggaaGreatDoorLk12
import Derived.Test.YtpbhaieclkoggaaGreatDoorDq
set_option maxRecDepth 100000
set_option maxHeartbeats 12800000
namespace Go.Proofs.YtpbhaieclkoggaaGreatDoor
open Go Go.Proofs Go.RowKit
theorem rlooks_long (hAw:Awake12Ok) (ad:Option Addr) (n cap:Nat) (c:Cal) (w:World) (h:40<n) (hp:Pows w) (ht:Tabs w):
  Calls Tryz.prog 4 #[.slice ad n cap,.agg #[c.k,c.p,.int .i32 c.ch,c.o.k,c.o.c,c.o.s,c.o.a,c.o.n,.int .i32 c.o.ch,c.a,c.b]] w fun e w'=>e=.returned (.bool true)∧Below w.heap.size w w':=by
 have hbw:=bl1 w [c.k,c.p,.int .i32 c.ch,c.o.k,c.o.c,c.o.s,c.o.a,c.o.n,.int .i32 c.o.ch,c.a,c.b] 57;have HB:=Lh (And.intro (hp.next hbw) (And.intro (ht.next hbw) hbw));have HAW:=Lh hAw;have h':(40:Int)<(n:Int):=by omega
 clear hAw hp ht hbw
 go_enter Tryz.func4,Tryz.ntmps4
 go_wp2_with (go_at_call 5; refine (HAW.out _ HB.out.1 HB.out.2.1).mono ?_; rintro e w1 ⟨rfl,hb⟩)
 go_ret
 exact ⟨rfl,HB.out.2.2.trans (hb.mono HB.out.2.2.size)⟩
theorem rlooks_any (H:PAll) (h11:Awake11Ok) (v:Value) (l:List Cal) (c:Cal) (w:World) (hl:IsCals w v l) (hp:Pows w) (ht:Tabs w):
  Calls Tryz.prog 4 #[v,.agg ⟨calL c⟩] w fun e w'=>e=.returned (.bool true)∧Below w.heap.size w w':=by
 obtain ⟨ad,cap,rfl,e1,e2,e3⟩:=hl;by_cases h:l.length≤40
 ·exact rlooks_main H (awake12_any H h11) ad cap l c w h e1 e2 e3 hp ht
 ·exact rlooks_long (awake12_any H h11) ad l.length cap c w (by omega) hp ht
end Go.Proofs.YtpbhaieclkoggaaGreatDoor
