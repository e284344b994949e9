import Derived.Test.YtkmcoineknbgcaaGreatDoorDo8
namespace Go.Proofs.YtkmcoineknbgcaaGreatDoor
open Go Go.Proofs Go.RowKit
structure Act8 where
 kd:Int
 o:Oq
 st:Int
 at_:Int
 ch:Int
 k0:0≤kd
 k1:kd≤255
 a0 : -9223372036854775808≤at_
 a1:at_≤9223372036854775807
 lo : -2147483648≤ch
 hi:ch≤2147483647
def actL (x:Act8):List Value:=[.int .u8 x.kd,.int .i64 x.o.k,.int .i64 x.o.c,.int .i64 x.o.s,.int .i64 x.o.a,.int .i64 x.o.n,.int .i32 x.o.ch,.int .i64 x.st,.int .i64 x.at_,.int .i32 x.ch]
structure VAll:Prop where
 rm:VRemoteOk
 ins:VInsertOk
 del:VDeleteOk
 txt:VTextOk
 len:VLenOk
 seq:VSeqOk
 nam:VNamedOk
theorem isv_nil (w:World):IsV w [] [] [.pointer none,.pointer none,.int .i64 0,.slice none 0 0,.int .i64 0,.int .i64 0,.complex .f64 0 0,.complex .f64 0 0]:=
 ⟨none,none,.nil,.nil,.slice none 0 0,StO.nil w,.inl ⟨rfl,rfl⟩,by
  have h:fl 0=0:=fl_zero;have hc:cnt .nil=0:=cnt_nil;have e:idsO []=[]:=rfl;rw [hc,e]
  show ([.pointer none,.pointer none,.int .i64 0,.slice none 0 0,.int .i64 0,.int .i64 0,.complex .f64 0 0,.complex .f64 0 0]:List Value)=[.pointer none,.pointer none,.int .i64 0,.slice none 0 0,.int .i64 0,.int .i64 0,.complex .f64 (fl 0) (fl 0),.complex .f64 (fl 0) (fl 0)]
  rw [h]⟩
def LiesA (w:World) (b off:Nat) (l:List Act8):Prop:=∀ j (hj:j<l.length),∀ i,i<10→w.cell? ⟨b,off+j * 10+i,none⟩=(actL l[j])[i]?
def Awake8Ok:Prop:=∀ w:World,Pows w→Tabs w→Calls Tryz.prog 12 #[] w fun e w'=>e=.returned (.bool true)∧Below w.heap.size w w'
end Go.Proofs.YtkmcoineknbgcaaGreatDoor
