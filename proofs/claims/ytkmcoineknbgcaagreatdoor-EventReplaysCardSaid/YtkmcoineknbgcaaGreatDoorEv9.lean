import Derived.Test.YtkmcoineknbgcaaGreatDoorRp9
namespace Go.Proofs.YtkmcoineknbgcaaGreatDoor
open Go Go.Proofs Go.RowKit
inductive Th where
 | chg (c:Chg)
 | lag (f t:Int)
def Th.val:Th→Value
 | .chg y=>.iface 58 (.agg #[.int .i64 y.q,.int .i64 y.a,.int .i64 y.c,.int .i64 y.s,.int .i32 y.ch,.bool y.d])
 | .lag f t=>.iface 65 (.agg #[.int .i64 f,.int .i64 t])
def thL (x:Th):List Value:=[x.val]
theorem thL_len (x:Th):(thL x).length=1:=rfl
theorem th_one (x:Th):∀ u∈thL x,u.oneCell'=true:=by
 intro u hu
 simp only [thL,List.mem_cons,List.not_mem_nil,or_false] at hu
 subst hu
 cases x <;> rfl
def IsT9 (W:World) (v:Value) (L:List Th):Prop:=Sl 20 1 thL W v L
def Fo9:Int→List Th→Int→Prop
 | q,[],r=>q=r
 | q,.chg c::l,r=>c.q=q+1∧Fo9 c.q l r
 | q,.lag f t::l,r=>f=q+1∧f≤t∧t≤1000000∧Fo9 t l r
theorem fo_sq:∀ (L:List Chg) (q:Int),SqL q L→Fo9 q (L.map .chg) (q+(L.length:Int))
 | [],q,_=>by simp [Fo9]
 | c::L,q,h=>by
  have:=fo_sq L (q+1) h.2;refine ⟨h.1,?_⟩;rw [h.1,List.length_cons,show q+((L.length+1:Nat):Int)=q+1+(L.length:Int) by omega];exact this
def EFollowOk:Prop:=∀ (L:List Th) (q r:Int) (v:Value) (w:World),Fo9 q L r→0≤q→q≤1000000→L.length≤1000→IsT9 w v L →
 Calls Tryz.prog 10 #[.int .i64 q,v] w fun e w'=>e=.returned (.tuple #[.int .i64 r,.int .i64 0])∧Below w.heap.size w w'
def EReplayOk:Prop:=∀ (R R':List Int) (L:List Chg) (v:Value) (w:World),doL R L=some R'→(∀ r∈R,ChrB r)→(∀ r∈R',ChrB r)→R.length≤1000→L.length≤1000→IsT9 w v (L.map .chg) →
 Calls Tryz.prog 11 #[.string (Bw9 R),v] w fun e w'=>e=.returned (.tuple #[.string (Bw9 R'),.int .i64 0])∧Below w.heap.size w w'
def EKindOk:Prop:=∀ (w:World),Calls Tryz.prog 13 #[Th.val (.lag 2 4)] w fun e w'=>e=.returned (.string ⟨#[108,97,103]⟩)∧Below w.heap.size w w'
def Awake9Ok:Prop:=∀ (w:World),Pows w→Tabs w→Calls Tryz.prog 4 #[] w fun e w'=>e=.returned (.bool true)∧Below w.heap.size w w'
structure EAll:Prop where
 fo:EFollowOk
 re:EReplayOk
 ki:EKindOk
theorem infoE:(Tryz.prog.info? 20).map (fun i=>(i.zero,i.size,i.bytes))=some (some .nilIface,1,16):=by kernel_rfl
end Go.Proofs.YtkmcoineknbgcaaGreatDoor
