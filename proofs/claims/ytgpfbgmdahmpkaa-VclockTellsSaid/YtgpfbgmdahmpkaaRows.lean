/-
  No cell of these rows narrows 'for every input' (looked for: loops, veiled, ifaces, maps, wideKeys, modest, calm, conditions, laid).
  DERIVED. THE GIVEN ROWS OF THIS SEAT. 2 by the template 'for every input the law returns true; each argument reads behind the call as it read before'; 0 by the template 'total and deterministic' (their statements: YtgpfbgmdahmpkaaTotals.lean).
  GIVEN WITH THE SEED: the statements are not yours to turn. If you find one false, say at which input.
  Laid BY PROGRAM, IN A SANDBOX (cutbox-rows.mjs): the forced cells as the released guide's own fill.sh prints them over the translation 425732947b5f5d38… (all of the seat's roots in one cut). By AI agents, Wed Nov 11 2026. No macro, syntax, notation, axiom, sorry.
-/
import Derived.Test.YtgpfbgmdahmpkaaChecked
import GoSem.Claim
import GoSem.ClaimJoined
import GoSem.ClaimMapViews
import Derived.JoinedTies
import Derived.KernelRfl
namespace Go.Proofs.Ytgpfbgmdahmpkaa
/- THE CELL 'sum', in the pinned program and in every row, IS THE sha256 OF THE DUMP (.gsa) THAT YtgpfbgmdahmpkaaProg.lean LOADS. Nothing in Lean hashes anything: it is a label: what it is worth is what the hold of that sum in a sandbox is worth. -/
noncomputable def Try.pinned : Pinned := { name := "ytgpfbgmdahmpkaa", sum := "425732947b5f5d38d3daaf873498334667c5f7026a392d8ff7b07be837dc8a37", checked := Try.checked }
namespace Rows
def none {H : Type} : Left H := { results := [], args := [] }

/-- 'selvedgelaw13.VclockTells': WHATEVER THE INPUT: true; the input reads as it did. -/
def vclockTellsSpec : ChangeSpec := { name := "vclockTells", fn := fun _ => fun
  | [d1, d2, d3] => { results := [.lit (.bool true)], args := [d1, d2, d3] }
  | _ => none }
def vclockTellsRow : OpenClaim := { program := "ytgpfbgmdahmpkaa", sum := "425732947b5f5d38d3daaf873498334667c5f7026a392d8ff7b07be837dc8a37", func := "selvedge/selvedgelaw13.VclockTells", spec := "vclockTells", apart := false }
def VclockTellsSaid : Prop := vclockTellsRow.holds Try.pinned (OpenSpec.ofChange vclockTellsSpec)

/-- ITS FALSE NEIGHBOUR: 'it returns false'. Refute it at one input. -/
def vclockTellsWrong : ChangeSpec := { name := "vclockTells", fn := fun _ => fun
  | [d1, d2, d3] => { results := [.lit (.bool false)], args := [d1, d2, d3] }
  | _ => none }
def VclockTellsWrongFalsely : Prop := vclockTellsRow.holds Try.pinned (OpenSpec.ofChange vclockTellsWrong)

/-- 'selvedgelaw13.VclockLeast': WHATEVER THE INPUT: true; the input reads as it did. -/
def vclockLeastSpec : ChangeSpec := { name := "vclockLeast", fn := fun _ => fun
  | [d1, d2, d3, d4] => { results := [.lit (.bool true)], args := [d1, d2, d3, d4] }
  | _ => none }
def vclockLeastRow : OpenClaim := { program := "ytgpfbgmdahmpkaa", sum := "425732947b5f5d38d3daaf873498334667c5f7026a392d8ff7b07be837dc8a37", func := "selvedge/selvedgelaw13.VclockLeast", spec := "vclockLeast", apart := false }
def VclockLeastSaid : Prop := vclockLeastRow.holds Try.pinned (OpenSpec.ofChange vclockLeastSpec)

/-- ITS FALSE NEIGHBOUR: 'it returns false'. Refute it at one input. -/
def vclockLeastWrong : ChangeSpec := { name := "vclockLeast", fn := fun _ => fun
  | [d1, d2, d3, d4] => { results := [.lit (.bool false)], args := [d1, d2, d3, d4] }
  | _ => none }
def VclockLeastWrongFalsely : Prop := vclockLeastRow.holds Try.pinned (OpenSpec.ofChange vclockLeastWrong)

/- THE SECOND FORM. 'bulk': how many values and letters a reading holds, each counted each time it is reached (what is shared counts as often as it is met; a slice's spare places count too). A statement '..UptoSaid' is the law's where the arguments, and the package variables that the reading takes, are together of bulk at most 1048576: NARROWER than '..Said'. Prove '..Said' where nothing that the law and all that it calls make is longer than what came in: it says more and counts as full. Else prove '..UptoSaid'. A law counts once. -/
mutual
def uptoBulk {H : Type} : DataW H → Nat
  | .lit (.string bytes) => bytes.length + 1
  | .lit _ => 1
  | .nil => 1
  | .ptr d => uptoBulk d + 1
  | .slice elems spare => uptoBulkAll elems + uptoBulkAll spare + 1
  | .agg parts => uptoBulkAll parts + 1
  | .iface _ d => uptoBulk d + 1
  | .map entries => uptoBulkEntries entries + 1
  | .held _ => 1
def uptoBulkAll {H : Type} : List (DataW H) → Nat
  | [] => 0
  | d :: r => uptoBulk d + uptoBulkAll r
def uptoBulkEntries {H : Type} : List (Lit × DataW H) → Nat
  | [] => 0
  | x :: r => uptoBulkEntry x + uptoBulkEntries r
def uptoBulkEntry {H : Type} : Lit × DataW H → Nat
  | (.string bytes, d) => bytes.length + uptoBulk d + 1
  | (_, d) => uptoBulk d + 1
 end
def uptoSmall : (H : Type) → List (DataW H) → Bool := fun _ ds => decide (uptoBulkAll ds ≤ 1048576)
def OpenSpec.upto (s : _root_.Go.ChangeSpec) : _root_.Go.OpenSpec := { _root_.Go.OpenSpec.ofChange s with cond := some uptoSmall }

/-- 'selvedgelaw13.VclockTells', WHERE WHAT IT READS IS OF BULK AT MOST 1048576: true; the input reads as it did. -/
def vclockTellsUptoRow : OpenClaim := { program := "ytgpfbgmdahmpkaa", sum := "425732947b5f5d38d3daaf873498334667c5f7026a392d8ff7b07be837dc8a37", func := "selvedge/selvedgelaw13.VclockTells", spec := "vclockTells", apart := false, narrowed := true }
def VclockTellsUptoSaid : Prop := vclockTellsUptoRow.holds Try.pinned (OpenSpec.upto vclockTellsSpec)

/-- 'selvedgelaw13.VclockLeast', WHERE WHAT IT READS IS OF BULK AT MOST 1048576: true; the input reads as it did. -/
def vclockLeastUptoRow : OpenClaim := { program := "ytgpfbgmdahmpkaa", sum := "425732947b5f5d38d3daaf873498334667c5f7026a392d8ff7b07be837dc8a37", func := "selvedge/selvedgelaw13.VclockLeast", spec := "vclockLeast", apart := false, narrowed := true }
def VclockLeastUptoSaid : Prop := vclockLeastUptoRow.holds Try.pinned (OpenSpec.upto vclockLeastSpec)

end Rows
end Go.Proofs.Ytgpfbgmdahmpkaa
