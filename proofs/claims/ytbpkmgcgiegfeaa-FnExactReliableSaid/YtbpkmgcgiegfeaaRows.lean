/-
  No cell of these rows narrows 'for every input' (looked for: loops, veiled, ifaces, maps, wideKeys, modest, calm, conditions, laid).
  DERIVED. THE GIVEN ROWS OF THIS SEAT. 3 by the template 'for every input the law returns true; each argument reads behind the call as it read before'; 0 by the template 'total and deterministic' (their statements: YtbpkmgcgiegfeaaTotals.lean).
  GIVEN WITH THE SEED: the statements are not yours to turn. If you find one false, say at which input.
  Laid BY PROGRAM, IN A SANDBOX (cutbox-rows.mjs): the forced cells as the released guide's own fill.sh prints them over the translation 89040ff3f4082c9b… (all of the seat's roots in one cut). By AI agents, Wed Nov 11 2026. No macro, syntax, notation, axiom, sorry.
-/
import Derived.Test.YtbpkmgcgiegfeaaChecked
import GoSem.Claim
import GoSem.ClaimJoined
import GoSem.ClaimMapViews
import Derived.JoinedTies
import Derived.KernelRfl
namespace Go.Proofs.Ytbpkmgcgiegfeaa
/- THE CELL 'sum', in the pinned program and in every row, IS THE sha256 OF THE DUMP (.gsa) THAT YtbpkmgcgiegfeaaProg.lean LOADS. Nothing in Lean hashes anything: it is a label: what it is worth is what the hold of that sum in a sandbox is worth. -/
noncomputable def Try.pinned : Pinned := { name := "ytbpkmgcgiegfeaa", sum := "89040ff3f4082c9b071b786adc8500abe13bd43538afbffcb90b2b7d305dbecf", checked := Try.checked }
namespace Rows
def none {H : Type} : Left H := { results := [], args := [] }

/-- 'laws.FnExactBrier': WHATEVER THE INPUT: true; the input reads as it did. -/
def fnExactBrierSpec : ChangeSpec := { name := "fnExactBrier", fn := fun _ => fun
  | [d] => { results := [.lit (.bool true)], args := [d] }
  | _ => none }
def fnExactBrierRow : OpenClaim := { program := "ytbpkmgcgiegfeaa", sum := "89040ff3f4082c9b071b786adc8500abe13bd43538afbffcb90b2b7d305dbecf", func := "loop.example/g00051/laws.FnExactBrier", spec := "fnExactBrier", unfollowed := true, recurses := true, apart := false }
def FnExactBrierSaid : Prop := fnExactBrierRow.holds Try.pinned (OpenSpec.ofChange fnExactBrierSpec)

/-- ITS FALSE NEIGHBOUR: 'it returns false'. Refute it at one input. -/
def fnExactBrierWrong : ChangeSpec := { name := "fnExactBrier", fn := fun _ => fun
  | [d] => { results := [.lit (.bool false)], args := [d] }
  | _ => none }
def FnExactBrierWrongFalsely : Prop := fnExactBrierRow.holds Try.pinned (OpenSpec.ofChange fnExactBrierWrong)

/-- 'laws.FnExactTable': WHATEVER THE INPUT: true; the input reads as it did. -/
def fnExactTableSpec : ChangeSpec := { name := "fnExactTable", fn := fun _ => fun
  | [d1, d2] => { results := [.lit (.bool true)], args := [d1, d2] }
  | _ => none }
def fnExactTableRow : OpenClaim := { program := "ytbpkmgcgiegfeaa", sum := "89040ff3f4082c9b071b786adc8500abe13bd43538afbffcb90b2b7d305dbecf", func := "loop.example/g00051/laws.FnExactTable", spec := "fnExactTable", apart := false }
def FnExactTableSaid : Prop := fnExactTableRow.holds Try.pinned (OpenSpec.ofChange fnExactTableSpec)

/-- ITS FALSE NEIGHBOUR: 'it returns false'. Refute it at one input. -/
def fnExactTableWrong : ChangeSpec := { name := "fnExactTable", fn := fun _ => fun
  | [d1, d2] => { results := [.lit (.bool false)], args := [d1, d2] }
  | _ => none }
def FnExactTableWrongFalsely : Prop := fnExactTableRow.holds Try.pinned (OpenSpec.ofChange fnExactTableWrong)

/-- 'laws.FnExactReliable': WHATEVER THE INPUT: true; the input reads as it did. -/
def fnExactReliableSpec : ChangeSpec := { name := "fnExactReliable", fn := fun _ => fun
  | [d] => { results := [.lit (.bool true)], args := [d] }
  | _ => none }
def fnExactReliableRow : OpenClaim := { program := "ytbpkmgcgiegfeaa", sum := "89040ff3f4082c9b071b786adc8500abe13bd43538afbffcb90b2b7d305dbecf", func := "loop.example/g00051/laws.FnExactReliable", spec := "fnExactReliable", apart := false }
def FnExactReliableSaid : Prop := fnExactReliableRow.holds Try.pinned (OpenSpec.ofChange fnExactReliableSpec)

/-- ITS FALSE NEIGHBOUR: 'it returns false'. Refute it at one input. -/
def fnExactReliableWrong : ChangeSpec := { name := "fnExactReliable", fn := fun _ => fun
  | [d] => { results := [.lit (.bool false)], args := [d] }
  | _ => none }
def FnExactReliableWrongFalsely : Prop := fnExactReliableRow.holds Try.pinned (OpenSpec.ofChange fnExactReliableWrong)

/- THE SECOND FORM. 'bulk': how many values and letters a reading holds, each counted each time it is reached (what is shared counts as often as it is met; a slice's spare places count too). A statement '..UptoSaid' is the law's where the arguments, and the package variables that the reading takes, are together of bulk at most 1048576: NARROWER than '..Said'. Prove '..Said' where nothing that the law and all that it calls make is longer than what came in: it says more and counts as full. Else prove '..UptoSaid'. A law counts once. -/
mutual
def uptoBulk {H : Type} : DataW H → Nat
  | .lit (.string bytes) => bytes.length + 1
  | .lit _ => 1
  | .nil => 1
  | .ptr d => uptoBulk d + 1
  | .slice elems spare => uptoBulkAll elems + uptoBulkAll spare + 1
  | .agg parts => uptoBulkAll parts + 1
  | .iface _ d => uptoBulk d + 1
  | .map entries => uptoBulkEntries entries + 1
  | .held _ => 1
def uptoBulkAll {H : Type} : List (DataW H) → Nat
  | [] => 0
  | d :: r => uptoBulk d + uptoBulkAll r
def uptoBulkEntries {H : Type} : List (Lit × DataW H) → Nat
  | [] => 0
  | x :: r => uptoBulkEntry x + uptoBulkEntries r
def uptoBulkEntry {H : Type} : Lit × DataW H → Nat
  | (.string bytes, d) => bytes.length + uptoBulk d + 1
  | (_, d) => uptoBulk d + 1
 end
def uptoSmall : (H : Type) → List (DataW H) → Bool := fun _ ds => decide (uptoBulkAll ds ≤ 1048576)
def OpenSpec.upto (s : _root_.Go.ChangeSpec) : _root_.Go.OpenSpec := { _root_.Go.OpenSpec.ofChange s with cond := some uptoSmall }

/-- 'laws.FnExactBrier', WHERE WHAT IT READS IS OF BULK AT MOST 1048576: true; the input reads as it did. -/
def fnExactBrierUptoRow : OpenClaim := { program := "ytbpkmgcgiegfeaa", sum := "89040ff3f4082c9b071b786adc8500abe13bd43538afbffcb90b2b7d305dbecf", func := "loop.example/g00051/laws.FnExactBrier", spec := "fnExactBrier", unfollowed := true, recurses := true, apart := false, narrowed := true }
def FnExactBrierUptoSaid : Prop := fnExactBrierUptoRow.holds Try.pinned (OpenSpec.upto fnExactBrierSpec)

/-- 'laws.FnExactTable', WHERE WHAT IT READS IS OF BULK AT MOST 1048576: true; the input reads as it did. -/
def fnExactTableUptoRow : OpenClaim := { program := "ytbpkmgcgiegfeaa", sum := "89040ff3f4082c9b071b786adc8500abe13bd43538afbffcb90b2b7d305dbecf", func := "loop.example/g00051/laws.FnExactTable", spec := "fnExactTable", apart := false, narrowed := true }
def FnExactTableUptoSaid : Prop := fnExactTableUptoRow.holds Try.pinned (OpenSpec.upto fnExactTableSpec)

/-- 'laws.FnExactReliable', WHERE WHAT IT READS IS OF BULK AT MOST 1048576: true; the input reads as it did. -/
def fnExactReliableUptoRow : OpenClaim := { program := "ytbpkmgcgiegfeaa", sum := "89040ff3f4082c9b071b786adc8500abe13bd43538afbffcb90b2b7d305dbecf", func := "loop.example/g00051/laws.FnExactReliable", spec := "fnExactReliable", apart := false, narrowed := true }
def FnExactReliableUptoSaid : Prop := fnExactReliableUptoRow.holds Try.pinned (OpenSpec.upto fnExactReliableSpec)

end Rows
end Go.Proofs.Ytbpkmgcgiegfeaa
