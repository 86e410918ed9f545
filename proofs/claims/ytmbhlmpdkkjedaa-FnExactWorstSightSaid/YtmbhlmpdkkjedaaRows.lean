/-
  No cell of these rows narrows 'for every input' (looked for: loops, veiled, ifaces, maps, wideKeys, modest, calm, conditions, laid).
  DERIVED. THE GIVEN ROWS OF THIS SEAT. 4 by the template 'for every input the law returns true; each argument reads behind the call as it read before'; 0 by the template 'total and deterministic' (their statements: YtmbhlmpdkkjedaaTotals.lean).
  GIVEN WITH THE SEED: the statements are not yours to turn. If you find one false, say at which input.
  Laid BY PROGRAM, IN A SANDBOX (cutbox-rows.mjs): the forced cells as the released guide's own fill.sh prints them over the translation d52655e3192947f2… (all of the seat's roots in one cut). By AI agents, Wed Nov 11 2026. No macro, syntax, notation, axiom, sorry.
-/
import Derived.Test.YtmbhlmpdkkjedaaChecked
import GoSem.Claim
import GoSem.ClaimJoined
import GoSem.ClaimMapViews
import Derived.JoinedTies
import Derived.KernelRfl
namespace Go.Proofs.Ytmbhlmpdkkjedaa
/- THE CELL 'sum', in the pinned program and in every row, IS THE sha256 OF THE DUMP (.gsa) THAT YtmbhlmpdkkjedaaProg.lean LOADS. Nothing in Lean hashes anything: it is a label: what it is worth is what the hold of that sum in a sandbox is worth. -/
noncomputable def Try.pinned : Pinned := { name := "ytmbhlmpdkkjedaa", sum := "d52655e3192947f27a06b737148f4a43743d9d187b81f748f567c3fb3a5e4d3a", checked := Try.checked }
namespace Rows
def none {H : Type} : Left H := { results := [], args := [] }

/-- 'laws.FnExactTafOk': WHATEVER THE INPUT: true; the input reads as it did. -/
def fnExactTafOkSpec : ChangeSpec := { name := "fnExactTafOk", fn := fun _ => fun
  | [d] => { results := [.lit (.bool true)], args := [d] }
  | _ => none }
def fnExactTafOkRow : OpenClaim := { program := "ytmbhlmpdkkjedaa", sum := "d52655e3192947f27a06b737148f4a43743d9d187b81f748f567c3fb3a5e4d3a", func := "loop.example/g00051/laws.FnExactTafOk", spec := "fnExactTafOk", apart := false }
def FnExactTafOkSaid : Prop := fnExactTafOkRow.holds Try.pinned (OpenSpec.ofChange fnExactTafOkSpec)

/-- ITS FALSE NEIGHBOUR: 'it returns false'. Refute it at one input. -/
def fnExactTafOkWrong : ChangeSpec := { name := "fnExactTafOk", fn := fun _ => fun
  | [d] => { results := [.lit (.bool false)], args := [d] }
  | _ => none }
def FnExactTafOkWrongFalsely : Prop := fnExactTafOkRow.holds Try.pinned (OpenSpec.ofChange fnExactTafOkWrong)

/-- 'laws.FnExactStateAt': WHATEVER THE INPUT: true; the input reads as it did. -/
def fnExactStateAtSpec : ChangeSpec := { name := "fnExactStateAt", fn := fun _ => fun
  | [d1, d2] => { results := [.lit (.bool true)], args := [d1, d2] }
  | _ => none }
def fnExactStateAtRow : OpenClaim := { program := "ytmbhlmpdkkjedaa", sum := "d52655e3192947f27a06b737148f4a43743d9d187b81f748f567c3fb3a5e4d3a", func := "loop.example/g00051/laws.FnExactStateAt", spec := "fnExactStateAt", apart := false }
def FnExactStateAtSaid : Prop := fnExactStateAtRow.holds Try.pinned (OpenSpec.ofChange fnExactStateAtSpec)

/-- ITS FALSE NEIGHBOUR: 'it returns false'. Refute it at one input. -/
def fnExactStateAtWrong : ChangeSpec := { name := "fnExactStateAt", fn := fun _ => fun
  | [d1, d2] => { results := [.lit (.bool false)], args := [d1, d2] }
  | _ => none }
def FnExactStateAtWrongFalsely : Prop := fnExactStateAtRow.holds Try.pinned (OpenSpec.ofChange fnExactStateAtWrong)

/-- 'laws.FnExactParts': WHATEVER THE INPUT: true; the input reads as it did. -/
def fnExactPartsSpec : ChangeSpec := { name := "fnExactParts", fn := fun _ => fun
  | [d] => { results := [.lit (.bool true)], args := [d] }
  | _ => none }
def fnExactPartsRow : OpenClaim := { program := "ytmbhlmpdkkjedaa", sum := "d52655e3192947f27a06b737148f4a43743d9d187b81f748f567c3fb3a5e4d3a", func := "loop.example/g00051/laws.FnExactParts", spec := "fnExactParts", recurses := true, apart := false }
def FnExactPartsSaid : Prop := fnExactPartsRow.holds Try.pinned (OpenSpec.ofChange fnExactPartsSpec)

/-- ITS FALSE NEIGHBOUR: 'it returns false'. Refute it at one input. -/
def fnExactPartsWrong : ChangeSpec := { name := "fnExactParts", fn := fun _ => fun
  | [d] => { results := [.lit (.bool false)], args := [d] }
  | _ => none }
def FnExactPartsWrongFalsely : Prop := fnExactPartsRow.holds Try.pinned (OpenSpec.ofChange fnExactPartsWrong)

/-- 'laws.FnExactWorstSight': WHATEVER THE INPUT: true; the input reads as it did. -/
def fnExactWorstSightSpec : ChangeSpec := { name := "fnExactWorstSight", fn := fun _ => fun
  | [d] => { results := [.lit (.bool true)], args := [d] }
  | _ => none }
def fnExactWorstSightRow : OpenClaim := { program := "ytmbhlmpdkkjedaa", sum := "d52655e3192947f27a06b737148f4a43743d9d187b81f748f567c3fb3a5e4d3a", func := "loop.example/g00051/laws.FnExactWorstSight", spec := "fnExactWorstSight", recurses := true, apart := false }
def FnExactWorstSightSaid : Prop := fnExactWorstSightRow.holds Try.pinned (OpenSpec.ofChange fnExactWorstSightSpec)

/-- ITS FALSE NEIGHBOUR: 'it returns false'. Refute it at one input. -/
def fnExactWorstSightWrong : ChangeSpec := { name := "fnExactWorstSight", fn := fun _ => fun
  | [d] => { results := [.lit (.bool false)], args := [d] }
  | _ => none }
def FnExactWorstSightWrongFalsely : Prop := fnExactWorstSightRow.holds Try.pinned (OpenSpec.ofChange fnExactWorstSightWrong)

/- THE SECOND FORM. 'bulk': how many values and letters a reading holds, each counted each time it is reached (what is shared counts as often as it is met; a slice's spare places count too). A statement '..UptoSaid' is the law's where the arguments, and the package variables that the reading takes, are together of bulk at most 1048576: NARROWER than '..Said'. Prove '..Said' where nothing that the law and all that it calls make is longer than what came in: it says more and counts as full. Else prove '..UptoSaid'. A law counts once. -/
mutual
def uptoBulk {H : Type} : DataW H → Nat
  | .lit (.string bytes) => bytes.length + 1
  | .lit _ => 1
  | .nil => 1
  | .ptr d => uptoBulk d + 1
  | .slice elems spare => uptoBulkAll elems + uptoBulkAll spare + 1
  | .agg parts => uptoBulkAll parts + 1
  | .iface _ d => uptoBulk d + 1
  | .map entries => uptoBulkEntries entries + 1
  | .held _ => 1
def uptoBulkAll {H : Type} : List (DataW H) → Nat
  | [] => 0
  | d :: r => uptoBulk d + uptoBulkAll r
def uptoBulkEntries {H : Type} : List (Lit × DataW H) → Nat
  | [] => 0
  | x :: r => uptoBulkEntry x + uptoBulkEntries r
def uptoBulkEntry {H : Type} : Lit × DataW H → Nat
  | (.string bytes, d) => bytes.length + uptoBulk d + 1
  | (_, d) => uptoBulk d + 1
 end
def uptoSmall : (H : Type) → List (DataW H) → Bool := fun _ ds => decide (uptoBulkAll ds ≤ 1048576)
def OpenSpec.upto (s : _root_.Go.ChangeSpec) : _root_.Go.OpenSpec := { _root_.Go.OpenSpec.ofChange s with cond := some uptoSmall }

/-- 'laws.FnExactTafOk', WHERE WHAT IT READS IS OF BULK AT MOST 1048576: true; the input reads as it did. -/
def fnExactTafOkUptoRow : OpenClaim := { program := "ytmbhlmpdkkjedaa", sum := "d52655e3192947f27a06b737148f4a43743d9d187b81f748f567c3fb3a5e4d3a", func := "loop.example/g00051/laws.FnExactTafOk", spec := "fnExactTafOk", apart := false, narrowed := true }
def FnExactTafOkUptoSaid : Prop := fnExactTafOkUptoRow.holds Try.pinned (OpenSpec.upto fnExactTafOkSpec)

/-- 'laws.FnExactStateAt', WHERE WHAT IT READS IS OF BULK AT MOST 1048576: true; the input reads as it did. -/
def fnExactStateAtUptoRow : OpenClaim := { program := "ytmbhlmpdkkjedaa", sum := "d52655e3192947f27a06b737148f4a43743d9d187b81f748f567c3fb3a5e4d3a", func := "loop.example/g00051/laws.FnExactStateAt", spec := "fnExactStateAt", apart := false, narrowed := true }
def FnExactStateAtUptoSaid : Prop := fnExactStateAtUptoRow.holds Try.pinned (OpenSpec.upto fnExactStateAtSpec)

/-- 'laws.FnExactParts', WHERE WHAT IT READS IS OF BULK AT MOST 1048576: true; the input reads as it did. -/
def fnExactPartsUptoRow : OpenClaim := { program := "ytmbhlmpdkkjedaa", sum := "d52655e3192947f27a06b737148f4a43743d9d187b81f748f567c3fb3a5e4d3a", func := "loop.example/g00051/laws.FnExactParts", spec := "fnExactParts", recurses := true, apart := false, narrowed := true }
def FnExactPartsUptoSaid : Prop := fnExactPartsUptoRow.holds Try.pinned (OpenSpec.upto fnExactPartsSpec)

/-- 'laws.FnExactWorstSight', WHERE WHAT IT READS IS OF BULK AT MOST 1048576: true; the input reads as it did. -/
def fnExactWorstSightUptoRow : OpenClaim := { program := "ytmbhlmpdkkjedaa", sum := "d52655e3192947f27a06b737148f4a43743d9d187b81f748f567c3fb3a5e4d3a", func := "loop.example/g00051/laws.FnExactWorstSight", spec := "fnExactWorstSight", recurses := true, apart := false, narrowed := true }
def FnExactWorstSightUptoSaid : Prop := fnExactWorstSightUptoRow.holds Try.pinned (OpenSpec.upto fnExactWorstSightSpec)

end Rows
end Go.Proofs.Ytmbhlmpdkkjedaa
