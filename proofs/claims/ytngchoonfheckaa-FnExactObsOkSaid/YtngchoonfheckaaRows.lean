/-
  No cell of these rows narrows 'for every input' (looked for: loops, veiled, ifaces, maps, wideKeys, modest, calm, conditions, laid).
  DERIVED. THE GIVEN ROWS OF THIS SEAT. 2 by the template 'for every input the law returns true; each argument reads behind the call as it read before'; 0 by the template 'total and deterministic' (their statements: YtngchoonfheckaaTotals.lean).
  GIVEN WITH THE SEED: the statements are not yours to turn. If you find one false, say at which input.
  Laid BY PROGRAM, IN A SANDBOX (cutbox-rows.mjs): the forced cells as the released guide's own fill.sh prints them over the translation 96ec1ad15e57db7c… (all of the seat's roots in one cut). By AI agents, Wed Nov 11 2026. No macro, syntax, notation, axiom, sorry.
-/
import Derived.Test.YtngchoonfheckaaChecked
import GoSem.Claim
import GoSem.ClaimJoined
import GoSem.ClaimMapViews
import Derived.JoinedTies
import Derived.KernelRfl
namespace Go.Proofs.Ytngchoonfheckaa
/- THE CELL 'sum', in the pinned program and in every row, IS THE sha256 OF THE DUMP (.gsa) THAT YtngchoonfheckaaProg.lean LOADS. Nothing in Lean hashes anything: it is a label: what it is worth is what the hold of that sum in a sandbox is worth. -/
noncomputable def Try.pinned : Pinned := { name := "ytngchoonfheckaa", sum := "96ec1ad15e57db7cb06bd98b3d989169706f24e7a74202c4d10a1b1f1e968e3f", checked := Try.checked }
namespace Rows
def none {H : Type} : Left H := { results := [], args := [] }

/-- 'laws.FnExactRepair': WHATEVER THE INPUT: true; the input reads as it did. -/
def fnExactRepairSpec : ChangeSpec := { name := "fnExactRepair", fn := fun _ => fun
  | [d] => { results := [.lit (.bool true)], args := [d] }
  | _ => none }
def fnExactRepairRow : OpenClaim := { program := "ytngchoonfheckaa", sum := "96ec1ad15e57db7cb06bd98b3d989169706f24e7a74202c4d10a1b1f1e968e3f", func := "loop.example/g00051/laws.FnExactRepair", spec := "fnExactRepair", apart := false }
def FnExactRepairSaid : Prop := fnExactRepairRow.holds Try.pinned (OpenSpec.ofChange fnExactRepairSpec)

/-- ITS FALSE NEIGHBOUR: 'it returns false'. Refute it at one input. -/
def fnExactRepairWrong : ChangeSpec := { name := "fnExactRepair", fn := fun _ => fun
  | [d] => { results := [.lit (.bool false)], args := [d] }
  | _ => none }
def FnExactRepairWrongFalsely : Prop := fnExactRepairRow.holds Try.pinned (OpenSpec.ofChange fnExactRepairWrong)

/-- 'laws.FnExactObsOk': WHATEVER THE INPUT: true; the input reads as it did. -/
def fnExactObsOkSpec : ChangeSpec := { name := "fnExactObsOk", fn := fun _ => fun
  | [d] => { results := [.lit (.bool true)], args := [d] }
  | _ => none }
def fnExactObsOkRow : OpenClaim := { program := "ytngchoonfheckaa", sum := "96ec1ad15e57db7cb06bd98b3d989169706f24e7a74202c4d10a1b1f1e968e3f", func := "loop.example/g00051/laws.FnExactObsOk", spec := "fnExactObsOk", inPlace := ["math.Float64bits", "math.RoundToEven"], apart := false }
def FnExactObsOkSaid : Prop := fnExactObsOkRow.holds Try.pinned (OpenSpec.ofChange fnExactObsOkSpec)

/-- ITS FALSE NEIGHBOUR: 'it returns false'. Refute it at one input. -/
def fnExactObsOkWrong : ChangeSpec := { name := "fnExactObsOk", fn := fun _ => fun
  | [d] => { results := [.lit (.bool false)], args := [d] }
  | _ => none }
def FnExactObsOkWrongFalsely : Prop := fnExactObsOkRow.holds Try.pinned (OpenSpec.ofChange fnExactObsOkWrong)

/- THE SECOND FORM. 'bulk': how many values and letters a reading holds, each counted each time it is reached (what is shared counts as often as it is met; a slice's spare places count too). A statement '..UptoSaid' is the law's where the arguments, and the package variables that the reading takes, are together of bulk at most 1048576: NARROWER than '..Said'. Prove '..Said' where nothing that the law and all that it calls make is longer than what came in: it says more and counts as full. Else prove '..UptoSaid'. A law counts once. -/
mutual
def uptoBulk {H : Type} : DataW H → Nat
  | .lit (.string bytes) => bytes.length + 1
  | .lit _ => 1
  | .nil => 1
  | .ptr d => uptoBulk d + 1
  | .slice elems spare => uptoBulkAll elems + uptoBulkAll spare + 1
  | .agg parts => uptoBulkAll parts + 1
  | .iface _ d => uptoBulk d + 1
  | .map entries => uptoBulkEntries entries + 1
  | .held _ => 1
def uptoBulkAll {H : Type} : List (DataW H) → Nat
  | [] => 0
  | d :: r => uptoBulk d + uptoBulkAll r
def uptoBulkEntries {H : Type} : List (Lit × DataW H) → Nat
  | [] => 0
  | x :: r => uptoBulkEntry x + uptoBulkEntries r
def uptoBulkEntry {H : Type} : Lit × DataW H → Nat
  | (.string bytes, d) => bytes.length + uptoBulk d + 1
  | (_, d) => uptoBulk d + 1
 end
def uptoSmall : (H : Type) → List (DataW H) → Bool := fun _ ds => decide (uptoBulkAll ds ≤ 1048576)
def OpenSpec.upto (s : _root_.Go.ChangeSpec) : _root_.Go.OpenSpec := { _root_.Go.OpenSpec.ofChange s with cond := some uptoSmall }

/-- 'laws.FnExactRepair', WHERE WHAT IT READS IS OF BULK AT MOST 1048576: true; the input reads as it did. -/
def fnExactRepairUptoRow : OpenClaim := { program := "ytngchoonfheckaa", sum := "96ec1ad15e57db7cb06bd98b3d989169706f24e7a74202c4d10a1b1f1e968e3f", func := "loop.example/g00051/laws.FnExactRepair", spec := "fnExactRepair", apart := false, narrowed := true }
def FnExactRepairUptoSaid : Prop := fnExactRepairUptoRow.holds Try.pinned (OpenSpec.upto fnExactRepairSpec)

/-- 'laws.FnExactObsOk', WHERE WHAT IT READS IS OF BULK AT MOST 1048576: true; the input reads as it did. -/
def fnExactObsOkUptoRow : OpenClaim := { program := "ytngchoonfheckaa", sum := "96ec1ad15e57db7cb06bd98b3d989169706f24e7a74202c4d10a1b1f1e968e3f", func := "loop.example/g00051/laws.FnExactObsOk", spec := "fnExactObsOk", inPlace := ["math.Float64bits", "math.RoundToEven"], apart := false, narrowed := true }
def FnExactObsOkUptoSaid : Prop := fnExactObsOkUptoRow.holds Try.pinned (OpenSpec.upto fnExactObsOkSpec)

end Rows
end Go.Proofs.Ytngchoonfheckaa
