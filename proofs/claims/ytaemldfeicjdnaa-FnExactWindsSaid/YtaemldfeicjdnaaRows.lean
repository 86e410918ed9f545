/-
  No cell of these rows narrows 'for every input' (looked for: loops, veiled, ifaces, maps, wideKeys, modest, calm, conditions, laid).
  DERIVED. THE GIVEN ROWS OF THIS SEAT. 5 by the template 'for every input the law returns true; each argument reads behind the call as it read before'; 0 by the template 'total and deterministic' (their statements: YtaemldfeicjdnaaTotals.lean).
  GIVEN WITH THE SEED: the statements are not yours to turn. If you find one false, say at which input.
  Laid BY PROGRAM, IN A SANDBOX (cutbox-rows.mjs): the forced cells as the released guide's own fill.sh prints them over the translation 5fd66a5b350a4b8d… (all of the seat's roots in one cut). By AI agents, Wed Nov 11 2026. No macro, syntax, notation, axiom, sorry.
-/
import Derived.Test.YtaemldfeicjdnaaChecked
import GoSem.Claim
import GoSem.ClaimJoined
import GoSem.ClaimMapViews
import Derived.JoinedTies
import Derived.KernelRfl
namespace Go.Proofs.Ytaemldfeicjdnaa
/- THE CELL 'sum', in the pinned program and in every row, IS THE sha256 OF THE DUMP (.gsa) THAT YtaemldfeicjdnaaProg.lean LOADS. Nothing in Lean hashes anything: it is a label: what it is worth is what the hold of that sum in a sandbox is worth. -/
noncomputable def Try.pinned : Pinned := { name := "ytaemldfeicjdnaa", sum := "5fd66a5b350a4b8d13a609ebbdaf00e39c71e4a48ee37fcd6e02d7a6505a5d7a", checked := Try.checked }
namespace Rows
def none {H : Type} : Left H := { results := [], args := [] }

/-- 'laws.FnExactGridOk': WHATEVER THE INPUT: true; the input reads as it did. -/
def fnExactGridOkSpec : ChangeSpec := { name := "fnExactGridOk", fn := fun _ => fun
  | [d] => { results := [.lit (.bool true)], args := [d] }
  | _ => none }
def fnExactGridOkRow : OpenClaim := { program := "ytaemldfeicjdnaa", sum := "5fd66a5b350a4b8d13a609ebbdaf00e39c71e4a48ee37fcd6e02d7a6505a5d7a", func := "loop.example/g00051/laws.FnExactGridOk", spec := "fnExactGridOk", apart := false }
def FnExactGridOkSaid : Prop := fnExactGridOkRow.holds Try.pinned (OpenSpec.ofChange fnExactGridOkSpec)

/-- ITS FALSE NEIGHBOUR: 'it returns false'. Refute it at one input. -/
def fnExactGridOkWrong : ChangeSpec := { name := "fnExactGridOk", fn := fun _ => fun
  | [d] => { results := [.lit (.bool false)], args := [d] }
  | _ => none }
def FnExactGridOkWrongFalsely : Prop := fnExactGridOkRow.holds Try.pinned (OpenSpec.ofChange fnExactGridOkWrong)

/-- 'laws.FnExactBoxOk': WHATEVER THE INPUT: true; the input reads as it did. -/
def fnExactBoxOkSpec : ChangeSpec := { name := "fnExactBoxOk", fn := fun _ => fun
  | [d] => { results := [.lit (.bool true)], args := [d] }
  | _ => none }
def fnExactBoxOkRow : OpenClaim := { program := "ytaemldfeicjdnaa", sum := "5fd66a5b350a4b8d13a609ebbdaf00e39c71e4a48ee37fcd6e02d7a6505a5d7a", func := "loop.example/g00051/laws.FnExactBoxOk", spec := "fnExactBoxOk", apart := false }
def FnExactBoxOkSaid : Prop := fnExactBoxOkRow.holds Try.pinned (OpenSpec.ofChange fnExactBoxOkSpec)

/-- ITS FALSE NEIGHBOUR: 'it returns false'. Refute it at one input. -/
def fnExactBoxOkWrong : ChangeSpec := { name := "fnExactBoxOk", fn := fun _ => fun
  | [d] => { results := [.lit (.bool false)], args := [d] }
  | _ => none }
def FnExactBoxOkWrongFalsely : Prop := fnExactBoxOkRow.holds Try.pinned (OpenSpec.ofChange fnExactBoxOkWrong)

/-- 'laws.FnExactArea': WHATEVER THE INPUT: true; the input reads as it did. -/
def fnExactAreaSpec : ChangeSpec := { name := "fnExactArea", fn := fun _ => fun
  | [d] => { results := [.lit (.bool true)], args := [d] }
  | _ => none }
def fnExactAreaRow : OpenClaim := { program := "ytaemldfeicjdnaa", sum := "5fd66a5b350a4b8d13a609ebbdaf00e39c71e4a48ee37fcd6e02d7a6505a5d7a", func := "loop.example/g00051/laws.FnExactArea", spec := "fnExactArea", unfollowed := true, recurses := true, apart := false }
def FnExactAreaSaid : Prop := fnExactAreaRow.holds Try.pinned (OpenSpec.ofChange fnExactAreaSpec)

/-- ITS FALSE NEIGHBOUR: 'it returns false'. Refute it at one input. -/
def fnExactAreaWrong : ChangeSpec := { name := "fnExactArea", fn := fun _ => fun
  | [d] => { results := [.lit (.bool false)], args := [d] }
  | _ => none }
def FnExactAreaWrongFalsely : Prop := fnExactAreaRow.holds Try.pinned (OpenSpec.ofChange fnExactAreaWrong)

/-- 'laws.FnExactWinds': WHATEVER THE INPUT: true; the input reads as it did. -/
def fnExactWindsSpec : ChangeSpec := { name := "fnExactWinds", fn := fun _ => fun
  | [d1, d2, d3] => { results := [.lit (.bool true)], args := [d1, d2, d3] }
  | _ => none }
def fnExactWindsRow : OpenClaim := { program := "ytaemldfeicjdnaa", sum := "5fd66a5b350a4b8d13a609ebbdaf00e39c71e4a48ee37fcd6e02d7a6505a5d7a", func := "loop.example/g00051/laws.FnExactWinds", spec := "fnExactWinds", unfollowed := true, recurses := true, apart := false }
def FnExactWindsSaid : Prop := fnExactWindsRow.holds Try.pinned (OpenSpec.ofChange fnExactWindsSpec)

/-- ITS FALSE NEIGHBOUR: 'it returns false'. Refute it at one input. -/
def fnExactWindsWrong : ChangeSpec := { name := "fnExactWinds", fn := fun _ => fun
  | [d1, d2, d3] => { results := [.lit (.bool false)], args := [d1, d2, d3] }
  | _ => none }
def FnExactWindsWrongFalsely : Prop := fnExactWindsRow.holds Try.pinned (OpenSpec.ofChange fnExactWindsWrong)

/-- 'laws.FnExactClosed': WHATEVER THE INPUT: true; the input reads as it did. -/
def fnExactClosedSpec : ChangeSpec := { name := "fnExactClosed", fn := fun _ => fun
  | [d] => { results := [.lit (.bool true)], args := [d] }
  | _ => none }
def fnExactClosedRow : OpenClaim := { program := "ytaemldfeicjdnaa", sum := "5fd66a5b350a4b8d13a609ebbdaf00e39c71e4a48ee37fcd6e02d7a6505a5d7a", func := "loop.example/g00051/laws.FnExactClosed", spec := "fnExactClosed", unfollowed := true, recurses := true, apart := false }
def FnExactClosedSaid : Prop := fnExactClosedRow.holds Try.pinned (OpenSpec.ofChange fnExactClosedSpec)

/-- ITS FALSE NEIGHBOUR: 'it returns false'. Refute it at one input. -/
def fnExactClosedWrong : ChangeSpec := { name := "fnExactClosed", fn := fun _ => fun
  | [d] => { results := [.lit (.bool false)], args := [d] }
  | _ => none }
def FnExactClosedWrongFalsely : Prop := fnExactClosedRow.holds Try.pinned (OpenSpec.ofChange fnExactClosedWrong)

/- THE SECOND FORM. 'bulk': how many values and letters a reading holds, each counted each time it is reached (what is shared counts as often as it is met; a slice's spare places count too). A statement '..UptoSaid' is the law's where the arguments, and the package variables that the reading takes, are together of bulk at most 1048576: NARROWER than '..Said'. Prove '..Said' where nothing that the law and all that it calls make is longer than what came in: it says more and counts as full. Else prove '..UptoSaid'. A law counts once. -/
mutual
def uptoBulk {H : Type} : DataW H → Nat
  | .lit (.string bytes) => bytes.length + 1
  | .lit _ => 1
  | .nil => 1
  | .ptr d => uptoBulk d + 1
  | .slice elems spare => uptoBulkAll elems + uptoBulkAll spare + 1
  | .agg parts => uptoBulkAll parts + 1
  | .iface _ d => uptoBulk d + 1
  | .map entries => uptoBulkEntries entries + 1
  | .held _ => 1
def uptoBulkAll {H : Type} : List (DataW H) → Nat
  | [] => 0
  | d :: r => uptoBulk d + uptoBulkAll r
def uptoBulkEntries {H : Type} : List (Lit × DataW H) → Nat
  | [] => 0
  | x :: r => uptoBulkEntry x + uptoBulkEntries r
def uptoBulkEntry {H : Type} : Lit × DataW H → Nat
  | (.string bytes, d) => bytes.length + uptoBulk d + 1
  | (_, d) => uptoBulk d + 1
 end
def uptoSmall : (H : Type) → List (DataW H) → Bool := fun _ ds => decide (uptoBulkAll ds ≤ 1048576)
def OpenSpec.upto (s : _root_.Go.ChangeSpec) : _root_.Go.OpenSpec := { _root_.Go.OpenSpec.ofChange s with cond := some uptoSmall }

/-- 'laws.FnExactGridOk', WHERE WHAT IT READS IS OF BULK AT MOST 1048576: true; the input reads as it did. -/
def fnExactGridOkUptoRow : OpenClaim := { program := "ytaemldfeicjdnaa", sum := "5fd66a5b350a4b8d13a609ebbdaf00e39c71e4a48ee37fcd6e02d7a6505a5d7a", func := "loop.example/g00051/laws.FnExactGridOk", spec := "fnExactGridOk", apart := false, narrowed := true }
def FnExactGridOkUptoSaid : Prop := fnExactGridOkUptoRow.holds Try.pinned (OpenSpec.upto fnExactGridOkSpec)

/-- 'laws.FnExactBoxOk', WHERE WHAT IT READS IS OF BULK AT MOST 1048576: true; the input reads as it did. -/
def fnExactBoxOkUptoRow : OpenClaim := { program := "ytaemldfeicjdnaa", sum := "5fd66a5b350a4b8d13a609ebbdaf00e39c71e4a48ee37fcd6e02d7a6505a5d7a", func := "loop.example/g00051/laws.FnExactBoxOk", spec := "fnExactBoxOk", apart := false, narrowed := true }
def FnExactBoxOkUptoSaid : Prop := fnExactBoxOkUptoRow.holds Try.pinned (OpenSpec.upto fnExactBoxOkSpec)

/-- 'laws.FnExactArea', WHERE WHAT IT READS IS OF BULK AT MOST 1048576: true; the input reads as it did. -/
def fnExactAreaUptoRow : OpenClaim := { program := "ytaemldfeicjdnaa", sum := "5fd66a5b350a4b8d13a609ebbdaf00e39c71e4a48ee37fcd6e02d7a6505a5d7a", func := "loop.example/g00051/laws.FnExactArea", spec := "fnExactArea", unfollowed := true, recurses := true, apart := false, narrowed := true }
def FnExactAreaUptoSaid : Prop := fnExactAreaUptoRow.holds Try.pinned (OpenSpec.upto fnExactAreaSpec)

/-- 'laws.FnExactWinds', WHERE WHAT IT READS IS OF BULK AT MOST 1048576: true; the input reads as it did. -/
def fnExactWindsUptoRow : OpenClaim := { program := "ytaemldfeicjdnaa", sum := "5fd66a5b350a4b8d13a609ebbdaf00e39c71e4a48ee37fcd6e02d7a6505a5d7a", func := "loop.example/g00051/laws.FnExactWinds", spec := "fnExactWinds", unfollowed := true, recurses := true, apart := false, narrowed := true }
def FnExactWindsUptoSaid : Prop := fnExactWindsUptoRow.holds Try.pinned (OpenSpec.upto fnExactWindsSpec)

/-- 'laws.FnExactClosed', WHERE WHAT IT READS IS OF BULK AT MOST 1048576: true; the input reads as it did. -/
def fnExactClosedUptoRow : OpenClaim := { program := "ytaemldfeicjdnaa", sum := "5fd66a5b350a4b8d13a609ebbdaf00e39c71e4a48ee37fcd6e02d7a6505a5d7a", func := "loop.example/g00051/laws.FnExactClosed", spec := "fnExactClosed", unfollowed := true, recurses := true, apart := false, narrowed := true }
def FnExactClosedUptoSaid : Prop := fnExactClosedUptoRow.holds Try.pinned (OpenSpec.upto fnExactClosedSpec)

end Rows
end Go.Proofs.Ytaemldfeicjdnaa
