/-
  No cell of these rows narrows 'for every input' (looked for: loops, veiled, ifaces, maps, wideKeys, modest, calm, conditions, laid).
  DERIVED. THE GIVEN ROWS OF THIS SEAT. 5 by the template 'for every input the law returns true; each argument reads behind the call as it read before'; 0 by the template 'total and deterministic' (their statements: YtpcgnahjibfphaaTotals.lean).
  GIVEN WITH THE SEED: the statements are not yours to turn. If you find one false, say at which input.
  Laid BY PROGRAM, IN A SANDBOX (cutbox-rows.mjs): the forced cells as the released guide's own fill.sh prints them over the translation 67ba91c50e8e5122… (all of the seat's roots in one cut). By AI agents, Wed Nov 11 2026. No macro, syntax, notation, axiom, sorry.
-/
import Derived.Test.YtpcgnahjibfphaaChecked
import GoSem.Claim
import GoSem.ClaimJoined
import GoSem.ClaimMapViews
import Derived.JoinedTies
import Derived.KernelRfl
namespace Go.Proofs.Ytpcgnahjibfphaa
/- THE CELL 'sum', in the pinned program and in every row, IS THE sha256 OF THE DUMP (.gsa) THAT YtpcgnahjibfphaaProg.lean LOADS. Nothing in Lean hashes anything: it is a label: what it is worth is what the hold of that sum in a sandbox is worth. -/
noncomputable def Try.pinned : Pinned := { name := "ytpcgnahjibfphaa", sum := "67ba91c50e8e51223b053208163de2b3cbbf4da8592cbcd83ad3fc00ad911459", checked := Try.checked }
namespace Rows
def none {H : Type} : Left H := { results := [], args := [] }

/-- 'laws.FnExactAscentOk': WHATEVER THE INPUT: true; the input reads as it did. -/
def fnExactAscentOkSpec : ChangeSpec := { name := "fnExactAscentOk", fn := fun _ => fun
  | [d] => { results := [.lit (.bool true)], args := [d] }
  | _ => none }
def fnExactAscentOkRow : OpenClaim := { program := "ytpcgnahjibfphaa", sum := "67ba91c50e8e51223b053208163de2b3cbbf4da8592cbcd83ad3fc00ad911459", func := "loop.example/g00051/laws.FnExactAscentOk", spec := "fnExactAscentOk", apart := false }
def FnExactAscentOkSaid : Prop := fnExactAscentOkRow.holds Try.pinned (OpenSpec.ofChange fnExactAscentOkSpec)

/-- ITS FALSE NEIGHBOUR: 'it returns false'. Refute it at one input. -/
def fnExactAscentOkWrong : ChangeSpec := { name := "fnExactAscentOk", fn := fun _ => fun
  | [d] => { results := [.lit (.bool false)], args := [d] }
  | _ => none }
def FnExactAscentOkWrongFalsely : Prop := fnExactAscentOkRow.holds Try.pinned (OpenSpec.ofChange fnExactAscentOkWrong)

/-- 'laws.FnExactBetween': WHATEVER THE INPUT: true; the input reads as it did. -/
def fnExactBetweenSpec : ChangeSpec := { name := "fnExactBetween", fn := fun _ => fun
  | [d1, d2, d3] => { results := [.lit (.bool true)], args := [d1, d2, d3] }
  | _ => none }
def fnExactBetweenRow : OpenClaim := { program := "ytpcgnahjibfphaa", sum := "67ba91c50e8e51223b053208163de2b3cbbf4da8592cbcd83ad3fc00ad911459", func := "loop.example/g00051/laws.FnExactBetween", spec := "fnExactBetween", inPlace := ["math.Float64frombits"], apart := false }
def FnExactBetweenSaid : Prop := fnExactBetweenRow.holds Try.pinned (OpenSpec.ofChange fnExactBetweenSpec)

/-- ITS FALSE NEIGHBOUR: 'it returns false'. Refute it at one input. -/
def fnExactBetweenWrong : ChangeSpec := { name := "fnExactBetween", fn := fun _ => fun
  | [d1, d2, d3] => { results := [.lit (.bool false)], args := [d1, d2, d3] }
  | _ => none }
def FnExactBetweenWrongFalsely : Prop := fnExactBetweenRow.holds Try.pinned (OpenSpec.ofChange fnExactBetweenWrong)

/-- 'laws.FnExactRebuild': WHATEVER THE INPUT: true; the input reads as it did. -/
def fnExactRebuildSpec : ChangeSpec := { name := "fnExactRebuild", fn := fun _ => fun
  | [d1, d2] => { results := [.lit (.bool true)], args := [d1, d2] }
  | _ => none }
def fnExactRebuildRow : OpenClaim := { program := "ytpcgnahjibfphaa", sum := "67ba91c50e8e51223b053208163de2b3cbbf4da8592cbcd83ad3fc00ad911459", func := "loop.example/g00051/laws.FnExactRebuild", spec := "fnExactRebuild", inPlace := ["math.Float64frombits"], apart := false }
def FnExactRebuildSaid : Prop := fnExactRebuildRow.holds Try.pinned (OpenSpec.ofChange fnExactRebuildSpec)

/-- ITS FALSE NEIGHBOUR: 'it returns false'. Refute it at one input. -/
def fnExactRebuildWrong : ChangeSpec := { name := "fnExactRebuild", fn := fun _ => fun
  | [d1, d2] => { results := [.lit (.bool false)], args := [d1, d2] }
  | _ => none }
def FnExactRebuildWrongFalsely : Prop := fnExactRebuildRow.holds Try.pinned (OpenSpec.ofChange fnExactRebuildWrong)

/-- 'laws.FnExactInversions': WHATEVER THE INPUT: true; the input reads as it did. -/
def fnExactInversionsSpec : ChangeSpec := { name := "fnExactInversions", fn := fun _ => fun
  | [d] => { results := [.lit (.bool true)], args := [d] }
  | _ => none }
def fnExactInversionsRow : OpenClaim := { program := "ytpcgnahjibfphaa", sum := "67ba91c50e8e51223b053208163de2b3cbbf4da8592cbcd83ad3fc00ad911459", func := "loop.example/g00051/laws.FnExactInversions", spec := "fnExactInversions", apart := false }
def FnExactInversionsSaid : Prop := fnExactInversionsRow.holds Try.pinned (OpenSpec.ofChange fnExactInversionsSpec)

/-- ITS FALSE NEIGHBOUR: 'it returns false'. Refute it at one input. -/
def fnExactInversionsWrong : ChangeSpec := { name := "fnExactInversions", fn := fun _ => fun
  | [d] => { results := [.lit (.bool false)], args := [d] }
  | _ => none }
def FnExactInversionsWrongFalsely : Prop := fnExactInversionsRow.holds Try.pinned (OpenSpec.ofChange fnExactInversionsWrong)

/-- 'laws.FnExactLapseMost': WHATEVER THE INPUT: true; the input reads as it did. -/
def fnExactLapseMostSpec : ChangeSpec := { name := "fnExactLapseMost", fn := fun _ => fun
  | [d] => { results := [.lit (.bool true)], args := [d] }
  | _ => none }
def fnExactLapseMostRow : OpenClaim := { program := "ytpcgnahjibfphaa", sum := "67ba91c50e8e51223b053208163de2b3cbbf4da8592cbcd83ad3fc00ad911459", func := "loop.example/g00051/laws.FnExactLapseMost", spec := "fnExactLapseMost", apart := false }
def FnExactLapseMostSaid : Prop := fnExactLapseMostRow.holds Try.pinned (OpenSpec.ofChange fnExactLapseMostSpec)

/-- ITS FALSE NEIGHBOUR: 'it returns false'. Refute it at one input. -/
def fnExactLapseMostWrong : ChangeSpec := { name := "fnExactLapseMost", fn := fun _ => fun
  | [d] => { results := [.lit (.bool false)], args := [d] }
  | _ => none }
def FnExactLapseMostWrongFalsely : Prop := fnExactLapseMostRow.holds Try.pinned (OpenSpec.ofChange fnExactLapseMostWrong)

/- THE SECOND FORM. 'bulk': how many values and letters a reading holds, each counted each time it is reached (what is shared counts as often as it is met; a slice's spare places count too). A statement '..UptoSaid' is the law's where the arguments, and the package variables that the reading takes, are together of bulk at most 1048576: NARROWER than '..Said'. Prove '..Said' where nothing that the law and all that it calls make is longer than what came in: it says more and counts as full. Else prove '..UptoSaid'. A law counts once. -/
mutual
def uptoBulk {H : Type} : DataW H → Nat
  | .lit (.string bytes) => bytes.length + 1
  | .lit _ => 1
  | .nil => 1
  | .ptr d => uptoBulk d + 1
  | .slice elems spare => uptoBulkAll elems + uptoBulkAll spare + 1
  | .agg parts => uptoBulkAll parts + 1
  | .iface _ d => uptoBulk d + 1
  | .map entries => uptoBulkEntries entries + 1
  | .held _ => 1
def uptoBulkAll {H : Type} : List (DataW H) → Nat
  | [] => 0
  | d :: r => uptoBulk d + uptoBulkAll r
def uptoBulkEntries {H : Type} : List (Lit × DataW H) → Nat
  | [] => 0
  | x :: r => uptoBulkEntry x + uptoBulkEntries r
def uptoBulkEntry {H : Type} : Lit × DataW H → Nat
  | (.string bytes, d) => bytes.length + uptoBulk d + 1
  | (_, d) => uptoBulk d + 1
 end
def uptoSmall : (H : Type) → List (DataW H) → Bool := fun _ ds => decide (uptoBulkAll ds ≤ 1048576)
def OpenSpec.upto (s : _root_.Go.ChangeSpec) : _root_.Go.OpenSpec := { _root_.Go.OpenSpec.ofChange s with cond := some uptoSmall }

/-- 'laws.FnExactAscentOk', WHERE WHAT IT READS IS OF BULK AT MOST 1048576: true; the input reads as it did. -/
def fnExactAscentOkUptoRow : OpenClaim := { program := "ytpcgnahjibfphaa", sum := "67ba91c50e8e51223b053208163de2b3cbbf4da8592cbcd83ad3fc00ad911459", func := "loop.example/g00051/laws.FnExactAscentOk", spec := "fnExactAscentOk", apart := false, narrowed := true }
def FnExactAscentOkUptoSaid : Prop := fnExactAscentOkUptoRow.holds Try.pinned (OpenSpec.upto fnExactAscentOkSpec)

/-- 'laws.FnExactBetween', WHERE WHAT IT READS IS OF BULK AT MOST 1048576: true; the input reads as it did. -/
def fnExactBetweenUptoRow : OpenClaim := { program := "ytpcgnahjibfphaa", sum := "67ba91c50e8e51223b053208163de2b3cbbf4da8592cbcd83ad3fc00ad911459", func := "loop.example/g00051/laws.FnExactBetween", spec := "fnExactBetween", inPlace := ["math.Float64frombits"], apart := false, narrowed := true }
def FnExactBetweenUptoSaid : Prop := fnExactBetweenUptoRow.holds Try.pinned (OpenSpec.upto fnExactBetweenSpec)

/-- 'laws.FnExactRebuild', WHERE WHAT IT READS IS OF BULK AT MOST 1048576: true; the input reads as it did. -/
def fnExactRebuildUptoRow : OpenClaim := { program := "ytpcgnahjibfphaa", sum := "67ba91c50e8e51223b053208163de2b3cbbf4da8592cbcd83ad3fc00ad911459", func := "loop.example/g00051/laws.FnExactRebuild", spec := "fnExactRebuild", inPlace := ["math.Float64frombits"], apart := false, narrowed := true }
def FnExactRebuildUptoSaid : Prop := fnExactRebuildUptoRow.holds Try.pinned (OpenSpec.upto fnExactRebuildSpec)

/-- 'laws.FnExactInversions', WHERE WHAT IT READS IS OF BULK AT MOST 1048576: true; the input reads as it did. -/
def fnExactInversionsUptoRow : OpenClaim := { program := "ytpcgnahjibfphaa", sum := "67ba91c50e8e51223b053208163de2b3cbbf4da8592cbcd83ad3fc00ad911459", func := "loop.example/g00051/laws.FnExactInversions", spec := "fnExactInversions", apart := false, narrowed := true }
def FnExactInversionsUptoSaid : Prop := fnExactInversionsUptoRow.holds Try.pinned (OpenSpec.upto fnExactInversionsSpec)

/-- 'laws.FnExactLapseMost', WHERE WHAT IT READS IS OF BULK AT MOST 1048576: true; the input reads as it did. -/
def fnExactLapseMostUptoRow : OpenClaim := { program := "ytpcgnahjibfphaa", sum := "67ba91c50e8e51223b053208163de2b3cbbf4da8592cbcd83ad3fc00ad911459", func := "loop.example/g00051/laws.FnExactLapseMost", spec := "fnExactLapseMost", apart := false, narrowed := true }
def FnExactLapseMostUptoSaid : Prop := fnExactLapseMostUptoRow.holds Try.pinned (OpenSpec.upto fnExactLapseMostSpec)

end Rows
end Go.Proofs.Ytpcgnahjibfphaa
