/-
  No cell of these rows narrows 'for every input' (looked for: loops, veiled, ifaces, maps, wideKeys, modest, calm, conditions, laid).
  DERIVED. THE GIVEN ROWS OF THIS SEAT. 6 by the template 'for every input the law returns true; each argument reads behind the call as it read before'; 0 by the template 'total and deterministic' (their statements: YtlibkdamfhlceaaTotals.lean).
  GIVEN WITH THE SEED: the statements are not yours to turn. If you find one false, say at which input.
  Laid BY PROGRAM, IN A SANDBOX (cutbox-rows.mjs): the forced cells as the released guide's own fill.sh prints them over the translation 328d89777865039b… (all of the seat's roots in one cut). By AI agents, Wed Nov 11 2026. No macro, syntax, notation, axiom, sorry.
-/
import Derived.Test.YtlibkdamfhlceaaChecked
import GoSem.Claim
import GoSem.ClaimJoined
import GoSem.ClaimMapViews
import Derived.JoinedTies
import Derived.KernelRfl
namespace Go.Proofs.Ytlibkdamfhlceaa
/- THE CELL 'sum', in the pinned program and in every row, IS THE sha256 OF THE DUMP (.gsa) THAT YtlibkdamfhlceaaProg.lean LOADS. Nothing in Lean hashes anything: it is a label: what it is worth is what the hold of that sum in a sandbox is worth. -/
noncomputable def Try.pinned : Pinned := { name := "ytlibkdamfhlceaa", sum := "328d89777865039b3b845e7481a2b92ef62ee8b7a964e3626098907db065439d", checked := Try.checked }
namespace Rows
def none {H : Type} : Left H := { results := [], args := [] }

/-- 'laws.FnExactConvert': WHATEVER THE INPUT: true; the input reads as it did. -/
def fnExactConvertSpec : ChangeSpec := { name := "fnExactConvert", fn := fun _ => fun
  | [d1, d2, d3] => { results := [.lit (.bool true)], args := [d1, d2, d3] }
  | _ => none }
def fnExactConvertRow : OpenClaim := { program := "ytlibkdamfhlceaa", sum := "328d89777865039b3b845e7481a2b92ef62ee8b7a964e3626098907db065439d", func := "loop.example/g00051/laws.FnExactConvert", spec := "fnExactConvert", inPlace := ["math.Float64frombits"], apart := false }
def FnExactConvertSaid : Prop := fnExactConvertRow.holds Try.pinned (OpenSpec.ofChange fnExactConvertSpec)

/-- ITS FALSE NEIGHBOUR: 'it returns false'. Refute it at one input. -/
def fnExactConvertWrong : ChangeSpec := { name := "fnExactConvert", fn := fun _ => fun
  | [d1, d2, d3] => { results := [.lit (.bool false)], args := [d1, d2, d3] }
  | _ => none }
def FnExactConvertWrongFalsely : Prop := fnExactConvertRow.holds Try.pinned (OpenSpec.ofChange fnExactConvertWrong)

/-- 'laws.FnExactVapour': WHATEVER THE INPUT: true; the input reads as it did. -/
def fnExactVapourSpec : ChangeSpec := { name := "fnExactVapour", fn := fun _ => fun
  | [d] => { results := [.lit (.bool true)], args := [d] }
  | _ => none }
def fnExactVapourRow : OpenClaim := { program := "ytlibkdamfhlceaa", sum := "328d89777865039b3b845e7481a2b92ef62ee8b7a964e3626098907db065439d", func := "loop.example/g00051/laws.FnExactVapour", spec := "fnExactVapour", inPlace := ["math.Float64frombits"], apart := false }
def FnExactVapourSaid : Prop := fnExactVapourRow.holds Try.pinned (OpenSpec.ofChange fnExactVapourSpec)

/-- ITS FALSE NEIGHBOUR: 'it returns false'. Refute it at one input. -/
def fnExactVapourWrong : ChangeSpec := { name := "fnExactVapour", fn := fun _ => fun
  | [d] => { results := [.lit (.bool false)], args := [d] }
  | _ => none }
def FnExactVapourWrongFalsely : Prop := fnExactVapourRow.holds Try.pinned (OpenSpec.ofChange fnExactVapourWrong)

/-- 'laws.FnExactHumidity': WHATEVER THE INPUT: true; the input reads as it did. -/
def fnExactHumiditySpec : ChangeSpec := { name := "fnExactHumidity", fn := fun _ => fun
  | [d1, d2] => { results := [.lit (.bool true)], args := [d1, d2] }
  | _ => none }
def fnExactHumidityRow : OpenClaim := { program := "ytlibkdamfhlceaa", sum := "328d89777865039b3b845e7481a2b92ef62ee8b7a964e3626098907db065439d", func := "loop.example/g00051/laws.FnExactHumidity", spec := "fnExactHumidity", inPlace := ["math.Float64frombits"], apart := false }
def FnExactHumiditySaid : Prop := fnExactHumidityRow.holds Try.pinned (OpenSpec.ofChange fnExactHumiditySpec)

/-- ITS FALSE NEIGHBOUR: 'it returns false'. Refute it at one input. -/
def fnExactHumidityWrong : ChangeSpec := { name := "fnExactHumidity", fn := fun _ => fun
  | [d1, d2] => { results := [.lit (.bool false)], args := [d1, d2] }
  | _ => none }
def FnExactHumidityWrongFalsely : Prop := fnExactHumidityRow.holds Try.pinned (OpenSpec.ofChange fnExactHumidityWrong)

/-- 'laws.FnExactDewOf': WHATEVER THE INPUT: true; the input reads as it did. -/
def fnExactDewOfSpec : ChangeSpec := { name := "fnExactDewOf", fn := fun _ => fun
  | [d1, d2] => { results := [.lit (.bool true)], args := [d1, d2] }
  | _ => none }
def fnExactDewOfRow : OpenClaim := { program := "ytlibkdamfhlceaa", sum := "328d89777865039b3b845e7481a2b92ef62ee8b7a964e3626098907db065439d", func := "loop.example/g00051/laws.FnExactDewOf", spec := "fnExactDewOf", inPlace := ["math.Float64frombits", "math.Float64bits"], apart := false }
def FnExactDewOfSaid : Prop := fnExactDewOfRow.holds Try.pinned (OpenSpec.ofChange fnExactDewOfSpec)

/-- ITS FALSE NEIGHBOUR: 'it returns false'. Refute it at one input. -/
def fnExactDewOfWrong : ChangeSpec := { name := "fnExactDewOf", fn := fun _ => fun
  | [d1, d2] => { results := [.lit (.bool false)], args := [d1, d2] }
  | _ => none }
def FnExactDewOfWrongFalsely : Prop := fnExactDewOfRow.holds Try.pinned (OpenSpec.ofChange fnExactDewOfWrong)

/-- 'laws.FnExactMulPair': WHATEVER THE INPUT: true; the input reads as it did. -/
def fnExactMulPairSpec : ChangeSpec := { name := "fnExactMulPair", fn := fun _ => fun
  | [d1, d2] => { results := [.lit (.bool true)], args := [d1, d2] }
  | _ => none }
def fnExactMulPairRow : OpenClaim := { program := "ytlibkdamfhlceaa", sum := "328d89777865039b3b845e7481a2b92ef62ee8b7a964e3626098907db065439d", func := "loop.example/g00051/laws.FnExactMulPair", spec := "fnExactMulPair", apart := false }
def FnExactMulPairSaid : Prop := fnExactMulPairRow.holds Try.pinned (OpenSpec.ofChange fnExactMulPairSpec)

/-- ITS FALSE NEIGHBOUR: 'it returns false'. Refute it at one input. -/
def fnExactMulPairWrong : ChangeSpec := { name := "fnExactMulPair", fn := fun _ => fun
  | [d1, d2] => { results := [.lit (.bool false)], args := [d1, d2] }
  | _ => none }
def FnExactMulPairWrongFalsely : Prop := fnExactMulPairRow.holds Try.pinned (OpenSpec.ofChange fnExactMulPairWrong)

/-- 'laws.FnExactConjPair': WHATEVER THE INPUT: true; the input reads as it did. -/
def fnExactConjPairSpec : ChangeSpec := { name := "fnExactConjPair", fn := fun _ => fun
  | [d] => { results := [.lit (.bool true)], args := [d] }
  | _ => none }
def fnExactConjPairRow : OpenClaim := { program := "ytlibkdamfhlceaa", sum := "328d89777865039b3b845e7481a2b92ef62ee8b7a964e3626098907db065439d", func := "loop.example/g00051/laws.FnExactConjPair", spec := "fnExactConjPair", apart := false }
def FnExactConjPairSaid : Prop := fnExactConjPairRow.holds Try.pinned (OpenSpec.ofChange fnExactConjPairSpec)

/-- ITS FALSE NEIGHBOUR: 'it returns false'. Refute it at one input. -/
def fnExactConjPairWrong : ChangeSpec := { name := "fnExactConjPair", fn := fun _ => fun
  | [d] => { results := [.lit (.bool false)], args := [d] }
  | _ => none }
def FnExactConjPairWrongFalsely : Prop := fnExactConjPairRow.holds Try.pinned (OpenSpec.ofChange fnExactConjPairWrong)

/- THE SECOND FORM. 'bulk': how many values and letters a reading holds, each counted each time it is reached (what is shared counts as often as it is met; a slice's spare places count too). A statement '..UptoSaid' is the law's where the arguments, and the package variables that the reading takes, are together of bulk at most 1048576: NARROWER than '..Said'. Prove '..Said' where nothing that the law and all that it calls make is longer than what came in: it says more and counts as full. Else prove '..UptoSaid'. A law counts once. -/
mutual
def uptoBulk {H : Type} : DataW H → Nat
  | .lit (.string bytes) => bytes.length + 1
  | .lit _ => 1
  | .nil => 1
  | .ptr d => uptoBulk d + 1
  | .slice elems spare => uptoBulkAll elems + uptoBulkAll spare + 1
  | .agg parts => uptoBulkAll parts + 1
  | .iface _ d => uptoBulk d + 1
  | .map entries => uptoBulkEntries entries + 1
  | .held _ => 1
def uptoBulkAll {H : Type} : List (DataW H) → Nat
  | [] => 0
  | d :: r => uptoBulk d + uptoBulkAll r
def uptoBulkEntries {H : Type} : List (Lit × DataW H) → Nat
  | [] => 0
  | x :: r => uptoBulkEntry x + uptoBulkEntries r
def uptoBulkEntry {H : Type} : Lit × DataW H → Nat
  | (.string bytes, d) => bytes.length + uptoBulk d + 1
  | (_, d) => uptoBulk d + 1
 end
def uptoSmall : (H : Type) → List (DataW H) → Bool := fun _ ds => decide (uptoBulkAll ds ≤ 1048576)
def OpenSpec.upto (s : _root_.Go.ChangeSpec) : _root_.Go.OpenSpec := { _root_.Go.OpenSpec.ofChange s with cond := some uptoSmall }

/-- 'laws.FnExactConvert', WHERE WHAT IT READS IS OF BULK AT MOST 1048576: true; the input reads as it did. -/
def fnExactConvertUptoRow : OpenClaim := { program := "ytlibkdamfhlceaa", sum := "328d89777865039b3b845e7481a2b92ef62ee8b7a964e3626098907db065439d", func := "loop.example/g00051/laws.FnExactConvert", spec := "fnExactConvert", inPlace := ["math.Float64frombits"], apart := false, narrowed := true }
def FnExactConvertUptoSaid : Prop := fnExactConvertUptoRow.holds Try.pinned (OpenSpec.upto fnExactConvertSpec)

/-- 'laws.FnExactVapour', WHERE WHAT IT READS IS OF BULK AT MOST 1048576: true; the input reads as it did. -/
def fnExactVapourUptoRow : OpenClaim := { program := "ytlibkdamfhlceaa", sum := "328d89777865039b3b845e7481a2b92ef62ee8b7a964e3626098907db065439d", func := "loop.example/g00051/laws.FnExactVapour", spec := "fnExactVapour", inPlace := ["math.Float64frombits"], apart := false, narrowed := true }
def FnExactVapourUptoSaid : Prop := fnExactVapourUptoRow.holds Try.pinned (OpenSpec.upto fnExactVapourSpec)

/-- 'laws.FnExactHumidity', WHERE WHAT IT READS IS OF BULK AT MOST 1048576: true; the input reads as it did. -/
def fnExactHumidityUptoRow : OpenClaim := { program := "ytlibkdamfhlceaa", sum := "328d89777865039b3b845e7481a2b92ef62ee8b7a964e3626098907db065439d", func := "loop.example/g00051/laws.FnExactHumidity", spec := "fnExactHumidity", inPlace := ["math.Float64frombits"], apart := false, narrowed := true }
def FnExactHumidityUptoSaid : Prop := fnExactHumidityUptoRow.holds Try.pinned (OpenSpec.upto fnExactHumiditySpec)

/-- 'laws.FnExactDewOf', WHERE WHAT IT READS IS OF BULK AT MOST 1048576: true; the input reads as it did. -/
def fnExactDewOfUptoRow : OpenClaim := { program := "ytlibkdamfhlceaa", sum := "328d89777865039b3b845e7481a2b92ef62ee8b7a964e3626098907db065439d", func := "loop.example/g00051/laws.FnExactDewOf", spec := "fnExactDewOf", inPlace := ["math.Float64frombits", "math.Float64bits"], apart := false, narrowed := true }
def FnExactDewOfUptoSaid : Prop := fnExactDewOfUptoRow.holds Try.pinned (OpenSpec.upto fnExactDewOfSpec)

/-- 'laws.FnExactMulPair', WHERE WHAT IT READS IS OF BULK AT MOST 1048576: true; the input reads as it did. -/
def fnExactMulPairUptoRow : OpenClaim := { program := "ytlibkdamfhlceaa", sum := "328d89777865039b3b845e7481a2b92ef62ee8b7a964e3626098907db065439d", func := "loop.example/g00051/laws.FnExactMulPair", spec := "fnExactMulPair", apart := false, narrowed := true }
def FnExactMulPairUptoSaid : Prop := fnExactMulPairUptoRow.holds Try.pinned (OpenSpec.upto fnExactMulPairSpec)

/-- 'laws.FnExactConjPair', WHERE WHAT IT READS IS OF BULK AT MOST 1048576: true; the input reads as it did. -/
def fnExactConjPairUptoRow : OpenClaim := { program := "ytlibkdamfhlceaa", sum := "328d89777865039b3b845e7481a2b92ef62ee8b7a964e3626098907db065439d", func := "loop.example/g00051/laws.FnExactConjPair", spec := "fnExactConjPair", apart := false, narrowed := true }
def FnExactConjPairUptoSaid : Prop := fnExactConjPairUptoRow.holds Try.pinned (OpenSpec.upto fnExactConjPairSpec)

end Rows
end Go.Proofs.Ytlibkdamfhlceaa
