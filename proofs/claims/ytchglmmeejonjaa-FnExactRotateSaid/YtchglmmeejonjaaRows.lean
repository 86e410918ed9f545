/-
  No cell of these rows narrows 'for every input' (looked for: loops, veiled, ifaces, maps, wideKeys, modest, calm, conditions, laid).
  DERIVED. THE GIVEN ROWS OF THIS SEAT. 3 by the template 'for every input the law returns true; each argument reads behind the call as it read before'; 0 by the template 'total and deterministic' (their statements: YtchglmmeejonjaaTotals.lean).
  GIVEN WITH THE SEED: the statements are not yours to turn. If you find one false, say at which input.
  Laid BY PROGRAM, IN A SANDBOX (cutbox-rows.mjs): the forced cells as the released guide's own fill.sh prints them over the translation fa1d213229acf35b… (all of the seat's roots in one cut). By AI agents, Wed Nov 11 2026. No macro, syntax, notation, axiom, sorry.
-/
import Derived.Test.YtchglmmeejonjaaChecked
import GoSem.Claim
import GoSem.ClaimJoined
import GoSem.ClaimMapViews
import Derived.JoinedTies
import Derived.KernelRfl
namespace Go.Proofs.Ytchglmmeejonjaa
/- THE CELL 'sum', in the pinned program and in every row, IS THE sha256 OF THE DUMP (.gsa) THAT YtchglmmeejonjaaProg.lean LOADS. Nothing in Lean hashes anything: it is a label: what it is worth is what the hold of that sum in a sandbox is worth. -/
noncomputable def Try.pinned : Pinned := { name := "ytchglmmeejonjaa", sum := "fa1d213229acf35b7cd95a47b986aac2928d4757d0a404988ee93b2df799ff30", checked := Try.checked }
namespace Rows
def none {H : Type} : Left H := { results := [], args := [] }

/-- 'laws.FnExactHeight': WHATEVER THE INPUT: true; the input reads as it did. -/
def fnExactHeightSpec : ChangeSpec := { name := "fnExactHeight", fn := fun _ => fun
  | [d1, d2] => { results := [.lit (.bool true)], args := [d1, d2] }
  | _ => none }
def fnExactHeightRow : OpenClaim := { program := "ytchglmmeejonjaa", sum := "fa1d213229acf35b7cd95a47b986aac2928d4757d0a404988ee93b2df799ff30", func := "loop.example/g00051/laws.FnExactHeight", spec := "fnExactHeight", inPlace := ["math.Float64frombits"], apart := false }
def FnExactHeightSaid : Prop := fnExactHeightRow.holds Try.pinned (OpenSpec.ofChange fnExactHeightSpec)

/-- ITS FALSE NEIGHBOUR: 'it returns false'. Refute it at one input. -/
def fnExactHeightWrong : ChangeSpec := { name := "fnExactHeight", fn := fun _ => fun
  | [d1, d2] => { results := [.lit (.bool false)], args := [d1, d2] }
  | _ => none }
def FnExactHeightWrongFalsely : Prop := fnExactHeightRow.holds Try.pinned (OpenSpec.ofChange fnExactHeightWrong)

/-- 'laws.FnExactRotate': WHATEVER THE INPUT: true; the input reads as it did. -/
def fnExactRotateSpec : ChangeSpec := { name := "fnExactRotate", fn := fun _ => fun
  | [d1, d2] => { results := [.lit (.bool true)], args := [d1, d2] }
  | _ => none }
def fnExactRotateRow : OpenClaim := { program := "ytchglmmeejonjaa", sum := "fa1d213229acf35b7cd95a47b986aac2928d4757d0a404988ee93b2df799ff30", func := "loop.example/g00051/laws.FnExactRotate", spec := "fnExactRotate", apart := false }
def FnExactRotateSaid : Prop := fnExactRotateRow.holds Try.pinned (OpenSpec.ofChange fnExactRotateSpec)

/-- ITS FALSE NEIGHBOUR: 'it returns false'. Refute it at one input. -/
def fnExactRotateWrong : ChangeSpec := { name := "fnExactRotate", fn := fun _ => fun
  | [d1, d2] => { results := [.lit (.bool false)], args := [d1, d2] }
  | _ => none }
def FnExactRotateWrongFalsely : Prop := fnExactRotateRow.holds Try.pinned (OpenSpec.ofChange fnExactRotateWrong)

/-- 'laws.FnExactAnalyse': WHATEVER THE INPUT: true; the input reads as it did. -/
def fnExactAnalyseSpec : ChangeSpec := { name := "fnExactAnalyse", fn := fun _ => fun
  | [d1, d2] => { results := [.lit (.bool true)], args := [d1, d2] }
  | _ => none }
def fnExactAnalyseRow : OpenClaim := { program := "ytchglmmeejonjaa", sum := "fa1d213229acf35b7cd95a47b986aac2928d4757d0a404988ee93b2df799ff30", func := "loop.example/g00051/laws.FnExactAnalyse", spec := "fnExactAnalyse", inPlace := ["math.Float64frombits"], apart := false }
def FnExactAnalyseSaid : Prop := fnExactAnalyseRow.holds Try.pinned (OpenSpec.ofChange fnExactAnalyseSpec)

/-- ITS FALSE NEIGHBOUR: 'it returns false'. Refute it at one input. -/
def fnExactAnalyseWrong : ChangeSpec := { name := "fnExactAnalyse", fn := fun _ => fun
  | [d1, d2] => { results := [.lit (.bool false)], args := [d1, d2] }
  | _ => none }
def FnExactAnalyseWrongFalsely : Prop := fnExactAnalyseRow.holds Try.pinned (OpenSpec.ofChange fnExactAnalyseWrong)

/- THE SECOND FORM. 'bulk': how many values and letters a reading holds, each counted each time it is reached (what is shared counts as often as it is met; a slice's spare places count too). A statement '..UptoSaid' is the law's where the arguments, and the package variables that the reading takes, are together of bulk at most 1048576: NARROWER than '..Said'. Prove '..Said' where nothing that the law and all that it calls make is longer than what came in: it says more and counts as full. Else prove '..UptoSaid'. A law counts once. -/
mutual
def uptoBulk {H : Type} : DataW H → Nat
  | .lit (.string bytes) => bytes.length + 1
  | .lit _ => 1
  | .nil => 1
  | .ptr d => uptoBulk d + 1
  | .slice elems spare => uptoBulkAll elems + uptoBulkAll spare + 1
  | .agg parts => uptoBulkAll parts + 1
  | .iface _ d => uptoBulk d + 1
  | .map entries => uptoBulkEntries entries + 1
  | .held _ => 1
def uptoBulkAll {H : Type} : List (DataW H) → Nat
  | [] => 0
  | d :: r => uptoBulk d + uptoBulkAll r
def uptoBulkEntries {H : Type} : List (Lit × DataW H) → Nat
  | [] => 0
  | x :: r => uptoBulkEntry x + uptoBulkEntries r
def uptoBulkEntry {H : Type} : Lit × DataW H → Nat
  | (.string bytes, d) => bytes.length + uptoBulk d + 1
  | (_, d) => uptoBulk d + 1
 end
def uptoSmall : (H : Type) → List (DataW H) → Bool := fun _ ds => decide (uptoBulkAll ds ≤ 1048576)
def OpenSpec.upto (s : _root_.Go.ChangeSpec) : _root_.Go.OpenSpec := { _root_.Go.OpenSpec.ofChange s with cond := some uptoSmall }

/-- 'laws.FnExactHeight', WHERE WHAT IT READS IS OF BULK AT MOST 1048576: true; the input reads as it did. -/
def fnExactHeightUptoRow : OpenClaim := { program := "ytchglmmeejonjaa", sum := "fa1d213229acf35b7cd95a47b986aac2928d4757d0a404988ee93b2df799ff30", func := "loop.example/g00051/laws.FnExactHeight", spec := "fnExactHeight", inPlace := ["math.Float64frombits"], apart := false, narrowed := true }
def FnExactHeightUptoSaid : Prop := fnExactHeightUptoRow.holds Try.pinned (OpenSpec.upto fnExactHeightSpec)

/-- 'laws.FnExactRotate', WHERE WHAT IT READS IS OF BULK AT MOST 1048576: true; the input reads as it did. -/
def fnExactRotateUptoRow : OpenClaim := { program := "ytchglmmeejonjaa", sum := "fa1d213229acf35b7cd95a47b986aac2928d4757d0a404988ee93b2df799ff30", func := "loop.example/g00051/laws.FnExactRotate", spec := "fnExactRotate", apart := false, narrowed := true }
def FnExactRotateUptoSaid : Prop := fnExactRotateUptoRow.holds Try.pinned (OpenSpec.upto fnExactRotateSpec)

/-- 'laws.FnExactAnalyse', WHERE WHAT IT READS IS OF BULK AT MOST 1048576: true; the input reads as it did. -/
def fnExactAnalyseUptoRow : OpenClaim := { program := "ytchglmmeejonjaa", sum := "fa1d213229acf35b7cd95a47b986aac2928d4757d0a404988ee93b2df799ff30", func := "loop.example/g00051/laws.FnExactAnalyse", spec := "fnExactAnalyse", inPlace := ["math.Float64frombits"], apart := false, narrowed := true }
def FnExactAnalyseUptoSaid : Prop := fnExactAnalyseUptoRow.holds Try.pinned (OpenSpec.upto fnExactAnalyseSpec)

end Rows
end Go.Proofs.Ytchglmmeejonjaa
